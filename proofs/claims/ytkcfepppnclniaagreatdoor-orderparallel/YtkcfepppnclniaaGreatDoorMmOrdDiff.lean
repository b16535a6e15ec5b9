/-
  OrdDiff, OrdLeast, OrdLeastW.
-/
import Derived.Test.YtkcfepppnclniaaGreatDoorMmWitSpared
import Derived.Test.YtkcfepppnclniaaGreatDoorMmWitAwake
import Derived.Test.YtkcfepppnclniaaGreatDoorMmWitRef
import Derived.Test.YtkcfepppnclniaaGreatDoorMmWitMath
section
/-
  The walk of the document's Difference (layer 14); when two vertices have an edge.
-/
namespace Go.Proofs.YtkcfepppnclniaaGreatDoor
open Go.RowKit
theorem OM.need_le {N : Nat} {D : Nat → Nat → Int} (hN : N ≤ 24) (v k : Nat) : OM.need N D v k ≤ 600 := by
  have h0 := OM.needTo_le N D v k (XM.dets N D (v : Int) N).length
  rw [OM.needTo_all] at h0
  have h1 := XM.dets_len (N := N) (D := D) (v := (v : Int)) N
  have h2 : N * N ≤ 24 * 24 := Nat.mul_le_mul hN hN
  omega
theorem OM.diff_bd {N : Nat} {D : Nat → Nat → Int} (hN : N ≤ 24) (v k : Nat) : -48 ≤ OM.diff N D v k ∧ OM.diff N D v k ≤ 600 := by
  have h1 := OM.need_le (D := D) hN v k
  have e : ∀ back, OM.edges N D v back ≤ 24 := fun back => by
    have := XM.steps_len (N := N) (D := D) (v := (v : Int)) (back := back) N
    unfold OM.edges
    omega
  have e1 := e false
  have e2 := e true
  unfold OM.diff
  omega
set_option maxHeartbeats 400000 in
/-- The document's Difference. -/
theorem rdiff_any {w : World} {p N : Nat} {D : Nat → Nat → Int} (hg : XMem w p N D) (hm : XM.Mesh N D) (hN : N ≤ 24) (v : Nat) (hv : v < N) (k : Int) :
    Calls Tryz.prog 33 #[.pointer (some ⟨p, 0, none⟩), .int .i64 v, .int .i64 k] w fun e w' => e = .returned (.int .i64 (OM.diff N D v k.toNat)) ∧ Below w.heap.size w w' := by
  have h1 := rneed_any hg hm hN v hv k
  have HS : Hid (∀ W, Below w.heap.size w W → ∀ back, Calls Tryz.prog 35 #[.pointer (some ⟨p, 0, none⟩), .int .i64 v, .bool back] W fun e w' => ∃ ao cap, e = .returned (.slice ao (OM.edges N D v back) cap) ∧ Below w.heap.size w w') := fun W hW back => by
    refine (rsteps_any (hg.on hW) hm hN (v : Int) back).mono ?_
    rintro e w' ⟨r, rfl, h2, h3⟩
    obtain ⟨ao, cap, rfl, -⟩ := h2.at
    rw [firsts_len]
    exact ⟨ao, cap, rfl, hW.trans (h3.mono hW.size)⟩
  have hn := OM.need_le (D := D) hN v k.toNat
  have he : ∀ back, OM.edges N D v back ≤ 24 := fun back => by
    have := XM.steps_len (N := N) (D := D) (v := (v : Int)) (back := back) N
    unfold OM.edges
    omega
  have e1 := he false
  have e2 := he true
  have HD : Hid (OM.diff N D v k.toNat = (OM.need N D v k.toNat : Int) - (OM.edges N D v false : Nat) - (OM.edges N D v true : Nat)) := rfl
  clear hg hm he
  generalize OM.diff N D v k.toNat = R at *
  generalize OM.need N D v k.toNat = a at *
  have HF : Hid (∀ W, Below w.heap.size w W → Calls Tryz.prog 35 #[.pointer (some ⟨p, 0, none⟩), .int .i64 v, .bool false] W fun e w' => ∃ ao cap, e = .returned (.slice ao (OM.edges N D v false) cap) ∧ Below w.heap.size w w') := fun W hW => HS.out W hW false
  have HT : Hid (∀ W, Below w.heap.size w W → Calls Tryz.prog 35 #[.pointer (some ⟨p, 0, none⟩), .int .i64 v, .bool true] W fun e w' => ∃ ao cap, e = .returned (.slice ao (OM.edges N D v true) cap) ∧ Below w.heap.size w w') := fun W hW => HS.out W hW true
  generalize OM.edges N D v false = b at *
  generalize OM.edges N D v true = c at *
  clear HS
  go_enter Tryz.func33, Tryz.ntmps33
  go_wp2_with fail
  refine h1.mono ?_
  rintro e w1 ⟨rfl, hb1⟩
  have hs1 := HF.out w1 hb1
  clear h1 hb1
  go_wp2_with fail
  refine hs1.mono ?_
  rintro e w2 ⟨a1, c1, rfl, hb2⟩
  have hs2 := HT.out w2 hb2
  clear hs1 hb2
  go_wp2_with fail
  refine hs2.mono ?_
  rintro e w3 ⟨a2, c2, rfl, hb3⟩
  have HB : Hid (Below w.heap.size w w3) := hb3
  clear hs2 hb3 HF HT
  go_wp2_with fail
  go_ret
  exact ⟨ret_int (by rw [HD.out]), HB.out⟩
/-- A vertex is among those that steps lead to, or from. -/
theorem steps_mem {N : Nat} {D : Nat → Nat → Int} {v : Int} {back : Bool} (x : Nat) : ∀ k, (x : Int) ∈ firsts (XM.steps N D v back k) ↔ x < k ∧ XM.dirE N D v back (x : Nat) ≠ 4611686018427387906
  | 0 => by simp [XM.steps, firsts]
  | k + 1 => by
    have ih := steps_mem (N := N) (D := D) (v := v) (back := back) x k
    by_cases e : XM.dirE N D v back (k : Nat) = 4611686018427387906
    · rw [XM.steps_skip e, ih]
      constructor
      · rintro ⟨h1, h2⟩; exact ⟨by omega, h2⟩
      · rintro ⟨h1, h2⟩
        refine ⟨?_, h2⟩
        have : x ≠ k := fun h => h2 (h ▸ e)
        omega
    · rw [XM.steps_take e, firsts_snoc, List.mem_append, ih, List.mem_singleton]
      constructor
      · rintro (⟨h1, h2⟩ | h)
        · exact ⟨by omega, h2⟩
        · have : x = k := by exact_mod_cast h
          exact ⟨by omega, this ▸ e⟩
      · rintro ⟨h1, h2⟩
        by_cases hx : x = k
        · exact .inr (by rw [hx])
        · exact .inl ⟨by omega, h2⟩
theorem edge_mem {N : Nat} {D : Nat → Nat → Int} (hm : XM.Mesh N D) {b x : Nat} (hx : x < N) : OM.edge D b x = (decide ((x : Int) ∈ firsts (XM.steps N D (b : Int) false N)) || decide ((x : Int) ∈ firsts (XM.steps N D (b : Int) true N))) := by
  have h1 := (hm.ok.bd b x).2
  have h2 := (hm.ok.bd x b).2
  have e1 : XM.dirE N D (b : Int) false (x : Nat) = D b x := by show XM.atE N D b x = _; rw [XM.atE_nat hm]
  have e2 : XM.dirE N D (b : Int) true (x : Nat) = D x b := by show XM.atE N D x b = _; rw [XM.atE_nat hm]
  have g1 : decide ((x : Int) ∈ firsts (XM.steps N D (b : Int) false N)) = decide (D b x < 4611686018427387906) := by
    rw [decide_eq_decide, steps_mem, e1]; omega
  have g2 : decide ((x : Int) ∈ firsts (XM.steps N D (b : Int) true N)) = decide (D x b < 4611686018427387906) := by
    rw [decide_eq_decide, steps_mem, e2]; omega
  rw [g1, g2]
  rfl
end Go.Proofs.YtkcfepppnclniaaGreatDoor
end

section
/-
  What Rank of the program keeps in memory; a vertex's cost; of those that are left, the first one that costs least.
-/
namespace Go.Proofs.YtkcfepppnclniaaGreatDoor
open Go.RowKit Go.Shelf
attribute [local go_sem] Oper.semAt_some
/-- The mesh in p, the ranks in b1, how many are gone beside each in b3, and the closure's three variables. -/
structure GK (B cS p cM b1 b3 cL N : Nat) (k : Int) (s : OM.RS) (w : World) : Prop where
  x : XMem w p N s.D
  rk : RowIn w B 3 b1 N (fun v => .int .i64 (s.rank v))
  gn : RowIn w B 3 b3 N (fun v => .int .i64 (s.gone v))
  cs : Boxed w cS 3 (.int .i64 k)
  cm : Boxed w cM 45 (.pointer (some ⟨p, 0, none⟩))
  cl : Boxed w cL 28 (.slice (some ⟨b3, 0, none⟩) N N)
  o0 : B ≤ cS
  o1 : cS < p
  o2 : p < cM
  o3 : cM < b1
  o4 : b1 < b3
  o5 : b3 < cL
section
variable {w w' : World} {B cS p cM b1 b3 cL N : Nat} {k : Int} {s : OM.RS}
theorem GK.lt (h : GK B cS p cM b1 b3 cL N k s w) : cL < w.heap.size := h.cl.lt
theorem GK.on (h : GK B cS p cM b1 b3 cL N k s w) (hb : Below w.heap.size w w') : GK B cS p cM b1 b3 cL N k s w' :=
  ⟨h.x.on hb, h.rk.on hb, h.gn.on hb, (hb.block _ h.cs.lt).trans h.cs, (hb.block _ h.cm.lt).trans h.cm, (hb.block _ h.cl.lt).trans h.cl, h.o0, h.o1, h.o2, h.o3, h.o4, h.o5⟩
theorem GK.kept (h : GK B cS p cM b1 b3 cL N k s w) {K : Nat → Prop} (hk : Keeps K w w') (hK : ∀ b, K b → cL < b) : GK B cS p cM b1 b3 cL N k s w' := by
  obtain ⟨x, rk, gn, cs, cm, cl, o0, o1, o2, o3, o4, o5⟩ := h
  exact ⟨x.kept hk (fun e => by have := hK _ e; omega), rk.kept hk (fun e => by have := hK _ e; omega), gn.kept hk (fun e => by have := hK _ e; omega), (hk.block _ cs.lt (fun e => by have := hK _ e; omega)).trans cs, (hk.block _ cm.lt (fun e => by have := hK _ e; omega)).trans cm, (hk.block _ cl.lt (fun e => by have := hK _ e; omega)).trans cl, o0, o1, o2, o3, o4, o5⟩
theorem GK.con (h : GK B cS p cM b1 b3 cL N k s w) (hk : Keeps (fun b => b = p) w w') {D : Nat → Nat → Int} (hx : XMem w' p N D) : GK B cS p cM b1 b3 cL N k ⟨D, s.left, s.gone, s.rank⟩ w' := by
  obtain ⟨x, rk, gn, cs, cm, cl, o0, o1, o2, o3, o4, o5⟩ := h
  exact ⟨hx, rk.kept hk (by omega), gn.kept hk (by omega), (hk.block _ cs.lt (by omega)).trans cs, (hk.block _ cm.lt (by omega)).trans cm, (hk.block _ cl.lt (by omega)).trans cl, o0, o1, o2, o3, o4, o5⟩
theorem GK.rank (h : GK B cS p cM b1 b3 cL N k s w) (v : Nat) (r : Int) : GK B cS p cM b1 b3 cL N k ⟨s.D, s.left, s.gone, fun j => if j = v then r else s.rank j⟩ (w.setCell ⟨b1, v, none⟩ (.int .i64 r)) := by
  have hk := keeps_set w b1 v (.int .i64 r)
  obtain ⟨x, rk, gn, cs, cm, cl, o0, o1, o2, o3, o4, o5⟩ := h
  exact ⟨x.kept hk (by omega), (rk.set v _).congr (fun i _ => by dsimp only; split <;> rfl), gn.kept hk (by omega), (hk.block _ cs.lt (by omega)).trans cs, (hk.block _ cm.lt (by omega)).trans cm, (hk.block _ cl.lt (by omega)).trans cl, o0, o1, o2, o3, o4, o5⟩
theorem GK.more (h : GK B cS p cM b1 b3 cL N k s w) (v : Nat) (r : Int) : GK B cS p cM b1 b3 cL N k ⟨s.D, s.left, fun j => if j = v then r else s.gone j, s.rank⟩ (w.setCell ⟨b3, v, none⟩ (.int .i64 r)) := by
  have hk := keeps_set w b3 v (.int .i64 r)
  obtain ⟨x, rk, gn, cs, cm, cl, o0, o1, o2, o3, o4, o5⟩ := h
  exact ⟨x.kept hk (by omega), rk.kept hk (by omega), (gn.set v _).congr (fun i _ => by dsimp only; split <;> rfl), (hk.block _ cs.lt (by omega)).trans cs, (hk.block _ cm.lt (by omega)).trans cm, (hk.block _ cl.lt (by omega)).trans cl, o0, o1, o2, o3, o4, o5⟩
theorem GK.congr {t : OM.RS} (h : GK B cS p cM b1 b3 cL N k s w) (hD : s.D = t.D) (hg : ∀ v, v < N → s.gone v = t.gone v) (hr : ∀ v, v < N → s.rank v = t.rank v) : GK B cS p cM b1 b3 cL N k t w :=
  ⟨hD ▸ h.x, h.rk.congr (fun v hv => by rw [hr v hv]), h.gn.congr (fun v hv => by rw [hg v hv]), h.cs, h.cm, h.cl, h.o0, h.o1, h.o2, h.o3, h.o4, h.o5⟩
/-- The ranks, as a list. -/
theorem GK.own (h : GK B cS p cM b1 b3 cL N k s w) : Own .i64 3 w B (.slice (some ⟨b1, 0, none⟩) N N) ((List.range N).map s.rank) := by
  have h1 := h.rk
  unfold RowIn rowF at h1
  unfold Own
  rw [List.length_map, List.length_range, List.map_map]
  exact h1
end
set_option maxHeartbeats 1000000 in
/-- What the closure answers: a vertex's difference, and how many are gone beside it. -/
theorem cost_any (HD : DiffIs) {W : World} {B cS p cM b1 b3 cL N : Nat} {k : Int} {s : OM.RS} (h : GK B cS p cM b1 b3 cL N k s W) (hm : XM.Mesh N s.D) (hN : N ≤ 24) (hg : ∀ v, 0 ≤ s.gone v ∧ s.gone v ≤ 24) (v : Nat) (hv : v < N) :
    Calls Tryz.prog 23 #[.int .i64 v, .pointer (some ⟨cM, 0, none⟩), .pointer (some ⟨cS, 0, none⟩), .pointer (some ⟨cL, 0, none⟩)] W fun e w' => e = .returned (.int .i64 (OM.diff N s.D v k.toNat + s.gone v)) ∧ Below W.heap.size W w' := by
  have hc := HD h.x hm hN v hv k
  have c0 := h.cm.cell
  have c1 := h.cs.cell
  have hgv := hg v
  have hdb := OM.diff_bd (D := s.D) hN v k.toNat
  have HC : Hid (∀ A, Below W.heap.size W A → A.cell? ⟨cL, 0, none⟩ = some (.slice (some ⟨b3, 0, none⟩) N N) ∧ A.cell? ⟨b3, v, none⟩ = some (.int .i64 (s.gone v))) := fun A hA => ⟨(h.on hA).cl.cell, (h.on hA).gn.cell hv⟩
  clear h hg
  generalize OM.diff N s.D v k.toNat = df at *
  generalize s.gone v = gv at *
  obtain ⟨d1, d2⟩ := hdb
  obtain ⟨g1, g2⟩ := hgv
  have v1 : (v : Int) < (N : Int) := by omega
  have v0 : (0 : Int) ≤ (v : Int) := by omega
  go_enter Tryz.func23, Tryz.ntmps23
  go_wp2_with fail
  refine hc.mono ?_
  rintro e w1 ⟨rfl, hb⟩
  obtain ⟨c2, c3⟩ := HC.out w1 hb
  have HB : Hid (Below W.heap.size W w1) := hb
  clear hc hb c0 c1 HC
  go_wp2_with fail
  go_ret
  exact ⟨rfl, HB.out⟩
/-- While the least is looked for: the closure, the best one, its cost, whether there is one. -/
structure LS (w : World) (f : Value) (b c : Int) (fd : Bool) (W : World) : Prop where
  bf : Boxed W w.heap.size 60 f
  bb : Boxed W (w.heap.size + 1) 3 (.int .i64 b)
  bc : Boxed W (w.heap.size + 1 + 1) 3 (.int .i64 c)
  bd : Boxed W (w.heap.size + 1 + 1 + 1) 4 (.bool fd)
  bel : Below w.heap.size w W
theorem LS.kept {w W W' : World} {f : Value} {b c : Int} {fd : Bool} (h : LS w f b c fd W) {K : Nat → Prop} (hk : Keeps K W W') (hK : ∀ x, K x → w.heap.size + 4 ≤ x) : LS w f b c fd W' := by
  obtain ⟨h1, h2, h3, h4, h5⟩ := h
  exact ⟨(hk.block _ h1.lt (fun e => by have := hK _ e; omega)).trans h1, (hk.block _ h2.lt (fun e => by have := hK _ e; omega)).trans h2, (hk.block _ h3.lt (fun e => by have := hK _ e; omega)).trans h3, (hk.block _ h4.lt (fun e => by have := hK _ e; omega)).trans h4, h5.trans (hk.below (fun x e => by have := hK _ e; omega) h5.size)⟩
theorem LS.on {w W W' : World} {f : Value} {b c : Int} {fd : Bool} (h : LS w f b c fd W) (hb : Below W.heap.size W W') : LS w f b c fd W' := h.kept (Below.keeps hb (fun _ => False)) (fun _ e => e.elim)
theorem LS.new (w : World) (f : Value) : LS w f 0 0 false ((((w.alloc (.cells #[f] 60)).alloc (.cells #[.int .i64 0] 3)).alloc (.cells #[.int .i64 0] 3)).alloc (.cells #[.bool false] 4)) ∧ ((((w.alloc (.cells #[f] 60)).alloc (.cells #[.int .i64 0] 3)).alloc (.cells #[.int .i64 0] 3)).alloc (.cells #[.bool false] 4)).heap.size = w.heap.size + 4 := by
  have s1 : (w.alloc (.cells #[f] 60)).heap.size = w.heap.size + 1 := by simp
  have b1 := Boxed.new w 60 f
  have l1 : Below w.heap.size w (w.alloc (.cells #[f] 60)) := (Below.refl _ _).alloc (Nat.le_refl _) _
  generalize w.alloc (.cells #[f] 60) = w1 at *
  have s2 : (w1.alloc (.cells #[.int .i64 0] 3)).heap.size = w.heap.size + 1 + 1 := by simp [s1]
  have b2 := Boxed.new w1 3 (.int .i64 0)
  have b1 := b1.alloc (.cells #[.int .i64 0] 3)
  have l2 : Below w.heap.size w (w1.alloc (.cells #[.int .i64 0] 3)) := l1.alloc (by omega) _
  rw [s1] at b2
  generalize w1.alloc (.cells #[.int .i64 0] 3) = w2 at *
  have s3 : (w2.alloc (.cells #[.int .i64 0] 3)).heap.size = w.heap.size + 1 + 1 + 1 := by simp [s2]
  have b3 := Boxed.new w2 3 (.int .i64 0)
  have b1 := b1.alloc (.cells #[.int .i64 0] 3)
  have b2 := b2.alloc (.cells #[.int .i64 0] 3)
  have l3 : Below w.heap.size w (w2.alloc (.cells #[.int .i64 0] 3)) := l2.alloc (by omega) _
  rw [s2] at b3
  generalize w2.alloc (.cells #[.int .i64 0] 3) = w3 at *
  have b4 := Boxed.new w3 4 (.bool false)
  rw [s3] at b4
  have l4 : Below w.heap.size w (w3.alloc (.cells #[.bool false] 4)) := l3.alloc (by omega) _
  exact ⟨⟨b1.alloc _, b2.alloc _, b3.alloc _, b4, l4⟩, by simp [s3]⟩
/-- The one that is least by now. -/
def bestB (a : Int × Int) : Int := if a.1 < 0 then 0 else a.1
def someB (a : Int × Int) : Bool := decide (0 ≤ a.1)
end Go.Proofs.YtkcfepppnclniaaGreatDoor
end

section
/-
  The program's least, over a set and the closure.
-/
namespace Go.Proofs.YtkcfepppnclniaaGreatDoor
open Go.RowKit Go.Shelf
attribute [local go_sem] Oper.semAt_some
/-- A better one. -/
theorem LS.set {w W : World} {f : Value} {b c : Int} {fd : Bool} (h : LS w f b c fd W) (b' c' : Int) : LS w f b' c' true (((W.setCell ⟨w.heap.size + 1, 0, none⟩ (.int .i64 b')).setCell ⟨w.heap.size + 1 + 1, 0, none⟩ (.int .i64 c')).setCell ⟨w.heap.size + 1 + 1 + 1, 0, none⟩ (.bool true)) := by
  obtain ⟨h1, h2, h3, h4, h5⟩ := h
  exact ⟨((h1.other (by omega) _).other (by omega) _).other (by omega) _, ((h2.set _).other (by omega) _).other (by omega) _, ((h3.other (by omega) _).set _).other (by omega) _, ((h4.other (by omega) _).other (by omega) _).set _,
    ((h5.setCell (p := ⟨w.heap.size + 1, 0, none⟩) (by show w.heap.size ≤ w.heap.size + 1; omega) _).setCell (p := ⟨w.heap.size + 1 + 1, 0, none⟩) (by show w.heap.size ≤ w.heap.size + 1 + 1; omega) _).setCell (p := ⟨w.heap.size + 1 + 1 + 1, 0, none⟩) (by show w.heap.size ≤ w.heap.size + 1 + 1 + 1; omega) _⟩
theorem set3_blocks {W : World} {a b c : Nat} {x y z : Value} {B E : Nat} (ha : a < B) (hb : b < B) (hc : c < B) : ∀ k, B ≤ k → k < E → (((W.setCell ⟨a, 0, none⟩ x).setCell ⟨b, 0, none⟩ y).setCell ⟨c, 0, none⟩ z).heap[k]? = W.heap[k]? := fun k h1 _ =>
  (Below.heap_setCell _ _ _ _ (by show k ≠ c; omega)).trans ((Below.heap_setCell _ _ _ _ (by show k ≠ b; omega)).trans (Below.heap_setCell _ _ _ _ (by show k ≠ a; omega)))
set_option maxRecDepth 100000 in
set_option maxHeartbeats 2000000 in
theorem least_in {w : World} {Bn S cM cS cL N : Nat} (c : Nat → Int) (hS : S < 18446744073709551616) (hrd : AllReads Bn S w) (hlt : ∀ x ∈ BM.lst S, x < N) (hbd : ∀ x, -2000000 ≤ c x ∧ c x ≤ 2000000)
    (hcall : ∀ x, x < N → ∀ W, Below w.heap.size w W → Calls Tryz.prog 23 #[.int .i64 x, .pointer (some ⟨cM, 0, none⟩), .pointer (some ⟨cS, 0, none⟩), .pointer (some ⟨cL, 0, none⟩)] W fun e w' => e = .returned (.int .i64 (c x)) ∧ Below W.heap.size W w') :
    CallsIn Fence.wide 5 Tryz.prog 25 #[.func (.func 59) #[] #[.pointer (some ⟨Bn, 0, none⟩)], .func (.func 23) #[] #[.pointer (some ⟨cM, 0, none⟩), .pointer (some ⟨cS, 0, none⟩), .pointer (some ⟨cL, 0, none⟩)]] w fun e w' => e = .returned (.int .i64 (bestB (OM.lscan c (BM.lst S)))) ∧ Below w.heap.size w w' := by
  obtain ⟨hrd1, hrd2⟩ := hrd
  have hBl := cell_lt hrd1
  have h0 := hrd2.1
  have HRD : Hid (∀ W, Below w.heap.size w W → AllReads Bn S W) := fun W hW => ⟨(hW.cell (p := ⟨Bn, 0, none⟩) hBl).trans hrd1, hrd2.below h0 hW⟩
  obtain ⟨hls, hsz⟩ := LS.new w (.func (.func 23) #[] #[.pointer (some ⟨cM, 0, none⟩), .pointer (some ⟨cS, 0, none⟩), .pointer (some ⟨cL, 0, none⟩)])
  have hgo := all_goes14 4 (by decide) Bn S hS
  have HLT : Hid (∀ x ∈ BM.lst S, x < N) := hlt
  have HCL : Hid (∀ x, x < N → ∀ W, Below w.heap.size w W → Calls Tryz.prog 23 #[.int .i64 x, .pointer (some ⟨cM, 0, none⟩), .pointer (some ⟨cS, 0, none⟩), .pointer (some ⟨cL, 0, none⟩)] W fun e w' => e = .returned (.int .i64 (c x)) ∧ Below W.heap.size W w') := hcall
  have HBD : Hid (∀ x, -2000000 ≤ c x ∧ c x ≤ 2000000) := hbd
  have HSN : Hid (∀ l x, OM.lscan c (l ++ [x]) = OM.pick c (OM.lscan c l) x) := OM.lscan_snoc c
  have HNL : Hid (OM.lscan c [] = (-1, 0)) := OM.lscan_nil c
  clear hrd1 hrd2 hBl h0 hlt hcall hbd
  generalize BM.lst S = L at *
  generalize OM.lscan c = sc at *
  refine callsIn_of_wp_marks Tryz.func25 rfl trivial ?_ rfl
  simp only [Tryz.ntmps25, List.size_toArray, List.length_cons, List.length_nil, Nat.reduceAdd, Nat.reduceSub, Array.replicate_succ, Array.replicate_zero, List.push_toArray, List.append_toArray, List.nil_append, List.cons_append]
  refine wpIn_wide.2 ?_
  go_upto_region 3 with fail
  generalize (((w.alloc (.cells #[.func (.func 23) #[] #[.pointer (some ⟨cM, 0, none⟩), .pointer (some ⟨cS, 0, none⟩), .pointer (some ⟨cL, 0, none⟩)]] 60)).alloc (.cells #[.int .i64 0] 3)).alloc (.cells #[.int .i64 0] 3)).alloc (.cells #[.bool false] 4) = W0 at *
  go_wp2_with fail
  refine (wpIn_wide (n := 5)).1 (range_goesQ (by decide) (gf := 59) (lb := #[.pointer (some ⟨Bn, 0, none⟩)]) rfl (enters_of Tryz.func59 (by kernel_rfl) rfl) hgo (fun _ => rfl)
    (fun pre W => LS w (.func (.func 23) #[] #[.pointer (some ⟨cM, 0, none⟩), .pointer (some ⟨cS, 0, none⟩), .pointer (some ⟨cL, 0, none⟩)]) (bestB (sc pre)) (sc pre).2 (someB (sc pre)) W)
    (fun _ _ _ => False)
    (fun pre A A' h hk => h.kept hk (fun b hb => by omega))
    (fun _ _ _ _ h _ => h)
    (fun pre A h => HRD.out A h.bel)
    (by rw [HNL.out]; exact hls)
    (fun x A => { tmps := #[.func (.func 59) #[] #[.pointer (some ⟨Bn, 0, none⟩)], .func (.func 23) #[] #[.pointer (some ⟨cM, 0, none⟩), .pointer (some ⟨cS, 0, none⟩), .pointer (some ⟨cL, 0, none⟩)], undef, .pointer (some ⟨w.heap.size, 0, none⟩), .int .i64 0, .pointer (some ⟨w.heap.size + 1, 0, none⟩), .pointer (some ⟨w.heap.size + 1 + 1, 0, none⟩), .pointer (some ⟨w.heap.size + 1 + 1 + 1, 0, none⟩), .int .i64 (x : Nat), undef, .func (.func 59) #[] #[.pointer (some ⟨Bn, 0, none⟩)], .int .i64 (x : Nat), undef, undef, undef, undef, undef, undef, undef, undef, undef, undef, undef, undef, undef], defers := [] })
    (fun x A => A) (fun x W => Below.refl _ _) ?assign ?body ?done ?stop)
  case assign =>
    intro l x W K hK
    simp only [numV]
    gi_wp2
    exact hK
  case body =>
    rintro l pre x A W rfl hr hL hpx hA hkA hsA
    have hWl : W0.heap.size + 1 < W.heap.size := by obtain ⟨r, hr⟩ := hr; exact (Array.getElem?_eq_some_iff.1 hr).1
    have hx : x < N := HLT.out x (hpx.subset (by simp))
    have cf := hL.bf.cell
    have hcl := HCL.out x hx W hL.bel
    have hbx := HBD.out x
    have hsn := HSN.out pre x
    unfold OM.pick at hsn
    have HL0 : Hid (LS w (.func (.func 23) #[] #[.pointer (some ⟨cM, 0, none⟩), .pointer (some ⟨cS, 0, none⟩), .pointer (some ⟨cL, 0, none⟩)]) (bestB (sc pre)) (sc pre).2 (someB (sc pre)) W) := hL
    clear hpx hr hkA hsA hgo hls hL
    generalize hs1 : sc (pre ++ [x]) = s1 at *
    have HS1 : Hid (sc (pre ++ [x]) = s1) := hs1
    clear hs1
    generalize hsp : sc pre = s0 at *
    obtain ⟨b0, l0⟩ := s0
    generalize c x = cx at *
    gi_wp2_with fail
    refine ⟨trivial, (CallsIn.inRound (W0.heap.size + 1) (callsIn_wide.2 hcl)).mono ?_⟩
    rintro e w4 ⟨rfl, hb4⟩
    have hL4 := HL0.out.on hb4
    have HL4 : Hid (LS w (.func (.func 23) #[] #[.pointer (some ⟨cM, 0, none⟩), .pointer (some ⟨cS, 0, none⟩), .pointer (some ⟨cL, 0, none⟩)]) (bestB (b0, l0)) l0 (someB (b0, l0)) w4) := hL4
    have HK4 : Hid (∀ b, W0.heap.size ≤ b → b < W0.heap.size + 2 → w4.heap[b]? = W.heap[b]?) := fun b h1 h2 => hb4.block b (by omega)
    have cb := hL4.bb.cell
    have fb := hL4.bb.frozen
    have cc := hL4.bc.cell
    have fc := hL4.bc.frozen
    have cd := hL4.bd.cell
    have fd := hL4.bd.frozen
    have HST : Hid (∀ b, W0.heap.size ≤ b → b < W0.heap.size + 2 → (((w4.setCell ⟨w.heap.size + 1, 0, none⟩ (.int .i64 (x : Nat))).setCell ⟨w.heap.size + 1 + 1, 0, none⟩ (.int .i64 cx)).setCell ⟨w.heap.size + 1 + 1 + 1, 0, none⟩ (.bool true)).heap[b]? = W.heap[b]?) := fun b h1 h2 => (set3_blocks (by omega) (by omega) (by omega) b h1 h2).trans (HK4.out b h1 h2)
    have HLN : Hid (s1 = ((x : Int), cx) → LS w (.func (.func 23) #[] #[.pointer (some ⟨cM, 0, none⟩), .pointer (some ⟨cS, 0, none⟩), .pointer (some ⟨cL, 0, none⟩)]) (bestB s1) s1.2 (someB s1) (((w4.setCell ⟨w.heap.size + 1, 0, none⟩ (.int .i64 (x : Nat))).setCell ⟨w.heap.size + 1 + 1, 0, none⟩ (.int .i64 cx)).setCell ⟨w.heap.size + 1 + 1 + 1, 0, none⟩ (.bool true))) := fun e => by
      have h := hL4.set (x : Int) cx
      rw [e]
      have e1 : bestB ((x : Int), cx) = (x : Int) := if_neg (by show ¬ (x : Int) < 0; omega)
      have e2 : someB ((x : Int), cx) = true := decide_eq_true (by show (0 : Int) ≤ (x : Int); omega)
      rw [e1, e2]
      exact h
    clear hL4 hcl hb4
    by_cases hb0 : b0 < 0
    · have HE : Hid (s1 = ((x : Int), cx)) := by
        show _ = _
        rw [hsn, if_pos (.inl hb0)]
      have e1 : someB (b0, l0) = false := decide_eq_false (by show ¬ (0 : Int) ≤ b0; omega)
      rw [e1] at cd
      clear hsn HL4 e1
      gi_wp2_with fail
      exact ⟨HST.out, by dsimp only; rw [HS1.out]; exact HLN.out HE.out⟩
    · have e1 : someB (b0, l0) = true := decide_eq_true (by show (0 : Int) ≤ b0; omega)
      rw [e1] at cd
      by_cases hl : cx < l0
      · have HE : Hid (s1 = ((x : Int), cx)) := by
          show _ = _
          rw [hsn, if_pos (.inr hl)]
        clear hsn HL4 e1
        gi_wp2_with fail
        exact ⟨HST.out, by dsimp only; rw [HS1.out]; exact HLN.out HE.out⟩
      · have HE : Hid (s1 = (b0, l0)) := by
          show _ = _
          rw [hsn, if_neg (by show ¬ (b0 < 0 ∨ cx < l0); omega)]
        clear hsn e1
        gi_wp2_with fail
        exact ⟨HK4.out, by dsimp only; rw [HS1.out, HE.out]; exact HL4.out⟩
  case done =>
    rintro W hL hK
    have cb := hL.bb.cell
    have HB : Hid (Below w.heap.size w W) := hL.bel
    clear hL hgo hls
    go_wp2_with fail
    refine ⟨by simp, .inl ⟨_, _, rfl, run_takeDeferred hK, ?_⟩⟩
    exact ⟨_, results_tmp rfl _ _ _, rfl, HB.out.trans (belowK_b (w := w) (Nat.le_refl _) W _ _ _ (by omega) hK rfl rfl)⟩
  case stop =>
    rintro c pre W _ h _
    exact h.elim
end Go.Proofs.YtkcfepppnclniaaGreatDoor
end
