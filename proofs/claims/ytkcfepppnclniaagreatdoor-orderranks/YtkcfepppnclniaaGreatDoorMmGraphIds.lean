/-
  GraphIds, MeshRow, MeshRef.
-/
import Derived.Test.YtkcfepppnclniaaGreatDoorMmOrdMath
import Derived.Test.YtkcfepppnclniaaGreatDoorMmMeshMem
import Derived.Test.YtkcfepppnclniaaGreatDoorMmBitsMath
import Derived.Maps.AppendAt
import Derived.Deep.DeepCutAuto
import Derived.Laws.Tables
import Derived.Deep.QuietTactic
import Derived.BigQuiet
section
/-
  The walk of graph's Ids: a range over all, in whose rounds a list is appended to.
-/
namespace Go.Proofs.YtkcfepppnclniaaGreatDoor
open Go.RowKit Go.Shelf
attribute [local go_sem] Oper.semAt_some

theorem info3 : (Tryz.prog.info? 3).map (fun i => (i.zero, i.size, i.bytes)) = some (some (.int .i64 0), 1, 8) := by kernel_rfl
theorem info_parts {P : Program} {t : TypeId} {z : Value} {s b : Nat} (h : (P.info? t).map (fun i => (i.zero, i.size, i.bytes)) = some (some z, s, b)) : ∃ i, P.info? t = some i ∧ i.zero = some z ∧ i.size = s ∧ i.bytes = b := by
  obtain ⟨i, hi, hzz⟩ := Option.map_eq_some_iff.1 h
  simp only [Prod.mk.injEq] at hzz
  exact ⟨i, hi, hzz.1, hzz.2.1, hzz.2.2⟩
theorem keeps_put (W : World) (k : Nat) (o : Obj) : Keeps (fun b => b = k) W (W.putObj k o) := ⟨rfl, rfl, rfl, by simp, fun _ _ hn => World.putObj_heap_other (by omega)⟩
set_option maxRecDepth 100000 in
set_option maxHeartbeats 2000000 in
theorem all_goesX (n : Nat) (_hn : 1 ≤ n) (Bn p N most : Nat) (m : GM.M) (hm : GM.Good most m) :
    GoesX n Tryz.prog 94 #[.pointer (some ⟨Bn, 0, none⟩)] numArc (fun ys => ys = GM.arcs m 64) 64
      (fun A => A.cell? ⟨Bn, 0, none⟩ = some (.pointer (some ⟨p, 0, none⟩)) ∧ GMem A p N most m) := by
  intro l J W hR hJ hY h0
  have HJ : Hid (∀ s A A', J s A → Below A.heap.size A A' → J s A') := hJ
  have HR : Hid (∀ s A, J s A → A.cell? ⟨Bn, 0, none⟩ = some (.pointer (some ⟨p, 0, none⟩)) ∧ GMem A p N most m) := hR
  have HY : Hid (∀ pre x W1, J pre W1 → pre.length < 64 → YieldAt Fence.wide (n - 1) Tryz.prog l (numArc x) W1 fun e W' => e = .returned (.bool true) ∧ J (pre ++ [x]) W') := hY
  have H0 : Hid (J [] W) := h0
  clear hJ hR hY h0
  refine callsIn_of_wp Tryz.func94 rfl trivial ?_ rfl
  simp only [Tryz.ntmps94, List.size_toArray, List.length_cons, List.length_nil, Nat.reduceAdd, Nat.reduceSub, Array.replicate_succ, Array.replicate_zero, List.push_toArray, List.append_toArray, List.nil_append, List.cons_append]
  gi_wp2_with fail
  gi_loopw [6] (fun iv wr => ∃ k : Nat, k ≤ 64 ∧ iv = .int .i64 k ∧ J (GM.arcs m k) wr) (fun iv _ => 64 - (intOf iv).toNat)
  case atStart => exact ⟨0, Nat.zero_le _, rfl, H0.out⟩
  case round =>
    obtain ⟨k, hk, rfl, hJs⟩ := hrel
    by_cases hlt : k < 64
    · obtain ⟨hcb, hkm⟩ := HR.out _ _ hJs
      have har := arc_in hkm hm k hlt
      have HJS : Hid (J (GM.arcs m k) wr) := hJs
      have HLEN : Hid ((GM.arcs m k).length < 64) := by
        have := GM.ids_le m k
        show _ < _
        rw [GM.arcs_len]
        omega
      have k64 : (k : Int) < 64 := by omega
      clear hkm hJs
      cases hsk : GM.is m k with
      | false =>
        rw [hsk] at har
        have HA : Hid (GM.arcs m (k + 1) = GM.arcs m k) := GM.arcs_skip hsk
        unfold arcV at har
        generalize GM.arc m k = a at *
        obtain ⟨t, h, x, c⟩ := a
        dsimp only at har
        clear hsk
        gi_wp2_with fail
        refine ⟨trivial, (callsIn_wide.2 har).mono ?_⟩
        rintro e w2 ⟨rfl, hb2⟩
        have HJ2 : Hid (J (GM.arcs m (k + 1)) (w2.alloc (.cells #[.int .i64 t, .int .i64 h, .int .i64 x, .bool c] 35))) := by
          show J _ _
          rw [HA.out]
          exact HJ.out _ _ _ HJS.out (hb2.alloc hb2.size _)
        clear har hb2 hcb
        gi_wp2_with fail
        refine ⟨(fun _ h => by cases h), ?_⟩
        gi_wp2_with fail
        go_roundw
        case rel => exact ⟨k + 1, by omega, by go_num, HJ2.out⟩
        case measure => simp [intOf]; omega
      | true =>
        rw [hsk] at har
        have HA : Hid (GM.arcs m (k + 1) = GM.arcs m k ++ [(k, GM.arc m k)]) := GM.arcs_take hsk
        unfold arcV at har
        generalize GM.arc m k = a at *
        obtain ⟨t, h, x, c⟩ := a
        dsimp only at har
        have HYX : Hid (∀ W1, J (GM.arcs m k) W1 → YieldAt Fence.wide (n - 1) Tryz.prog l #[.int .i64 (k : Nat), .agg #[.int .i64 t, .int .i64 h, .int .i64 x, .bool c]] W1 fun e W' => e = .returned (.bool true) ∧ J (GM.arcs m (k + 1)) W') := fun W1 h1 => by
          rw [HA.out]
          exact HY.out _ (k, ⟨t, h, x, c⟩) W1 h1 HLEN.out
        clear hsk
        gi_wp2_with fail
        refine ⟨trivial, (callsIn_wide.2 har).mono ?_⟩
        rintro e w2 ⟨rfl, hb2⟩
        have hJ2 : J (GM.arcs m k) (w2.alloc (.cells #[.int .i64 t, .int .i64 h, .int .i64 x, .bool c] 35)) := HJ.out _ _ _ HJS.out (hb2.alloc hb2.size _)
        obtain ⟨fn, tmps, assign, body, hy, hRd⟩ := HYX.out _ hJ2
        clear har hb2 hcb hJ2
        gi_wp2_with fail
        refine hRd.mono ?_
        rintro e W4 ⟨rfl, hJ4⟩
        have HJ4 : Hid (J (GM.arcs m (k + 1)) W4) := hJ4
        clear hJ4 hy hRd
        gi_wp2_with fail
        go_roundw
        case rel => exact ⟨k + 1, by omega, by go_num, HJ4.out⟩
        case measure => simp [intOf]; omega
    · obtain rfl : k = 64 := by omega
      have HJS : Hid (J (GM.arcs m 64) wr) := hJs
      clear hJs hlt hk
      gi_wp2_with fail
      go_end0
      exact ⟨⟨_, rfl⟩, _, rfl, HJS.out⟩

/-- A list of numbers whose slice lies in block ga, behind base; p's pointer in the next block. -/
structure Gath (w : World) (p : Nat) (W : World) (va : Value) (zs : List Int) : Prop where
  box : Boxed W w.heap.size 28 va
  own : Own .i64 3 W (w.heap.size + 4) va zs
  ptr : Boxed W (w.heap.size + 1) 24 (.pointer (some ⟨p, 0, none⟩))
  bel : Below w.heap.size w W
section
variable {w W W' : World} {p : Nat} {va : Value} {zs : List Int}
theorem Gath.on (h : Gath w p W va zs) (hb : Below W.heap.size W W') : Gath w p W' va zs :=
  ⟨(hb.block _ h.box.lt).trans h.box, h.own.below hb, (hb.block _ h.ptr.lt).trans h.ptr, h.bel.trans (hb.mono h.bel.size)⟩
theorem Gath.kept {F : Nat → Prop} (h : Gath w p W va zs) (hk : Keeps F W W') (hF : ∀ b, F b → b = w.heap.size + 3) : Gath w p W' va zs where
  box := (hk.block _ h.box.lt (fun hf => by have := hF _ hf; omega)).trans h.box
  own := hk.row h.own (fun g hg hf => by
    have := hF _ hf
    have := h.own.block g hg
    omega)
  ptr := (hk.block _ h.ptr.lt (fun hf => by have := hF _ hf; omega)).trans h.ptr
  bel := h.bel.trans (hk.below (fun b hb => by have := hF _ hb; omega) h.bel.size)
theorem Gath.app (h : Gath w p W va zs) {o : Go.Obj} {W2 : World} (hg : (W.alloc o).grownBy W2 va.ownBlock) {v' : Value} {zs' : List Int} (ho : Own .i64 3 W2 (w.heap.size + 4) v' zs') :
    Boxed W2 w.heap.size 28 va ∧ Gath w p (W2.setCell ⟨w.heap.size, 0, none⟩ v') v' zs' ∧ ∀ b, b < w.heap.size + 4 → b ≠ w.heap.size → b < W.heap.size → (W2.setCell ⟨w.heap.size, 0, none⟩ v').heap[b]? = W.heap[b]? := by
  have hb1 : Below W.heap.size W (W.alloc o) := (Below.refl _ _).alloc (Nat.le_refl _) _
  have h1 := h.on hb1
  have hk : Keeps (fun b => w.heap.size + 4 ≤ b) (W.alloc o) W2 := (Keeps.refl _ _).grown hg (fun k hk => .inl (h.own.block k hk))
  have hb2 : Boxed W2 w.heap.size 28 va := (hk.block _ h1.box.lt (by omega)).trans h1.box
  have hp2 : Boxed W2 (w.heap.size + 1) 24 (.pointer (some ⟨p, 0, none⟩)) := (hk.block _ h1.ptr.lt (by omega)).trans h1.ptr
  have hk2 : Keeps (fun b => b = w.heap.size) W2 (W2.setCell ⟨w.heap.size, 0, none⟩ v') := keeps_set _ _ _ _
  refine ⟨hb2, ⟨hb2.set v', hk2.row ho (fun g hg e => by have := ho.block g hg; omega), hp2.other (by omega) _, (h1.bel.trans (hk.below (fun b hb => by omega) h1.bel.size)).setCell (p := ⟨w.heap.size, 0, none⟩) (Nat.le_refl _) _⟩, fun b hb hne hlt => ?_⟩
  have e1 : (W.alloc o).heap[b]? = W.heap[b]? := hb1.block b hlt
  have e2 : W2.heap[b]? = (W.alloc o).heap[b]? := hk.block b (by simp; omega) (by omega)
  rw [hk2.block b (Nat.lt_of_lt_of_le (by simp; omega) hk.size) hne, e2, e1]
end

def nums (l : List (Nat × Arc)) : List Int := l.map (fun x => ((x.1 : Nat) : Int))
theorem nums_len (l : List (Nat × Arc)) : (nums l).length = l.length := by simp [nums]
theorem nums_snoc (l : List (Nat × Arc)) (x : Nat × Arc) : nums (l ++ [x]) = nums l ++ [((x.1 : Nat) : Int)] := by simp [nums]
theorem nums_all (m : GM.M) (k : Nat) : nums (GM.arcs m k) = GM.iids m k := by simp [nums, GM.arcs, GM.iids]

end Go.Proofs.YtkcfepppnclniaaGreatDoor
end

section
/-
  A list of detours in memory: each is a link, of five cells.
-/
namespace Go.Proofs.YtkcfepppnclniaaGreatDoor
open Go.RowKit

def detCells (mid : Int) (d : XM.Det) : List Value := [.int .i64 (d.u : Nat), .int .i64 (d.w : Nat), .int .i64 d.x, .int .i64 (-1), .int .i64 mid]
def linkCells (mid : Int) (ds : List XM.Det) : List Value := ds.flatMap (detCells mid)
/-- A slice of the call's own under which the detours lie. -/
def OwnL (w : World) (B : Nat) (v : Value) (mid : Int) (ds : List XM.Det) : Prop := w.ownsRow B 94 5 v ds.length (linkCells mid ds)
/-- A detour's five cells. -/
def DetIn (w : World) (b o : Nat) (mid : Int) (d : XM.Det) : Prop := w.cell? ⟨b, o, none⟩ = some (.int .i64 (d.u : Nat)) ∧ w.cell? ⟨b, o + 1, none⟩ = some (.int .i64 (d.w : Nat)) ∧ w.cell? ⟨b, o + 2, none⟩ = some (.int .i64 d.x) ∧ w.cell? ⟨b, o + 3, none⟩ = some (.int .i64 (-1)) ∧ w.cell? ⟨b, o + 4, none⟩ = some (.int .i64 mid)
def noDet : XM.Det := ⟨0, 0, 0⟩
theorem linkCells_len (mid : Int) : ∀ ds : List XM.Det, (linkCells mid ds).length = ds.length * 5
  | [] => rfl
  | d :: ds => by
    have := linkCells_len mid ds
    unfold linkCells at *
    rw [List.flatMap_cons, List.length_append, this, List.length_cons]
    simp [detCells]
    omega
theorem linkCells_snoc (mid : Int) (ds : List XM.Det) (d : XM.Det) : linkCells mid (ds ++ [d]) = linkCells mid ds ++ detCells mid d := by
  unfold linkCells
  rw [List.flatMap_append]
  simp
theorem linkCells_get (mid : Int) : ∀ (ds : List XM.Det) (i : Nat), i < ds.length → ∀ r, r < 5 → (linkCells mid ds)[i * 5 + r]? = (detCells mid (ds[i]?.getD noDet))[r]?
  | [], i, h, _, _ => by simp at h
  | d :: ds, i, h, r, hr => by
    have e : linkCells mid (d :: ds) = detCells mid d ++ linkCells mid ds := by simp [linkCells]
    have hl : (detCells mid d).length = 5 := rfl
    rw [e]
    cases i with
    | zero =>
      rw [List.getElem?_append_left (by omega)]
      simp
    | succ i =>
      rw [List.getElem?_append_right (by omega), hl, show (i + 1) * 5 + r - 5 = i * 5 + r by omega]
      rw [linkCells_get mid ds i (by simpa using h) r hr]
      simp
theorem detCells_one (mid : Int) (d : XM.Det) : ∀ v ∈ detCells mid d, v.oneCell' = true := by
  intro v hv
  simp only [detCells, List.mem_cons, List.not_mem_nil, or_false] at hv
  rcases hv with rfl | rfl | rfl | rfl | rfl <;> rfl
section
variable {w w' : World} {B : Nat} {v : Value} {mid : Int} {ds : List XM.Det}
theorem OwnL.nil (w : World) (B : Nat) (mid : Int) : OwnL w B (.slice none 0 0) mid [] := World.ownsRow_nil _ _ _ _
theorem OwnL.block (h : OwnL w B v mid ds) : ∀ g, v.ownBlock = some g → B ≤ g ∧ g < w.heap.size := fun g hg => World.ownsRow.lt h g hg
theorem OwnL.on (h : OwnL w B v mid ds) (hb : Below w.heap.size w w') : OwnL w' B v mid ds := below_row h hb
theorem OwnL.kept {F : Nat → Prop} (h : OwnL w B v mid ds) (hk : Keeps F w w') (hF : ∀ g, v.ownBlock = some g → ¬ F g) : OwnL w' B v mid ds := hk.row h hF
theorem OwnL.alloc (h : OwnL w B v mid ds) (o : Obj) : OwnL (w.alloc o) B v mid ds := World.ownsRow.alloc h o
theorem OwnL.base_le {B' : Nat} (h : OwnL w B v mid ds) (hb : B' ≤ B) : OwnL w B' v mid ds := row_base h hb
/-- What the slice's value is, and its cells. -/
theorem OwnL.at (h : OwnL w B v mid ds) : ∃ ao cap, v = .slice ao ds.length cap ∧ (ds.length ≤ cap ∧ cap ≤ maxLen) ∧ (0 < ds.length → ∃ b, ao = some ⟨b, 0, none⟩ ∧ b < w.heap.size ∧ ∀ i, i < ds.length → DetIn w b (i * 5) mid (ds[i]?.getD noDet)) := by
  have h0 := h
  rcases h.2 with ⟨rfl, hn⟩ | ⟨g, cap, cur, rfl, hb, hg, hc, hm, hcs, ht⟩
  · exact ⟨none, 0, by rw [hn], ⟨by omega, by simp [maxLen]⟩, fun hp => by omega⟩
  · refine ⟨some ⟨g, 0, none⟩, cap, rfl, ⟨hc, hm⟩, fun _ => ⟨g, rfl, (Array.getElem?_eq_some_iff.1 hg).1, fun i hi => ?_⟩⟩
    have hcell : ∀ j u, (linkCells mid ds)[j]? = some u → w.cell? ((⟨g, 0, none⟩ : Addr).add j) = some u := World.ownsRow.cells h0 (g := g) rfl
    have each : ∀ r, r < 5 → ∀ u, (detCells mid (ds[i]?.getD noDet))[r]? = some u → w.cell? ⟨g, i * 5 + r, none⟩ = some u := fun r hr u hu => by
      have := hcell (i * 5 + r) u ((linkCells_get mid ds i hi r hr).trans hu)
      rw [Addr.add_lit, Nat.zero_add] at this
      exact this
    exact ⟨each 0 (by omega) _ rfl, each 1 (by omega) _ rfl, each 2 (by omega) _ rfl, each 3 (by omega) _ rfl, each 4 (by omega) _ rfl⟩
end
theorem DetIn.on {w w' : World} {b o : Nat} {mid : Int} {d : XM.Det} (h : DetIn w b o mid d) (hb : Below w.heap.size w w') : DetIn w' b o mid d :=
  ⟨(hb.cell (p := ⟨b, _, none⟩) (cell_lt h.1)).trans h.1, (hb.cell (p := ⟨b, _, none⟩) (cell_lt h.2.1)).trans h.2.1, (hb.cell (p := ⟨b, _, none⟩) (cell_lt h.2.2.1)).trans h.2.2.1, (hb.cell (p := ⟨b, _, none⟩) (cell_lt h.2.2.2.1)).trans h.2.2.2.1, (hb.cell (p := ⟨b, _, none⟩) (cell_lt h.2.2.2.2)).trans h.2.2.2.2⟩
theorem cell_new5 (w : World) (a b c d e : Value) (t : TypeId) : ∀ j u, [a, b, c, d, e][j]? = some u → (w.alloc (.cells #[a, b, c, d, e] t)).cell? ((⟨w.heap.size, 0, none⟩ : Addr).add j) = some u := by
  intro j u h
  rw [Addr.add_lit, Nat.zero_add, World.cell?_alloc_new, List.getElem?_toArray]
  exact h
def zLink : Value := .agg #[.int .i64 0, .int .i64 0, .int .i64 0, .int .i64 0, .int .i64 0]
theorem infoLink : (Tryz.prog.info? 94).map (fun i => (i.zero, i.size, i.bytes)) = some (some zLink, 5, 40) := by kernel_rfl
end Go.Proofs.YtkcfepppnclniaaGreatDoor
end

section
/-
  The walks of the document's Steps, Detours and Contract, and of Links.
-/
namespace Go.Proofs.YtkcfepppnclniaaGreatDoor
open Go.RowKit

def firsts (l : List (Nat × Int)) : List Int := l.map (fun x => ((x.1 : Nat) : Int))
theorem firsts_len (l : List (Nat × Int)) : (firsts l).length = l.length := by simp [firsts]
theorem firsts_snoc (l : List (Nat × Int)) (x : Nat × Int) : firsts (l ++ [x]) = firsts l ++ [((x.1 : Nat) : Int)] := by simp [firsts]
set_option maxHeartbeats 2000000 in
theorem rsteps_any {w : World} {p N : Nat} {D : Nat → Nat → Int} (hg : XMem w p N D) (hm : XM.Mesh N D) (hN : N ≤ 24) (v : Int) (back : Bool) :
    Calls Tryz.prog 35 #[.pointer (some ⟨p, 0, none⟩), .int .i64 v, .bool back] w fun e w' => ∃ r, e = .returned r ∧ Own .i64 3 w' w.heap.size r (firsts (XM.steps N D v back N)) ∧ Below w.heap.size w w' := by
  obtain ⟨i0, hi, hz0, hz1, hz2⟩ := info_parts info3
  have HX : Hid (∀ W, Below w.heap.size w W → XMem W p N D) := fun W hW => hg.on hW
  have HAT : Hid (∀ W, Below w.heap.size w W → ∀ a b : Int, Calls Tryz.prog 71 #[.pointer (some ⟨p, 0, none⟩), .int .i64 a, .int .i64 b] W fun e w' => e = .returned (.int .i64 (XM.atE N D a b)) ∧ w' = W) := fun W hW a b => rat_any (hg.on hW) hm hN a b
  have HBD : Hid (∀ a b : Int, XM.atE N D a b ≤ 4611686018427387906) := fun a b => (XM.atE_bd hm a b).2
  clear hg hm
  go_enter Tryz.func35, Tryz.ntmps35
  go_wp2_with fail
  go_loopw [7, 8] (fun ov iv wr => ∃ k : Nat, k ≤ N ∧ iv = .int .i64 k ∧ Own .i64 3 wr w.heap.size ov (firsts (XM.steps N D v back k)) ∧ Below w.heap.size w wr) (fun _ iv _ => N - (intOf iv).toNat)
  case atStart => exact ⟨0, Nat.zero_le _, rfl, Own.nil _ _ _ _, Below.refl _ _⟩
  case round =>
    obtain ⟨k, hk, rfl, hO, hB⟩ := hrel
    have HO : Hid (Own .i64 3 wr w.heap.size u7 (firsts (XM.steps N D v back k))) := hO
    have HB : Hid (Below w.heap.size w wr) := hB
    have c0 := (HX.out wr hB).c0
    have hkN : (k : Int) ≤ (N : Int) := by omega
    clear hO
    by_cases hlt : k < N
    · have k1 : (k : Int) < (N : Int) := by omega
      have h1 := HAT.out wr hB v k
      have h2 := HAT.out wr hB k v
      have HSK : Hid (XM.dirE N D v back (k : Nat) = 4611686018427387906 → firsts (XM.steps N D v back (k + 1)) = firsts (XM.steps N D v back k)) := fun h => by rw [XM.steps_skip h]
      have HTK : Hid (XM.dirE N D v back (k : Nat) ≠ 4611686018427387906 → firsts (XM.steps N D v back (k + 1)) = firsts (XM.steps N D v back k) ++ [(k : Int)]) := fun h => by rw [XM.steps_take h, firsts_snoc]
      have hd2 : XM.dirE N D v back (k : Nat) ≤ 4611686018427387906 := by
        unfold XM.dirE
        split
        · exact HBD.out _ _
        · exact HBD.out _ _
      have hl : (firsts (XM.steps N D v back k)).length ≤ 24 := by
        rw [firsts_len]
        have := XM.steps_len (N := N) (D := D) (v := v) (back := back) k
        omega
      have HDE : Hid (XM.dirE N D v back (k : Nat) = if back then XM.atE N D (k : Nat) v else XM.atE N D v (k : Nat)) := rfl
      have hbs := hB.size
      clear hB
      generalize XM.dirE N D v back (k : Nat) = d at *
      obtain ⟨S2, hS2⟩ : ∃ S2, S2 = firsts (XM.steps N D v back (k + 1)) := ⟨_, rfl⟩
      have HS2 : Hid (firsts (XM.steps N D v back (k + 1)) = S2) := hS2.symm
      rw [← hS2] at HSK HTK
      clear hS2
      generalize firsts (XM.steps N D v back k) = S1 at *
      cases back with
      | false =>
        have e : XM.atE N D v (k : Nat) = d := HDE.out.symm
        rw [e] at h1
        clear h2 HDE e
        by_cases hd : d = 4611686018427387906
        · have HE : Hid (S2 = S1) := HSK.out hd
          clear HSK HTK
          subst hd
          go_wp2_with fail
          refine h1.mono ?_
          rintro e w' ⟨rfl, rfl⟩
          clear h1
          go_wp2_with fail
          go_roundw
          case rel => exact ⟨k + 1, by omega, by go_num, by rw [HS2.out, HE.out]; exact HO.out, HB.out⟩
          case measure => simp [intOf]; omega
        · have HE : Hid (S2 = S1 ++ [(k : Int)]) := HTK.out hd
          have hdl : d < 4611686018427387906 := by omega
          clear HSK HTK hd
          go_wp2_with fail
          refine h1.mono ?_
          rintro e w' ⟨rfl, hw'⟩
          rw [hw']
          clear h1 hw' w'
          go_wp2_with (at_builtin; refine wpList_append_row _ rfl _ _ 28 rfl .i64 w.heap.size 3 i0 8 Tryz.underlying28 hi hz0 hz1 hz2 _ S1 rfl (HO.out.alloc _) (some ⟨wr.heap.size, 0, none⟩) 1 1 [(k : Int)] rfl rfl (rowAt_lit1 _ _ _ _) (by unfold maxLen; simp; omega) (by simp; omega) (by simp; omega) ?_)
          intro v2 w2 hown2 hgrow2 _
          have hb2 : Below w.heap.size w w2 := (HB.out.alloc HB.out.size _).grown hgrow2 (by simp; omega) (fun g hg => HO.out.block g hg)
          have HO2 : Hid (Own .i64 3 w2 w.heap.size v2 S2) := by
            show Own _ _ _ _ _ _
            rw [HE.out]
            exact hown2
          have HB2 : Hid (Below w.heap.size w w2) := hb2
          clear hown2 hgrow2 hb2
          go_wp2_with fail
          go_roundw
          case rel => exact ⟨k + 1, by omega, by go_num, by rw [HS2.out]; exact HO2.out, HB2.out⟩
          case measure => simp [intOf]; omega
      | true =>
        have e : XM.atE N D (k : Nat) v = d := HDE.out.symm
        rw [e] at h2
        clear HDE e
        by_cases hd : d = 4611686018427387906
        · have HE : Hid (S2 = S1) := HSK.out hd
          clear HSK HTK
          subst hd
          go_wp2_with fail
          refine h1.mono ?_
          rintro e w' ⟨rfl, rfl⟩
          clear h1
          go_wp2_with fail
          refine h2.mono ?_
          rintro e w' ⟨rfl, rfl⟩
          clear h2
          go_wp2_with fail
          go_roundw
          case rel => exact ⟨k + 1, by omega, by go_num, by rw [HS2.out, HE.out]; exact HO.out, HB.out⟩
          case measure => simp [intOf]; omega
        · have HE : Hid (S2 = S1 ++ [(k : Int)]) := HTK.out hd
          have hdl : d < 4611686018427387906 := by omega
          clear HSK HTK hd
          go_wp2_with fail
          refine h1.mono ?_
          rintro e w' ⟨rfl, hw'⟩
          rw [hw']
          clear h1 hw' w'
          go_wp2_with fail
          refine h2.mono ?_
          rintro e w' ⟨rfl, hw'⟩
          rw [hw']
          clear h2 hw' w'
          go_wp2_with (at_builtin; refine wpList_append_row _ rfl _ _ 28 rfl .i64 w.heap.size 3 i0 8 Tryz.underlying28 hi hz0 hz1 hz2 _ S1 rfl (HO.out.alloc _) (some ⟨wr.heap.size, 0, none⟩) 1 1 [(k : Int)] rfl rfl (rowAt_lit1 _ _ _ _) (by unfold maxLen; simp; omega) (by simp; omega) (by simp; omega) ?_)
          intro v2 w2 hown2 hgrow2 _
          have hb2 : Below w.heap.size w w2 := (HB.out.alloc HB.out.size _).grown hgrow2 (by simp; omega) (fun g hg => HO.out.block g hg)
          have HO2 : Hid (Own .i64 3 w2 w.heap.size v2 S2) := by
            show Own _ _ _ _ _ _
            rw [HE.out]
            exact hown2
          have HB2 : Hid (Below w.heap.size w w2) := hb2
          clear hown2 hgrow2 hb2
          go_wp2_with fail
          go_roundw
          case rel => exact ⟨k + 1, by omega, by go_num, by rw [HS2.out]; exact HO2.out, HB2.out⟩
          case measure => simp [intOf]; omega
    · obtain rfl : k = N := by omega
      clear hlt hk hB
      go_wp2_with fail
      go_ret
      exact ⟨_, rfl, HO.out, HB.out⟩
set_option maxHeartbeats 2000000 in
theorem rdet_any {w : World} {p N : Nat} {D : Nat → Nat → Int} (hg : XMem w p N D) (hm : XM.Mesh N D) (hN : N ≤ 24) (v : Int) :
    Calls Tryz.prog 72 #[.pointer (some ⟨p, 0, none⟩), .int .i64 v] w fun e w' => ∃ r, e = .returned r ∧ OwnL w' w.heap.size r v (XM.dets N D v N) ∧ Below w.heap.size w w' := by
  obtain ⟨i0, hi, hz0, hz1, hz2⟩ := info_parts infoLink
  have HX : Hid (∀ W, Below w.heap.size w W → XMem W p N D) := fun W hW => hg.on hW
  have HAT : Hid (∀ W, Below w.heap.size w W → ∀ a b : Int, Calls Tryz.prog 71 #[.pointer (some ⟨p, 0, none⟩), .int .i64 a, .int .i64 b] W fun e w' => e = .returned (.int .i64 (XM.atE N D a b)) ∧ w' = W) := fun W hW a b => rat_any (hg.on hW) hm hN a b
  have HLEN : Hid (∀ k j, k ≤ N → j ≤ N → (XM.dets N D v k ++ XM.detRow N D v k j).length ≤ 700) := fun k j hk hj => by
    have h1 := XM.dets_len (N := N) (D := D) (v := v) k
    have h2 := XM.detRow_len (N := N) (D := D) (v := v) k j
    have h3 : k * N ≤ 24 * 24 := Nat.mul_le_mul (by omega) hN
    rw [List.length_append]
    omega
  clear hg hm
  go_enter Tryz.func72, Tryz.ntmps72
  go_wp2_with fail
  go_loopw [5, 6] (fun ov iv wr => ∃ k : Nat, k ≤ N ∧ iv = .int .i64 k ∧ OwnL wr w.heap.size ov v (XM.dets N D v k) ∧ Below w.heap.size w wr) (fun _ iv _ => N - (intOf iv).toNat)
  case atStart => exact ⟨0, Nat.zero_le _, rfl, OwnL.nil _ _ _, Below.refl _ _⟩
  case round =>
    obtain ⟨k, hk, rfl, hO, hB⟩ := hrel
    have HO : Hid (OwnL wr w.heap.size u5 v (XM.dets N D v k)) := hO
    have HB : Hid (Below w.heap.size w wr) := hB
    have c0 := (HX.out wr hB).c0
    have hkN : (k : Int) ≤ (N : Int) := by omega
    clear hO hB
    by_cases hlt : k < N
    · have k1 : (k : Int) < (N : Int) := by omega
      go_wp2_with fail
      go_loopw [5, 7] (fun ov jv wr' => ∃ j : Nat, j ≤ N ∧ jv = .int .i64 j ∧ OwnL wr' w.heap.size ov v (XM.dets N D v k ++ XM.detRow N D v k j) ∧ Below w.heap.size w wr') (fun _ jv _ => N - (intOf jv).toNat)
      case atStart => exact ⟨0, Nat.zero_le _, rfl, by rw [show XM.detRow N D v k 0 = [] from rfl, List.append_nil]; exact HO.out, HB.out⟩
      case round =>
        clear HO HB c0
        rename_i wr0 hwr0
        obtain ⟨j, hj, rfl, hO, hB⟩ := hrel
        have HB : Hid (Below w.heap.size w wr) := hB
        have c0 := (HX.out wr hB).c0
        have hjN : (j : Int) ≤ (N : Int) := by omega
        by_cases hjl : j < N
        · have j1 : (j : Int) < (N : Int) := by omega
          have h1 := HAT.out wr hB k v
          have h2 := HAT.out wr hB v j
          have hbs := hB.size
          have hlen := HLEN.out k j hk hj
          have HTK : Hid (k ≠ j ∧ DM.two (XM.atE N D k v) (XM.atE N D v j) < 4611686018427387906 → XM.dets N D v k ++ XM.detRow N D v k (j + 1) = XM.dets N D v k ++ XM.detRow N D v k j ++ [⟨k, j, DM.two (XM.atE N D k v) (XM.atE N D v j)⟩]) := fun h => by
            show _ ++ (_ ++ _) = _
            rw [if_pos h, List.append_assoc]
          have HSK : Hid (¬ (k ≠ j ∧ DM.two (XM.atE N D k v) (XM.atE N D v j) < 4611686018427387906) → XM.dets N D v k ++ XM.detRow N D v k (j + 1) = XM.dets N D v k ++ XM.detRow N D v k j) := fun h => by
            show _ ++ (_ ++ _) = _
            rw [if_neg h, List.append_nil]
          have h3 := two_any (XM.atE N D k v) (XM.atE N D v j) wr
          have hx2 := (DM.two_bd (XM.atE N D k v) (XM.atE N D v j)).2
          have HO : Hid (OwnL wr w.heap.size u5 v (XM.dets N D v k ++ XM.detRow N D v k j)) := hO
          clear hO hB
          generalize DM.two (XM.atE N D k v) (XM.atE N D v j) = x at *
          generalize XM.atE N D k v = a1 at *
          generalize XM.atE N D v j = a2 at *
          obtain ⟨S2, hS2⟩ : ∃ S2, S2 = XM.dets N D v k ++ XM.detRow N D v k (j + 1) := ⟨_, rfl⟩
          have HS2 : Hid (XM.dets N D v k ++ XM.detRow N D v k (j + 1) = S2) := hS2.symm
          rw [← hS2] at HSK HTK
          clear hS2
          generalize XM.dets N D v k ++ XM.detRow N D v k j = S1 at *
          by_cases hkj : k = j
          · have HE : Hid (S2 = S1) := HSK.out (fun h => h.1 hkj)
            have hne : ((k : Int) != (j : Int)) = false := by simp [hkj]
            clear HSK HTK hkj
            go_wp2_with fail
            refine h1.mono ?_
            rintro e w' ⟨rfl, rfl⟩
            clear h1
            go_wp2_with fail
            refine h2.mono ?_
            rintro e w' ⟨rfl, rfl⟩
            clear h2
            go_wp2_with fail
            refine h3.mono ?_
            rintro e w' ⟨rfl, rfl⟩
            clear h3
            go_wp2_with fail
            go_roundw
            case rel => exact ⟨j + 1, by omega, by go_num, by rw [HS2.out, HE.out]; exact HO.out, HB.out⟩
            case measure => simp [intOf]; omega
          · have hne : ((k : Int) != (j : Int)) = true := by simp; omega
            by_cases hx : x < 4611686018427387906
            · have HE : Hid (S2 = S1 ++ [⟨k, j, x⟩]) := HTK.out ⟨hkj, hx⟩
              clear HSK HTK hkj
              go_wp2_with fail
              refine h1.mono ?_
              rintro e w' ⟨rfl, hw'⟩
              rw [hw']
              clear h1 hw' w'
              go_wp2_with fail
              refine h2.mono ?_
              rintro e w' ⟨rfl, hw'⟩
              rw [hw']
              clear h2 hw' w'
              go_wp2_with fail
              refine h3.mono ?_
              rintro e w' ⟨rfl, hw'⟩
              rw [hw']
              clear h3 hw' w'
              go_wp2_with (at_builtin; refine wpList_append_own _ rfl _ _ 89 rfl w.heap.size 94 i0 zLink 5 40 Tryz.underlying89 hi hz0 hz1 hz2 rfl (by decide) u5 S1.length (linkCells v S1) rfl (HO.out.alloc _) ⟨wr.heap.size, 0, none⟩ 1 1 (detCells v ⟨k, j, x⟩) rfl rfl (cell_new5 _ _ _ _ _ _ _) (detCells_one _ _) (by unfold maxLen; omega) (by omega) (by simp; omega) ?_)
              intro v2 w2 hown2 hgrow2 _
              have hb2 : Below w.heap.size w w2 := (HB.out.alloc HB.out.size _).grown hgrow2 (by simp; omega) (fun g hg => (HO.out.block g hg).1)
              have HO2 : Hid (OwnL w2 w.heap.size v2 v S2) := by
                show OwnL _ _ _ _ _
                rw [HE.out]
                unfold OwnL
                rw [List.length_append, linkCells_snoc]
                exact hown2
              have HB2 : Hid (Below w.heap.size w w2) := hb2
              clear hown2 hgrow2 hb2
              go_wp2_with fail
              go_roundw
              case rel => exact ⟨j + 1, by omega, by go_num, by rw [HS2.out]; exact HO2.out, HB2.out⟩
              case measure => simp [intOf]; omega
            · have HE : Hid (S2 = S1) := HSK.out (fun h => hx h.2)
              obtain rfl : x = 4611686018427387906 := by omega
              clear HSK HTK hkj hx hx2
              go_wp2_with fail
              refine h1.mono ?_
              rintro e w' ⟨rfl, rfl⟩
              clear h1
              go_wp2_with fail
              refine h2.mono ?_
              rintro e w' ⟨rfl, rfl⟩
              clear h2
              go_wp2_with fail
              refine h3.mono ?_
              rintro e w' ⟨rfl, rfl⟩
              clear h3
              go_wp2_with fail
              go_roundw
              case rel => exact ⟨j + 1, by omega, by go_num, by rw [HS2.out, HE.out]; exact HO.out, HB.out⟩
              case measure => simp [intOf]; omega
        · obtain rfl : j = N := by omega
          have HO : Hid (OwnL wr w.heap.size u5 v (XM.dets j D v (k + 1))) := hO
          clear hO hB hjl
          go_wp2_with fail
          go_roundw
          case rel => exact ⟨k + 1, by omega, by go_num, HO.out, HB.out⟩
          case measure => simp [intOf]; omega
    · obtain rfl : k = N := by omega
      clear hlt hk
      go_wp2_with fail
      go_ret
      exact ⟨_, rfl, HO.out, HB.out⟩
end Go.Proofs.YtkcfepppnclniaaGreatDoor
end
