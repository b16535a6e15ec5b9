/-
  WitFindN, WitSpareN, WitSpareM.
-/
import Derived.Test.YtkcfepppnclniaaGreatDoorMmWitIterM
import Derived.Test.YtkcfepppnclniaaGreatDoorMmWitSearch
import Derived.Test.YtkcfepppnclniaaGreatDoorMmWitRef
import Derived.Test.YtkcfepppnclniaaGreatDoorMmWitSpared
section
/-
  The walk of the program's Search from a vertex that isn't there, or is left out (layer 13).
-/
namespace Go.Proofs.YtkcfepppnclniaaGreatDoor
open Go.RowKit Go.Shelf

theorem set_three {W : World} {b : Nat} {a0 a1 a2 x y z : Value} (r0 : W.cell? ⟨b, 0, none⟩ = some a0) (r1 : W.cell? ⟨b, 1, none⟩ = some a1) (r2 : W.cell? ⟨b, 2, none⟩ = some a2) :
    (((W.setCell ⟨b, 0, none⟩ x).setCell ⟨b, 1, none⟩ y).setCell ⟨b, 2, none⟩ z).cell? ⟨b, 0, none⟩ = some x ∧ (((W.setCell ⟨b, 0, none⟩ x).setCell ⟨b, 1, none⟩ y).setCell ⟨b, 2, none⟩ z).cell? ⟨b, 1, none⟩ = some y ∧ (((W.setCell ⟨b, 0, none⟩ x).setCell ⟨b, 1, none⟩ y).setCell ⟨b, 2, none⟩ z).cell? ⟨b, 2, none⟩ = some z := by
  have c0 := World.cell?_setCell_same W ⟨b, 0, none⟩ x r0
  have c1 : (W.setCell ⟨b, 0, none⟩ x).cell? ⟨b, 1, none⟩ = some a1 := by rw [World.cell?_setCell_other _ _ _ _ (by simp)]; exact r1
  have c2 : (W.setCell ⟨b, 0, none⟩ x).cell? ⟨b, 2, none⟩ = some a2 := by rw [World.cell?_setCell_other _ _ _ _ (by simp)]; exact r2
  have b0 : ((W.setCell ⟨b, 0, none⟩ x).setCell ⟨b, 1, none⟩ y).cell? ⟨b, 0, none⟩ = some x := by rw [World.cell?_setCell_other _ _ _ _ (by simp)]; exact c0
  have b1 := World.cell?_setCell_same _ ⟨b, 1, none⟩ y c1
  have b2 : ((W.setCell ⟨b, 0, none⟩ x).setCell ⟨b, 1, none⟩ y).cell? ⟨b, 2, none⟩ = some a2 := by rw [World.cell?_setCell_other _ _ _ _ (by simp)]; exact c2
  exact ⟨by rw [World.cell?_setCell_other _ _ _ _ (by simp)]; exact b0, by rw [World.cell?_setCell_other _ _ _ _ (by simp)]; exact b1, World.cell?_setCell_same _ _ _ b2⟩
end Go.Proofs.YtkcfepppnclniaaGreatDoor
end

section
/-
  The walk of the program's Spared where it isn't asked of three unlike vertices (layer 13).
-/
namespace Go.Proofs.YtkcfepppnclniaaGreatDoor
open Go.RowKit Go.Shelf

set_option maxRecDepth 100000 in
set_option maxHeartbeats 1000000 in
theorem spared_no {W : World} {mp N : Nat} {D : Nat → Nat → Int} (hx : XMem W mp N D) (u v w : Int) (hbad : WM.three N u v w = false) (settles : Int) :
    Calls Tryz.prog 47 #[.pointer (some ⟨mp, 0, none⟩), .int .i64 u, .int .i64 v, .int .i64 w, .int .i64 settles] W fun e w' => e = .returned (.tuple #[.bool false, .int .i64 1]) ∧ Below W.heap.size W w' := by
  obtain ⟨W1, hW1⟩ : ∃ W1, W1 = ((W.alloc (.cells #[.int .i64 w] 3)).alloc (.cells #[.bool false] 4)).alloc (.cells #[.int .i64 0] 42) := ⟨_, rfl⟩
  have hb1 : Below W.heap.size W W1 := by rw [hW1]; exact (((Below.refl _ _).alloc (Nat.le_refl _) _).alloc (by simp) _).alloc (by simp; omega) _
  have k0 : Boxed W1 W.heap.size 3 (.int .i64 w) := by rw [hW1]; exact ((Boxed.new W _ _).alloc _).alloc _
  have k1 : Boxed W1 (W.heap.size + 1) 4 (.bool false) := by
    rw [hW1]
    have := Boxed.new (W.alloc (.cells #[.int .i64 w] 3)) 4 (.bool false)
    rw [World.size_alloc] at this
    exact this.alloc _
  have k2 : Boxed W1 (W.heap.size + 1 + 1) 42 (.int .i64 0) := by
    rw [hW1]
    have := Boxed.new ((W.alloc (.cells #[.int .i64 w] 3)).alloc (.cells #[.bool false] 4)) 42 (.int .i64 0)
    rwa [World.size_alloc, World.size_alloc] at this
  have c0 := k0.cell
  have c1 := k1.cell
  have f1 := k1.frozen
  have c2 := k2.cell
  have f2 := k2.frozen
  have hu := wvertex_any (hx.on hb1) u
  have hv := wvertex_any (hx.on hb1) v
  have hw := wvertex_any (hx.on hb1) w
  have HE : Hid (Below W.heap.size W ((W1.setCell ⟨W.heap.size + 1, 0, none⟩ (.bool false)).setCell ⟨W.heap.size + 1 + 1, 0, none⟩ (.int .i64 1)) ∧ ((W1.setCell ⟨W.heap.size + 1, 0, none⟩ (.bool false)).setCell ⟨W.heap.size + 1 + 1, 0, none⟩ (.int .i64 1)).cell? ⟨W.heap.size + 1, 0, none⟩ = some (.bool false) ∧ ((W1.setCell ⟨W.heap.size + 1, 0, none⟩ (.bool false)).setCell ⟨W.heap.size + 1 + 1, 0, none⟩ (.int .i64 1)).cell? ⟨W.heap.size + 1 + 1, 0, none⟩ = some (.int .i64 1)) := by
    refine ⟨(hb1.setCell (p := ⟨W.heap.size + 1, 0, none⟩) (by show W.heap.size ≤ W.heap.size + 1; omega) _).setCell (p := ⟨W.heap.size + 1 + 1, 0, none⟩) (by show W.heap.size ≤ W.heap.size + 1 + 1; omega) _, ?_, ?_⟩
    · rw [World.cell?_setCell_other _ _ _ _ (by intro e; injection e with e _; omega)]
      exact World.cell?_setCell_same _ _ _ c1
    · exact World.cell?_setCell_same _ _ _ ((keeps_set W1 (W.heap.size + 1) 0 (.bool false)).cell c2 (by show ¬ W.heap.size + 1 + 1 = W.heap.size + 1; omega))
  have HBAD : Hid (WM.three N u v w = (GM.vert N u && GM.vert N v && GM.vert N w && decide (u ≠ v) && decide (v ≠ w) && decide (w ≠ u))) := rfl
  rw [HBAD.out] at hbad
  clear HBAD hx k0 k1 k2 hb1
  generalize GM.vert N u = bu at *
  generalize GM.vert N v = bv at *
  generalize GM.vert N w = bw at *
  cases bu with
  | false =>
    clear hbad hv hw
    go_enter Tryz.func47, Tryz.ntmps47
    go_upto_region 1 with fail
    rw [← hW1]
    clear hW1
    go_wp2_with fail
    refine hu.mono ?_
    rintro e w2 ⟨rfl, hw2⟩
    rw [hw2]
    clear hu hw2 w2
    go_wp2_with fail
    obtain ⟨h1, h2, h3⟩ := HE.out
    (try simp only [Exit.inBlock, Exit.then]); refine bodyPost_ret (v := .tuple #[.bool false, .int .i64 1]) ?_ rfl ⟨rfl, h1⟩
    simp [results, Tryz.f47, go_sem, h2, h3]
  | true =>
  cases bv with
  | false =>
    clear hbad hw
    go_enter Tryz.func47, Tryz.ntmps47
    go_upto_region 1 with fail
    rw [← hW1]
    clear hW1
    go_wp2_with fail
    refine hu.mono ?_
    rintro e w2 ⟨rfl, hw2⟩
    rw [hw2]
    clear hu hw2 w2
    go_wp2_with fail
    refine hv.mono ?_
    rintro e w2 ⟨rfl, hw2⟩
    rw [hw2]
    clear hv hw2 w2
    go_wp2_with fail
    obtain ⟨h1, h2, h3⟩ := HE.out
    (try simp only [Exit.inBlock, Exit.then]); refine bodyPost_ret (v := .tuple #[.bool false, .int .i64 1]) ?_ rfl ⟨rfl, h1⟩
    simp [results, Tryz.f47, go_sem, h2, h3]
  | true =>
  cases bw with
  | false =>
    clear hbad
    go_enter Tryz.func47, Tryz.ntmps47
    go_upto_region 1 with fail
    rw [← hW1]
    clear hW1
    go_wp2_with fail
    refine hu.mono ?_
    rintro e w2 ⟨rfl, hw2⟩
    rw [hw2]
    clear hu hw2 w2
    go_wp2_with fail
    refine hv.mono ?_
    rintro e w2 ⟨rfl, hw2⟩
    rw [hw2]
    clear hv hw2 w2
    go_wp2_with fail
    refine hw.mono ?_
    rintro e w2 ⟨rfl, hw2⟩
    rw [hw2]
    clear hw hw2 w2
    go_wp2_with fail
    obtain ⟨h1, h2, h3⟩ := HE.out
    (try simp only [Exit.inBlock, Exit.then]); refine bodyPost_ret (v := .tuple #[.bool false, .int .i64 1]) ?_ rfl ⟨rfl, h1⟩
    simp [results, Tryz.f47, go_sem, h2, h3]
  | true =>
  by_cases e1 : u = v
  · have e1' : (u == v) = true := by simp [e1]
    clear hbad e1
    go_enter Tryz.func47, Tryz.ntmps47
    go_upto_region 1 with fail
    rw [← hW1]
    clear hW1
    go_wp2_with fail
    refine hu.mono ?_
    rintro e w2 ⟨rfl, hw2⟩
    rw [hw2]
    clear hu hw2 w2
    go_wp2_with fail
    refine hv.mono ?_
    rintro e w2 ⟨rfl, hw2⟩
    rw [hw2]
    clear hv hw2 w2
    go_wp2_with fail
    refine hw.mono ?_
    rintro e w2 ⟨rfl, hw2⟩
    rw [hw2]
    clear hw hw2 w2
    go_wp2_with fail
    obtain ⟨h1, h2, h3⟩ := HE.out
    (try simp only [Exit.inBlock, Exit.then]); refine bodyPost_ret (v := .tuple #[.bool false, .int .i64 1]) ?_ rfl ⟨rfl, h1⟩
    simp [results, Tryz.f47, go_sem, h2, h3]
  have e1' : (u == v) = false := by simp [e1]
  by_cases e2 : v = w
  · have e2' : (v == w) = true := by simp [e2]
    clear hbad e1 e2
    go_enter Tryz.func47, Tryz.ntmps47
    go_upto_region 1 with fail
    rw [← hW1]
    clear hW1
    go_wp2_with fail
    refine hu.mono ?_
    rintro e w2 ⟨rfl, hw2⟩
    rw [hw2]
    clear hu hw2 w2
    go_wp2_with fail
    refine hv.mono ?_
    rintro e w2 ⟨rfl, hw2⟩
    rw [hw2]
    clear hv hw2 w2
    go_wp2_with fail
    refine hw.mono ?_
    rintro e w2 ⟨rfl, hw2⟩
    rw [hw2]
    clear hw hw2 w2
    go_wp2_with fail
    obtain ⟨h1, h2, h3⟩ := HE.out
    (try simp only [Exit.inBlock, Exit.then]); refine bodyPost_ret (v := .tuple #[.bool false, .int .i64 1]) ?_ rfl ⟨rfl, h1⟩
    simp [results, Tryz.f47, go_sem, h2, h3]
  have e2' : (v == w) = false := by simp [e2]
  by_cases e3 : u = w
  · have e3' : (u == w) = true := by simp [e3]
    clear hbad e1 e2 e3
    go_enter Tryz.func47, Tryz.ntmps47
    go_upto_region 1 with fail
    rw [← hW1]
    clear hW1
    go_wp2_with fail
    refine hu.mono ?_
    rintro e w2 ⟨rfl, hw2⟩
    rw [hw2]
    clear hu hw2 w2
    go_wp2_with fail
    refine hv.mono ?_
    rintro e w2 ⟨rfl, hw2⟩
    rw [hw2]
    clear hv hw2 w2
    go_wp2_with fail
    refine hw.mono ?_
    rintro e w2 ⟨rfl, hw2⟩
    rw [hw2]
    clear hw hw2 w2
    go_wp2_with fail
    obtain ⟨h1, h2, h3⟩ := HE.out
    (try simp only [Exit.inBlock, Exit.then]); refine bodyPost_ret (v := .tuple #[.bool false, .int .i64 1]) ?_ rfl ⟨rfl, h1⟩
    simp [results, Tryz.f47, go_sem, h2, h3]
  exfalso
  simp [e1, e2, show ¬ w = u from fun e => e3 e.symm] at hbad
end Go.Proofs.YtkcfepppnclniaaGreatDoor
end

section
/-
  What the program's Spared leans on (layer 13): part of a search is where the whole begins; its variables.
-/
namespace Go.Proofs.YtkcfepppnclniaaGreatDoor
open Go.RowKit Go.Shelf
namespace WM
section
variable {N : Nat} {D : Nat → Nat → Int} {s : Nat} {W : Nat → Bool} {X : Int} {L M : List (Nat × Int)} {k : Nat}
/-- What is settled so far is where all that is settled begins. -/
theorem Seq.in_got (h : Seq N D s W X L) (hl : L.length ≤ k) (g : Got N D s W X k M) : L <+: M := by
  rcases h.either g.seq with e | e
  · exact e
  · by_cases hlt : M.length < L.length
    · rcases g.full with f | f
      · omega
      · obtain ⟨v, d, n1, n2⟩ := next_of_longer h e hlt
        exact absurd n2 (f v d n1)
    · have : M = L := List.IsPrefix.eq_of_length_le e (by omega)
      rw [this]
      exact List.prefix_refl _
theorem has_pre (h : L <+: M) {w : Nat} (hw : has L w = true) : has M w = true := by
  obtain ⟨x, hx, e⟩ := has_iff.1 hw
  exact has_iff.2 ⟨x, h.subset hx, e⟩
/-- Each search comes to its end. -/
theorem got_from (_hs : s < N) (_hW : W s = false) : ∀ (n : Nat) (L : List (Nat × Int)), Seq N D s W X L → L.length ≤ k → k - L.length ≤ n → ∃ M, Got N D s W X k M := by
  classical
  intro n
  induction n with
  | zero => exact fun L hq hl hn => ⟨L, hq, hl, .inl (by omega)⟩
  | succ n ih =>
    intro L hq hl hn
    by_cases hst : Stuck N D s W X L
    · exact ⟨L, hq, hl, .inr hst⟩
    · by_cases hk : L.length = k
      · exact ⟨L, hq, hl, .inl hk⟩
      · have : ∃ v d, Next N D s W L v d ∧ d ≤ X := by
          refine Classical.byContradiction fun hc => hst (fun v d h1 h2 => hc ⟨v, d, h1, h2⟩)
        obtain ⟨v, d, h1, h2⟩ := this
        exact ih (L ++ [(v, d)]) (.snoc hq h1 h2) (by rw [List.length_append, List.length_singleton]; omega) (by rw [List.length_append, List.length_singleton]; omega)
theorem got_is (hs : s < N) (hW : W s = false) (X : Int) (k : Nat) : ∃ M, Got N D s W X k M := got_from hs hW k [] .nil (Nat.zero_le _) (by simp)
end
theorem ofL_one {v : Nat} (hv : v < 64) : BM.ofL [(v : Int)] = 2 ^ v := by
  rw [← BM.setOf_eq]
  unfold BM.setOf
  rw [List.foldl_cons, List.foldl_nil, Nat.zero_or]
  unfold BM.only
  rw [if_pos (by omega), Int.toNat_natCast]
end WM
/-- Spared's variables: the third vertex, the answer's two cells. -/
structure SQC (w : World) (mp N : Nat) (D : Nat → Nat → Int) (x : Nat) (a : Bool) (c : Int) (A : World) : Prop where
  b0 : Boxed A w.heap.size 3 (.int .i64 (x : Nat))
  b1 : Boxed A (w.heap.size + 1) 4 (.bool a)
  b2 : Boxed A (w.heap.size + 1 + 1) 42 (.int .i64 c)
  x : XMem A mp N D
  bel : Below w.heap.size w A
section
variable {w A A' : World} {mp N x : Nat} {D : Nat → Nat → Int} {a : Bool} {c : Int}
theorem SQC.sz (h : SQC w mp N D x a c A) : w.heap.size + 3 ≤ A.heap.size := by have := h.b2.lt; omega
theorem SQC.below (h : SQC w mp N D x a c A) (hb : Below (w.heap.size + 3) A A') (hmp : mp < w.heap.size) : SQC w mp N D x a c A' :=
  ⟨(hb.block _ (by omega)).trans h.b0, (hb.block _ (by omega)).trans h.b1, (hb.block _ (by omega)).trans h.b2, h.x.below (show mp < w.heap.size + 3 by omega) hb, h.bel.trans (hb.mono (by omega))⟩
theorem SQC.put (h : SQC w mp N D x a c A) (hmp : mp < w.heap.size) (a' : Bool) (c' : Int) : SQC w mp N D x a' c' ((A.setCell ⟨w.heap.size + 1, 0, none⟩ (.bool a')).setCell ⟨w.heap.size + 1 + 1, 0, none⟩ (.int .i64 c')) := by
  have k1 := keeps_set A (w.heap.size + 1) 0 (.bool a')
  have k2 := keeps_set (A.setCell ⟨w.heap.size + 1, 0, none⟩ (.bool a')) (w.heap.size + 1 + 1) 0 (.int .i64 c')
  exact ⟨(h.b0.other (by omega) _).other (by omega) _, (h.b1.set _).other (by omega) _, (h.b2.other (by omega) _).set _, (h.x.kept k1 (by omega)).kept k2 (by omega), (h.bel.setCell (p := ⟨w.heap.size + 1, 0, none⟩) (by show w.heap.size ≤ w.heap.size + 1; omega) _).setCell (p := ⟨w.heap.size + 1 + 1, 0, none⟩) (by show w.heap.size ≤ w.heap.size + 1 + 1; omega) _⟩
theorem lowX {B : Nat} {X X' : Nat → Prop} (hX : ∀ b, b < B → ¬ X b) (hB : B ≤ A.heap.size) (hk : Keeps X A A') (hX' : ∀ b, X' b → X b ∨ A.heap.size ≤ b) : Below B A A' ∧ ∀ b, b < B → ¬ X' b := by
  refine ⟨Keeps.below hk (fun b hb => ?_) hB, fun b hb hx => ?_⟩
  · rcases Nat.lt_or_ge b B with h | h
    · exact absurd hb (hX b h)
    · exact h
  · rcases hX' b hx with h | h
    · exact hX b hb h
    · omega
theorem sqc_new (w : World) {mp N : Nat} {D : Nat → Nat → Int} (hx : XMem w mp N D) (x : Nat) : ∃ W1, W1 = ((w.alloc (.cells #[.int .i64 (x : Nat)] 3)).alloc (.cells #[.bool false] 4)).alloc (.cells #[.int .i64 0] 42) ∧ W1.heap.size = w.heap.size + 3 ∧ SQC w mp N D x false 0 W1 := by
  refine ⟨_, rfl, by simp, ?_⟩
  have hb1 : Below w.heap.size w (((w.alloc (.cells #[.int .i64 (x : Nat)] 3)).alloc (.cells #[.bool false] 4)).alloc (.cells #[.int .i64 0] 42)) := (((Below.refl _ _).alloc (Nat.le_refl _) _).alloc (by simp) _).alloc (by simp; omega) _
  have k1 := Boxed.new (w.alloc (.cells #[.int .i64 (x : Nat)] 3)) 4 (.bool false)
  rw [World.size_alloc] at k1
  have k2 := Boxed.new ((w.alloc (.cells #[.int .i64 (x : Nat)] 3)).alloc (.cells #[.bool false] 4)) 42 (.int .i64 0)
  rw [World.size_alloc, World.size_alloc] at k2
  exact ⟨((Boxed.new w _ _).alloc _).alloc _, k1.alloc _, k2, hx.on hb1, hb1⟩
end
/-- What Spared answers of three unlike vertices: does such a search settle the third one? -/
def spAns (N : Nat) (D : Nat → Nat → Int) (u v x K : Nat) (w : World) (e : Ending) (w' : World) : Prop :=
  ∃ a, e = .returned (.tuple #[.bool a, .int .i64 0]) ∧ (∀ M, WM.Got N D u (WM.outOf (2 ^ v)) (DM.two (D u v) (D v x)) K M → a = WM.has M x) ∧ Below w.heap.size w w'
set_option maxRecDepth 100000 in
theorem spared_out {n : Nat} {w W : World} {mp N u v x K : Nat} {D : Nat → Nat → Int} {a : Bool} {t : Array Value} {E : Nat} (ht : t[10]?.getD undef = .pointer (some ⟨w.heap.size + 1, 0, none⟩)) (ht' : t[11]?.getD undef = .pointer (some ⟨w.heap.size + 1 + 1, 0, none⟩)) (h : SQC w mp N D x a 0 W) (hQ : ∀ M, WM.Got N D u (WM.outOf (2 ^ v)) (DM.two (D u v) (D v x)) K M → a = WM.has M x)
    (hK : W.heap[E]? = some (.deferred (some []))) (hE : w.heap.size + 3 ≤ E) :
    bodyPostM Fence.wide n Tryz.prog Tryz.f47 (fun e w' => spAns N D u v x K w e w') Exit.ret { tmps := t, defers := [{ target := .collected E, args := #[] }] } W := by
  refine ⟨by simp, .inl ⟨_, _, rfl, run_takeDeferred hK, ?_⟩⟩
  have k0 := cell_kept h.b1.cell (grownBy_putObj' _ E (.deferred none)) (fun r e => by cases e; exact ⟨_, hK, rfl⟩)
  have k1 := cell_kept h.b2.cell (grownBy_putObj' _ E (.deferred none)) (fun r e => by cases e; exact ⟨_, hK, rfl⟩)
  refine ⟨.tuple #[.bool a, .int .i64 0], ?_, a, rfl, hQ, h.bel.trans (belowK_b (w := w) (Nat.le_refl _) _ E _ _ (by omega) hK rfl rfl)⟩
  simp [results, Tryz.f47, go_sem, ht, ht', k0, k1]
/-- As Spared's search begins to be gone through. -/
theorem sp_new {w W3 w4 : World} {mp N O u x : Nat} {D : Nat → Nat → Int} {z : Wid} (hmp : mp < w.heap.size) (h : SQC w mp N D x false 0 W3) (hwd : WD w4 W3.heap.size z mp N O (fun _ => none) (fun _ => none) 0 (fun b => W3.heap.size ≤ b ∧ b < w4.heap.size)) (hb : Below W3.heap.size W3 w4) (most settles : Int) :
    SQC w mp N D x false 0 (setW z.q u most settles w4) ∧ Z0 W3.heap.size z mp N O u most settles w4.heap.size (fun b => W3.heap.size ≤ b ∧ b < w4.heap.size + 4) (setW z.q u most settles w4) ∧ (setW z.q u most settles w4).heap.size = w4.heap.size + 4 := by
  obtain ⟨ib, b5, s5⟩ := setW_ib z u most settles w4
  have h3 := h.sz
  have h4 := hb.size
  exact ⟨(h.below (hb.mono h3) hmp).below (b5.mono (by omega)) hmp, ⟨_, hwd.on b5, ib, fun b hb => ⟨⟨hb.1, by omega⟩, by omega⟩, fun b h1 h2 => ⟨by omega, h2⟩⟩, s5⟩
end Go.Proofs.YtkcfepppnclniaaGreatDoor
end
