/-
  WitSpareN, WitSpareM, WitSpareP.
-/
import Derived.Test.YtmkpcidgiobpeaaMmFinds
import Derived.Test.YtmkpcidgiobpeaaMmWitSpare
import Derived.Test.YtmkpcidgiobpeaaMmWitBits
import Derived.Test.YtmkpcidgiobpeaaMmWitSpared
section
/-
  The walk of the program's Spared where it isn't asked of three unlike vertices (layer 13).
-/
namespace Go.Proofs.Ytmkpcidgiobpeaa
open Go.RowKit Go.Shelf

set_option maxRecDepth 100000 in
set_option maxHeartbeats 1000000 in
theorem spared_no {W : World} {mp N : Nat} {D : Nat → Nat → Int} (hx : XMem W mp N D) (u v w : Int) (hbad : WM.three N u v w = false) (settles : Int) :
    Calls Try.prog 15 #[.pointer (some ⟨mp, 0, none⟩), .int .i64 u, .int .i64 v, .int .i64 w, .int .i64 settles] W fun e w' => e = .returned (.tuple #[.bool false, .int .i64 1]) ∧ Below W.heap.size W w' := by
  obtain ⟨W1, hW1⟩ : ∃ W1, W1 = ((W.alloc (.cells #[.int .i64 w] 3)).alloc (.cells #[.bool false] 4)).alloc (.cells #[.int .i64 0] 33) := ⟨_, rfl⟩
  have hb1 : Below W.heap.size W W1 := by rw [hW1]; exact (((Below.refl _ _).alloc (Nat.le_refl _) _).alloc (by simp) _).alloc (by simp; omega) _
  have k0 : Boxed W1 W.heap.size 3 (.int .i64 w) := by rw [hW1]; exact ((Boxed.new W _ _).alloc _).alloc _
  have k1 : Boxed W1 (W.heap.size + 1) 4 (.bool false) := by
    rw [hW1]
    have := Boxed.new (W.alloc (.cells #[.int .i64 w] 3)) 4 (.bool false)
    rw [World.size_alloc] at this
    exact this.alloc _
  have k2 : Boxed W1 (W.heap.size + 1 + 1) 33 (.int .i64 0) := by
    rw [hW1]
    have := Boxed.new ((W.alloc (.cells #[.int .i64 w] 3)).alloc (.cells #[.bool false] 4)) 33 (.int .i64 0)
    rwa [World.size_alloc, World.size_alloc] at this
  have c0 := k0.cell
  have c1 := k1.cell
  have f1 := k1.frozen
  have c2 := k2.cell
  have f2 := k2.frozen
  have hu := wvertex_any (hx.on hb1) u
  have hv := wvertex_any (hx.on hb1) v
  have hw := wvertex_any (hx.on hb1) w
  have HE : Hid (Below W.heap.size W ((W1.setCell ⟨W.heap.size + 1, 0, none⟩ (.bool false)).setCell ⟨W.heap.size + 1 + 1, 0, none⟩ (.int .i64 1)) ∧ ((W1.setCell ⟨W.heap.size + 1, 0, none⟩ (.bool false)).setCell ⟨W.heap.size + 1 + 1, 0, none⟩ (.int .i64 1)).cell? ⟨W.heap.size + 1, 0, none⟩ = some (.bool false) ∧ ((W1.setCell ⟨W.heap.size + 1, 0, none⟩ (.bool false)).setCell ⟨W.heap.size + 1 + 1, 0, none⟩ (.int .i64 1)).cell? ⟨W.heap.size + 1 + 1, 0, none⟩ = some (.int .i64 1)) := by
    refine ⟨(hb1.setCell (p := ⟨W.heap.size + 1, 0, none⟩) (by show W.heap.size ≤ W.heap.size + 1; omega) _).setCell (p := ⟨W.heap.size + 1 + 1, 0, none⟩) (by show W.heap.size ≤ W.heap.size + 1 + 1; omega) _, ?_, ?_⟩
    · rw [World.cell?_setCell_other _ _ _ _ (by intro e; injection e with e _; omega)]
      exact World.cell?_setCell_same _ _ _ c1
    · exact World.cell?_setCell_same _ _ _ ((keeps_set W1 (W.heap.size + 1) 0 (.bool false)).cell c2 (by show ¬ W.heap.size + 1 + 1 = W.heap.size + 1; omega))
  have HBAD : Hid (WM.three N u v w = (GM.vert N u && GM.vert N v && GM.vert N w && decide (u ≠ v) && decide (v ≠ w) && decide (w ≠ u))) := rfl
  rw [HBAD.out] at hbad
  clear HBAD hx k0 k1 k2 hb1
  generalize GM.vert N u = bu at *
  generalize GM.vert N v = bv at *
  generalize GM.vert N w = bw at *
  cases bu with
  | false =>
    clear hbad hv hw
    go_enter Try.func15, Try.ntmps15
    go_upto_region 1 with fail
    rw [← hW1]
    clear hW1
    go_wp2_with fail
    refine hu.mono ?_
    rintro e w2 ⟨rfl, hw2⟩
    rw [hw2]
    clear hu hw2 w2
    go_wp2_with fail
    obtain ⟨h1, h2, h3⟩ := HE.out
    (try simp only [Exit.inBlock, Exit.then]); refine bodyPost_ret (v := .tuple #[.bool false, .int .i64 1]) ?_ rfl ⟨rfl, h1⟩
    simp [results, Try.f15, go_sem, h2, h3]
  | true =>
  cases bv with
  | false =>
    clear hbad hw
    go_enter Try.func15, Try.ntmps15
    go_upto_region 1 with fail
    rw [← hW1]
    clear hW1
    go_wp2_with fail
    refine hu.mono ?_
    rintro e w2 ⟨rfl, hw2⟩
    rw [hw2]
    clear hu hw2 w2
    go_wp2_with fail
    refine hv.mono ?_
    rintro e w2 ⟨rfl, hw2⟩
    rw [hw2]
    clear hv hw2 w2
    go_wp2_with fail
    obtain ⟨h1, h2, h3⟩ := HE.out
    (try simp only [Exit.inBlock, Exit.then]); refine bodyPost_ret (v := .tuple #[.bool false, .int .i64 1]) ?_ rfl ⟨rfl, h1⟩
    simp [results, Try.f15, go_sem, h2, h3]
  | true =>
  cases bw with
  | false =>
    clear hbad
    go_enter Try.func15, Try.ntmps15
    go_upto_region 1 with fail
    rw [← hW1]
    clear hW1
    go_wp2_with fail
    refine hu.mono ?_
    rintro e w2 ⟨rfl, hw2⟩
    rw [hw2]
    clear hu hw2 w2
    go_wp2_with fail
    refine hv.mono ?_
    rintro e w2 ⟨rfl, hw2⟩
    rw [hw2]
    clear hv hw2 w2
    go_wp2_with fail
    refine hw.mono ?_
    rintro e w2 ⟨rfl, hw2⟩
    rw [hw2]
    clear hw hw2 w2
    go_wp2_with fail
    obtain ⟨h1, h2, h3⟩ := HE.out
    (try simp only [Exit.inBlock, Exit.then]); refine bodyPost_ret (v := .tuple #[.bool false, .int .i64 1]) ?_ rfl ⟨rfl, h1⟩
    simp [results, Try.f15, go_sem, h2, h3]
  | true =>
  by_cases e1 : u = v
  · have e1' : (u == v) = true := by simp [e1]
    clear hbad e1
    go_enter Try.func15, Try.ntmps15
    go_upto_region 1 with fail
    rw [← hW1]
    clear hW1
    go_wp2_with fail
    refine hu.mono ?_
    rintro e w2 ⟨rfl, hw2⟩
    rw [hw2]
    clear hu hw2 w2
    go_wp2_with fail
    refine hv.mono ?_
    rintro e w2 ⟨rfl, hw2⟩
    rw [hw2]
    clear hv hw2 w2
    go_wp2_with fail
    refine hw.mono ?_
    rintro e w2 ⟨rfl, hw2⟩
    rw [hw2]
    clear hw hw2 w2
    go_wp2_with fail
    obtain ⟨h1, h2, h3⟩ := HE.out
    (try simp only [Exit.inBlock, Exit.then]); refine bodyPost_ret (v := .tuple #[.bool false, .int .i64 1]) ?_ rfl ⟨rfl, h1⟩
    simp [results, Try.f15, go_sem, h2, h3]
  have e1' : (u == v) = false := by simp [e1]
  by_cases e2 : v = w
  · have e2' : (v == w) = true := by simp [e2]
    clear hbad e1 e2
    go_enter Try.func15, Try.ntmps15
    go_upto_region 1 with fail
    rw [← hW1]
    clear hW1
    go_wp2_with fail
    refine hu.mono ?_
    rintro e w2 ⟨rfl, hw2⟩
    rw [hw2]
    clear hu hw2 w2
    go_wp2_with fail
    refine hv.mono ?_
    rintro e w2 ⟨rfl, hw2⟩
    rw [hw2]
    clear hv hw2 w2
    go_wp2_with fail
    refine hw.mono ?_
    rintro e w2 ⟨rfl, hw2⟩
    rw [hw2]
    clear hw hw2 w2
    go_wp2_with fail
    obtain ⟨h1, h2, h3⟩ := HE.out
    (try simp only [Exit.inBlock, Exit.then]); refine bodyPost_ret (v := .tuple #[.bool false, .int .i64 1]) ?_ rfl ⟨rfl, h1⟩
    simp [results, Try.f15, go_sem, h2, h3]
  have e2' : (v == w) = false := by simp [e2]
  by_cases e3 : u = w
  · have e3' : (u == w) = true := by simp [e3]
    clear hbad e1 e2 e3
    go_enter Try.func15, Try.ntmps15
    go_upto_region 1 with fail
    rw [← hW1]
    clear hW1
    go_wp2_with fail
    refine hu.mono ?_
    rintro e w2 ⟨rfl, hw2⟩
    rw [hw2]
    clear hu hw2 w2
    go_wp2_with fail
    refine hv.mono ?_
    rintro e w2 ⟨rfl, hw2⟩
    rw [hw2]
    clear hv hw2 w2
    go_wp2_with fail
    refine hw.mono ?_
    rintro e w2 ⟨rfl, hw2⟩
    rw [hw2]
    clear hw hw2 w2
    go_wp2_with fail
    obtain ⟨h1, h2, h3⟩ := HE.out
    (try simp only [Exit.inBlock, Exit.then]); refine bodyPost_ret (v := .tuple #[.bool false, .int .i64 1]) ?_ rfl ⟨rfl, h1⟩
    simp [results, Try.f15, go_sem, h2, h3]
  exfalso
  simp [e1, e2, show ¬ w = u from fun e => e3 e.symm] at hbad
end Go.Proofs.Ytmkpcidgiobpeaa
end

section
/-
  What the program's Spared leans on (layer 13): part of a search is where the whole begins; its variables.
-/
namespace Go.Proofs.Ytmkpcidgiobpeaa
open Go.RowKit Go.Shelf
namespace WM
section
variable {N : Nat} {D : Nat → Nat → Int} {s : Nat} {W : Nat → Bool} {X : Int} {L M : List (Nat × Int)} {k : Nat}
/-- What is settled so far is where all that is settled begins. -/
theorem Seq.in_got (h : Seq N D s W X L) (hl : L.length ≤ k) (g : Got N D s W X k M) : L <+: M := by
  rcases h.either g.seq with e | e
  · exact e
  · by_cases hlt : M.length < L.length
    · rcases g.full with f | f
      · omega
      · obtain ⟨v, d, n1, n2⟩ := next_of_longer h e hlt
        exact absurd n2 (f v d n1)
    · have : M = L := List.IsPrefix.eq_of_length_le e (by omega)
      rw [this]
      exact List.prefix_refl _
theorem has_pre (h : L <+: M) {w : Nat} (hw : has L w = true) : has M w = true := by
  obtain ⟨x, hx, e⟩ := has_iff.1 hw
  exact has_iff.2 ⟨x, h.subset hx, e⟩
/-- Each search comes to its end. -/
theorem got_from (_hs : s < N) (_hW : W s = false) : ∀ (n : Nat) (L : List (Nat × Int)), Seq N D s W X L → L.length ≤ k → k - L.length ≤ n → ∃ M, Got N D s W X k M := by
  classical
  intro n
  induction n with
  | zero => exact fun L hq hl hn => ⟨L, hq, hl, .inl (by omega)⟩
  | succ n ih =>
    intro L hq hl hn
    by_cases hst : Stuck N D s W X L
    · exact ⟨L, hq, hl, .inr hst⟩
    · by_cases hk : L.length = k
      · exact ⟨L, hq, hl, .inl hk⟩
      · have : ∃ v d, Next N D s W L v d ∧ d ≤ X := by
          refine Classical.byContradiction fun hc => hst (fun v d h1 h2 => hc ⟨v, d, h1, h2⟩)
        obtain ⟨v, d, h1, h2⟩ := this
        exact ih (L ++ [(v, d)]) (.snoc hq h1 h2) (by rw [List.length_append, List.length_singleton]; omega) (by rw [List.length_append, List.length_singleton]; omega)
theorem got_is (hs : s < N) (hW : W s = false) (X : Int) (k : Nat) : ∃ M, Got N D s W X k M := got_from hs hW k [] .nil (Nat.zero_le _) (by simp)
end
theorem ofL_one {v : Nat} (hv : v < 64) : BM.ofL [(v : Int)] = 2 ^ v := by
  rw [← BM.setOf_eq]
  unfold BM.setOf
  rw [List.foldl_cons, List.foldl_nil, Nat.zero_or]
  unfold BM.only
  rw [if_pos (by omega), Int.toNat_natCast]
end WM
/-- Spared's variables: the third vertex, the answer's two cells. -/
structure SQC (w : World) (mp N : Nat) (D : Nat → Nat → Int) (x : Nat) (a : Bool) (c : Int) (A : World) : Prop where
  b0 : Boxed A w.heap.size 3 (.int .i64 (x : Nat))
  b1 : Boxed A (w.heap.size + 1) 4 (.bool a)
  b2 : Boxed A (w.heap.size + 1 + 1) 33 (.int .i64 c)
  x : XMem A mp N D
  bel : Below w.heap.size w A
section
variable {w A A' : World} {mp N x : Nat} {D : Nat → Nat → Int} {a : Bool} {c : Int}
theorem SQC.sz (h : SQC w mp N D x a c A) : w.heap.size + 3 ≤ A.heap.size := by have := h.b2.lt; omega
theorem SQC.below (h : SQC w mp N D x a c A) (hb : Below (w.heap.size + 3) A A') (hmp : mp < w.heap.size) : SQC w mp N D x a c A' :=
  ⟨(hb.block _ (by omega)).trans h.b0, (hb.block _ (by omega)).trans h.b1, (hb.block _ (by omega)).trans h.b2, h.x.below (show mp < w.heap.size + 3 by omega) hb, h.bel.trans (hb.mono (by omega))⟩
theorem SQC.put (h : SQC w mp N D x a c A) (hmp : mp < w.heap.size) (a' : Bool) (c' : Int) : SQC w mp N D x a' c' ((A.setCell ⟨w.heap.size + 1, 0, none⟩ (.bool a')).setCell ⟨w.heap.size + 1 + 1, 0, none⟩ (.int .i64 c')) := by
  have k1 := keeps_set A (w.heap.size + 1) 0 (.bool a')
  have k2 := keeps_set (A.setCell ⟨w.heap.size + 1, 0, none⟩ (.bool a')) (w.heap.size + 1 + 1) 0 (.int .i64 c')
  exact ⟨(h.b0.other (by omega) _).other (by omega) _, (h.b1.set _).other (by omega) _, (h.b2.other (by omega) _).set _, (h.x.kept k1 (by omega)).kept k2 (by omega), (h.bel.setCell (p := ⟨w.heap.size + 1, 0, none⟩) (by show w.heap.size ≤ w.heap.size + 1; omega) _).setCell (p := ⟨w.heap.size + 1 + 1, 0, none⟩) (by show w.heap.size ≤ w.heap.size + 1 + 1; omega) _⟩
theorem lowX {B : Nat} {X X' : Nat → Prop} (hX : ∀ b, b < B → ¬ X b) (hB : B ≤ A.heap.size) (hk : Keeps X A A') (hX' : ∀ b, X' b → X b ∨ A.heap.size ≤ b) : Below B A A' ∧ ∀ b, b < B → ¬ X' b := by
  refine ⟨Keeps.below hk (fun b hb => ?_) hB, fun b hb hx => ?_⟩
  · rcases Nat.lt_or_ge b B with h | h
    · exact absurd hb (hX b h)
    · exact h
  · rcases hX' b hx with h | h
    · exact hX b hb h
    · omega
theorem sqc_new (w : World) {mp N : Nat} {D : Nat → Nat → Int} (hx : XMem w mp N D) (x : Nat) : ∃ W1, W1 = ((w.alloc (.cells #[.int .i64 (x : Nat)] 3)).alloc (.cells #[.bool false] 4)).alloc (.cells #[.int .i64 0] 33) ∧ W1.heap.size = w.heap.size + 3 ∧ SQC w mp N D x false 0 W1 := by
  refine ⟨_, rfl, by simp, ?_⟩
  have hb1 : Below w.heap.size w (((w.alloc (.cells #[.int .i64 (x : Nat)] 3)).alloc (.cells #[.bool false] 4)).alloc (.cells #[.int .i64 0] 33)) := (((Below.refl _ _).alloc (Nat.le_refl _) _).alloc (by simp) _).alloc (by simp; omega) _
  have k1 := Boxed.new (w.alloc (.cells #[.int .i64 (x : Nat)] 3)) 4 (.bool false)
  rw [World.size_alloc] at k1
  have k2 := Boxed.new ((w.alloc (.cells #[.int .i64 (x : Nat)] 3)).alloc (.cells #[.bool false] 4)) 33 (.int .i64 0)
  rw [World.size_alloc, World.size_alloc] at k2
  exact ⟨((Boxed.new w _ _).alloc _).alloc _, k1.alloc _, k2, hx.on hb1, hb1⟩
end
/-- What Spared answers of three unlike vertices: does such a search settle the third one? -/
def spAns (N : Nat) (D : Nat → Nat → Int) (u v x K : Nat) (w : World) (e : Ending) (w' : World) : Prop :=
  ∃ a, e = .returned (.tuple #[.bool a, .int .i64 0]) ∧ (∀ M, WM.Got N D u (WM.outOf (2 ^ v)) (DM.two (D u v) (D v x)) K M → a = WM.has M x) ∧ Below w.heap.size w w'
set_option maxRecDepth 100000 in
theorem spared_out {n : Nat} {w W : World} {mp N u v x K : Nat} {D : Nat → Nat → Int} {a : Bool} {t : Array Value} {E : Nat} (ht : t[10]?.getD undef = .pointer (some ⟨w.heap.size + 1, 0, none⟩)) (ht' : t[11]?.getD undef = .pointer (some ⟨w.heap.size + 1 + 1, 0, none⟩)) (h : SQC w mp N D x a 0 W) (hQ : ∀ M, WM.Got N D u (WM.outOf (2 ^ v)) (DM.two (D u v) (D v x)) K M → a = WM.has M x)
    (hK : W.heap[E]? = some (.deferred (some []))) (hE : w.heap.size + 3 ≤ E) :
    bodyPostM Fence.wide n Try.prog Try.f15 (fun e w' => spAns N D u v x K w e w') Exit.ret { tmps := t, defers := [{ target := .collected E, args := #[] }] } W := by
  refine ⟨by simp, .inl ⟨_, _, rfl, run_takeDeferred hK, ?_⟩⟩
  have k0 := cell_kept h.b1.cell (grownBy_putObj' _ E (.deferred none)) (fun r e => by cases e; exact ⟨_, hK, rfl⟩)
  have k1 := cell_kept h.b2.cell (grownBy_putObj' _ E (.deferred none)) (fun r e => by cases e; exact ⟨_, hK, rfl⟩)
  refine ⟨.tuple #[.bool a, .int .i64 0], ?_, a, rfl, hQ, h.bel.trans (belowK_b (w := w) (Nat.le_refl _) _ E _ _ (by omega) hK rfl rfl)⟩
  simp [results, Try.f15, go_sem, ht, ht', k0, k1]
/-- As Spared's search begins to be gone through. -/
theorem sp_new {w W3 w4 : World} {mp N O u x : Nat} {D : Nat → Nat → Int} {z : Wid} (hmp : mp < w.heap.size) (h : SQC w mp N D x false 0 W3) (hwd : WD w4 W3.heap.size z mp N O (fun _ => none) (fun _ => none) 0 (fun b => W3.heap.size ≤ b ∧ b < w4.heap.size)) (hb : Below W3.heap.size W3 w4) (most settles : Int) :
    SQC w mp N D x false 0 (setW z.q u most settles w4) ∧ Z0 W3.heap.size z mp N O u most settles w4.heap.size (fun b => W3.heap.size ≤ b ∧ b < w4.heap.size + 4) (setW z.q u most settles w4) ∧ (setW z.q u most settles w4).heap.size = w4.heap.size + 4 := by
  obtain ⟨ib, b5, s5⟩ := setW_ib z u most settles w4
  have h3 := h.sz
  have h4 := hb.size
  exact ⟨(h.below (hb.mono h3) hmp).below (b5.mono (by omega)) hmp, ⟨_, hwd.on b5, ib, fun b hb => ⟨⟨hb.1, by omega⟩, by omega⟩, fun b h1 h2 => ⟨by omega, h2⟩⟩, s5⟩
end Go.Proofs.Ytmkpcidgiobpeaa
end

section
/-
  The walk of the program's Spared, of three unlike vertices (layer 13).
-/
namespace Go.Proofs.Ytmkpcidgiobpeaa
open Go.RowKit Go.Shelf
attribute [local go_sem] Oper.semAt_some

set_option maxRecDepth 100000 in
set_option maxHeartbeats 2000000 in
theorem spared_ok {W : World} {mp N u v x : Nat} {D : Nat → Nat → Int} (hx : XMem W mp N D) (hmm : XM.Mesh N D) (hN : N ≤ 24) (hu : u < N) (hv : v < N) (hw : x < N) (e1 : u ≠ v) (e2 : v ≠ x) (e3 : u ≠ x) (settles : Int) :
    Calls Try.prog 15 #[.pointer (some ⟨mp, 0, none⟩), .int .i64 (u : Nat), .int .i64 (v : Nat), .int .i64 (x : Nat), .int .i64 settles] W fun e w' => spAns N D u v x settles.toNat W e w' := by
  obtain ⟨W1, hW1, hs1, hsq1⟩ := sqc_new W hx x
  have hmp := hx.lt
  have hvu := wvertex_any hsq1.x (u : Int)
  have hvv := wvertex_any hsq1.x (v : Int)
  have hvw := wvertex_any hsq1.x (x : Int)
  rw [show GM.vert N (u : Int) = true from by unfold GM.vert; simp [hu]] at hvu
  rw [show GM.vert N (v : Int) = true from by unfold GM.vert; simp [hv]] at hvv
  rw [show GM.vert N (x : Int) = true from by unfold GM.vert; simp [hw]] at hvw
  have e1' : ((u : Int) == (v : Int)) = false := by simp; omega
  have e2' : ((v : Int) == (x : Int)) = false := by simp; omega
  have e3' : ((u : Int) == (x : Int)) = false := by simp; omega
  have c0 := hsq1.b0.cell
  have c0d : W1.drew.cell? ⟨W.heap.size, 0, none⟩ = some (.int .i64 (x : Nat)) := c0
  have c1 := hsq1.b1.cell
  have c2 := hsq1.b2.cell
  obtain ⟨G, hG⟩ : ∃ G : Int → Int → Int, G = XM.atE N D := ⟨_, rfl⟩
  have HD : Hid (G u v = D u v ∧ G v x = D v x) := by rw [hG]; exact ⟨XM.atE_nat hmm u v, XM.atE_nat hmm v x⟩
  have HA : Hid (∀ A, Below W1.heap.size W1 A → ∀ a b : Int, Calls Try.prog 36 #[.pointer (some ⟨mp, 0, none⟩), .int .i64 a, .int .i64 b] A fun e w' => e = .returned (.int .i64 (G a b)) ∧ w' = A) := fun A hA a b => by
    rw [hG]
    exact xat_any (hsq1.x.on hA) hN a b
  clear hG
  have HADD : Hid (∀ (A : World) (n : Nat) (a b : Int), A.cell? ⟨n, 0, none⟩ = some (.int .i64 a) → A.cell? ⟨n, 1, none⟩ = some (.int .i64 b) → Calls Try.prog 35 #[.slice (some ⟨n, 0, none⟩) 2 2] A fun e w' => e = .returned (.int .i64 (DM.two a b)) ∧ w' = A) := fun A n a b h0 h1 => wadd_cells h0 h1
  have HSQ : Hid (SQC W mp N D x false 0 W1 ∧ W1.heap.size = W.heap.size + 3) := ⟨hsq1, hs1⟩
  have HC0 : Hid (∀ A, Below W1.heap.size W1 A → A.cell? ⟨W.heap.size, 0, none⟩ = some (.int .i64 (x : Nat))) := fun A hA => by
    have h : Boxed A W.heap.size 3 (.int .i64 (x : Nat)) := (hA.block _ (by omega)).trans hsq1.b0
    exact h.cell
  clear hx hsq1 hs1
  refine (callsIn_wide (n := 14)).1 ?_
  refine callsIn_of_wp_marks Try.func15 rfl trivial ?_ rfl
  simp only [Try.ntmps15, List.size_toArray, List.length_cons, List.length_nil, Nat.reduceAdd, Nat.reduceSub, Array.replicate_succ, Array.replicate_zero, List.push_toArray, List.append_toArray, List.nil_append, List.cons_append]
  refine wpIn_wide.2 ?_
  go_upto_region 1 with fail
  rw [← hW1]
  clear hW1
  go_wp2_with fail
  refine hvu.mono ?_
  rintro e w2 ⟨rfl, hw2⟩
  rw [hw2]
  clear hvu hw2 w2
  go_wp2_with fail
  refine hvv.mono ?_
  rintro e w2 ⟨rfl, hw2⟩
  rw [hw2]
  clear hvv hw2 w2
  go_wp2_with fail
  refine hvw.mono ?_
  rintro e w2 ⟨rfl, hw2⟩
  rw [hw2]
  clear hvw hw2 w2
  go_upto_region 4 with (go_region_held3 (fun w' => w'.cell? ⟨W.heap.size, 0, none⟩ = some (.int .i64 (x : Nat))) (first | go_keep | exact HC0.out _ ((Below.refl _ _).alloc (Nat.le_refl _) _).drew | exact HC0.out _ ((Below.refl _ _).drew.alloc (Nat.le_refl _) _)) (first
    | (go_at_call 36; refine (HA.out _ (Below.refl _ _).drew _ _).mono ?_; rintro e w8 ⟨rfl, hw8⟩; rw [hw8]; clear hw8 w8)
    | (go_at_call 35; refine (HADD.out _ _ _ _ (by simp; rfl) (by simp; rfl)).mono ?_; rintro e w8 ⟨rfl, hw8⟩; rw [hw8]; clear hw8 w8)))
  have HS2 : Hid (SQC W mp N D x false 0 (W1.alloc (.cells #[.int .i64 (G u v), .int .i64 (G v x)] 3)).drew) := HSQ.out.1.below (((Below.refl _ _).alloc (by rw [HSQ.out.2]; exact Nat.le_refl _) _).drew) hmp
  clear HA HADD HC0 c0 c0d c1 c2 HSQ e1' e2' e3'
  obtain ⟨s1, hs1⟩ : ∃ s1, s1 = W1.heap.size := ⟨_, rfl⟩
  rw [← hs1]
  clear hs1
  generalize (W1.alloc (.cells #[.int .i64 (G u v), .int .i64 (G v x)] 3)).drew = W2 at *
  have hYb := DM.two_bd (G u v) (G v x)
  have HYN : Hid (DM.norm (DM.two (G u v) (G v x)) = DM.two (D u v) (D v x)) := by
    show _ = _
    rw [DM.norm_of hYb.1 hYb.2, HD.out.1, HD.out.2]
  clear HD hYb
  generalize DM.two (G u v) (G v x) = Y at *
  generalize G u v = g1 at *
  generalize G v x = g2 at *
  obtain ⟨O, hO⟩ : ∃ O, O = 2 ^ v := ⟨_, rfl⟩
  have hO64 : O < 18446744073709551616 := by have := pow_small (show v ≤ 24 by omega); omega
  have HO : Hid (O = 2 ^ v) := hO
  have HOU : Hid (WM.outOf O u = false) := by
    show _ = _
    rw [hO, WM.outOf_two (show v < 64 by omega)]
    exact decide_eq_false e1
  have hof := of13_any _ [(v : Int)] (W2.alloc (.cells #[.int .i64 (v : Nat)] 3)) ⟨some ⟨W2.heap.size, 0, none⟩, 1, rfl, rowAt_lit1 .i64 W2 (v : Int) 3⟩
  rw [WM.ofL_one (show v < 64 by omega), ← hO] at hof
  have hsq3 : SQC W mp N D x false 0 (W2.alloc (.cells #[.int .i64 (v : Nat)] 3)) := HS2.out.below ((Below.refl _ _).alloc HS2.out.sz _) hmp
  have hnew := newSearch_any hsq3.x hN O
  have HS3 : Hid (SQC W mp N D x false 0 (W2.alloc (.cells #[.int .i64 (v : Nat)] 3))) := hsq3
  clear hO hsq3 HS2
  go_wp2_with fail
  refine hof.mono ?_
  rintro e w3 ⟨rfl, hw3⟩
  rw [hw3]
  clear hof hw3 w3
  obtain ⟨s2, hs2⟩ : ∃ s2, s2 = W2.heap.size := ⟨_, rfl⟩
  rw [← hs2]
  clear hs2
  generalize W2.alloc (.cells #[.int .i64 (v : Nat)] 3) = W3 at *
  go_wp2_with fail
  refine hnew.mono ?_
  rintro e w4 ⟨z, rfl, hwd, hb4⟩
  obtain ⟨hq5, hz5, hs5⟩ := sp_new (u := u) hmp HS3.out hwd hb4 Y settles
  have hset := settled_any z.q u Y settles w4
  have HZ : Hid (SQC W mp N D x false 0 (setW z.q u Y settles w4) ∧ Z0 W3.heap.size z mp N O u Y settles w4.heap.size (fun b => W3.heap.size ≤ b ∧ b < w4.heap.size + 4) (setW z.q u Y settles w4) ∧ (setW z.q u Y settles w4).heap.size = w4.heap.size + 4 ∧ W.heap.size + 3 ≤ W3.heap.size ∧ W3.heap.size ≤ w4.heap.size) := ⟨hq5, hz5, hs5, HS3.out.sz, hb4.size⟩
  clear hnew hwd hb4 hq5 hz5 hs5 HS3
  go_wp2_with fail
  refine hset.mono ?_
  rintro e w5 ⟨rfl, hw5⟩
  rw [hw5]
  clear hw5 w5 hset
  generalize setW z.q u Y settles w4 = W5 at *
  unfold setF
  generalize w4.heap.size = c at *
  generalize W3.heap.size = B at *
  go_wp2_with fail
  have hgo := settled_goes 13 (by decide) B z mp N O D u Y settles c HZ.out.2.2.2.2 (by have := HZ.out.2.2.2.1; omega) hmm hO64 hu HOU.out
  rw [HYN.out] at hgo
  refine (wpIn_wide (n := 14)).1 (range_goesS (by decide) (gf := 45) (lb := #[.pointer (some ⟨c, 0, none⟩), .pointer (some ⟨c + 1, 0, none⟩), .pointer (some ⟨c + 1 + 1 + 1, 0, none⟩), .pointer (some ⟨c + 1 + 1, 0, none⟩)]) rfl (enters_of Try.func45 (by kernel_rfl) rfl) hgo (fun _ => rfl)
    (fun X A A' h hr => h.rest hr) (fun L X A A' h hr => h.rest hr)
    (fun pre X A => SQC W mp N D x false 0 A ∧ (∀ b, b < W.heap.size + 3 → ¬ X b) ∧ WM.has pre x = false)
    (fun cd pre X A => cd = .ret ∧ SQC W mp N D x true 0 A ∧ (∀ b, b < W.heap.size + 3 → ¬ X b) ∧ WM.has pre x = true)
    (fun pre X X' A A' h hk hX => by
      obtain ⟨k1, k2⟩ := lowX h.2.1 h.1.sz hk hX
      exact ⟨h.1.below k1 hmp, k2, h.2.2⟩)
    (fun cd pre X X' A A' h hk hX => by
      obtain ⟨k1, k2⟩ := lowX h.2.2.1 h.2.1.sz hk hX
      exact ⟨h.1, h.2.1.below k1 hmp, k2, h.2.2.2⟩)
    (fun pre X A h => h.1.x)
    (fun b => B ≤ b ∧ b < c + 4) (fun b hb => by have := HZ.out.2.2.1; omega) ⟨HZ.out.1, fun b hb hx => by have := HZ.out.2.2.2.1; omega, rfl⟩ HZ.out.2.1
    (fun y => { tmps := #[.pointer (some ⟨mp, 0, none⟩), .int .i64 (u : Nat), .int .i64 (v : Nat), .int .i64 (x : Nat), .int .i64 settles, undef, undef, undef, .pointer (some ⟨W.heap.size, 0, none⟩), undef, .pointer (some ⟨W.heap.size + 1, 0, none⟩), .pointer (some ⟨W.heap.size + 1 + 1, 0, none⟩), .int .i64 Y, .int .i64 (y.1 : Nat), .pointer (some ⟨mp, 0, none⟩), .int .i64 (u : Nat), .bool true, .bool false, .bool false, .pointer (some ⟨mp, 0, none⟩), .int .i64 (v : Nat), .bool true, .bool false, .bool false, .bool false, .pointer (some ⟨mp, 0, none⟩), .int .i64 (x : Nat), .bool true, .bool false, .bool false, .bool false, .int .i64 (u : Nat), .int .i64 (v : Nat), .bool false, .bool false, .bool false, .int .i64 (v : Nat), .int .i64 (x : Nat), .bool false, .bool false, .bool false, .int .i64 (u : Nat), .int .i64 (x : Nat), .bool false, .bool false, .pointer (some ⟨mp, 0, none⟩), .int .i64 (u : Nat), .int .i64 (v : Nat), .int .i64 g1, .pointer (some ⟨mp, 0, none⟩), .int .i64 (v : Nat), .int .i64 (x : Nat), .int .i64 g2, .slice (some ⟨s1, 0, none⟩) 2 2, .int .i64 Y, .pointer (some ⟨mp, 0, none⟩), .int .i64 (v : Nat), .slice (some ⟨s2, 0, none⟩) 1 1, .int .u64 (O : Nat), .pointer (some ⟨z.q, 0, none⟩), .int .i64 (u : Nat), .int .i64 Y, .int .i64 settles, .func (.func 45) #[] #[.pointer (some ⟨c, 0, none⟩), .pointer (some ⟨c + 1, 0, none⟩), .pointer (some ⟨c + 1 + 1 + 1, 0, none⟩), .pointer (some ⟨c + 1 + 1, 0, none⟩)], .int .i64 (y.1 : Nat), undef, undef, undef], defers := [] })
    ?assign ?body ?done ?stop)
  case assign =>
    rintro l ⟨y, d⟩ A K hK
    simp only [setV]
    gi_wp2
    exact hK
  case body =>
    rintro l pre ⟨y, d⟩ X A ⟨hSQ, hX, hno⟩ hZ hA hXb hn0 hn1
    have c0 := hSQ.b0.cell
    have c1 := hSQ.b1.cell
    have f1 := hSQ.b1.frozen
    have c2 := hSQ.b2.cell
    have f2 := hSQ.b2.frozen
    by_cases hyx : y = x
    · have hyx' : ((y : Int) == (x : Int)) = true := by simp [hyx]
      have HE : Hid (Rest (fun b => X b ∨ b = W5.heap.size ∨ b = W5.heap.size + 1) A ((A.setCell ⟨W.heap.size + 1, 0, none⟩ (.bool true)).setCell ⟨W.heap.size + 1 + 1, 0, none⟩ (.int .i64 0)) ∧ SQC W mp N D x true 0 ((A.setCell ⟨W.heap.size + 1, 0, none⟩ (.bool true)).setCell ⟨W.heap.size + 1 + 1, 0, none⟩ (.int .i64 0)) ∧ (∀ b, b < W.heap.size + 3 → ¬ (X b ∨ b = W5.heap.size ∨ b = W5.heap.size + 1)) ∧ WM.has (pre ++ [(y, d)]) x = true) :=
        ⟨((Keeps.refl _ A).setCell (p := ⟨W.heap.size + 1, 0, none⟩) (.inl (fun h => hX (W.heap.size + 1) (by omega) h)) _).setCell (p := ⟨W.heap.size + 1 + 1, 0, none⟩) (.inl (fun h => hX (W.heap.size + 1 + 1) (by omega) h)) _, hSQ.put hmp true 0, hX, by rw [WM.has_snoc]; simp [hyx]⟩
      clear hSQ hX hno hZ hA hXb hn0 hn1 hgo HZ hyx
      gi_wp2_with fail
      exact ⟨HE.out.1, rfl, HE.out.2⟩
    · have hyx' : ((y : Int) == (x : Int)) = false := by simp; omega
      have HE : Hid (SQC W mp N D x false 0 A ∧ (∀ b, b < W.heap.size + 3 → ¬ (X b ∨ b = W5.heap.size ∨ b = W5.heap.size + 1)) ∧ WM.has (pre ++ [(y, d)]) x = false) := ⟨hSQ, hX, by rw [WM.has_snoc, hno]; simp [hyx]⟩
      clear hSQ hX hno hZ hA hXb hn0 hn1 hgo HZ hyx c1 f1 c2 f2
      gi_wp2_with fail
      exact ⟨Keeps.refl _ _, HE.out⟩
  case done =>
    rintro L X A hgot ⟨hSQ, hX, hno⟩ hZ hK
    have HE : Hid (SQC W mp N D x false 0 ((A.setCell ⟨W.heap.size + 1, 0, none⟩ (.bool false)).setCell ⟨W.heap.size + 1 + 1, 0, none⟩ (.int .i64 0)) ∧ ((A.setCell ⟨W.heap.size + 1, 0, none⟩ (.bool false)).setCell ⟨W.heap.size + 1 + 1, 0, none⟩ (.int .i64 0)).heap[W5.heap.size]? = some (.deferred (some [])) ∧ W.heap.size + 3 ≤ W5.heap.size) := by
      have h1 := HZ.out.2.2.1
      have h2 := HZ.out.2.2.2
      refine ⟨hSQ.put hmp false 0, ?_, by omega⟩
      rw [Below.heap_setCell _ _ _ _ (by show W5.heap.size ≠ W.heap.size + 1 + 1; omega), Below.heap_setCell _ _ _ _ (by show W5.heap.size ≠ W.heap.size + 1; omega)]
      exact hK
    have HQ : Hid (∀ M, WM.Got N D u (WM.outOf (2 ^ v)) (DM.two (D u v) (D v x)) settles.toNat M → false = WM.has M x) := fun M hM => by
      rw [HO.out] at hgot
      rw [← hgot.one hM, hno]
    have c1 := hSQ.b1.cell
    have f1 := hSQ.b1.frozen
    have c2 := hSQ.b2.cell
    have f2 := hSQ.b2.frozen
    clear hgot hSQ hX hno hZ hK hgo HZ hmm
    go_wp2_with fail
    exact spared_out rfl rfl HE.out.1 HQ.out HE.out.2.1 HE.out.2.2
  case stop =>
    rintro cd pre X A ⟨rfl, hSQ, hX, hyes⟩ ⟨k, hm, T, F, hwd, hnt, htt, hsq, hlen, hF⟩ hK
    have HQ : ∀ M, WM.Got N D u (WM.outOf (2 ^ v)) (DM.two (D u v) (D v x)) settles.toNat M → true = WM.has M x := fun M hM => by
      rw [HO.out] at hsq
      rw [WM.has_pre (hsq.in_got hlen hM) hyes]
    have hE : W.heap.size + 3 ≤ W5.heap.size := by have h1 := HZ.out.2.2.1; have h2 := HZ.out.2.2.2; omega
    clear hgo HZ hwd hnt htt hsq hlen hF
    gi_wp2
    exact spared_out rfl rfl hSQ HQ hK hE
end Go.Proofs.Ytmkpcidgiobpeaa
end
