/-
  What the law's goes keeps in memory while it goes through arcs' numbers.
-/
import Derived.Test.YthoihkkabgedgaaGraphEndBase
namespace Go.Proofs.Ythoihkkabgedgaa
open Go.RowKit Go.Shelf

/-- The boxes of goes: the list, how many, the answer; the iterator's own three, from block b on. -/
structure Fix (w : World) (lv mv : Value) (p : Nat) (v : Int) (F b : Nat) (W : World) : Prop where
  bl : Boxed W w.heap.size 44 lv
  bm : Boxed W (w.heap.size + 1) 3 mv
  br : Boxed W (w.heap.size + 1 + 1) 4 (.bool false)
  bv : Boxed W b 3 (.int .i64 v)
  bp : Boxed W (b + 1) 24 (.pointer (some ⟨p, 0, none⟩))
  bf : Boxed W (b + 1 + 1) 78 (.func (.func F) #[] #[.pointer (some ⟨b, 0, none⟩)])
  bel : Below w.heap.size w W
theorem Fix.below {w W W' : World} {lv mv : Value} {p : Nat} {v : Int} {F b n : Nat} (h : Fix w lv mv p v F b W) (hb : Below n W W') (hw : w.heap.size + 3 ≤ n) (hn : b + 3 ≤ n) : Fix w lv mv p v F b W' :=
  ⟨(hb.block _ (by omega)).trans h.bl, (hb.block _ (by omega)).trans h.bm, (hb.block _ (by omega)).trans h.br, (hb.block _ (by omega)).trans h.bv, (hb.block _ (by omega)).trans h.bp, (hb.block _ (by omega)).trans h.bf, h.bel.trans (hb.mono (by omega))⟩
theorem Fix.count {w W : World} {lv mv : Value} {p : Nat} {v : Int} {F b : Nat} (h : Fix w lv mv p v F b W) (hb : w.heap.size + 4 ≤ b) (u : Value) : Fix w lv mv p v F b (W.setCell ⟨w.heap.size + 1 + 1 + 1, 0, none⟩ u) :=
  ⟨h.bl.other (by omega) _, h.bm.other (by omega) _, h.br.other (by omega) _, h.bv.other (by omega) _, h.bp.other (by omega) _, h.bf.other (by omega) _, h.bel.setCell (p := ⟨w.heap.size + 1 + 1 + 1, 0, none⟩) (by show w.heap.size ≤ w.heap.size + 1 + 1 + 1; omega) _⟩
/-- The three blocks of an iterator, laid behind others. -/
theorem iter_new (W : World) (p : Nat) (v : Int) (F : Nat) : ∃ W', W' = ((W.alloc (.cells #[.int .i64 v] 3)).alloc (.cells #[.pointer (some ⟨p, 0, none⟩)] 24)).alloc (.cells #[.func (.func F) #[] #[.pointer (some ⟨W.heap.size, 0, none⟩)]] 78) ∧
    Boxed W' W.heap.size 3 (.int .i64 v) ∧ Boxed W' (W.heap.size + 1) 24 (.pointer (some ⟨p, 0, none⟩)) ∧ Boxed W' (W.heap.size + 1 + 1) 78 (.func (.func F) #[] #[.pointer (some ⟨W.heap.size, 0, none⟩)]) ∧ Below W.heap.size W W' ∧ W'.heap.size = W.heap.size + 3 := by
  refine ⟨_, rfl, ((Boxed.new W _ _).alloc _).alloc _, ?_, ?_, (((Below.refl _ _).alloc (Nat.le_refl _) _).alloc (by simp) _).alloc (by simp; omega) _, by simp⟩
  · have := (Boxed.new (W.alloc (.cells #[.int .i64 v] 3)) 24 (.pointer (some ⟨p, 0, none⟩))).alloc (.cells #[.func (.func F) #[] #[.pointer (some ⟨W.heap.size, 0, none⟩)]] 78)
    rwa [World.size_alloc] at this
  · have := Boxed.new ((W.alloc (.cells #[.int .i64 v] 3)).alloc (.cells #[.pointer (some ⟨p, 0, none⟩)] 24)) 78 (.func (.func F) #[] #[.pointer (some ⟨W.heap.size, 0, none⟩)])
    simpa using this
/-- goes' own four blocks. -/
theorem four_new (w : World) (lv mv : Value) : ∃ W, W = (((w.alloc (.cells #[lv] 44)).alloc (.cells #[mv] 3)).alloc (.cells #[.bool false] 4)).alloc (.cells #[.int .i64 0] 3) ∧
    Boxed W w.heap.size 44 lv ∧ Boxed W (w.heap.size + 1) 3 mv ∧ Boxed W (w.heap.size + 1 + 1) 4 (.bool false) ∧ Boxed W (w.heap.size + 1 + 1 + 1) 3 (.int .i64 0) ∧ Below w.heap.size w W ∧ W.heap.size = w.heap.size + 4 := by
  refine ⟨_, rfl, (((Boxed.new w _ _).alloc _).alloc _).alloc _, ?_, ?_, ?_, ((((Below.refl _ _).alloc (Nat.le_refl _) _).alloc (by simp) _).alloc (by simp; omega) _).alloc (by simp; omega) _, by simp⟩
  · have := ((Boxed.new (w.alloc (.cells #[lv] 44)) 3 mv).alloc (.cells #[.bool false] 4)).alloc (.cells #[.int .i64 0] 3)
    rwa [World.size_alloc] at this
  · have := (Boxed.new ((w.alloc (.cells #[lv] 44)).alloc (.cells #[mv] 3)) 4 (.bool false)).alloc (.cells #[.int .i64 0] 3)
    simpa using this
  · have := Boxed.new (((w.alloc (.cells #[lv] 44)).alloc (.cells #[mv] 3)).alloc (.cells #[.bool false] 4)) 3 (.int .i64 0)
    simpa using this
/-- Both. -/
theorem go_fix (w : World) (lv mv : Value) (p : Nat) (v : Int) (F : Nat) (W : World)
    (hW : W = ((((((w.alloc (.cells #[lv] 44)).alloc (.cells #[mv] 3)).alloc (.cells #[.bool false] 4)).alloc (.cells #[.int .i64 0] 3)).alloc (.cells #[.int .i64 v] 3)).alloc (.cells #[.pointer (some ⟨p, 0, none⟩)] 24)).alloc (.cells #[.func (.func F) #[] #[.pointer (some ⟨((((w.alloc (.cells #[lv] 44)).alloc (.cells #[mv] 3)).alloc (.cells #[.bool false] 4)).alloc (.cells #[.int .i64 0] 3)).heap.size, 0, none⟩)]] 78)) :
    Fix w lv mv p v F (w.heap.size + 4) W ∧ Boxed W (w.heap.size + 1 + 1 + 1) 3 (.int .i64 0) ∧ W.heap.size = w.heap.size + 7 := by
  obtain ⟨W1, e1, b1, b2, b3, b4, l1, s1⟩ := four_new w lv mv
  rw [← e1] at hW
  obtain ⟨W2, e2, c1, c2, c3, l2, s2⟩ := iter_new W1 p v F
  rw [← e2] at hW
  subst hW
  rw [s1] at c1 c2 c3
  exact ⟨⟨(l2.block _ (by omega)).trans b1, (l2.block _ (by omega)).trans b2, (l2.block _ (by omega)).trans b3, c1, c2, c3, l1.trans (l2.mono (by omega))⟩, (l2.block _ (by omega)).trans b4, by omega⟩
/-- The second iterator behind the first one's blocks. -/
theorem go_fix2 {w W W' : World} {lv mv : Value} {p : Nat} {v : Int} {F F' : Nat} (h : Fix w lv mv p v F (w.heap.size + 4) W) (hk : Boxed W (w.heap.size + 1 + 1 + 1) 3 (.int .i64 0)) (hs : W.heap.size = w.heap.size + 7)
    (hW : W' = ((W.alloc (.cells #[.int .i64 v] 3)).alloc (.cells #[.pointer (some ⟨p, 0, none⟩)] 24)).alloc (.cells #[.func (.func F') #[] #[.pointer (some ⟨W.heap.size, 0, none⟩)]] 78)) :
    Fix w lv mv p v F' (w.heap.size + 7) W' ∧ Boxed W' (w.heap.size + 1 + 1 + 1) 3 (.int .i64 0) ∧ W'.heap.size = w.heap.size + 10 := by
  obtain ⟨W2, e2, c1, c2, c3, l2, s2⟩ := iter_new W p v F'
  rw [← e2] at hW
  subst hW
  rw [hs] at c1 c2 c3
  exact ⟨⟨(l2.block _ (by omega)).trans h.bl, (l2.block _ (by omega)).trans h.bm, (l2.block _ (by omega)).trans h.br, c1, c2, c3, h.bel.trans (l2.mono (by omega))⟩, (l2.block _ (by omega)).trans hk, by omega⟩

set_option maxRecDepth 100000 in
/-- The way out: the answer lies in its cell; nothing is deferred. -/
theorem goes_out {n : Nat} {w W : World} {t : Array Value} {D : Nat} {b : Bool} (hb : b = true) (ht : t[10]?.getD undef = .pointer (some ⟨w.heap.size + 1 + 1, 0, none⟩)) (hcr : W.cell? ⟨w.heap.size + 1 + 1, 0, none⟩ = some (.bool false))
    (hK : W.heap[D]? = some (.deferred (some []))) (hB : Below w.heap.size w W) (hD : w.heap.size ≤ D) :
    bodyPostM Fence.wide n Try.prog Try.f18 (fun e w' => e = .returned (.bool true) ∧ Below w.heap.size w w') Exit.ret { tmps := t, defers := [{ target := .collected D, args := #[] }] } (W.setCell ⟨w.heap.size + 1 + 1, 0, none⟩ (.bool b)) := by
  subst hb
  have hK' := (KeepsOthers.setCell W ⟨w.heap.size + 1 + 1, 0, none⟩ (.bool true)).same D _ hK rfl
  refine ⟨by simp, .inl ⟨_, _, rfl, run_takeDeferred hK', ?_⟩⟩
  have hc5 := cell_kept (World.cell?_setCell_same' W ⟨w.heap.size + 1 + 1, 0, none⟩ (.bool true) (by rw [hcr]; rfl)) (grownBy_putObj' _ D (.deferred none)) (fun r e => by cases e; exact ⟨_, hK', rfl⟩)
  refine ⟨.bool true, ?_, rfl, (hB.setCell (p := ⟨w.heap.size + 1 + 1, 0, none⟩) (by show w.heap.size ≤ w.heap.size + 1 + 1; omega) _).trans (belowK_b (w := w) (Nat.le_refl _) _ D _ _ hD hK' rfl rfl)⟩
  simp [results, Try.f18, go_sem, hc5, ht]
theorem pre_snoc {α : Type} {Ls pre : List α} (hp : pre <+: Ls) (hl : pre.length < Ls.length) (x : α) : pre ++ [x] <+: Ls ↔ Ls[pre.length] = x := by
  obtain ⟨t, rfl⟩ := hp
  cases t with
  | nil => simp at hl
  | cons y t =>
    rw [List.prefix_append_right_inj]
    simp
    exact eq_comm
end Go.Proofs.Ythoihkkabgedgaa
