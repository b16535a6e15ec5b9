/-
  What the program's Detours keeps in memory while it goes through a vertex's steps.
-/
import Derived.Test.YtkcfepppnclniaaGreatDoorMmGraphIds
import Derived.Test.YtkcfepppnclniaaGreatDoorMmBitsMath
namespace Go.Proofs.YtkcfepppnclniaaGreatDoor
open Go.RowKit

theorem addTwo_any {W : World} {n : Nat} {a b : Int} (h0 : W.cell? ⟨n, 0, none⟩ = some (.int .i64 a)) (h1 : W.cell? ⟨n, 1, none⟩ = some (.int .i64 b)) :
    Calls Tryz.prog 74 #[.slice (some ⟨n, 0, none⟩) 2 2] W fun e w' => e = .returned (.int .i64 (DM.two a b)) ∧ w' = W := by
  have := add_row (.slice (some ⟨n, 0, none⟩) 2 2) [a, b] W ⟨some ⟨n, 0, none⟩, 2, rfl, Nat.le_refl _, by unfold maxLen; decide, fun h => (by cases h), fun _ => ⟨n, 0, rfl, fun i hi => by
    match i, hi with
    | 0, _ => simpa using h0
    | 1, _ => simpa using h1⟩⟩
  rwa [show DM.addl [a, b] = DM.two a b from (DM.addl2 a b).trans (DM.two_plus a b).symm] at this

/-- Between the rounds: the boxes of the mesh, the vertex and the list; the list; what In reads. Whatever is laid later lies from b0 + 2 on. -/
structure DQ (w : World) (p N : Nat) (D : Nat → Nat → Int) (v : Int) (va : Value) (ds : List XM.Det) (A : World) : Prop where
  bm : Boxed A w.heap.size 45 (.pointer (some ⟨p, 0, none⟩))
  bv : Boxed A (w.heap.size + 1) 3 (.int .i64 v)
  bd : Boxed A (w.heap.size + 1 + 1) 89 va
  own : OwnL A (w.heap.size + 9) va v ds
  rd : Reads 65 p N D v (w.heap.size + 3) A
  bel : Below w.heap.size w A
section
variable {w : World} {p N : Nat} {D : Nat → Nat → Int} {v : Int} {va : Value} {ds : List XM.Det} {A A' : World}
theorem DQ.kept {K : Nat → Prop} (h : DQ w p N D v va ds A) (hp : p < w.heap.size) (hk : Keeps K A A') (hK : ∀ b, K b → w.heap.size + 7 ≤ b) (hr : ∀ g, va.ownBlock = some g → ¬ K g) : DQ w p N D v va ds A' :=
  ⟨(hk.block _ h.bm.lt (fun e => by have := hK _ e; omega)).trans h.bm, (hk.block _ h.bv.lt (fun e => by have := hK _ e; omega)).trans h.bv, (hk.block _ h.bd.lt (fun e => by have := hK _ e; omega)).trans h.bd, h.own.kept hk hr,
    h.rd.kept hk (fun e => by have := hK _ e; omega) (fun b _ h2 e => by have := hK _ e; omega), h.bel.trans (hk.below (fun b hb => by have := hK _ hb; omega) h.bel.size)⟩
theorem DQ.on (h : DQ w p N D v va ds A) (hb : Below A.heap.size A A') : DQ w p N D v va ds A' :=
  ⟨(hb.block _ h.bm.lt).trans h.bm, (hb.block _ h.bv.lt).trans h.bv, (hb.block _ h.bd.lt).trans h.bd, h.own.on hb, h.rd.below hb, h.bel.trans (hb.mono h.bel.size)⟩
/-- The list has grown, and is laid into its box; what neither is the box nor the list's row stays. -/
theorem DQ.app (h : DQ w p N D v va ds A) (hp : p < w.heap.size) {W2 : World} (hg : A.grownBy W2 va.ownBlock) {v' : Value} {ds' : List XM.Det} (ho : OwnL W2 (w.heap.size + 9) v' v ds') :
    Boxed W2 (w.heap.size + 1 + 1) 89 va ∧ DQ w p N D v v' ds' (W2.setCell ⟨w.heap.size + 1 + 1, 0, none⟩ v') ∧ Keeps (fun b => b = w.heap.size + 1 + 1 ∨ va.ownBlock = some b) A (W2.setCell ⟨w.heap.size + 1 + 1, 0, none⟩ v') := by
  have hk : Keeps (fun b => va.ownBlock = some b) A W2 := (Keeps.refl _ _).grown hg (fun k hk => .inl hk)
  have hlo : ∀ b, va.ownBlock = some b → w.heap.size + 9 ≤ b := fun b hb => (h.own.block b hb).1
  have hb2 : Boxed W2 (w.heap.size + 1 + 1) 89 va := (hk.block _ h.bd.lt (fun e => by have := hlo _ e; omega)).trans h.bd
  have hk2 : Keeps (fun b => b = w.heap.size + 1 + 1) W2 (W2.setCell ⟨w.heap.size + 1 + 1, 0, none⟩ v') := keeps_set _ _ _ _
  have hka : Keeps (fun b => b = w.heap.size + 1 + 1 ∨ va.ownBlock = some b) A (W2.setCell ⟨w.heap.size + 1 + 1, 0, none⟩ v') := (hk.mono (fun _ hb => .inr hb)).trans hk2 (fun b hb => .inl (.inl hb))
  have no : ∀ b, b ≠ w.heap.size + 1 + 1 → b < w.heap.size + 9 → ¬ (b = w.heap.size + 1 + 1 ∨ va.ownBlock = some b) := fun b h1 h2 e => by
    rcases e with e | e
    · exact h1 e
    · have := hlo b e; omega
  refine ⟨hb2, ⟨(hka.block _ h.bm.lt (no _ (by omega) (by omega))).trans h.bm, (hka.block _ h.bv.lt (no _ (by omega) (by omega))).trans h.bv, hb2.set v', ho.kept hk2 (fun g hg e => by have := (ho.block g hg).1; omega),
    h.rd.kept hka (no _ (by omega) (by omega)) (fun b h1 h2 => no b (by omega) (by omega)), ?_⟩, hka⟩
  exact h.bel.trans (hka.below (fun b hb => by
    rcases hb with rfl | hb
    · omega
    · have := hlo b hb; omega) h.bel.size)
end
/-- Between the rounds of the inner loop: the outer one's, behind the steps that came; the boxes of u and of how long the step from it is; what Out reads. -/
structure DI (w : World) (p N : Nat) (D : Nat → Nat → Int) (v : Int) (u : Nat) (too : Int) (bu : Nat) (W1 : World) (va : Value) (ds : List XM.Det) (A : World) : Prop where
  q : DQ w p N D v va ds A
  xu : Boxed A bu 3 (.int .i64 (u : Nat))
  xt : Boxed A (bu + 1) 3 (.int .i64 too)
  rd : Reads 63 p N D v (bu + 2) A
  ne : ∀ g, va.ownBlock = some g → g ≠ bu + 6
  bk : ∀ b, w.heap.size + 7 ≤ b → b < w.heap.size + 9 → A.heap[b]? = W1.heap[b]?
section
variable {w W1 : World} {p N : Nat} {D : Nat → Nat → Int} {v : Int} {u : Nat} {too : Int} {bu : Nat} {va : Value} {ds : List XM.Det} {A A' : World}
theorem DI.on (h : DI w p N D v u too bu W1 va ds A) (hb : Below A.heap.size A A') (hu : w.heap.size + 9 ≤ bu) : DI w p N D v u too bu W1 va ds A' :=
  ⟨h.q.on hb, (hb.block _ h.xu.lt).trans h.xu, (hb.block _ h.xt.lt).trans h.xt, h.rd.below hb, h.ne, fun b h1 h2 => (hb.block _ (by have := h.xu.lt; omega)).trans (h.bk b h1 h2)⟩
theorem DI.kept (h : DI w p N D v u too bu W1 va ds A) (hp : p < w.heap.size) (hu : w.heap.size + 9 ≤ bu) (hk : Keeps (fun b => b = bu + 6) A A') : DI w p N D v u too bu W1 va ds A' :=
  ⟨h.q.kept hp hk (fun b hb => by omega) (fun g hg e => h.ne g hg e), (hk.block _ h.xu.lt (by omega)).trans h.xu, (hk.block _ h.xt.lt (by omega)).trans h.xt, h.rd.kept hk (by omega) (fun b _ h2 => by omega), h.ne, fun b h1 h2 => (hk.block _ (by have := h.xu.lt; omega) (by omega)).trans (h.bk b h1 h2)⟩
/-- The list grows: nothing of the loops' lies in its row. -/
theorem DI.app (h : DI w p N D v u too bu W1 va ds A) (hp : p < w.heap.size) (hu : w.heap.size + 9 ≤ bu) {r : Loop} (hr : A.heap[bu + 6]? = some (.loop r)) {W2 : World} (hg : A.grownBy W2 va.ownBlock) {v' : Value} {ds' : List XM.Det} (ho : OwnL W2 (w.heap.size + 9) v' v ds') :
    Boxed W2 (w.heap.size + 1 + 1) 89 va ∧ DI w p N D v u too bu W1 v' ds' (W2.setCell ⟨w.heap.size + 1 + 1, 0, none⟩ v') ∧ (W2.setCell ⟨w.heap.size + 1 + 1, 0, none⟩ v').heap[bu + 6]? = A.heap[bu + 6]? := by
  obtain ⟨h1, h2, h3⟩ := h.q.app hp hg ho
  have no : ∀ (b : Nat) (t : TypeId) (x : Value), Boxed A b t x → t ≠ 94 → w.heap.size + 1 + 1 ≠ b → ¬ (b = w.heap.size + 1 + 1 ∨ va.ownBlock = some b) := fun b t x hb ht hne e => by
    rcases e with e | e
    · exact hne e.symm
    · exact hb.not_row ht h.q.own e.symm
  have n1 := no _ _ _ h.xu (by decide) (by omega)
  have n2 := no _ _ _ h.xt (by decide) (by omega)
  have m1 := no _ _ _ h.rd.m (by decide) (by omega)
  have m2 := no _ _ _ h.rd.v (by decide) (by omega)
  have m3 := no _ _ _ h.rd.mm (by decide) (by omega)
  have m4 := no _ _ _ h.rd.f (by decide) (by omega)
  have hlr : bu + 6 < A.heap.size := (Array.getElem?_eq_some_iff.1 hr).1
  have h6 : (W2.setCell ⟨w.heap.size + 1 + 1, 0, none⟩ v').heap[bu + 6]? = A.heap[bu + 6]? := h3.block _ hlr (fun e => by
    rcases e with e | e
    · omega
    · exact h.ne _ e rfl)
  refine ⟨h1, ⟨h2, (h3.block _ h.xu.lt n1).trans h.xu, (h3.block _ h.xt.lt n2).trans h.xt, h.rd.kept h3 (fun e => ?_) (fun b hb1 hb2 => ?_), fun g hg2 e => ?_, fun b hb1 hb2 => (h3.block _ (by have := h.xu.lt; omega) (fun e => ?_)).trans (h.bk b hb1 hb2)⟩, h6⟩
  · rcases e with e | e
    · omega
    · have := (h.q.own.block _ e).1; omega
  · have : b = bu + 2 ∨ b = bu + 2 + 1 ∨ b = bu + 2 + 1 + 1 ∨ b = bu + 2 + 1 + 1 + 1 := by omega
    rcases this with rfl | rfl | rfl | rfl
    · exact m1
    · exact m2
    · exact m3
    · exact m4
  · obtain ⟨c, t, hc⟩ : ∃ c t, (W2.setCell ⟨w.heap.size + 1 + 1, 0, none⟩ v').heap[g]? = some (.cells c t (0, 0)) := by
      rcases h2.own.2 with ⟨rfl, _⟩ | ⟨g', cap, cur, rfl, _, hg', _⟩
      · cases hg2
      · cases hg2
        exact ⟨_, _, hg'⟩
    rw [e, h6, hr] at hc
    cases hc
  · rcases e with e | e
    · omega
    · have := (h.q.own.block _ e).1; omega
end
end Go.Proofs.YtkcfepppnclniaaGreatDoor
