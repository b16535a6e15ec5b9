/-
  RangeK's law where what a loop keeps lies ahead of the loop alone: the interface of Range3's.
-/
import Derived.Test.YtjnihkfnnokmdaaRangeK
namespace Go.Proofs.Ytjnihkfnnokmdaa
open Go.RowKit Go.Shelf

/-- What lies ahead of block B, where the other side turns nothing there. -/
def Low {α : Type} (B : Nat) (I : List α → World → Prop) : List α → (Nat → Prop) → World → Prop := fun s X A => (∀ b, b < B → ¬ X b) ∧ B ≤ A.heap.size ∧ I s A
theorem low_apart {α : Type} {B : Nat} {I : List α → World → Prop} (hI : ∀ s A A', I s A → Below B A A' → I s A') : Apart (Low B I) := by
  rintro s X X' A A' ⟨h1, h2, h3⟩ hk hX
  refine ⟨fun b hb hx => ?_, Nat.le_trans h2 hk.size, hI _ _ _ h3 (Keeps.below hk (fun b hb => ?_) h2)⟩
  · rcases hX b hx with h | h
    · exact h1 b hb h
    · omega
  · rcases Nat.lt_or_ge b B with h | h
    · exact absurd hb (h1 b h)
    · exact h

theorem range_low {α : Type} {P : Program} {n : Nat} (h1 : 1 ≤ n) {g : Operand} {ps : Array Tmp} {assign body : Code} {Q : Exit → Act → World → Prop} {a : Act} {w : World}
    {gf : Nat} {lb : Array Value} (hg : a.eval g = .func (.func gf) #[] lb) (eg : ∀ args w, (callFunc gf args).run P w = .ok (.enter gf args) w)
    {encs : α → Array Value} {S Sp : List α → Prop} {N : Nat} {R : World → Prop} (hseq : GoesK (n - 1) P gf lb encs S Sp N R) (hps : ∀ x, (encs x).size = ps.size)
    (I : List α → World → Prop) (Ix : Code → List α → World → Prop) (hI : ∀ s A A', I s A → Below w.heap.size A A' → I s A') (hIx : ∀ c s A A', Ix c s A → Below w.heap.size A A' → Ix c s A') (hR : ∀ s A, I s A → R A) (h0 : I [] w) (a₁ : α → World → Act) (W₁ : α → World → World) (hW₁ : ∀ x W, Below W.heap.size W (W₁ x W))
    (hassign : ∀ (l : Nat) (x : α) (W : World) (K : Act → World → Prop), K (a₁ x W) (W₁ x W) →
      assign.wpIn (Fence.wide.inRound l) (n - 1 - 1) P (Exit.then K (fun _ _ _ => False)) { tmps := (ps.zip (encs x)).foldl (fun t (p, v) => t.setIfInBounds p v) a.tmps, defers := [] } W)
    (hbody : ∀ (l : Nat) (pre : List α) (x : α) (A W : World), I pre W → pre.length < N → w.heap.size + 1 < A.heap.size → (∀ b, b ≠ w.heap.size + 1 → W.heap[b]? = (W₁ x A).heap[b]?) → W.heap.size = (W₁ x A).heap.size → body.wpIn (Fence.wide.inRound l) (n - 1 - 1) P (leftBy w.heap.size I Ix (pre ++ [x]) W) (a₁ x A) W)
    (hdone : ∀ (xs : List α) (W : World), S xs → I xs W → W.heap[w.heap.size]? = some (.deferred (some [])) → Q .normal { a with defers := { target := .collected w.heap.size, args := #[] } :: a.defers } W)
    (hstop : ∀ (c : Code) (pre : List α) (W : World), Sp pre → Ix c pre W → W.heap[w.heap.size]? = some (.deferred (some [])) → c.wpIn Fence.wide n P Q { a with defers := { target := .collected w.heap.size, args := #[] } :: a.defers } W) :
    (Code.rangeFunc g ps assign body).wpIn Fence.wide n P Q a w := by
  refine range_goesK h1 hg eg hseq hps (Low w.heap.size I) (fun c => Low w.heap.size (Ix c)) (low_apart hI) (fun c => low_apart (hIx c)) (fun s X A h => hR s A h.2.2) ⟨fun _ _ h => h, Nat.le_refl _, h0⟩ a₁ W₁ hW₁ hassign ?_ (fun xs W hs h hK => hdone xs W hs h.2.2 hK) (fun c pre W hs h hK => hstop c pre W hs h.2.2 hK)
  rintro l pre x X A W ⟨hX, hs, hi⟩ hlen - - hl hblk hsz -
  have hX' : ∀ b, b < w.heap.size → ¬ X b := fun b hb hx => hX b hb (.inl hx)
  refine wpIn_mono (hbody l pre x A W hi hlen hl hblk hsz) ?_
  have hr : ∀ W', Above w.heap.size W W' → Rest X W W' := fun W' h => Keeps.mono h (fun b hb => hX' b hb)
  rintro e a3 W3 hp
  cases e with
  | normal => exact ⟨hr _ hp.1, hX', Nat.le_trans hs hp.1.size, hp.2⟩
  | ret => exact ⟨hr _ hp.1, hX', Nat.le_trans hs hp.1.size, hp.2⟩
  | exit id => exact ⟨hr _ hp.1, hX', Nat.le_trans hs hp.1.size, hp.2⟩
  | goto t => exact ⟨hr _ hp.1, hX', Nat.le_trans hs hp.1.size, hp.2⟩
  | panic ch => exact hp.elim
  | outgrown => exact hp.elim
end Go.Proofs.Ytjnihkfnnokmdaa
