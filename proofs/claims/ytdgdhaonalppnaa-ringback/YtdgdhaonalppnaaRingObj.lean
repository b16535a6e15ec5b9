/-
  A stack of the program's as one thing: where it lies, and what lies on it.
-/
import Derived.Test.YtdgdhaonalppnaaRingMem
namespace Go.Proofs.Ytdgdhaonalppnaa
open Go.RowKit

/-- A stack with room for n in block p, of the call's own from block B on, on which L lies; F: its blocks. -/
def Obj {α : Type} (enc : α → Value) (e : TypeId) (w : World) (B p n : Nat) (L : List α) (F : Nat → Prop) : Prop := ∃ bt xs o, KMem e w B p bt n xs o L.length ∧ RK.Rep enc n o xs L ∧ F = kfoot p bt ∧ n ≤ 32
section
variable {α : Type} {enc : α → Value} {e : TypeId} {w w' : World} {B p n : Nat} {L : List α} {F : Nat → Prop}
theorem Obj.lt (h : Obj enc e w B p n L F) : ∀ b, F b → B ≤ b ∧ b < w.heap.size := by
  obtain ⟨bt, xs, o, h1, _, rfl, _⟩ := h
  exact h1.lt
theorem Obj.base (h : Obj enc e w B p n L F) : B ≤ w.heap.size := by
  obtain ⟨bt, xs, o, h1, _, rfl, _⟩ := h
  have := h1.lt p (.inl rfl)
  omega
theorem Obj.kept {G : Nat → Prop} (h : Obj enc e w B p n L F) (hk : Keeps G w w') (hG : ∀ b, F b → ¬ G b) : Obj enc e w' B p n L F := by
  obtain ⟨bt, xs, o, h1, h2, rfl, h4⟩ := h
  exact ⟨bt, xs, o, h1.kept hk hG, h2, rfl, h4⟩
theorem Obj.below (h : Obj enc e w B p n L F) (hb : Below w.heap.size w w') : Obj enc e w' B p n L F := h.kept (Below.keeps hb (fun _ => False)) (fun _ _ h => h)
theorem Obj.base_le (h : Obj enc e w B p n L F) {B' : Nat} (hB : B' ≤ B) : Obj enc e w B' p n L F := by
  obtain ⟨bt, xs, o, h1, h2, rfl, h4⟩ := h
  exact ⟨bt, xs, o, h1.base hB, h2, rfl, h4⟩
theorem Obj.len (h : Obj enc e w B p n L F) : L.length ≤ n ∧ 1 ≤ n ∧ n ≤ 32 := by
  obtain ⟨bt, xs, o, h1, h2, _, h4⟩ := h
  exact ⟨h2.len, h2.lo, h4⟩
/-- What a call that turns its blocks alone leaves below. -/
theorem Obj.rest (h : Obj enc e w B p n L F) (hk : Keeps F w w') : Below B w w' := hk.below (fun b hb => (h.lt b hb).1) h.base
end
end Go.Proofs.Ytdgdhaonalppnaa
