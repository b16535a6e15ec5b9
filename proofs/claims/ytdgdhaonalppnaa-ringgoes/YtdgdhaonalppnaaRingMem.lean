/-
  Stacks of the program's in memory: which blocks hold one, what a store into one of them does, what stays.
-/
import Derived.Test.YtdgdhaonalppnaaRingMath
namespace Go.Proofs.Ytdgdhaonalppnaa
open Go.RowKit

/-- A stack of the program's: its struct in block p, its n places in bt, the oldest at o, c things. -/
structure KMem (e : TypeId) (w : World) (B p bt n : Nat) (xs : List Value) (o c : Nat) : Prop where
  c0 : w.cell? ⟨p, 0, none⟩ = some (.slice (some ⟨bt, 0, none⟩) n n)
  c1 : w.cell? ⟨p, 1, none⟩ = some (.int .i64 (o : Nat))
  c2 : w.cell? ⟨p, 2, none⟩ = some (.int .i64 (c : Nat))
  f1 : w.frozen? ⟨p, 1, none⟩ = false
  f2 : w.frozen? ⟨p, 2, none⟩ = false
  th : w.ownsRow B e 1 (.slice (some ⟨bt, 0, none⟩) n n) n xs
  lo : B ≤ p
  n1 : p ≠ bt
def kfoot (p bt : Nat) (b : Nat) : Prop := b = p ∨ b = bt
section
variable {e : TypeId} {w w' : World} {B p bt n : Nat} {xs : List Value} {o c : Nat}
theorem KMem.lt (h : KMem e w B p bt n xs o c) : ∀ b, kfoot p bt b → B ≤ b ∧ b < w.heap.size := by
  rintro b (rfl | rfl)
  · exact ⟨h.lo, cell_lt h.c0⟩
  · exact World.ownsRow.lt h.th b rfl
theorem KMem.kept {G : Nat → Prop} (h : KMem e w B p bt n xs o c) (hk : Keeps G w w') (hG : ∀ b, kfoot p bt b → ¬ G b) : KMem e w' B p bt n xs o c where
  c0 := hk.cell h.c0 (hG p (.inl rfl))
  c1 := hk.cell h.c1 (hG p (.inl rfl))
  c2 := hk.cell h.c2 (hG p (.inl rfl))
  f1 := (hk.frozen (p := ⟨p, 1, none⟩) (cell_lt h.c1) (hG p (.inl rfl))).trans h.f1
  f2 := (hk.frozen (p := ⟨p, 2, none⟩) (cell_lt h.c2) (hG p (.inl rfl))).trans h.f2
  th := hk.row h.th (fun g hg => by cases hg; exact hG bt (.inr rfl))
  lo := h.lo
  n1 := h.n1
theorem KMem.below (h : KMem e w B p bt n xs o c) (hb : Below w.heap.size w w') : KMem e w' B p bt n xs o c := h.kept (Below.keeps hb (fun _ => False)) (fun _ _ h => h)
theorem KMem.drewN (h : KMem e w B p bt n xs o c) (q : Nat) : KMem e (w.drewN q) B p bt n xs o c := ⟨h.c0, h.c1, h.c2, h.f1, h.f2, h.th, h.lo, h.n1⟩
theorem KMem.drew (h : KMem e w B p bt n xs o c) : KMem e w.drew B p bt n xs o c := ⟨h.c0, h.c1, h.c2, h.f1, h.f2, h.th, h.lo, h.n1⟩
theorem KMem.base (h : KMem e w B p bt n xs o c) {B' : Nat} (hB : B' ≤ B) : KMem e w B' p bt n xs o c := ⟨h.c0, h.c1, h.c2, h.f1, h.f2, row_base h.th hB, Nat.le_trans hB h.lo, h.n1⟩
theorem KMem.thing (h : KMem e w B p bt n xs o c) {j : Nat} (hj : j < n) : w.cell? ⟨bt, j, none⟩ = xs[j]? ∧ w.frozen? ⟨bt, j, none⟩ = false := ⟨World.ownsRow.cellAt h.th j (by omega), World.ownsRow.frozenAt h.th j⟩
theorem KMem.setThing (h : KMem e w B p bt n xs o c) (j : Nat) (u : Value) : KMem e (w.setCell ⟨bt, j, none⟩ u) B p bt n (xs.set j u) o c := by
  have hk : Keeps (fun b => b = bt) w (w.setCell ⟨bt, j, none⟩ u) := keeps_set _ _ _ _
  exact ⟨hk.cell h.c0 h.n1, hk.cell h.c1 h.n1, hk.cell h.c2 h.n1, (hk.frozen (p := ⟨p, 1, none⟩) (cell_lt h.c1) h.n1).trans h.f1, (hk.frozen (p := ⟨p, 2, none⟩) (cell_lt h.c2) h.n1).trans h.f2, (World.ownsRow.stored h.th j u).1, h.lo, h.n1⟩
theorem KMem.setOld (h : KMem e w B p bt n xs o c) (u : Nat) : KMem e (w.setCell ⟨p, 1, none⟩ (.int .i64 (u : Nat))) B p bt n xs u c := by
  have hk : Keeps (fun b => b = p) w (w.setCell ⟨p, 1, none⟩ (.int .i64 (u : Nat))) := keeps_set _ _ _ _
  refine ⟨?_, World.cell?_setCell_same _ _ _ h.c1, ?_, ?_, ?_, hk.row h.th (fun g hg e => by cases hg; exact h.n1 e.symm), h.lo, h.n1⟩
  · rw [World.cell?_setCell_other _ _ _ _ (by simp)]; exact h.c0
  · rw [World.cell?_setCell_other _ _ _ _ (by simp)]; exact h.c2
  · simp [h.f1]
  · simp [h.f2]
theorem KMem.setCount (h : KMem e w B p bt n xs o c) (u : Nat) : KMem e (w.setCell ⟨p, 2, none⟩ (.int .i64 (u : Nat))) B p bt n xs o u := by
  have hk : Keeps (fun b => b = p) w (w.setCell ⟨p, 2, none⟩ (.int .i64 (u : Nat))) := keeps_set _ _ _ _
  refine ⟨?_, ?_, World.cell?_setCell_same _ _ _ h.c2, ?_, ?_, hk.row h.th (fun g hg e => by cases hg; exact h.n1 e.symm), h.lo, h.n1⟩
  · rw [World.cell?_setCell_other _ _ _ _ (by simp)]; exact h.c0
  · rw [World.cell?_setCell_other _ _ _ _ (by simp)]; exact h.c1
  · simp [h.f1]
  · simp [h.f2]
/-- A stack just made. -/
theorem kmem_new {g : Nat} {sty : TypeId} (h1 : w.ownsRow B e 1 (.slice (some ⟨g, 0, none⟩) n n) n xs) (hB : B ≤ w.heap.size) {p : Nat} (hp : p = w.heap.size) :
    KMem e (w.alloc (.cells #[.slice (some ⟨g, 0, none⟩) n n, .int .i64 0, .int .i64 0] sty)) B p g n xs 0 0 := by
  subst hp
  have l1 := (World.ownsRow.lt h1 g rfl).2
  exact ⟨by simp, by simp, by simp, by simp, by simp, h1.alloc _, hB, by omega⟩
end
/-- What Pop and Top answer. -/
def getT {α : Type} (enc : α → Value) (d : α) : Option α → Value
  | some v => .tuple #[enc v, .bool true]
  | none => .tuple #[enc d, .bool false]

end Go.Proofs.Ytdgdhaonalppnaa
