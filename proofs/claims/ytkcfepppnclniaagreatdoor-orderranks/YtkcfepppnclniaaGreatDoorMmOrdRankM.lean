/-
  What Rank of the program leans on between the rounds.
-/
import Derived.Test.YtkcfepppnclniaaGreatDoorMmOrdDiff
import Derived.Test.YtkcfepppnclniaaGreatDoorMmGraphRef4
import Derived.Test.YtkcfepppnclniaaGreatDoorMmBitsPop
import Derived.Test.YtkcfepppnclniaaGreatDoorMmOrdRank
namespace Go.Proofs.YtkcfepppnclniaaGreatDoor
open Go.RowKit Go.Shelf
namespace OM
/-- The state while those beside the vertex taken are gone through. -/
def midS (s : RS) (b r : Nat) (pre : List Nat) : RS := ⟨s.D, s.left, fun v => if v ∈ pre then s.gone v + 1 else s.gone v, fun v => if v = b then (r : Int) else s.rank v⟩
theorem midS_snoc (s : RS) (b r : Nat) (pre : List Nat) (x : Nat) (v : Nat) : (if v = x then s.gone x + 1 else (midS s b r pre).gone v) = (midS s b r (pre ++ [x])).gone v := by
  unfold midS
  dsimp only
  by_cases e : v = x
  · rw [if_pos e, if_pos (by rw [e]; simp), e]
  · rw [if_neg e]
    by_cases h : v ∈ pre
    · rw [if_pos h, if_pos (by simp [h])]
    · rw [if_neg h, if_neg (by simp [h, e])]
end OM
/-- What is laid ahead of the rounds. -/
theorem gk_new {w w2 : World} {p N : Nat} {D : Nat → Nat → Int} {k : Int} (hx : XMem w2 p N D) (hcS : Boxed w2 w.heap.size 3 (.int .i64 k)) (hp : w.heap.size < p) (hN : N ≤ 24) :
    ∃ w6, w6 = (((w2.alloc (.cells #[.pointer (some ⟨p, 0, none⟩)] 45)).alloc (.cells (madeCells #[.int .i64 0] N) 3)).alloc (.cells (madeCells #[.int .i64 0] N) 3)).alloc (.cells #[.slice (some ⟨w2.heap.size + 1 + 1, 0, none⟩) N N] 28) ∧
      GK w.heap.size w.heap.size p w2.heap.size (w2.heap.size + 1) (w2.heap.size + 1 + 1) (w2.heap.size + 1 + 1 + 1) N k ⟨D, fun _ => false, fun _ => 0, fun _ => 0⟩ w6 ∧ Below w2.heap.size w2 w6 := by
  have pl := hx.lt
  have sl := hcS.lt
  have a1 : Below w2.heap.size w2 (w2.alloc (.cells #[.pointer (some ⟨p, 0, none⟩)] 45)) := (Below.refl _ _).alloc (Nat.le_refl _) _
  have m1 := Boxed.new w2 45 (.pointer (some ⟨p, 0, none⟩))
  have s1 := World.size_alloc w2 (.cells #[.pointer (some ⟨p, 0, none⟩)] 45)
  generalize w2.alloc (.cells #[.pointer (some ⟨p, 0, none⟩)] 45) = w3 at *
  have a2 : Below w3.heap.size w3 (w3.alloc (.cells (madeCells #[.int .i64 0] N) 3)) := (Below.refl _ _).alloc (Nat.le_refl _) _
  have r1 := RowIn.new w3 w.heap.size N 3 (.int .i64 0) (by omega) hN
  have s2 := World.size_alloc w3 (.cells (madeCells #[.int .i64 0] N) 3)
  have m2 := m1.alloc (.cells (madeCells #[.int .i64 0] N) 3)
  rw [s1] at r1
  generalize w3.alloc (.cells (madeCells #[.int .i64 0] N) 3) = w4 at *
  have a3 : Below w4.heap.size w4 (w4.alloc (.cells (madeCells #[.int .i64 0] N) 3)) := (Below.refl _ _).alloc (Nat.le_refl _) _
  have g1 := RowIn.new w4 w.heap.size N 3 (.int .i64 0) (by omega) hN
  have s3 := World.size_alloc w4 (.cells (madeCells #[.int .i64 0] N) 3)
  have m3 := m2.alloc (.cells (madeCells #[.int .i64 0] N) 3)
  have r2 := r1.on a3
  rw [s2, s1] at g1
  generalize w4.alloc (.cells (madeCells #[.int .i64 0] N) 3) = w5 at *
  have a4 : Below w5.heap.size w5 (w5.alloc (.cells #[.slice (some ⟨w2.heap.size + 1 + 1, 0, none⟩) N N] 28)) := (Below.refl _ _).alloc (Nat.le_refl _) _
  have c1 := Boxed.new w5 28 (.slice (some ⟨w2.heap.size + 1 + 1, 0, none⟩) N N)
  rw [s3, s2, s1] at c1
  have hb : Below w2.heap.size w2 (w5.alloc (.cells #[.slice (some ⟨w2.heap.size + 1 + 1, 0, none⟩) N N] 28)) := a1.trans ((a2.mono (by omega)).trans ((a3.mono (by omega)).trans (a4.mono (by omega))))
  exact ⟨_, rfl, ⟨hx.on hb, r2.on a4, g1.on a4, (hb.block _ sl).trans hcS, m3.alloc _, c1, Nat.le_refl _, hp, pl, by omega, by omega, by omega⟩, hb⟩
/-- Between the rounds: r ranks are given. -/
structure RR (w : World) (p cM N : Nat) (k : Int) (D : Nat → Nat → Int) (r S : Nat) (ds : List Nat) (W : World) : Prop where
  g : GK w.heap.size w.heap.size p cM (cM + 1) (cM + 1 + 1) (cM + 1 + 1 + 1) N k (OM.run N D k.toNat r) W
  s : OM.SL S (OM.run N D k.toNat r).left
  m : Marks ds W
  nd : ds.Nodup
  lo : ∀ d ∈ ds, cM + 1 + 1 + 1 < d
  bel : Below w.heap.size w W
end Go.Proofs.YtkcfepppnclniaaGreatDoor
