/-
  The walk of graph's Best: a range over all that keeps the best one so far in two cells.
-/
import Derived.Test.YtmamligiopbefaaMmRange3
import Derived.Test.YtmamligiopbefaaMmGraphSeq
namespace Go.Proofs.Ytmamligiopbefaa
open Go.RowKit Go.Shelf
attribute [local go_sem] Oper.semAt_some

/-- What lies in Best's cells, from block g on. -/
structure Bests (w : World) (p : Nat) (u v : Int) (b : Int × Int) (W : World) : Prop where
  tl : Boxed W w.heap.size 3 (.int .i64 u)
  hd : Boxed W (w.heap.size + 1) 3 (.int .i64 v)
  wt : Boxed W (w.heap.size + 1 + 1) 3 (.int .i64 b.1)
  id : Boxed W (w.heap.size + 1 + 1 + 1) 3 (.int .i64 b.2)
  ptr : Boxed W (w.heap.size + 1 + 1 + 1 + 1) 24 (.pointer (some ⟨p, 0, none⟩))
  bel : Below w.heap.size w W
theorem Bests.below {w W W' : World} {p : Nat} {u v : Int} {b : Int × Int} (h : Bests w p u v b W) (hb : Below (w.heap.size + 5) W W') : Bests w p u v b W' :=
  ⟨(hb.block _ (by omega)).trans h.tl, (hb.block _ (by omega)).trans h.hd, (hb.block _ (by omega)).trans h.wt, (hb.block _ (by omega)).trans h.id, (hb.block _ (by omega)).trans h.ptr, h.bel.trans (hb.mono (by omega))⟩
theorem Bests.put {w W : World} {p : Nat} {u v : Int} {b : Int × Int} (h : Bests w p u v b W) (x i : Int) : Bests w p u v (x, i) ((W.setCell ⟨w.heap.size + 1 + 1, 0, none⟩ (.int .i64 x)).setCell ⟨w.heap.size + 1 + 1 + 1, 0, none⟩ (.int .i64 i)) :=
  ⟨(h.tl.other (by omega) _).other (by omega) _, (h.hd.other (by omega) _).other (by omega) _, (h.wt.set _).other (by omega) _, (h.id.other (by omega) _).set _, (h.ptr.other (by omega) _).other (by omega) _,
    (h.bel.setCell (p := ⟨w.heap.size + 1 + 1, 0, none⟩) (by show w.heap.size ≤ w.heap.size + 1 + 1; omega) _).setCell (p := ⟨w.heap.size + 1 + 1 + 1, 0, none⟩) (by show w.heap.size ≤ w.heap.size + 1 + 1 + 1; omega) _⟩
theorem bests_above {w W : World} (N : Nat) (hN : w.heap.size + 5 ≤ N) (x i : Value) : Above N W ((W.setCell ⟨w.heap.size + 1 + 1, 0, none⟩ x).setCell ⟨w.heap.size + 1 + 1 + 1, 0, none⟩ i) :=
  ((Keeps.refl (fun b => b < N) W).setCell (p := ⟨w.heap.size + 1 + 1, 0, none⟩) (.inl (by show w.heap.size + 1 + 1 < N; omega)) _).setCell (p := ⟨w.heap.size + 1 + 1 + 1, 0, none⟩) (.inl (by show w.heap.size + 1 + 1 + 1 < N; omega)) _

theorem bests_new (w : World) (p : Nat) (u v : Int) : Bests w p u v GM.best0 (((((w.alloc (.cells #[.int .i64 u] 3)).alloc (.cells #[.int .i64 v] 3)).alloc (.cells #[.int .i64 4611686018427387906] 3)).alloc (.cells #[.int .i64 (-1)] 3)).alloc (.cells #[.pointer (some ⟨p, 0, none⟩)] 24)) := by
  have s1 : (w.alloc (.cells #[.int .i64 u] 3)).heap.size = w.heap.size + 1 := by simp
  have b1 := Boxed.new w 3 (.int .i64 u)
  have l1 : Below w.heap.size w (w.alloc (.cells #[.int .i64 u] 3)) := (Below.refl _ _).alloc (Nat.le_refl _) _
  generalize w.alloc (.cells #[.int .i64 u] 3) = w1 at *
  have s2 : (w1.alloc (.cells #[.int .i64 v] 3)).heap.size = w.heap.size + 1 + 1 := by simp [s1]
  have b2 := Boxed.new w1 3 (.int .i64 v)
  rw [s1] at b2
  replace b1 := b1.alloc (.cells #[.int .i64 v] 3)
  replace l1 := l1.alloc (by omega) (.cells #[.int .i64 v] 3)
  generalize w1.alloc (.cells #[.int .i64 v] 3) = w2 at *
  have s3 : (w2.alloc (.cells #[.int .i64 4611686018427387906] 3)).heap.size = w.heap.size + 1 + 1 + 1 := by simp [s2]
  have b3 := Boxed.new w2 3 (.int .i64 4611686018427387906)
  rw [s2] at b3
  replace b1 := b1.alloc (.cells #[.int .i64 4611686018427387906] 3)
  replace b2 := b2.alloc (.cells #[.int .i64 4611686018427387906] 3)
  replace l1 := l1.alloc (by omega) (.cells #[.int .i64 4611686018427387906] 3)
  generalize w2.alloc (.cells #[.int .i64 4611686018427387906] 3) = w3 at *
  have s4 : (w3.alloc (.cells #[.int .i64 (-1)] 3)).heap.size = w.heap.size + 1 + 1 + 1 + 1 := by simp [s3]
  have b4 := Boxed.new w3 3 (.int .i64 (-1))
  rw [s3] at b4
  replace b1 := b1.alloc (.cells #[.int .i64 (-1)] 3)
  replace b2 := b2.alloc (.cells #[.int .i64 (-1)] 3)
  replace b3 := b3.alloc (.cells #[.int .i64 (-1)] 3)
  replace l1 := l1.alloc (by omega) (.cells #[.int .i64 (-1)] 3)
  generalize w3.alloc (.cells #[.int .i64 (-1)] 3) = w4 at *
  have b5 := Boxed.new w4 24 (.pointer (some ⟨p, 0, none⟩))
  rw [s4] at b5
  exact ⟨b1.alloc _, b2.alloc _, b3.alloc _, b4.alloc _, b5, l1.alloc (by omega) _⟩
theorem arcIn_block {W A : World} {t h x : Int} {c : Bool} (hb : W.heap[A.heap.size]? = (A.alloc (.cells #[.int .i64 t, .int .i64 h, .int .i64 x, .bool c] 33)).heap[A.heap.size]?) : ArcIn W A.heap.size 0 ⟨t, h, x, c⟩ :=
  (arcIn_new A t h x c).same (fun j => World.cell?_of_block (a := ⟨A.heap.size, j, none⟩) hb)
end Go.Proofs.Ytmamligiopbefaa
