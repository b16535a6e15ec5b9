/-
  The reference's Ints: are two rows of integers alike? Rows of calls, each over the world that the last one left.
-/
import Derived.Test.YtleckkpfnjpbiaaMem
namespace Go.Proofs.Ytleckkpfnjpbiaa
open Go.RowKit

theorem take_one (zs : List Int) (k : Nat) (hk : k < zs.length) : zs.take (k + 1) = zs.take k ++ [zs[k]] := by
  rw [List.take_add_one, List.getElem?_eq_getElem hk]
  rfl
theorem below_new {w W : World} (h : Below w.heap.size w W) (o : Obj) : Below w.heap.size w (W.alloc o) := h.alloc h.size o
theorem below_on {w W W' : World} (h : Below w.heap.size w W) (h' : Below W.heap.size W W') : Below w.heap.size w W' := h.trans (h'.mono h.size)
theorem take_eq {zs ys : List Int} {k : Nat} (hz : k < zs.length) (hy : k < ys.length) (h : zs.take k = ys.take k) (e : zs[k] = ys[k]) : zs.take (k + 1) = ys.take (k + 1) := by
  rw [take_one zs k hz, take_one ys k hy, h, e]
end Go.Proofs.Ytleckkpfnjpbiaa
