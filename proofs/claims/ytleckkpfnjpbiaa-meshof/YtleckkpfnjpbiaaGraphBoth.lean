/-
  The program's graph and the document's side by side.
-/
import Derived.Test.YtleckkpfnjpbiaaInts
import Derived.Test.YtleckkpfnjpbiaaGraphOps
import Derived.Test.YtleckkpfnjpbiaaGraphRef3
import Derived.Test.YtleckkpfnjpbiaaGraphActs
namespace Go.Proofs.Ytleckkpfnjpbiaa
open Go.RowKit

theorem Keeps.rest {p B : Nat} {w w' : World} (h : Keeps (fun b => b = p) w w') (hB : B ≤ p) (hw : B ≤ w.heap.size) : Below B w w' := h.below (fun b hb => by omega) hw
/-- The program's graph and the document's, alike, each in a block of its own behind B. -/
structure Both (W : World) (B p q N most : Nat) (m : GM.M) : Prop where
  g : GMem W p N most m
  r : RMem W q N most m
  ok : GM.Good most m
  lp : B ≤ p
  lq : B ≤ q
  ne : p ≠ q
  sz : B ≤ W.heap.size
theorem Both.on {W W' : World} {B p q N most : Nat} {m : GM.M} (h : Both W B p q N most m) (hb : Below W.heap.size W W') : Both W' B p q N most m := ⟨h.g.on hb, h.r.on hb, h.ok, h.lp, h.lq, h.ne, Nat.le_trans h.sz hb.size⟩
/-- Both are changed, one behind the other. -/
theorem Both.step {W W1 W2 : World} {B p q N most : Nat} {m m' : GM.M} (h : Both W B p q N most m) (hk : Keeps (fun b => b = p) W W1) (hg : GMem W1 p N most m') (hk2 : Keeps (fun b => b = q) W1 W2) (hr : RMem W2 q N most m') (hm : GM.Good most m') : Both W2 B p q N most m' ∧ Below B W W2 :=
  ⟨⟨hg.kept hk2 h.ne, hr, hm, h.lp, h.lq, h.ne, Nat.le_trans (Nat.le_trans h.sz hk.size) hk2.size⟩, (hk.rest h.lp h.sz).trans (hk2.rest h.lq (Nat.le_trans h.sz hk.size))⟩
end Go.Proofs.Ytleckkpfnjpbiaa
