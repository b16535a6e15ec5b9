/-
  The walk of the law MeshOf.
-/
import Derived.Test.YtleckkpfnjpbiaaGraphMade
import Derived.Test.YtleckkpfnjpbiaaMeshOfW0
import Derived.Test.YtleckkpfnjpbiaaMeshLawS
import Derived.Test.YtleckkpfnjpbiaaMeshAwake
namespace Go.Proofs.Ytleckkpfnjpbiaa
open Go.RowKit

set_option maxHeartbeats 4000000 in
set_option maxRecDepth 100000 in
theorem meshOf_walk (n : Int) (v : Value) (xs : List Chg) (w : World) (hn0 : 0 ≤ n) (hn1 : n ≤ 255) (hch : Chgs w v xs) :
    Calls Try.prog 4 #[.int .u8 n, v] w fun e w' => e = .returned (.bool true) ∧ Below w.heap.size w w' := by
  have haw := awakeX_any w
  have HMD : Hid (∀ W, Below w.heap.size w W → Calls Try.prog 17 #[.int .u8 n, v] W fun e w' => ∃ p q, e = .returned (.tuple #[.pointer (some ⟨p, 0, none⟩), .pointer (some ⟨q, 0, none⟩)]) ∧ ∃ N, (1 ≤ N ∧ N ≤ 24) ∧ Both w' W.heap.size p q N 64 (GM.made N xs (min xs.length 150)) ∧ Below W.heap.size W w') := fun W hW => made_any n v xs W hn0 hn1 (hch.on hW)
  clear hn0 hn1
  obtain ⟨ao, cap, rfl, -, -⟩ := hch
  generalize xs.length = L at *
  go_enter Try.func4, Try.ntmps4
  go_wp2_with fail
  refine haw.mono ?_
  rintro e w1 ⟨rfl, hb1⟩
  clear haw
  go_wp2_with fail
  refine (HMD.out w1 hb1).mono ?_
  rintro e w2 ⟨p, q, rfl, N, ⟨hN1, hN2⟩, ho2, hb2⟩
  have HB2 : Hid (Below w.heap.size w w2) := below_on hb1 hb2
  generalize GM.made N xs (min L 150) = m at *
  have hxo := xof_any ho2.g ho2.ok hN1 hN2
  have HRO : Hid (∀ W, Below w2.heap.size w2 W → Calls Try.prog 19 #[.pointer (some ⟨q, 0, none⟩)] W fun e w' => ∃ p, e = .returned (.pointer (some ⟨p, 0, none⟩)) ∧ W.heap.size ≤ p ∧ XMem w' p N (XM.ofD m N N 0) ∧ Below W.heap.size W w') := fun W hW => rof_any (ho2.r.on hW) hN2
  have HM : Hid (XM.Mesh N (XM.ofD m N N 0) ∧ N ≤ 24) := ⟨XM.ofD_mesh ho2.ok (.inr ⟨rfl, rfl⟩), hN2⟩
  clear ho2 hb1 hb2 HMD hN1 hN2
  generalize XM.ofD m N N 0 = D at *
  go_wp2_with fail
  refine hxo.mono ?_
  rintro e w3 ⟨x, rfl, -, hX3, hb3⟩
  have HB3 : Hid (Below w.heap.size w w3) := below_on HB2.out hb3
  have hro := HRO.out w3 hb3
  have HX3 : Hid (XMem w3 x N D) := hX3
  clear hxo hX3 hb3 HRO
  go_wp2_with fail
  refine hro.mono ?_
  rintro e w4 ⟨y, rfl, -, hX4, hb4⟩
  have hsm := sameX_any (HX3.out.on hb4) hX4 HM.out.1 HM.out.2
  have HB4 : Hid (Below w.heap.size w w4) := below_on HB3.out hb4
  clear hro hX4 hb4
  go_wp2_with fail
  refine hsm.mono ?_
  rintro e w5 ⟨rfl, hb5⟩
  have HB5 : Hid (Below w.heap.size w w5) := below_on HB4.out hb5
  clear hsm hb5
  go_wp2_with fail
  go_ret
  exact ⟨rfl, HB5.out⟩
end Go.Proofs.Ytleckkpfnjpbiaa
