/-
  The walk of the law WalkVisits.
-/
import Derived.Test.YtjnihkfnnokmdaaWalkInn
import Derived.Test.YtjnihkfnnokmdaaWalkVisits
import Derived.Test.YtjnihkfnnokmdaaWalkRef2
namespace Go.Proofs.Ytjnihkfnnokmdaa
open Go.RowKit

set_option maxHeartbeats 4000000 in
set_option maxRecDepth 100000 in
theorem visits_walk (n : Int) (v : Value) (xs : List Chg) (u : Int) (vi : Value) (zs : List Int) (w : World) (hn0 : 0 ≤ n) (hn1 : n ≤ 255) (hch : Chgs w v xs) (hrow : Row .i64 w vi zs) :
    Calls Try.prog 4 #[.int .u8 n, v, .int .i64 u, vi] w fun e w' => e = .returned (.bool true) ∧ Below w.heap.size w w' := by
  have haw := awake_any w
  have HMD : Hid (∀ W, Below w.heap.size w W → Calls Try.prog 9 #[.int .u8 n, v] W fun e w' => ∃ p q, e = .returned (.tuple #[.pointer (some ⟨p, 0, none⟩), .pointer (some ⟨q, 0, none⟩)]) ∧ ∃ N, (1 ≤ N ∧ N ≤ 24) ∧ Both w' W.heap.size p q N 64 (GM.made N xs (min xs.length 150)) ∧ Below W.heap.size W w') := fun W hW => made_any n v xs W hn0 hn1 (hch.on hW)
  have HRW : Hid (∀ W, Below w.heap.size w W → Row .i64 W vi zs) := fun W hW => hrow.below hW
  have HIN : Hid (∀ N, WK.Inn N (GM.made N xs (min xs.length 150))) := fun N => WK.Inn.made N xs _
  clear hn0 hn1
  obtain ⟨ao, cap, rfl, -, -⟩ := hch
  obtain ⟨ai, capi, rfl, hati⟩ := hrow
  have hml : zs.length ≤ 9223372036854775807 := by have := hati.1; have := hati.2.1; unfold maxLen at this; omega
  clear hati
  generalize xs.length = L at *
  obtain ⟨Z, hZ⟩ : ∃ Z, Z = zs.length := ⟨_, rfl⟩
  have HZ : Hid (Z = zs.length) := hZ
  rw [← hZ] at hml HRW ⊢
  clear hZ
  go_enter Try.func4, Try.ntmps4
  go_wp2_with fail
  refine haw.mono ?_
  rintro e w1 ⟨rfl, hb1⟩
  clear haw
  go_wp2_with fail
  refine (HMD.out w1 hb1).mono ?_
  rintro e w2 ⟨p, q, rfl, N, hN, ho2, hb2⟩
  have hb2' := below_on hb1 hb2
  have hsm : WK.Small (GM.made N xs (min L 150)) := (HIN.out N).small (by omega)
  generalize GM.made N xs (min L 150) = m at *
  clear HMD hb1 hb2 HIN
  by_cases h200 : 200 < Z
  · go_wp2_with fail
    go_ret
    exact ⟨rfl, hb2'⟩
  have h1000 : zs.length ≤ 1000 := by rw [← HZ.out]; omega
  have HG : Hid (∀ W, Below w2.heap.size w2 W → GMem W p N 64 m) := fun W hW => ho2.g.on hW
  have HR : Hid (∀ W, Below w2.heap.size w2 W → RMem W q N 64 m) := fun W hW => ho2.r.on hW
  have hok := ho2.ok
  have hN64 : N ≤ 64 := by omega
  have hc1 := visits_any ho2.g hok u (HRW.out w2 hb2') h1000
  clear ho2 hN
  generalize hC : WK.vcode N u (WK.list m zs) = C at *
  generalize hV : WK.vlist N u (WK.list m zs) = V at *
  generalize hS : WK.simple N u (WK.list m zs) = S at *
  go_wp2_with fail
  refine hc1.mono ?_
  rintro e w3 ⟨r3, rfl, ho3, hb3⟩
  have hb3' := below_on hb2' hb3
  have hc2 := rvisits_any (HR.out w3 hb3) u (HRW.out w3 hb3') h1000
  rw [hC, hV] at hc2
  have HO3 : Hid (∀ W, Below w3.heap.size w3 W → Row .i64 W r3 V) := fun W hW => (ho3.below hW).row
  obtain ⟨a3, k3, rfl, -⟩ := ho3.at
  clear hc1 ho3
  go_wp2_with fail
  refine hc2.mono ?_
  rintro e w4 ⟨r4, rfl, ho4, hb4⟩
  have hb4' := below_on hb3' hb4
  have hb24 := below_on hb3 hb4
  have hc3 := ints_any _ r4 V V w4 (HO3.out w4 hb4) ho4.row
  rw [decide_eq_true (rfl : V = V)] at hc3
  obtain ⟨a4, k4, rfl, -⟩ := ho4.at
  clear hc2 hb3 hb4 hb3' hC hV ho4 HO3
  generalize V.length = vl at *
  go_wp2_with fail
  refine hc3.mono ?_
  rintro e w5 ⟨rfl, hb5⟩
  have hb5' := below_on hb4' hb5
  have hb25 := below_on hb24 hb5
  have hc4 := simple_any (HG.out w5 hb25) hok hN64 hsm u (HRW.out w5 hb5')
  rw [hS] at hc4
  clear hc3 hb4' hb24 hb5
  go_wp2_with fail
  refine hc4.mono ?_
  rintro e w6 ⟨rfl, hb6⟩
  have hb6' := below_on hb5' hb6
  have hc5 := rsimple_any (HR.out w6 (below_on hb25 hb6)) u (HRW.out w6 hb6') h1000
  rw [hS] at hc5
  clear hc4 hb5' hb6 hb25 hS
  go_wp2_with fail
  refine hc5.mono ?_
  rintro e w7 ⟨rfl, hb7⟩
  have hb7' := below_on hb6' hb7
  clear hc5 hb6' hb7
  go_wp2_with fail
  go_ret
  exact ⟨rfl, hb7'⟩
end Go.Proofs.Ytjnihkfnnokmdaa
