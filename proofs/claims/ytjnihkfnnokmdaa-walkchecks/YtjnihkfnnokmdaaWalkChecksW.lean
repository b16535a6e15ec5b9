/-
  The walk of the law WalkChecks.
-/
import Derived.Test.YtjnihkfnnokmdaaWalkInn
import Derived.Test.YtjnihkfnnokmdaaWalkRef2
namespace Go.Proofs.Ytjnihkfnnokmdaa
open Go.RowKit

set_option maxHeartbeats 4000000 in
set_option maxRecDepth 100000 in
theorem checks_walk (n : Int) (v : Value) (xs : List Chg) (u h : Int) (vi : Value) (zs : List Int) (w : World) (hn0 : 0 ≤ n) (hn1 : n ≤ 255) (hch : Chgs w v xs) (hrow : Row .i64 w vi zs) :
    Calls Try.prog 3 #[.int .u8 n, v, .int .i64 u, .int .i64 h, vi] w fun e w' => e = .returned (.bool true) ∧ Below w.heap.size w w' := by
  have haw := awake_any w
  have HMD : Hid (∀ W, Below w.heap.size w W → Calls Try.prog 9 #[.int .u8 n, v] W fun e w' => ∃ p q, e = .returned (.tuple #[.pointer (some ⟨p, 0, none⟩), .pointer (some ⟨q, 0, none⟩)]) ∧ ∃ N, (1 ≤ N ∧ N ≤ 24) ∧ Both w' W.heap.size p q N 64 (GM.made N xs (min xs.length 150)) ∧ Below W.heap.size W w') := fun W hW => made_any n v xs W hn0 hn1 (hch.on hW)
  have HRW : Hid (∀ W, Below w.heap.size w W → Row .i64 W vi zs) := fun W hW => hrow.below hW
  clear hn0 hn1
  obtain ⟨ao, cap, rfl, -, -⟩ := hch
  obtain ⟨ai, capi, rfl, hati⟩ := hrow
  have hml : zs.length ≤ 9223372036854775807 := by have := hati.1; have := hati.2.1; unfold maxLen at this; omega
  clear hati
  generalize xs.length = L at *
  obtain ⟨Z, hZ⟩ : ∃ Z, Z = zs.length := ⟨_, rfl⟩
  have HZ : Hid (Z = zs.length) := hZ
  rw [← hZ] at hml HRW ⊢
  clear hZ
  go_enter Try.func3, Try.ntmps3
  go_wp2_with fail
  refine haw.mono ?_
  rintro e w1 ⟨rfl, hb1⟩
  clear haw
  go_wp2_with fail
  refine (HMD.out w1 hb1).mono ?_
  rintro e w2 ⟨p, q, rfl, N, -, ho2, hb2⟩
  have hb2' := below_on hb1 hb2
  generalize GM.made N xs (min L 150) = m at *
  clear HMD hb1 hb2
  by_cases h200 : 200 < Z
  · go_wp2_with fail
    go_ret
    exact ⟨rfl, hb2'⟩
  have h1000 : zs.length ≤ 1000 := by rw [← HZ.out]; omega
  have HG : Hid (∀ W, Below w2.heap.size w2 W → GMem W p N 64 m) := fun W hW => ho2.g.on hW
  have HR : Hid (∀ W, Below w2.heap.size w2 W → RMem W q N 64 m) := fun W hW => ho2.r.on hW
  have hok := ho2.ok
  have hc1 := check_any ho2.g hok u h (HRW.out w2 hb2')
  clear ho2
  generalize hC : WK.ccode N u h (WK.list m zs) = C at *
  generalize hS : WK.wsum (WK.list m zs) = S at *
  go_wp2_with fail
  refine hc1.mono ?_
  rintro e w3 ⟨rfl, hb3⟩
  have hb3' := below_on hb2' hb3
  have hc2 := rcheck_any (HR.out w3 hb3) u h (HRW.out w3 hb3') h1000
  rw [hC] at hc2
  clear hc1
  go_wp2_with fail
  refine hc2.mono ?_
  rintro e w4 ⟨rfl, hb4⟩
  have hb4' := below_on hb3' hb4
  have hb24 := below_on hb3 hb4
  have hc3 := sum_any (HG.out w4 hb24) hok (HRW.out w4 hb4')
  rw [hS] at hc3
  clear hc2 hb3 hb4 hb3' hC
  go_wp2_with fail
  refine hc3.mono ?_
  rintro e w5 ⟨rfl, hb5⟩
  have hb5' := below_on hb4' hb5
  have hc4 := rsum_any (HR.out w5 (below_on hb24 hb5)) (HRW.out w5 hb5')
  rw [hS] at hc4
  clear hc3 hb4' hb24 hb5 hS
  go_wp2_with fail
  refine hc4.mono ?_
  rintro e w6 ⟨rfl, hb6⟩
  have hb6' := below_on hb5' hb6
  clear hc4 hb5' hb6
  go_wp2_with fail
  go_ret
  exact ⟨rfl, hb6'⟩
end Go.Proofs.Ytjnihkfnnokmdaa
