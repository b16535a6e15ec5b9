/-
  What layer 13 leans on of layer 3, beside Has and With: Without, and Of of any row.
-/
import Derived.Test.YtmkpcidgiobpeaaMmWitRef
namespace Go.Proofs.Ytmkpcidgiobpeaa
open Go.RowKit
set_option maxHeartbeats 400000 in
/-- The program's Without. -/
theorem without13_any (s : Nat) (x : Int) (hs : s < 18446744073709551616) (w : World) :
    Calls Try.prog 18 #[.int .u64 s, .int .i64 x] w fun e w' => e = .returned (.int .u64 (BM.less s (BM.only x) : Nat)) ∧ w' = w := by
  have hc := only_any x w
  have hr := BM.bits_andNot_u64_nat s _ hs (BM.only_lt x)
  go_enter Try.func18, Try.ntmps18
  go_wp2_with fail
  refine hc.mono ?_
  rintro e w' ⟨rfl, rfl⟩
  go_wp2_with fail
  go_ret
  exact ⟨rfl, rfl⟩
set_option maxHeartbeats 400000 in
/-- The program's Of: the set of any row of numbers. -/
theorem of13_any (v : Value) (zs : List Int) (w : World) (hrow : Row .i64 w v zs) :
    Calls Try.prog 24 #[v] w fun e w' => e = .returned (.int .u64 (BM.ofL zs : Nat)) ∧ w' = w := by
  obtain ⟨a, cap, rfl, hat⟩ := hrow
  obtain ⟨h1, h2, h3, h4⟩ := hat
  have hml : zs.length ≤ 9223372036854775807 := by unfold maxLen at h2; omega
  rw [← BM.setOf_eq]
  go_enter Try.func24, Try.ntmps24
  go_wp2_with fail
  go_loop [3, 8] (fun sv i => ∃ k : Nat, k ≤ zs.length ∧ i = .int .i64 k ∧ sv = .int .u64 (BM.setOf (zs.take k) : Nat)) (fun _ i => zs.length - (intOf i).toNat)
  case atStart => exact ⟨0, Nat.zero_le _, rfl, by simp [BM.setOf]⟩
  case round =>
    obtain ⟨k, hk, rfl, rfl⟩ := hrel
    by_cases hlt : k < zs.length
    · obtain ⟨b, o, rfl, hc⟩ := h4 (by omega)
      have hck := hc k hlt
      rw [List.getElem?_eq_getElem hlt, Option.getD_some] at hck
      have hS : BM.setOf (zs.take (k + 1)) = BM.setOf (zs.take k) ||| BM.only zs[k] := by rw [take_one zs k hlt, BM.setOf_snoc]
      have HS : Hid (BM.setOf (zs.take (k + 1)) = BM.setOf (zs.take k) ||| BM.only zs[k]) := hS
      have hcall := with_any (BM.setOf (zs.take k)) zs[k] (BM.setOf_lt _) w
      clear hS hc
      generalize zs[k] = z at *
      go_wp2_with fail
      refine hcall.mono ?_
      rintro e w' ⟨rfl, rfl⟩
      go_wp2_with fail
      go_round
      case rel => exact ⟨k + 1, by omega, by simp, by rw [HS.out]⟩
      case measure => simp [intOf]; omega
    · obtain rfl : k = zs.length := by omega
      go_wp2_with fail
      go_ret
      exact ⟨by simp, rfl⟩
end Go.Proofs.Ytmkpcidgiobpeaa
