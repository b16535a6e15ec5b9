/-
  The walks of package bits as far as orders lean on it: one number's set, all below a number, the set of a list; perm's Right.
-/
import Derived.Test.YtdfipaojahdgcaaMem
import Derived.Test.YtdfipaojahdgcaaPermMath
import Derived.Laws.Bits64b
namespace Go.Proofs.Ytdfipaojahdgcaa
open Go.RowKit

theorem pow_cast (n : Nat) : ((2 : Int) ^ n) = ((2 ^ n : Nat) : Int) := (Int.natCast_pow 2 n).symm
theorem shl_one (n : Nat) (h : n < 64) : IntKind.u64.wrap (2 ^ n) = ((2 ^ n : Nat) : Int) := by
  have := BM.pow64 h
  rw [IntKind.wrap_u64, pow_cast]
  generalize 2 ^ n = p at *
  omega
theorem shl_below (m : Nat) (h : m ≤ 64) : IntKind.u64.wrap (IntKind.u64.wrap (2 ^ m) - 1) = ((2 ^ m - 1 : Nat) : Int) := by
  have h1 : 2 ^ m ≤ 2 ^ 64 := Nat.pow_le_pow_right (by decide) h
  have h2 : 0 < 2 ^ m := Nat.two_pow_pos m
  rw [IntKind.wrap_u64, IntKind.wrap_u64, pow_cast]
  generalize 2 ^ m = p at *
  omega

set_option maxHeartbeats 400000 in
theorem only_any (x : Int) (w : World) :
    Calls Try.prog 36 #[.int .i64 x] w fun e w' => e = .returned (.int .u64 (BM.only x : Nat)) ∧ w' = w := by
  by_cases h : 0 ≤ x ∧ x < 64
  · have e : BM.only x = 2 ^ x.toNat := by unfold BM.only; rw [if_pos h]
    obtain ⟨n, rfl⟩ : ∃ n : Nat, x = n := ⟨x.toNat, by omega⟩
    rw [e]
    go_enter Try.func36, Try.ntmps36
    go_wp2_with fail
    go_ret
    exact ⟨ret_int (shl_one n (by omega)), rfl⟩
  · have e : BM.only x = 0 := by unfold BM.only; rw [if_neg h]
    rw [e]
    go_enter Try.func36, Try.ntmps36
    go_wp2_with fail
    all_goals (try (exfalso; omega))
    all_goals go_ret
    all_goals exact ⟨rfl, rfl⟩

set_option maxHeartbeats 400000 in
theorem below_any (n : Int) (w : World) :
    Calls Try.prog 22 #[.int .i64 n] w fun e w' => e = .returned (.int .u64 (BM.below n : Nat)) ∧ w' = w := by
  go_enter Try.func22, Try.ntmps22
  go_wp2_with fail
  · go_ret
    refine ⟨ret_int ?_, rfl⟩
    unfold BM.below BM.cut
    rw [show min (max n 0).toNat 64 = 0 by omega]
    rfl
  · go_ret
    refine ⟨ret_int ?_, rfl⟩
    unfold BM.below BM.cut
    rw [show min (max n 0).toNat 64 = min n.toNat 64 by omega]
    exact shl_below _ (by omega)

set_option maxHeartbeats 400000 in
theorem with_any (s : Nat) (x : Int) (hs : s < 18446744073709551616) (w : World) :
    Calls Try.prog 30 #[.int .u64 s, .int .i64 x] w fun e w' => e = .returned (.int .u64 (s ||| BM.only x : Nat)) ∧ w' = w := by
  have hc := only_any x w
  have hr := bits_or_u64_nat s _ hs (BM.only_lt x)
  go_enter Try.func30, Try.ntmps30
  go_wp2_with fail
  refine hc.mono ?_
  rintro e w' ⟨rfl, rfl⟩
  go_wp2_with fail
  go_ret
  exact ⟨rfl, rfl⟩

theorem info3 : (Try.prog.info? 3).map (fun i => (i.zero, i.size, i.bytes)) = some (some (.int .i64 0), 1, 8) := by kernel_rfl
theorem take_snoc (zs : List Int) (k : Nat) (h : k < zs.length) : zs.take (k + 1) = zs.take k ++ [zs[k]] := by
  rw [List.take_add_one, List.getElem?_eq_getElem h]; rfl

set_option maxHeartbeats 400000 in
/-- The program's Of: the set of any row of numbers. -/
theorem of_any (v : Value) (zs : List Int) (w : World) (hrow : Row .i64 w v zs) :
    Calls Try.prog 21 #[v] w fun e w' => e = .returned (.int .u64 (BM.ofL zs : Nat)) ∧ w' = w := by
  obtain ⟨a, cap, rfl, hat⟩ := hrow
  obtain ⟨h1, h2, h3, h4⟩ := hat
  have hml : zs.length ≤ 9223372036854775807 := by unfold maxLen at h2; omega
  rw [← BM.setOf_eq]
  go_enter Try.func21, Try.ntmps21
  go_wp2_with fail
  go_loop [3, 8] (fun sv i => ∃ k : Nat, k ≤ zs.length ∧ i = .int .i64 k ∧ sv = .int .u64 (BM.setOf (zs.take k) : Nat)) (fun _ i => zs.length - (intOf i).toNat)
  case atStart => exact ⟨0, Nat.zero_le _, rfl, by simp [BM.setOf]⟩
  case round =>
    obtain ⟨k, hk, rfl, rfl⟩ := hrel
    by_cases hlt : k < zs.length
    · obtain ⟨b, o, rfl, hc⟩ := h4 (by omega)
      have hck := hc k hlt
      rw [List.getElem?_eq_getElem hlt, Option.getD_some] at hck
      have hS : BM.setOf (zs.take (k + 1)) = BM.setOf (zs.take k) ||| BM.only zs[k] := by rw [take_snoc zs k hlt, BM.setOf_snoc]
      have HS : Hid (BM.setOf (zs.take (k + 1)) = BM.setOf (zs.take k) ||| BM.only zs[k]) := hS
      have hcall := with_any (BM.setOf (zs.take k)) zs[k] (BM.setOf_lt _) w
      clear hS hc
      generalize zs[k] = z at *
      go_wp2_with fail
      refine hcall.mono ?_
      rintro e w' ⟨rfl, rfl⟩
      go_wp2_with fail
      go_round
      case rel => exact ⟨k + 1, by omega, by simp, by rw [HS.out]⟩
      case measure => simp [intOf]; omega
    · obtain rfl : k = zs.length := by omega
      go_wp2_with fail
      go_ret
      exact ⟨by simp, rfl⟩

set_option maxHeartbeats 400000 in
/-- The program's Right. -/
theorem right_any (v : Value) (zs : List Int) (w : World) (hrow : Row .i64 w v zs) :
    Calls Try.prog 11 #[v] w fun e w' => e = .returned (.bool (PM.right zs)) ∧ w' = w := by
  have hc := of_any v zs w hrow
  have hb := below_any (zs.length : Nat) w
  obtain ⟨a, cap, rfl, hat⟩ := hrow
  obtain ⟨h1, h2, -, -⟩ := hat
  by_cases h24 : zs.length ≤ 24
  · have he : PM.right zs = (BM.ofL zs == BM.below (zs.length : Nat)) := by simp [PM.right, h24]
    rw [he]
    have h24' : (zs.length : Int) ≤ 24 := by omega
    go_enter Try.func11, Try.ntmps11
    go_wp2_with fail
    refine hc.mono ?_
    rintro e w' ⟨rfl, rfl⟩
    go_wp2_with fail
    refine hb.mono ?_
    rintro e w' ⟨rfl, rfl⟩
    go_wp2_with fail
    go_ret
    refine ⟨ret_bool ?_, rfl⟩
    rw [Bool.eq_iff_iff]
    simp
    try omega
  · have he : PM.right zs = false := by simp [PM.right, h24]
    rw [he]
    have h24' : ¬ (zs.length : Int) ≤ 24 := by omega
    clear hc hb
    go_enter Try.func11, Try.ntmps11
    go_wp2_with fail
    go_ret
    exact ⟨rfl, rfl⟩
end Go.Proofs.Ytdfipaojahdgcaa
