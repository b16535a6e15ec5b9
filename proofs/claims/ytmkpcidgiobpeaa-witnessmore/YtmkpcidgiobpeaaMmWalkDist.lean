/-
  The walks of dist and of bits as far as package walk leans on them: a sum of a list, the document's sum of two; a set's member, a set with one more.
-/
import Derived.Test.YtmkpcidgiobpeaaMmGraphA
import Derived.Test.YtmkpcidgiobpeaaMmMaths
import Derived.Test.YtmkpcidgiobpeaaMmBitsMath
import Derived.Laws.Bits64b
namespace Go.Proofs.Ytmkpcidgiobpeaa
open Go.RowKit

theorem gnorm_eq (a : Int) : GM.norm a = DM.norm a := rfl
theorem dnorm_any (a : Int) (w : World) :
    Calls Try.prog 53 #[.int .i64 a] w fun e w' => e = .returned (.int .i64 (DM.norm a)) ∧ w' = w := norm_any a w
set_option maxHeartbeats 400000 in
theorem rnorm_any (a : Int) (w : World) :
    Calls Try.prog 33 #[.int .i64 a] w fun e w' => e = .returned (.int .i64 (DM.norm a)) ∧ w' = w := by
  go_enter Try.func33, Try.ntmps33
  go_wp2
  all_goals go_ret
  all_goals refine ⟨ret_int ?_, rfl⟩
  all_goals unfold DM.norm
  all_goals (repeat' split) <;> omega
set_option maxHeartbeats 400000 in
theorem told_any (a : Int) (w : World) :
    Calls Try.prog 54 #[.int .i64 a] w fun e w' => e = .returned (.bool (DM.told a)) ∧ w' = w := by
  go_enter Try.func54, Try.ntmps54
  go_wp2_with (go_at_call 53; refine (dnorm_any _ _).mono ?_; rintro e w' ⟨rfl, rfl⟩)
  all_goals go_ret
  all_goals exact ⟨rfl, rfl⟩
set_option maxHeartbeats 400000 in
theorem two_any (a b : Int) (w : World) :
    Calls Try.prog 37 #[.int .i64 a, .int .i64 b] w fun e w' => e = .returned (.int .i64 (DM.two a b)) ∧ w' = w := by
  have ha := DM.norm_bd a
  have hb := DM.norm_bd b
  go_enter Try.func37, Try.ntmps37
  go_wp2_with (go_at_call 33; refine (rnorm_any _ _).mono ?_; rintro e w' ⟨rfl, rfl⟩)
  all_goals go_ret
  all_goals refine ⟨ret_int ?_, rfl⟩
  all_goals unfold DM.two
  all_goals go_light
  all_goals (repeat' split) <;> (try simp only [beq_iff_eq, beq_eq_false_iff_ne, ne_eq] at *) <;> omega
set_option maxHeartbeats 400000 in
theorem addStep_any (s a : Int) (w : World) (h0 : 0 ≤ s) (h1 : s ≤ 4611686018427387906) :
    Calls Try.prog 52 #[.int .i64 s, .int .i64 a] w fun e w' => e = .returned (.int .i64 (DM.two s a)) ∧ w' = w := by
  have ha := DM.norm_bd a
  rcases DM.told_cases s with ⟨hs, hs'⟩ | ⟨hs, hs'⟩ <;> rcases DM.told_cases (DM.norm a) with ⟨hb, hb'⟩ | ⟨hb, hb'⟩
  all_goals
    rw [DM.norm_of h0 h1] at hs'
    rw [DM.norm_norm] at hb'
    go_enter Try.func52, Try.ntmps52
    go_wp2_with (first | (go_at_call 53; refine (dnorm_any _ _).mono ?_; rintro e w' ⟨rfl, rfl⟩) | (go_at_call 54; refine (told_any _ _).mono ?_; rintro e w' ⟨rfl, rfl⟩))
  all_goals go_ret
  all_goals refine ⟨ret_int ?_, rfl⟩
  all_goals simp only [DM.two, DM.norm_of h0 h1]
  all_goals (repeat' split) <;> omega
set_option maxHeartbeats 400000 in
theorem foldAdd_row (v : Value) (zs : List Int) (w : World) (h : Row .i64 w v zs) :
    Calls Try.prog 51 #[v, .int .i64 0, .func (.func 52) #[] #[]] w fun e w' => e = .returned (.int .i64 (DM.addl zs)) ∧ w' = w := by
  obtain ⟨a, cap, rfl, hat⟩ := h
  obtain ⟨h1, h2, h3, h4⟩ := hat
  have hml : zs.length ≤ 9223372036854775807 := by unfold maxLen at h2; omega
  go_enter Try.func51, Try.ntmps51
  go_wp2
  go_loop [7, 13] (fun s i => ∃ k : Nat, k ≤ zs.length ∧ i = .int .i64 k ∧ s = .int .i64 (DM.addl (zs.take k))) (fun _ i => zs.length - (intOf i).toNat)
  case atStart => exact ⟨0, Nat.zero_le _, rfl, rfl⟩
  case round =>
    obtain ⟨k, hk, rfl, rfl⟩ := hrel
    have hb := DM.addl_bd (zs.take k)
    by_cases hlt : k < zs.length
    · obtain ⟨b, o, rfl, hc⟩ := h4 (by omega)
      have hck := hc k hlt
      have HS : Hid (DM.addl (zs.take (k + 1)) = DM.two (DM.addl (zs.take k)) zs[k]) := DM.foldl_take_succ _ _ _ _ hlt
      go_wp2_with (go_at_call 52; refine (addStep_any _ _ _ hb.1 hb.2).mono ?_; rintro e w' ⟨rfl, rfl⟩)
      go_round
      case rel => exact ⟨k + 1, by omega, by go_num, by rw [HS.out]⟩
      case measure => simp [intOf]; omega
    · go_wp2
      go_ret
      exact ⟨ret_int (by rw [List.take_of_length_le (by omega)]), rfl⟩
set_option maxHeartbeats 400000 in
theorem add_row (v : Value) (zs : List Int) (w : World) (h : Row .i64 w v zs) :
    Calls Try.prog 35 #[v] w fun e w' => e = .returned (.int .i64 (DM.addl zs)) ∧ w' = w := by
  go_enter Try.func35, Try.ntmps35
  go_wp2_with (go_at_call 51; refine (foldAdd_row _ zs _ h).mono ?_; rintro e w' ⟨rfl, rfl⟩)
  go_ret
  exact ⟨rfl, rfl⟩

/-! bits -/
theorem pow_cast (n : Nat) : ((2 : Int) ^ n) = ((2 ^ n : Nat) : Int) := (Int.natCast_pow 2 n).symm
theorem shl_one (n : Nat) (h : n < 64) : IntKind.u64.wrap (2 ^ n) = ((2 ^ n : Nat) : Int) := by
  have := BM.pow64 h
  rw [IntKind.wrap_u64, pow_cast]
  generalize 2 ^ n = p at *
  omega
set_option maxHeartbeats 400000 in
theorem only_any (x : Int) (w : World) :
    Calls Try.prog 38 #[.int .i64 x] w fun e w' => e = .returned (.int .u64 (BM.only x : Nat)) ∧ w' = w := by
  by_cases h : 0 ≤ x ∧ x < 64
  · have e : BM.only x = 2 ^ x.toNat := by unfold BM.only; rw [if_pos h]
    obtain ⟨n, rfl⟩ : ∃ n : Nat, x = n := ⟨x.toNat, by omega⟩
    rw [e]
    go_enter Try.func38, Try.ntmps38
    go_wp2_with fail
    go_ret
    exact ⟨ret_int (shl_one n (by omega)), rfl⟩
  · have e : BM.only x = 0 := by unfold BM.only; rw [if_neg h]
    rw [e]
    go_enter Try.func38, Try.ntmps38
    go_wp2_with fail
    all_goals (try (exfalso; omega))
    all_goals go_ret
    all_goals exact ⟨rfl, rfl⟩
theorem int_bne (a : Nat) : (!(a : Int) == 0) = !(a == 0) := by
  rw [Bool.eq_iff_iff]; simp
set_option maxHeartbeats 400000 in
theorem has_any (s : Nat) (x : Int) (hs : s < 18446744073709551616) (w : World) :
    Calls Try.prog 21 #[.int .u64 s, .int .i64 x] w fun e w' => e = .returned (.bool (BM.has s x)) ∧ w' = w := by
  have hc := only_any x w
  have hr : (!bits BinOp.and IntKind.u64 (s : Int) (BM.only x : Nat) == 0) = BM.has s x := by
    rw [bits_and_u64_nat s _ hs (BM.only_lt x), ← BM.has_only, int_bne]
  go_enter Try.func21, Try.ntmps21
  go_wp2_with fail
  refine hc.mono ?_
  rintro e w' ⟨rfl, rfl⟩
  go_wp2_with fail
  go_ret
  exact ⟨ret_bool hr, rfl⟩
set_option maxHeartbeats 400000 in
theorem with_any (s : Nat) (x : Int) (hs : s < 18446744073709551616) (w : World) :
    Calls Try.prog 41 #[.int .u64 s, .int .i64 x] w fun e w' => e = .returned (.int .u64 (s ||| BM.only x : Nat)) ∧ w' = w := by
  have hc := only_any x w
  have hr := bits_or_u64_nat s _ hs (BM.only_lt x)
  go_enter Try.func41, Try.ntmps41
  go_wp2_with fail
  refine hc.mono ?_
  rintro e w' ⟨rfl, rfl⟩
  go_wp2_with fail
  go_ret
  exact ⟨rfl, rfl⟩
set_option maxHeartbeats 400000 in
theorem of_none (w : World) :
    Calls Try.prog 24 #[.slice none 0 0] w fun e w' => e = .returned (.int .u64 0) ∧ w' = w := by
  go_enter Try.func24, Try.ntmps24
  go_wp2_with fail
  go_loop [3, 8] (fun sv i => i = .int .i64 0 ∧ sv = .int .u64 0) (fun _ _ => 0)
  case atStart => exact ⟨rfl, rfl⟩
  case round =>
    obtain ⟨rfl, rfl⟩ := hrel
    go_wp2_with fail
    go_ret
    exact ⟨rfl, rfl⟩
end Go.Proofs.Ytmkpcidgiobpeaa
