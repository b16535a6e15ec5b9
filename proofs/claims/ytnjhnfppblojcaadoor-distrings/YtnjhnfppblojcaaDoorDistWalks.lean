/-
  The walks of package dist's and its reference's functions over integers.
-/
import Derived.Test.YtnjhnfppblojcaaDoorDistMath
import Derived.Test.YtnjhnfppblojcaaDoorChecked
import Derived.WalkKit
import Derived.WalkSpells
import Derived.WalkLawsBesides
import Derived.Below
import Derived.Deep.Light
namespace Go.Proofs.YtnjhnfppblojcaaDoor
open Go.RowKit

theorem ret_int {k : IntKind} {a b : Int} (h : a = b) : Ending.returned (.int k a) = .returned (.int k b) := by rw [h]
theorem ret_bool {a b : Bool} (h : a = b) : Ending.returned (.bool a) = .returned (.bool b) := by rw [h]

set_option maxHeartbeats 400000 in
theorem norm_any (a : Int) (w : World) :
    Calls Tryd.prog 9 #[.int .i64 a] w fun e w' => e = .returned (.int .i64 (DM.norm a)) ∧ w' = w := by
  go_enter Tryd.func9, Tryd.ntmps9
  go_wp2
  all_goals go_ret
  all_goals refine ⟨ret_int ?_, rfl⟩
  all_goals unfold DM.norm
  all_goals (repeat' split) <;> (try split at *) <;> omega
set_option maxHeartbeats 400000 in
theorem rnorm_any (a : Int) (w : World) :
    Calls Tryd.prog 10 #[.int .i64 a] w fun e w' => e = .returned (.int .i64 (DM.norm a)) ∧ w' = w := by
  go_enter Tryd.func10, Tryd.ntmps10
  go_wp2
  all_goals go_ret
  all_goals refine ⟨ret_int ?_, rfl⟩
  all_goals unfold DM.norm
  all_goals (repeat' split) <;> omega
set_option maxHeartbeats 400000 in
theorem told_any (a : Int) (w : World) :
    Calls Tryd.prog 11 #[.int .i64 a] w fun e w' => e = .returned (.bool (DM.told a)) ∧ w' = w := by
  go_enter Tryd.func11, Tryd.ntmps11
  go_wp2_with (go_at_call 9; refine (norm_any _ _).mono ?_; rintro e w' ⟨rfl, rfl⟩)
  all_goals go_ret
  all_goals exact ⟨rfl, rfl⟩
set_option maxHeartbeats 400000 in
theorem less_any (a b : Int) (w : World) :
    Calls Tryd.prog 20 #[.int .i64 a, .int .i64 b] w fun e w' => e = .returned (.bool (decide (DM.norm a < DM.norm b))) ∧ w' = w := by
  go_enter Tryd.func20, Tryd.ntmps20
  go_wp2_with (go_at_call 9; refine (norm_any _ _).mono ?_; rintro e w' ⟨rfl, rfl⟩)
  all_goals go_ret
  all_goals exact ⟨rfl, rfl⟩
set_option maxHeartbeats 400000 in
theorem weight_any (a : Int) (w : World) :
    Calls Tryd.prog 21 #[.int .i64 a] w fun e w' => e = .returned (.bool (decide (1 ≤ a ∧ a ≤ 4611686018427387904))) ∧ w' = w := by
  by_cases h : 1 ≤ a
  all_goals
    go_enter Tryd.func21, Tryd.ntmps21
    go_wp2
    all_goals go_ret
    all_goals refine ⟨ret_bool ?_, rfl⟩
    all_goals simp
    all_goals omega
set_option maxHeartbeats 400000 in
theorem two_any (a b : Int) (w : World) :
    Calls Tryd.prog 24 #[.int .i64 a, .int .i64 b] w fun e w' => e = .returned (.int .i64 (DM.two a b)) ∧ w' = w := by
  have ha := DM.norm_bd a
  have hb := DM.norm_bd b
  go_enter Tryd.func24, Tryd.ntmps24
  go_wp2_with (go_at_call 10; refine (rnorm_any _ _).mono ?_; rintro e w' ⟨rfl, rfl⟩)
  all_goals go_ret
  all_goals refine ⟨ret_int ?_, rfl⟩
  all_goals unfold DM.two
  all_goals go_light
  all_goals (repeat' split) <;> (try simp only [beq_iff_eq, beq_eq_false_iff_ne, ne_eq] at *) <;> omega
set_option maxHeartbeats 400000 in
theorem addStep_any (s a : Int) (w : World) (h0 : 0 ≤ s) (h1 : s ≤ 4611686018427387906) :
    Calls Tryd.prog 23 #[.int .i64 s, .int .i64 a] w fun e w' => e = .returned (.int .i64 (DM.two s a)) ∧ w' = w := by
  have ha := DM.norm_bd a
  rcases DM.told_cases s with ⟨hs, hs'⟩ | ⟨hs, hs'⟩ <;> rcases DM.told_cases (DM.norm a) with ⟨hb, hb'⟩ | ⟨hb, hb'⟩
  all_goals
    rw [DM.norm_of h0 h1] at hs'
    rw [DM.norm_norm] at hb'
    go_enter Tryd.func23, Tryd.ntmps23
    go_wp2_with (first | (go_at_call 9; refine (norm_any _ _).mono ?_; rintro e w' ⟨rfl, rfl⟩) | (go_at_call 11; refine (told_any _ _).mono ?_; rintro e w' ⟨rfl, rfl⟩))
  all_goals go_ret
  all_goals refine ⟨ret_int ?_, rfl⟩
  all_goals simp only [DM.two, DM.norm_of h0 h1]
  all_goals (repeat' split) <;> omega
set_option maxHeartbeats 400000 in
theorem minStep_any (s a : Int) (w : World) :
    Calls Tryd.prog 25 #[.int .i64 s, .int .i64 a] w fun e w' => e = .returned (.int .i64 (DM.low s a)) ∧ w' = w := by
  go_enter Tryd.func25, Tryd.ntmps25
  go_wp2_with (first | (go_at_call 9; refine (norm_any _ _).mono ?_; rintro e w' ⟨rfl, rfl⟩))
  all_goals go_ret
  all_goals refine ⟨ret_int ?_, rfl⟩
  all_goals unfold DM.low
  all_goals omega
end Go.Proofs.YtnjhnfppblojcaaDoor
