/-
  The walks of package dist's sums and least ones over a list that lies in memory.
-/
import Derived.Test.YtnjhnfppblojcaaDoorDistWalks
namespace Go.Proofs.YtnjhnfppblojcaaDoor
open Go.RowKit

/-- A slice value under which the numbers zs lie. -/
def Row (w : World) (v : Value) (zs : List Int) : Prop :=
  (∃ a cap, v = .slice a 0 cap ∧ zs = []) ∨
  ∃ b o cap, v = .slice (some ⟨b, o, none⟩) zs.length cap ∧ zs.length ≤ maxLen ∧ ∀ i, i < zs.length → w.cell? ⟨b, o + i, none⟩ = some (.int .i64 (zs[i]?.getD 0))
theorem Row.nil (w : World) (a : Option Addr) (cap : Nat) : Row w (.slice a 0 cap) [] := .inl ⟨a, cap, rfl, rfl⟩

set_option maxHeartbeats 400000 in
theorem foldAdd_row (v : Value) (zs : List Int) (w : World) (h : Row w v zs) :
    Calls Tryd.prog 22 #[v, .int .i64 0, .func (.func 23) #[] #[]] w fun e w' => e = .returned (.int .i64 (DM.addl zs)) ∧ w' = w := by
  rcases h with ⟨a, cap, rfl, rfl⟩ | ⟨b, o, cap, rfl, hm, hc⟩
  · go_enter Tryd.func22, Tryd.ntmps22
    go_wp2
    go_loop [7, 13] (fun s i => i = .int .i64 0 ∧ s = .int .i64 0) (fun _ _ => 0)
    case atStart => exact ⟨rfl, rfl⟩
    case round =>
      obtain ⟨rfl, rfl⟩ := hrel
      go_wp2
      go_ret
      exact ⟨rfl, rfl⟩
  unfold maxLen at hm
  go_enter Tryd.func22, Tryd.ntmps22
  go_wp2
  go_loop [7, 13] (fun s i => ∃ k : Nat, k ≤ zs.length ∧ i = .int .i64 k ∧ s = .int .i64 (DM.addl (zs.take k))) (fun _ i => zs.length - (intOf i).toNat)
  case atStart => exact ⟨0, Nat.zero_le _, rfl, rfl⟩
  case round =>
    obtain ⟨k, hk, rfl, rfl⟩ := hrel
    have hb := DM.addl_bd (zs.take k)
    by_cases hlt : k < zs.length
    · have hck := hc k hlt
      have HS : Hid (DM.addl (zs.take (k + 1)) = DM.two (DM.addl (zs.take k)) zs[k]) := DM.foldl_take_succ _ _ _ _ hlt
      go_wp2_with (go_at_call 23; refine (addStep_any _ _ _ hb.1 hb.2).mono ?_; rintro e w' ⟨rfl, rfl⟩)
      go_round
      case rel => exact ⟨k + 1, by omega, by go_num, by rw [HS.out]⟩
      case measure => simp [intOf]; omega
    · go_wp2
      go_ret
      exact ⟨ret_int (by rw [List.take_of_length_le (by omega)]), rfl⟩
set_option maxHeartbeats 400000 in
theorem add_row (v : Value) (zs : List Int) (w : World) (h : Row w v zs) :
    Calls Tryd.prog 12 #[v] w fun e w' => e = .returned (.int .i64 (DM.addl zs)) ∧ w' = w := by
  go_enter Tryd.func12, Tryd.ntmps12
  go_wp2_with (go_at_call 22; refine (foldAdd_row _ zs _ h).mono ?_; rintro e w' ⟨rfl, rfl⟩)
  go_ret
  exact ⟨rfl, rfl⟩

set_option maxHeartbeats 400000 in
theorem foldMin_row (v : Value) (zs : List Int) (w : World) (h : Row w v zs) :
    Calls Tryd.prog 22 #[v, .int .i64 4611686018427387906, .func (.func 25) #[] #[]] w fun e w' => e = .returned (.int .i64 (DM.minl zs)) ∧ w' = w := by
  rcases h with ⟨a, cap, rfl, rfl⟩ | ⟨b, o, cap, rfl, hm, hc⟩
  · go_enter Tryd.func22, Tryd.ntmps22
    go_wp2
    go_loop [7, 13] (fun s i => i = .int .i64 0 ∧ s = .int .i64 4611686018427387906) (fun _ _ => 0)
    case atStart => exact ⟨rfl, rfl⟩
    case round =>
      obtain ⟨rfl, rfl⟩ := hrel
      go_wp2
      go_ret
      exact ⟨rfl, rfl⟩
  unfold maxLen at hm
  go_enter Tryd.func22, Tryd.ntmps22
  go_wp2
  go_loop [7, 13] (fun s i => ∃ k : Nat, k ≤ zs.length ∧ i = .int .i64 k ∧ s = .int .i64 (DM.minl (zs.take k))) (fun _ i => zs.length - (intOf i).toNat)
  case atStart => exact ⟨0, Nat.zero_le _, rfl, rfl⟩
  case round =>
    obtain ⟨k, hk, rfl, rfl⟩ := hrel
    have hb := DM.minl_bd (zs.take k)
    by_cases hlt : k < zs.length
    · have hck := hc k hlt
      have HS : Hid (DM.minl (zs.take (k + 1)) = DM.low (DM.minl (zs.take k)) zs[k]) := DM.foldl_take_succ _ _ _ _ hlt
      go_wp2_with (go_at_call 25; refine (minStep_any _ _ _).mono ?_; rintro e w' ⟨rfl, rfl⟩)
      go_round
      case rel => exact ⟨k + 1, by omega, by go_num, by rw [HS.out]⟩
      case measure => simp [intOf]; omega
    · go_wp2
      go_ret
      exact ⟨ret_int (by rw [List.take_of_length_le (by omega)]), rfl⟩
set_option maxHeartbeats 400000 in
theorem min_row (v : Value) (zs : List Int) (w : World) (h : Row w v zs) :
    Calls Tryd.prog 14 #[v] w fun e w' => e = .returned (.int .i64 (DM.minl zs)) ∧ w' = w := by
  go_enter Tryd.func14, Tryd.ntmps14
  go_wp2_with (go_at_call 22; refine (foldMin_row _ zs _ h).mono ?_; rintro e w' ⟨rfl, rfl⟩)
  go_ret
  exact ⟨rfl, rfl⟩

set_option maxHeartbeats 400000 in
theorem radd_row (v : Value) (zs : List Int) (w : World) (h : Row w v zs) :
    Calls Tryd.prog 13 #[v] w fun e w' => e = .returned (.int .i64 (DM.addl zs)) ∧ w' = w := by
  rcases h with ⟨a, cap, rfl, rfl⟩ | ⟨b, o, cap, rfl, hm, hc⟩
  · go_enter Tryd.func13, Tryd.ntmps13
    go_wp2
    go_loop [3, 4] (fun s i => i = .int .i64 0 ∧ s = .int .i64 0) (fun _ _ => 0)
    case atStart => exact ⟨rfl, rfl⟩
    case round =>
      obtain ⟨rfl, rfl⟩ := hrel
      go_wp2
      go_ret
      exact ⟨rfl, rfl⟩
  unfold maxLen at hm
  go_enter Tryd.func13, Tryd.ntmps13
  go_wp2
  go_loop [3, 4] (fun s i => ∃ k : Nat, k ≤ zs.length ∧ i = .int .i64 k ∧ s = .int .i64 (DM.addl (zs.take k))) (fun _ i => zs.length - (intOf i).toNat)
  case atStart => exact ⟨0, Nat.zero_le _, rfl, rfl⟩
  case round =>
    obtain ⟨k, hk, rfl, rfl⟩ := hrel
    have hb := DM.addl_bd (zs.take k)
    by_cases hlt : k < zs.length
    · have hck := hc k hlt
      have HS : Hid (DM.addl (zs.take (k + 1)) = DM.two (DM.addl (zs.take k)) zs[k]) := DM.foldl_take_succ _ _ _ _ hlt
      go_wp2_with (go_at_call 24; refine (two_any _ _ _).mono ?_; rintro e w' ⟨rfl, rfl⟩)
      go_round
      case rel => exact ⟨k + 1, by omega, by go_num, by rw [HS.out]⟩
      case measure => simp [intOf]; omega
    · go_wp2
      go_ret
      exact ⟨ret_int (by rw [List.take_of_length_le (by omega)]), rfl⟩

set_option maxHeartbeats 400000 in
theorem rmin_row (v : Value) (zs : List Int) (w : World) (h : Row w v zs) :
    Calls Tryd.prog 15 #[v] w fun e w' => e = .returned (.int .i64 (DM.minl zs)) ∧ w' = w := by
  rcases h with ⟨a, cap, rfl, rfl⟩ | ⟨b, o, cap, rfl, hm, hc⟩
  · go_enter Tryd.func15, Tryd.ntmps15
    go_wp2
    go_loop [3, 4] (fun s i => i = .int .i64 0 ∧ s = .int .i64 4611686018427387906) (fun _ _ => 0)
    case atStart => exact ⟨rfl, rfl⟩
    case round =>
      obtain ⟨rfl, rfl⟩ := hrel
      go_wp2
      go_ret
      exact ⟨rfl, rfl⟩
  unfold maxLen at hm
  go_enter Tryd.func15, Tryd.ntmps15
  go_wp2
  go_loop [3, 4] (fun s i => ∃ k : Nat, k ≤ zs.length ∧ i = .int .i64 k ∧ s = .int .i64 (DM.minl (zs.take k))) (fun _ i => zs.length - (intOf i).toNat)
  case atStart => exact ⟨0, Nat.zero_le _, rfl, rfl⟩
  case round =>
    obtain ⟨k, hk, rfl, rfl⟩ := hrel
    have hb := DM.minl_bd (zs.take k)
    by_cases hlt : k < zs.length
    · have hck := hc k hlt
      have HS : Hid (DM.minl (zs.take (k + 1)) = DM.low (DM.minl (zs.take k)) zs[k]) := DM.foldl_take_succ _ _ _ _ hlt
      go_wp2_with (go_at_call 10; refine (rnorm_any _ _).mono ?_; rintro e w' ⟨rfl, rfl⟩)
      all_goals
        go_round
        case rel => exact ⟨k + 1, by omega, by go_num, by rw [HS.out]; refine congrArg _ ?_; unfold DM.low; omega⟩
        case measure => simp [intOf]; omega
    · go_wp2
      go_ret
      exact ⟨ret_int (by rw [List.take_of_length_le (by omega)]), rfl⟩
end Go.Proofs.YtnjhnfppblojcaaDoor
