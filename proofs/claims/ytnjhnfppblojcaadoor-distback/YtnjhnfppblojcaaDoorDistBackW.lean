/-
  The walk of the law DistBack.
-/
import Derived.Test.YtnjhnfppblojcaaDoorDistAwake
namespace Go.Proofs.YtnjhnfppblojcaaDoor
open Go.RowKit

set_option maxHeartbeats 400000 in
theorem back_walk (a : Int) (w : World) (hw : Ready w) :
    Calls Tryd.prog 7 #[.int .i64 a] w fun e w' => e = .returned (.bool true) ∧ Below w.heap.size w w' := by
  have hp := DM.parse_text a
  have hl := DM.text_len a
  go_enter Tryd.func7, Tryd.ntmps7
  go_wp2_with fail
  refine (awake_any _ hw).mono ?_
  rintro e w1 ⟨rfl, hb1⟩
  have hr1 := hw.below hb1
  go_wp2_with fail
  refine (text_any _ _ hr1).mono ?_
  rintro e w2 ⟨rfl, hb2⟩
  have hr2 := hr1.below hb2
  go_wp2_with fail
  refine (parse_any _ _ (by simp [ByteArray.size]; omega) hr2).mono ?_
  rintro e w3 ⟨rfl, hb3⟩
  have hb := (hb1.trans (hb2.mono hb1.size)).trans (hb3.mono (Nat.le_trans hb1.size hb2.size))
  simp only [hp, parsed]
  clear hp hl
  by_cases h0 : 0 < a
  · have h1 : 1 ≤ a := by omega
    go_wp2_with (first
      | (go_at_call 10; refine (rnorm_any _ _).mono ?_; rintro e w' ⟨rfl, rfl⟩)
      | (go_at_call 9; refine (norm_any _ _).mono ?_; rintro e w' ⟨rfl, rfl⟩)
      | (go_at_call 21; refine (weight_any _ _).mono ?_; rintro e w' ⟨rfl, rfl⟩)
      | (go_at_call 11; refine (told_any _ _).mono ?_; rintro e w' ⟨rfl, rfl⟩))
    go_ret
    exact ⟨ret_bool (by simp [DM.told]), hb⟩
  · have h1 : ¬ 1 ≤ a := by omega
    go_wp2_with (first
      | (go_at_call 10; refine (rnorm_any _ _).mono ?_; rintro e w' ⟨rfl, rfl⟩)
      | (go_at_call 9; refine (norm_any _ _).mono ?_; rintro e w' ⟨rfl, rfl⟩)
      | (go_at_call 21; refine (weight_any _ _).mono ?_; rintro e w' ⟨rfl, rfl⟩)
      | (go_at_call 11; refine (told_any _ _).mono ?_; rintro e w' ⟨rfl, rfl⟩))
    go_ret
    exact ⟨ret_bool (by simp [DM.told]; omega), hb⟩
end Go.Proofs.YtnjhnfppblojcaaDoor
