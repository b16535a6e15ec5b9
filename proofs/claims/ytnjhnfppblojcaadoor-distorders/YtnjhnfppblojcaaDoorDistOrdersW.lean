/-
  The walk of the law DistOrders.
-/
import Derived.Test.YtnjhnfppblojcaaDoorDistAwake
namespace Go.Proofs.YtnjhnfppblojcaaDoor
open Go.RowKit

set_option maxHeartbeats 400000 in
theorem orders_walk (a b : Int) (w : World) (hw : Ready w) :
    Calls Tryd.prog 6 #[.int .i64 a, .int .i64 b] w fun e w' => e = .returned (.bool true) ∧ Below w.heap.size w w' := by
  have o1 := DM.order1 a b
  have o2 := DM.order2 a b
  have o3 := DM.order3 a b
  have cases3 : (DM.norm a < DM.norm b ∧ ¬ DM.norm b < DM.norm a ∧ (DM.norm a == DM.norm b) = false) ∨ (¬ DM.norm a < DM.norm b ∧ DM.norm b < DM.norm a ∧ (DM.norm a == DM.norm b) = false) ∨ (¬ DM.norm a < DM.norm b ∧ ¬ DM.norm b < DM.norm a ∧ (DM.norm a == DM.norm b) = true) := by
    simp only [beq_eq_false_iff_ne, beq_iff_eq]; omega
  have haa : ¬ DM.norm a < DM.norm a := by omega
  rcases cases3 with ⟨c1, c2, c3⟩ | ⟨c1, c2, c3⟩ | ⟨c1, c2, c3⟩
  all_goals
    go_enter Tryd.func6, Tryd.ntmps6
    go_wp2_with fail
    refine (awake_any _ hw).mono ?_
    rintro e w1 ⟨rfl, hb1⟩
    go_wp2_with (first
      | (go_at_call 20; refine (less_any _ _ _).mono ?_; rintro e w' ⟨rfl, rfl⟩)
      | (go_at_call 10; refine (rnorm_any _ _).mono ?_; rintro e w' ⟨rfl, rfl⟩)
      | (go_at_call 14; refine (min_lit2 _ _ _ _ _ (by simp)).mono ?_; rintro e w' ⟨rfl, rfl⟩)
      | (go_at_call 12; refine (add_lit2 _ _ _ _ _ (by simp)).mono ?_; rintro e w' ⟨rfl, rfl⟩))
    go_ret
    refine ⟨ret_bool (by simp [o1, o2, o3, c1, c2]), ?_⟩
    repeat (first | exact hb1 | refine Below.alloc ?_ (by have := hb1.size; simp; omega) _)
end Go.Proofs.YtnjhnfppblojcaaDoor
