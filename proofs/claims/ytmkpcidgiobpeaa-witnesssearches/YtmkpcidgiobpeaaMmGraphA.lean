/-
  The walks of graph's and the reference's smaller functions: New, Arc, Vertices, Copy, and what they lean on.
-/
import Derived.Test.YtmkpcidgiobpeaaMmGraphMem
namespace Go.Proofs.Ytmkpcidgiobpeaa
open Go.RowKit

set_option maxHeartbeats 400000 in
theorem norm_any (a : Int) (w : World) :
    Calls Try.prog 53 #[.int .i64 a] w fun e w' => e = .returned (.int .i64 (GM.norm a)) ∧ w' = w := by
  go_enter Try.func53, Try.ntmps53
  go_wp2
  all_goals go_ret
  all_goals refine ⟨ret_int ?_, rfl⟩
  all_goals unfold GM.norm
  all_goals (repeat' split) <;> (try split at *) <;> omega
set_option maxHeartbeats 400000 in
theorem less_any (a b : Int) (w : World) :
    Calls Try.prog 48 #[.int .i64 a, .int .i64 b] w fun e w' => e = .returned (.bool (decide (GM.norm a < GM.norm b))) ∧ w' = w := by
  go_enter Try.func48, Try.ntmps48
  go_wp2_with (go_at_call 53; refine (norm_any _ _).mono ?_; rintro e w' ⟨rfl, rfl⟩)
  all_goals go_ret
  all_goals exact ⟨rfl, rfl⟩
/-- May there be such a graph? -/
def may (n most : Int) : Bool := decide (1 ≤ n ∧ n ≤ 24 ∧ 1 ≤ most ∧ most ≤ 64)
end Go.Proofs.Ytmkpcidgiobpeaa
