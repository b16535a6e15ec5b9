/-
  The walk of the law DistRings.
-/
import Derived.Test.YtnjhnfppblojcaaDoorDistAwake
namespace Go.Proofs.YtnjhnfppblojcaaDoor
open Go.RowKit

set_option maxHeartbeats 400000 in
theorem rings_walk (a b c : Int) (w : World) (hw : Ready w) :
    Calls Tryd.prog 5 #[.int .i64 a, .int .i64 b, .int .i64 c] w fun e w' => e = .returned (.bool true) ∧ Below w.heap.size w w' := by
  have r1 : (DM.addl [a, b] == DM.addl [b, a]) = true := beq_iff_eq.2 (DM.ring1 a b)
  have r2 : (DM.addl [a, DM.addl [b, c]] == DM.addl [DM.addl [a, b], c]) = true := beq_iff_eq.2 (DM.ring2 a b c)
  have r3 : (DM.addl [a, DM.minl [b, c]] == DM.minl [DM.addl [a, b], DM.addl [a, c]]) = true := beq_iff_eq.2 (DM.ring3 a b c)
  have r4 : (DM.addl [a, b, c] == DM.addl [DM.addl [a, b], c]) = true := beq_iff_eq.2 (DM.ring4 a b c)
  go_enter Tryd.func5, Tryd.ntmps5
  go_wp2_with fail
  refine (awake_any _ hw).mono ?_
  rintro e w1 ⟨rfl, hb1⟩
  go_wp2_with fail
  refine (add_lit2 _ _ _ _ _ (by simp)).mono ?_
  rintro e w' ⟨rfl, rfl⟩
  go_wp2_with fail
  refine (add_lit2 _ _ _ _ _ (by simp)).mono ?_
  rintro e w' ⟨rfl, rfl⟩
  go_wp2_with fail
  refine (add_lit2 _ _ _ _ _ (by simp)).mono ?_
  rintro e w' ⟨rfl, rfl⟩
  go_wp2_with fail
  refine (add_lit2 _ _ _ _ _ (by simp)).mono ?_
  rintro e w' ⟨rfl, rfl⟩
  go_wp2_with fail
  refine (add_lit2 _ _ _ _ _ (by simp)).mono ?_
  rintro e w' ⟨rfl, rfl⟩
  go_wp2_with fail
  refine (add_lit2 _ _ _ _ _ (by simp)).mono ?_
  rintro e w' ⟨rfl, rfl⟩
  go_wp2_with fail
  refine (min_lit2 _ _ _ _ _ (by simp)).mono ?_
  rintro e w' ⟨rfl, rfl⟩
  go_wp2_with fail
  refine (add_lit2 _ _ _ _ _ (by simp)).mono ?_
  rintro e w' ⟨rfl, rfl⟩
  go_wp2_with fail
  refine (add_lit2 _ _ _ _ _ (by simp)).mono ?_
  rintro e w' ⟨rfl, rfl⟩
  go_wp2_with fail
  refine (add_lit2 _ _ _ _ _ (by simp)).mono ?_
  rintro e w' ⟨rfl, rfl⟩
  go_wp2_with fail
  refine (min_lit2 _ _ _ _ _ (by simp)).mono ?_
  rintro e w' ⟨rfl, rfl⟩
  go_wp2_with fail
  refine (add_lit3 _ _ _ _ _ _ (by simp)).mono ?_
  rintro e w' ⟨rfl, rfl⟩
  go_wp2_with fail
  refine (add_lit2 _ _ _ _ _ (by simp)).mono ?_
  rintro e w' ⟨rfl, rfl⟩
  go_wp2_with fail
  refine (add_lit2 _ _ _ _ _ (by simp)).mono ?_
  rintro e w' ⟨rfl, rfl⟩
  go_wp2_with fail
  go_ret
  refine ⟨rfl, ?_⟩
  repeat (first | exact hb1 | refine Below.alloc ?_ (by have := hb1.size; simp; omega) _)
end Go.Proofs.YtnjhnfppblojcaaDoor
