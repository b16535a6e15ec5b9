/-
  The walk of the law DistTexts.
-/
import Derived.Test.YtnjhnfppblojcaaDoorDistAwake
namespace Go.Proofs.YtnjhnfppblojcaaDoor
open Go.RowKit

set_option maxHeartbeats 400000 in
theorem texts_walk (a : Int) (s : ByteArray) (w : World) (hw : Ready w) (hs : s.size ≤ maxLen) :
    Calls Tryd.prog 4 #[.int .i64 a, .string s] w fun e w' => e = .returned (.bool true) ∧ Below w.heap.size w w' := by
  by_cases h100 : 100 < s.size
  · unfold maxLen at hs
    go_enter Tryd.func4, Tryd.ntmps4
    go_wp2_with fail
    refine (awake_any _ hw).mono ?_
    rintro e w1 ⟨rfl, hb1⟩
    go_wp2_with fail
    go_ret
    exact ⟨rfl, hb1⟩
  · have hs2 := hs
    unfold maxLen at hs2
    have ht : (DM.text a == DM.text a) = true := by simp
    have hp : ∃ n ok, parsed (DM.parse s.data.toList) = .tuple #[.int .i64 n, .bool ok] := by
      cases DM.parse s.data.toList with
      | none => exact ⟨_, _, rfl⟩
      | some v => exact ⟨_, _, rfl⟩
    obtain ⟨n, ok, hp⟩ := hp
    have HP : Hid _ := hp
    clear hp
    have hnn : (n == n) = true := by simp
    go_enter Tryd.func4, Tryd.ntmps4
    go_wp2_with fail
    refine (awake_any _ hw).mono ?_
    rintro e w1 ⟨rfl, hb1⟩
    have hr1 := hw.below hb1
    go_wp2_with fail
    refine (parse_any _ _ (by omega) hr1).mono ?_
    rintro e w2 ⟨rfl, hb2⟩
    have hr2 := hr1.below hb2
    rw [HP.out]
    go_wp2_with fail
    refine (rparse_any _ _ hs).mono ?_
    rintro e w3 ⟨rfl, rfl⟩
    rw [HP.out]
    go_wp2_with fail
    refine (text_any _ _ hr2).mono ?_
    rintro e w4 ⟨rfl, hb4⟩
    go_wp2_with fail
    refine (rtext_any _ _).mono ?_
    rintro e w5 ⟨rfl, rfl⟩
    go_wp2_with fail
    go_ret
    exact ⟨ret_bool (by simp), (hb1.trans (hb2.mono hb1.size)).trans (hb4.mono (Nat.le_trans hb1.size hb2.size))⟩
end Go.Proofs.YtnjhnfppblojcaaDoor
