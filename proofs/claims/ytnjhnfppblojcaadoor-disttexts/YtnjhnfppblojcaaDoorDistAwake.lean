/-
  The walk of the law's own first look: the answers that the document fixes.
-/
import Derived.Test.YtnjhnfppblojcaaDoorDistParseGo
namespace Go.Proofs.YtnjhnfppblojcaaDoor
open Go.RowKit

theorem Row.lit2 (w : World) (a b : Int) (t : TypeId) : Row (w.alloc (.cells #[.int .i64 a, .int .i64 b] t)) (.slice (some ⟨w.heap.size, 0, none⟩) 2 2) [a, b] :=
  .inr ⟨w.heap.size, 0, 2, rfl, by simp [maxLen], fun i hi => by
    match i, hi with
    | 0, _ => simp
    | 1, _ => simp⟩
theorem Row.lit3 (w : World) (a b c : Int) (t : TypeId) : Row (w.alloc (.cells #[.int .i64 a, .int .i64 b, .int .i64 c] t)) (.slice (some ⟨w.heap.size, 0, none⟩) 3 3) [a, b, c] :=
  .inr ⟨w.heap.size, 0, 3, rfl, by simp [maxLen], fun i hi => by
    match i, hi with
    | 0, _ => simp
    | 1, _ => simp
    | 2, _ => simp⟩

theorem add_lit2 (a b : Int) (w : World) (t : TypeId) (n : Nat) (hn : n = w.heap.size) :
    Calls Tryd.prog 12 #[.slice (some ⟨n, 0, none⟩) 2 2] (w.alloc (.cells #[.int .i64 a, .int .i64 b] t)) fun e w' => e = .returned (.int .i64 (DM.addl [a, b])) ∧ w' = w.alloc (.cells #[.int .i64 a, .int .i64 b] t) := by
  subst hn; exact add_row _ _ _ (Row.lit2 w a b t)
theorem add_lit3 (a b c : Int) (w : World) (t : TypeId) (n : Nat) (hn : n = w.heap.size) :
    Calls Tryd.prog 12 #[.slice (some ⟨n, 0, none⟩) 3 3] (w.alloc (.cells #[.int .i64 a, .int .i64 b, .int .i64 c] t)) fun e w' => e = .returned (.int .i64 (DM.addl [a, b, c])) ∧ w' = w.alloc (.cells #[.int .i64 a, .int .i64 b, .int .i64 c] t) := by
  subst hn; exact add_row _ _ _ (Row.lit3 w a b c t)
theorem min_lit2 (a b : Int) (w : World) (t : TypeId) (n : Nat) (hn : n = w.heap.size) :
    Calls Tryd.prog 14 #[.slice (some ⟨n, 0, none⟩) 2 2] (w.alloc (.cells #[.int .i64 a, .int .i64 b] t)) fun e w' => e = .returned (.int .i64 (DM.minl [a, b])) ∧ w' = w.alloc (.cells #[.int .i64 a, .int .i64 b] t) := by
  subst hn; exact min_row _ _ _ (Row.lit2 w a b t)
theorem add_nil (w : World) : Calls Tryd.prog 12 #[.slice none 0 0] w fun e w' => e = .returned (.int .i64 0) ∧ w' = w := add_row _ [] _ (Row.nil w none 0)
theorem min_nil (w : World) : Calls Tryd.prog 14 #[.slice none 0 0] w fun e w' => e = .returned (.int .i64 4611686018427387906) ∧ w' = w := min_row _ [] _ (Row.nil w none 0)

set_option maxHeartbeats 400000 in
theorem awake_any (w : World) (hw : Ready w) :
    Calls Tryd.prog 8 #[] w fun e w' => e = .returned (.bool true) ∧ Below w.heap.size w w' := by
  have p1 : DM.parse [49, 55] = some 17 := by decide
  have p2 : DM.parse [48, 49, 55] = none := by decide
  have a1 : DM.addl [4611686018427387904, 1] = 4611686018427387905 := by decide
  have a2 : DM.addl [4611686018427387905, 4611686018427387906] = 4611686018427387906 := by decide
  have a5 : DM.text 4611686018427387905 = [102, 97, 114] := by decide
  go_enter Tryd.func8, Tryd.ntmps8
  go_wp2_with fail
  refine (parse_any _ _ (by decide) hw).mono ?_
  rintro e w1 ⟨rfl, hb1⟩
  have hr1 := hw.below hb1
  simp only [p1, parsed]
  go_wp2_with fail
  refine (parse_any _ _ (by decide) hr1).mono ?_
  rintro e w2 ⟨rfl, hb2⟩
  have hr2 := hr1.below hb2
  simp only [p2, parsed]
  go_wp2_with fail
  refine (add_lit2 _ _ _ _ _ (by simp)).mono ?_
  rintro e w3 ⟨rfl, rfl⟩
  rw [a1]
  go_wp2_with fail
  refine (add_lit2 _ _ _ _ _ (by simp)).mono ?_
  rintro e w4 ⟨rfl, rfl⟩
  rw [a2]
  go_wp2_with fail
  refine (min_nil _).mono ?_
  rintro e w5 ⟨rfl, rfl⟩
  go_wp2_with fail
  refine (add_nil _).mono ?_
  rintro e w6 ⟨rfl, rfl⟩
  go_wp2_with fail
  have hb3 : Below w2.heap.size w2 _ := ((Below.refl _ w2).alloc (Nat.le_refl _) (.cells #[.int .i64 4611686018427387904, .int .i64 1] 3)).alloc (by simp) (.cells #[.int .i64 4611686018427387905, .int .i64 4611686018427387906] 3)
  refine (text_any _ _ (hr2.below hb3)).mono ?_
  rintro e w7 ⟨rfl, hb4⟩
  rw [a5]
  go_wp2_with fail
  go_ret
  exact ⟨rfl, ((hb1.trans (hb2.mono hb1.size)).trans (hb3.mono (Nat.le_trans hb1.size hb2.size))).trans (hb4.mono (Nat.le_trans (Nat.le_trans hb1.size hb2.size) hb3.size))⟩
end Go.Proofs.YtnjhnfppblojcaaDoor
