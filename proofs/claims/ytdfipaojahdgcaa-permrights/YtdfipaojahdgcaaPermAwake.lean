/-
  The law's awake: answers that the document fixes.
-/
import Derived.Test.YtdfipaojahdgcaaPermNum
import Derived.Test.YtdfipaojahdgcaaPermMake
namespace Go.Proofs.Ytdfipaojahdgcaa
open Go.RowKit

/-- Numbers just laid. -/
theorem row_new (k : IntKind) (w : World) (e : TypeId) (zs : List Int) (cs : Array Value) (n : Nat) (hcs : cs = (zs.map (Value.int k)).toArray) (hn : n = zs.length) (hm : n ≤ maxLen) :
    Row k (w.alloc (.cells cs e)) (.slice (some ⟨w.heap.size, 0, none⟩) n n) zs := (Own.lit k e w w.heap.size (Nat.le_refl _) zs cs n hcs hn hm).row
theorem below_new {w W : World} (h : Below w.heap.size w W) (o : Obj) : Below w.heap.size w (W.alloc o) := h.alloc h.size o
theorem below_on {w W W' : World} (h : Below w.heap.size w W) (h' : Below W.heap.size W W') : Below w.heap.size w W' := h.trans (h'.mono h.size)

set_option maxHeartbeats 4000000 in
set_option maxRecDepth 100000 in
theorem awake_any (w : World) :
    Calls Try.prog 8 #[] w fun e w' => e = .returned (.bool true) ∧ Below w.heap.size w w' := by
  have o1 : PM.Ord [2, 0, 1] := (PM.rright_iff _).1 (by decide)
  have o2 : PM.Ord [1, 0, 2] := (PM.rright_iff _).1 (by decide)
  have o3 : ¬ PM.Ord [1, 1] := fun h => absurd ((PM.rright_iff _).2 h) (by decide)
  have e1 : PM.inv [2, 0, 1] = [1, 2, 0] := by decide
  have e2 : PM.num ([1, 0, 2] : List Int).length (PM.down (PM.inv [1, 0, 2])) = 1 := by decide
  have e3 : PM.right [1, 0] = true := by rw [← PM.rright_eq]; decide
  have e4 : PM.right [1] = false := by rw [← PM.rright_eq]; decide
  have e5 : PM.of 3 1 = [1, 0, 2] := by decide
  have e6 : PM.turn 3 (-1) = [2, 0, 1] := by decide
  have e7 : PM.cnt 3 = 3 := by decide
  have C1 : Hid (∀ W, Calls Try.prog 9 #[.slice (some ⟨W.heap.size, 0, none⟩) 3 3] (W.alloc (.cells #[.int .i64 2, .int .i64 0, .int .i64 1] 3)) fun e w' => ∃ r, e = .returned (.tuple #[r, .int .i64 0]) ∧ Row .i64 w' r [1, 2, 0] ∧ Below W.heap.size W w') := fun W => by
    refine (inverse_ok _ [2, 0, 1] _ (row_new .i64 W 3 [2, 0, 1] _ 3 rfl rfl (by decide)) o1).mono ?_
    rintro e w' ⟨r, rfl, ho, hb⟩
    rw [e1] at ho
    exact ⟨r, rfl, ho.row, below_on (below_new (Below.refl _ _) _) hb⟩
  have C2 : Hid (∀ W, Calls Try.prog 20 #[.slice (some ⟨W.heap.size, 0, none⟩) 3 3] (W.alloc (.cells #[.int .i64 1, .int .i64 0, .int .i64 2] 3)) fun e w' => e = .returned (.tuple #[.int .u64 1, .int .i64 0]) ∧ Below W.heap.size W w') := fun W => by
    refine (number_ok _ [1, 0, 2] _ (row_new .i64 W 3 [1, 0, 2] _ 3 rfl rfl (by decide)) o2 (by decide)).mono ?_
    rintro e w' ⟨rfl, hb⟩
    exact ⟨by rw [e2]; rfl, below_on (below_new (Below.refl _ _) _) hb⟩
  have C3 : Hid (∀ W, Calls Try.prog 9 #[.slice (some ⟨W.heap.size, 0, none⟩) 2 2] (W.alloc (.cells #[.int .i64 1, .int .i64 1] 3)) fun e w' => e = .returned (.tuple #[.slice none 0 0, .int .i64 1]) ∧ Below W.heap.size W w') := fun W => by
    refine (inverse_no _ [1, 1] _ (row_new .i64 W 3 [1, 1] _ 2 rfl rfl (by decide)) o3).mono ?_
    rintro e w' ⟨rfl, rfl⟩
    exact ⟨rfl, below_new (Below.refl _ _) _⟩
  have C4 : Hid (∀ W, Calls Try.prog 11 #[.slice (some ⟨W.heap.size, 0, none⟩) 2 2] (W.alloc (.cells #[.int .i64 1, .int .i64 0] 3)) fun e w' => e = .returned (.bool true) ∧ Below W.heap.size W w') := fun W => by
    refine (right_any _ [1, 0] _ (row_new .i64 W 3 [1, 0] _ 2 rfl rfl (by decide))).mono ?_
    rintro e w' ⟨rfl, rfl⟩
    exact ⟨by rw [e3], below_new (Below.refl _ _) _⟩
  have C5 : Hid (∀ W, Calls Try.prog 11 #[.slice (some ⟨W.heap.size, 0, none⟩) 1 1] (W.alloc (.cells #[.int .i64 1] 3)) fun e w' => e = .returned (.bool false) ∧ Below W.heap.size W w') := fun W => by
    refine (right_any _ [1] _ (row_new .i64 W 3 [1] _ 1 rfl rfl (by decide))).mono ?_
    rintro e w' ⟨rfl, rfl⟩
    exact ⟨by rw [e4], below_new (Below.refl _ _) _⟩
  have CI : Hid (∀ (W : World) (r : Value) (x y z : Int), Row .i64 W r [x, y, z] → Calls Try.prog 12 #[r, .slice (some ⟨W.heap.size, 0, none⟩) 3 3] (W.alloc (.cells #[.int .i64 x, .int .i64 y, .int .i64 z] 3)) fun e w' => e = .returned (.bool true) ∧ Below W.heap.size W w') := fun W r x y z hr => by
    refine (ints_any r _ [x, y, z] [x, y, z] _ (hr.below (below_new (Below.refl _ _) _)) (row_new .i64 W 3 [x, y, z] _ 3 rfl rfl (by decide))).mono ?_
    rintro e w' ⟨rfl, hb⟩
    exact ⟨ret_bool (by simp), below_on (below_new (Below.refl _ _) _) hb⟩
  have C6 : Hid (∀ W, Calls Try.prog 15 #[.int .i64 3, .int .u64 1] W fun e w' => ∃ r, e = .returned r ∧ Row .i64 w' r [1, 0, 2] ∧ Below W.heap.size W w') := fun W => by
    refine (pof_any 3 1 (by decide) W).mono ?_
    rintro e w' ⟨r, rfl, ho, hb⟩
    rw [e7, e5] at ho
    exact ⟨r, rfl, ho.row, hb⟩
  have C7 : Hid (∀ W, Calls Try.prog 19 #[.int .i64 3, .int .i64 (-1)] W fun e w' => ∃ r, e = .returned r ∧ Row .i64 w' r [2, 0, 1] ∧ Below W.heap.size W w') := fun W => by
    refine (turned_any 3 (-1) W).mono ?_
    rintro e w' ⟨r, rfl, ho, hb⟩
    rw [e7, e6] at ho
    exact ⟨r, rfl, ho.row, hb⟩
  clear o1 o2 o3 e1 e2 e3 e4 e5 e6 e7
  go_enter Try.func8, Try.ntmps8
  go_wp2_with fail
  refine (C1.out _).mono ?_
  rintro e w1 ⟨r, rfl, hr, hb1⟩
  have HR1 : Hid (Row .i64 w1 r [1, 2, 0]) := hr
  obtain ⟨ao, cap, rfl, -⟩ := hr
  go_wp2_with fail
  refine (C2.out _).mono ?_
  rintro e w2 ⟨rfl, hb2'⟩
  have HR2 : Hid (Row .i64 w2 (.slice ao [1, 2, 0].length cap) [1, 2, 0]) := HR1.out.below hb2'
  have hb2 := below_on hb1 hb2'
  clear hb2' hb1 HR1
  go_wp2_with fail
  refine (C3.out _).mono ?_
  rintro e w3 ⟨rfl, hb3'⟩
  have HR3 : Hid (Row .i64 w3 (.slice ao [1, 2, 0].length cap) [1, 2, 0]) := HR2.out.below hb3'
  have hb3 := below_on hb2 hb3'
  clear hb3' hb2 HR2
  go_wp2_with fail
  refine (C4.out _).mono ?_
  rintro e w4 ⟨rfl, hb4'⟩
  have HR4 : Hid (Row .i64 w4 (.slice ao [1, 2, 0].length cap) [1, 2, 0]) := HR3.out.below hb4'
  have hb4 := below_on hb3 hb4'
  clear hb4' hb3 HR3
  go_wp2_with fail
  refine (C5.out _).mono ?_
  rintro e w5 ⟨rfl, hb5'⟩
  have HR5 : Hid (Row .i64 w5 (.slice ao [1, 2, 0].length cap) [1, 2, 0]) := HR4.out.below hb5'
  have hb5 := below_on hb4 hb5'
  clear hb5' hb4 HR4
  go_wp2_with fail
  refine (CI.out _ _ _ _ _ HR5.out).mono ?_
  rintro e w6 ⟨rfl, hb6'⟩
  have hb6 := below_on hb5 hb6'
  clear hb6' hb5 HR5
  go_wp2_with fail
  refine (C6.out _).mono ?_
  rintro e w7 ⟨r7, rfl, hr7, hb7'⟩
  have HR7 : Hid (Row .i64 w7 r7 [1, 0, 2]) := hr7
  have hb7 := below_on hb6 hb7'
  clear hb7' hb6 hr7
  go_wp2_with fail
  refine (CI.out _ _ _ _ _ HR7.out).mono ?_
  rintro e w8 ⟨rfl, hb8'⟩
  have hb8 := below_on hb7 hb8'
  clear hb8' hb7 HR7
  go_wp2_with fail
  refine (C7.out _).mono ?_
  rintro e w9 ⟨r9, rfl, hr9, hb9'⟩
  have HR9 : Hid (Row .i64 w9 r9 [2, 0, 1]) := hr9
  have hb9 := below_on hb8 hb9'
  clear hb9' hb8 hr9
  go_wp2_with fail
  refine (CI.out _ _ _ _ _ HR9.out).mono ?_
  rintro e w10 ⟨rfl, hb10'⟩
  have hb10 := below_on hb9 hb10'
  clear hb10' hb9 HR9
  go_wp2_with fail
  go_ret
  exact ⟨rfl, hb10⟩
end Go.Proofs.Ytdfipaojahdgcaa
