/-
  The walk of the law PermTurns.
-/
import Derived.Test.YtdfipaojahdgcaaPermAwake
namespace Go.Proofs.Ytdfipaojahdgcaa
open Go.RowKit

set_option maxHeartbeats 4000000 in
set_option maxRecDepth 100000 in
theorem turns_walk (n0 y : Int) (w : World) (hy0 : -9223372036854775808 ≤ y) (hy1 : y ≤ 9223372036854775807) :
    Calls Try.prog 6 #[.int .i64 n0, .int .i64 y] w fun e w' => e = .returned (.bool true) ∧ Below w.heap.size w w' := by
  have haw := awake_any w
  have h24 := PM.cnt_le n0
  go_enter Try.func6, Try.ntmps6
  go_wp2_with fail
  refine haw.mono ?_
  rintro e w1 ⟨rfl, hb1⟩
  clear haw
  by_cases hy : y = -9223372036854775808
  · subst hy
    go_wp2_with fail
    go_ret
    exact ⟨rfl, hb1⟩
  · have c1 := turned_any n0 y w1
    go_wp2_with fail
    refine c1.mono ?_
    rintro e w2 ⟨a, rfl, oa, hb2'⟩
    have hb2 := below_on hb1 hb2'
    have HA2 : Hid (∀ W, Below w2.heap.size w2 W → Row .i64 W a (PM.turn (PM.cnt n0) y)) := fun W hb => oa.row.below hb
    have c2 := turned_any n0 (-y) w2
    clear c1 oa hb1 hb2'
    go_wp2_with fail
    refine c2.mono ?_
    rintro e w3 ⟨b, rfl, ob, hb3'⟩
    have hb3 := below_on hb2 hb3'
    have HB3 : Hid (∀ W, Below w3.heap.size w3 W → Row .i64 W b (PM.turn (PM.cnt n0) (-y))) := fun W hb => ob.row.below hb
    have HA3 : Hid (∀ W, Below w3.heap.size w3 W → Row .i64 W a (PM.turn (PM.cnt n0) y)) := fun W hb => HA2.out W (below_on hb3' hb)
    have c3 := inverse_ok _ _ w3 (HA3.out _ (Below.refl _ _)) (PM.ord_turn h24 y)
    rw [PM.inv_turn h24] at c3
    clear c2 ob hb2 hb3' HA2
    go_wp2_with fail
    refine c3.mono ?_
    rintro e w4 ⟨x, rfl, ox, hb4'⟩
    have hb4 := below_on hb3 hb4'
    have HX4 : Hid (∀ W, Below w4.heap.size w4 W → Row .i64 W x (PM.turn (PM.cnt n0) (-y))) := fun W hb => ox.row.below hb
    have HA4 : Hid (∀ W, Below w4.heap.size w4 W → Row .i64 W a (PM.turn (PM.cnt n0) y)) := fun W hb => HA3.out W (below_on hb4' hb)
    have HB4 : Hid (∀ W, Below w4.heap.size w4 W → Row .i64 W b (PM.turn (PM.cnt n0) (-y))) := fun W hb => HB3.out W (below_on hb4' hb)
    have c4 := falling_any n0 w4
    clear c3 ox hb3 hb4' HA3 HB3
    go_wp2_with fail
    refine c4.mono ?_
    rintro e w5 ⟨d, rfl, od, hb5'⟩
    have hb5 := below_on hb4 hb5'
    have HX5 : Hid (∀ W, Below w5.heap.size w5 W → Row .i64 W x (PM.turn (PM.cnt n0) (-y))) := fun W hb => HX4.out W (below_on hb5' hb)
    have HA5 : Hid (∀ W, Below w5.heap.size w5 W → Row .i64 W a (PM.turn (PM.cnt n0) y)) := fun W hb => HA4.out W (below_on hb5' hb)
    have HB5 : Hid (∀ W, Below w5.heap.size w5 W → Row .i64 W b (PM.turn (PM.cnt n0) (-y))) := fun W hb => HB4.out W (below_on hb5' hb)
    have c5 := inverse_ok _ _ w5 od.row (PM.ord_fall h24)
    rw [PM.inv_fall h24] at c5
    clear c4 od hb4 hb5' HX4 HA4 HB4
    go_wp2_with fail
    refine c5.mono ?_
    rintro e w6 ⟨z, rfl, oz, hb6'⟩
    have hb6 := below_on hb5 hb6'
    have HZ6 : Hid (∀ W, Below w6.heap.size w6 W → Row .i64 W z (PM.fall (PM.cnt n0))) := fun W hb => oz.row.below hb
    have HA6 : Hid (∀ W, Below w6.heap.size w6 W → Row .i64 W a (PM.turn (PM.cnt n0) y)) := fun W hb => HA5.out W (below_on hb6' hb)
    have c6 := ints_any x b _ _ w6 (HX5.out _ hb6') (HB5.out _ hb6')
    rw [decide_eq_true rfl] at c6
    clear c5 oz hb5 hb6' HX5 HB5 HA5
    go_wp2_with fail
    refine c6.mono ?_
    rintro e w7 ⟨rfl, hb7'⟩
    have hb7 := below_on hb6 hb7'
    have HZ7 : Hid (∀ W, Below w7.heap.size w7 W → Row .i64 W z (PM.fall (PM.cnt n0))) := fun W hb => HZ6.out W (below_on hb7' hb)
    have HA7 : Hid (∀ W, Below w7.heap.size w7 W → Row .i64 W a (PM.turn (PM.cnt n0) y)) := fun W hb => HA6.out W (below_on hb7' hb)
    have c7 := falling_any n0 w7
    clear c6 hb6 hb7' HZ6 HA6
    go_wp2_with fail
    refine c7.mono ?_
    rintro e w8 ⟨f, rfl, of, hb8'⟩
    have hb8 := below_on hb7 hb8'
    have HA8 : Hid (∀ W, Below w8.heap.size w8 W → Row .i64 W a (PM.turn (PM.cnt n0) y)) := fun W hb => HA7.out W (below_on hb8' hb)
    have c8 := ints_any z f _ _ w8 (HZ7.out _ hb8') of.row
    rw [decide_eq_true rfl] at c8
    clear c7 hb7 hb8' HZ7 HA7 of
    go_wp2_with fail
    refine c8.mono ?_
    rintro e w9 ⟨rfl, hb9'⟩
    have hb9 := below_on hb8 hb9'
    have c9 := rright_any _ _ w9 (HA8.out _ hb9')
    rw [(PM.right_iff _).2 (PM.ord_turn h24 y)] at c9
    clear c8 hb8 hb9' HA8
    go_wp2_with fail
    refine c9.mono ?_
    rintro e wx ⟨rfl, hwx⟩
    rw [hwx]
    clear hwx wx c9
    go_wp2_with fail
    go_ret
    exact ⟨rfl, hb9⟩
end Go.Proofs.Ytdfipaojahdgcaa
