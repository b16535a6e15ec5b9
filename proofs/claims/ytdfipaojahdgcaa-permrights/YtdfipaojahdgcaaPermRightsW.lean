/-
  The walk of the law PermRights.
-/
import Derived.Test.YtdfipaojahdgcaaPermAwake
namespace Go.Proofs.Ytdfipaojahdgcaa
open Go.RowKit

set_option maxHeartbeats 4000000 in
set_option maxRecDepth 100000 in
theorem rights_walk (v : Value) (zs : List Int) (w : World) (hrow : Row .i64 w v zs) :
    Calls Try.prog 3 #[v] w fun e w' => e = .returned (.bool true) ∧ Below w.heap.size w w' := by
  have haw := awake_any w
  have HROW : Hid (∀ W, Below w.heap.size w W → Row .i64 W v zs) := fun W hb => hrow.below hb
  obtain ⟨ao, cap, hv, h1, h2, -⟩ := hrow
  subst hv
  unfold maxLen at h2
  go_enter Try.func3, Try.ntmps3
  go_wp2_with fail
  refine haw.mono ?_
  rintro e w1 ⟨rfl, hb1⟩
  clear haw
  by_cases h100 : 100 < zs.length
  · go_wp2_with fail
    go_ret
    exact ⟨rfl, hb1⟩
  · by_cases ho : PM.Ord zs
    · have c1 := inverse_ok _ zs w1 (HROW.out _ hb1) ho
      have HO : Hid (PM.Ord zs) := ho
      clear ho
      go_wp2_with fail
      refine c1.mono ?_
      rintro e w2 ⟨r, rfl, o2, hb2'⟩
      have hb2 := below_on hb1 hb2'
      have HR2 : Hid (∀ W, Below w2.heap.size w2 W → Row .i64 W r (PM.inv zs)) := fun W hb => o2.row.below hb
      obtain ⟨ar, cr, hr, -⟩ := o2.row
      rw [PM.inv_len] at hr
      subst hr
      have c2 := rright_any _ zs w2 (HROW.out _ hb2)
      rw [(PM.right_iff zs).2 HO.out] at c2
      have c3 := inverse_ok _ (PM.inv zs) w2 (HR2.out _ (Below.refl _ _)) (PM.ord_inv HO.out)
      rw [PM.inv_inv HO.out] at c3
      clear c1 o2 hb1 hb2'
      go_wp2_with fail
      refine c2.mono ?_
      rintro e w9 ⟨rfl, hw9⟩
      rw [hw9]
      clear hw9 w9 c2
      go_wp2_with fail
      refine c3.mono ?_
      rintro e w3 ⟨r3, rfl, o3, hb3'⟩
      have hb3 := below_on hb2 hb3'
      have HR3 : Hid (∀ W, Below w3.heap.size w3 W → Row .i64 W r3 zs) := fun W hb => o3.row.below hb
      obtain ⟨ar3, cr3, hr3, -⟩ := o3.row
      subst hr3
      have HB3 : Hid (Below w2.heap.size w2 w3) := hb3'
      have c4 := right_any _ zs w3 (HROW.out _ hb3)
      rw [(PM.right_iff zs).2 HO.out] at c4
      have c5 := rinverse_ok _ zs w3 (HROW.out _ hb3) HO.out
      clear c3 o3 hb2 hb3'
      go_wp2_with fail
      refine c4.mono ?_
      rintro e w9 ⟨rfl, hw9⟩
      rw [hw9]
      clear hw9 w9 c4
      go_wp2_with fail
      refine c5.mono ?_
      rintro e w4 ⟨r4, rfl, o4, hb4'⟩
      have hb4 := below_on hb3 hb4'
      have c6 := ints_any _ r4 (PM.inv zs) (PM.inv zs) w4 (HR2.out _ (below_on HB3.out hb4')) o4.row
      rw [decide_eq_true rfl] at c6
      have HR4 : Hid (∀ W, Below w4.heap.size w4 W → Row .i64 W (.slice ar3 zs.length cr3) zs) := fun W hb => HR3.out W (below_on hb4' hb)
      clear c5 o4 hb3 hb4' HR2 HR3
      go_wp2_with fail
      refine c6.mono ?_
      rintro e w5 ⟨rfl, hb5'⟩
      have hb5 := below_on hb4 hb5'
      have c7 := ints_any _ _ zs zs w5 (HR4.out _ hb5') (HROW.out _ hb5)
      rw [decide_eq_true rfl] at c7
      clear c6 hb4 hb5'
      go_wp2_with fail
      refine c7.mono ?_
      rintro e w6 ⟨rfl, hb6'⟩
      have hb6 := below_on hb5 hb6'
      clear c7 hb5 hb6'
      go_wp2_with fail
      go_ret
      exact ⟨rfl, hb6⟩
    · have c1 := inverse_no _ zs w1 (HROW.out _ hb1) ho
      have hf : PM.right zs = false := by
        cases e : PM.right zs with
        | false => rfl
        | true => exact absurd ((PM.right_iff zs).1 e) ho
      have c2 := rright_any _ zs w1 (HROW.out _ hb1)
      have c3 := right_any _ zs w1 (HROW.out _ hb1)
      rw [hf] at c2 c3
      clear ho hf
      go_wp2_with fail
      refine c1.mono ?_
      rintro e w9 ⟨rfl, hw9⟩
      rw [hw9]
      clear hw9 w9 c1
      go_wp2_with fail
      refine c2.mono ?_
      rintro e w9 ⟨rfl, hw9⟩
      rw [hw9]
      clear hw9 w9 c2
      go_wp2_with fail
      refine c3.mono ?_
      rintro e w9 ⟨rfl, hw9⟩
      rw [hw9]
      clear hw9 w9 c3
      go_wp2_with fail
      go_ret
      exact ⟨rfl, hb1⟩
end Go.Proofs.Ytdfipaojahdgcaa
