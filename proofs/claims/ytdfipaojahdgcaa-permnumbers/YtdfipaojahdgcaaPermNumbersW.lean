/-
  The walk of the law PermNumbers.
-/
import Derived.Test.YtdfipaojahdgcaaPermAwake
import Derived.Deep.RegionHeld3
import Derived.Deep.DeepCutAuto
namespace Go.Proofs.Ytdfipaojahdgcaa
open Go.RowKit

/-- An order, and one more number that is no rank: none. -/
theorem not_ord (l : List Int) (n : Nat) (h : l.length = n) : ¬ PM.Ord (l ++ [(n : Int) + 1]) := fun ho => by
  obtain ⟨r, hr, e⟩ := (ho.mem ((n : Int) + 1)).1 (by simp)
  simp [h] at hr
  omega
theorem num_of {n : Nat} (h : n ≤ 24) (a : Nat) : PM.num (PM.of n a).length (PM.down (PM.inv (PM.of n a))) = a % PM.fac n := by
  rw [PM.of_len, PM.inv_of h, PM.whose, PM.down_up, PM.num_who]

set_option maxHeartbeats 2000000 in
set_option maxRecDepth 100000 in
theorem numbers_walk (n0 a0 b0 : Int) (w : World) (ha0 : 0 ≤ a0) (ha1 : a0 ≤ 18446744073709551615) (hb0 : 0 ≤ b0) (hb1 : b0 ≤ 18446744073709551615) :
    Calls Try.prog 5 #[.int .i64 n0, .int .u64 a0, .int .u64 b0] w fun e w' => e = .returned (.bool true) ∧ Below w.heap.size w w' := by
  obtain ⟨i0, hi, hz0, hz1, hz2⟩ := info_parts info3
  obtain ⟨a, rfl⟩ : ∃ a : Nat, a0 = a := ⟨a0.toNat, by omega⟩
  obtain ⟨b, rfl⟩ : ∃ b : Nat, b0 = b := ⟨b0.toNat, by omega⟩
  have ha : a < 18446744073709551616 := by omega
  have hb : b < 18446744073709551616 := by omega
  have haw := awake_any w
  have h24 := PM.cnt_le n0
  have CH : Hid (∀ W, Calls Try.prog 14 #[.int .i64 n0] W fun e w' => e = .returned (.int .i64 (PM.cnt n0 : Nat)) ∧ w' = W) := fun W => held_any n0 W
  generalize PM.cnt n0 = n at *
  have C1 : Hid (∀ (c : Nat) W, c < 18446744073709551616 → Calls Try.prog 15 #[.int .i64 n, .int .u64 c] W fun e w' => ∃ ar cr, e = .returned (.slice ar n cr) ∧ Row .i64 w' (.slice ar n cr) (PM.of n c) ∧ Below W.heap.size W w') := fun c W hc => (pof_any n c hc W).mono (by
    rintro e w' ⟨r, rfl, ho, hb⟩
    rw [cnt_nat h24] at ho
    obtain ⟨ar, cr, er, hat⟩ := ho.row
    rw [PM.of_len] at er
    subst er
    exact ⟨ar, cr, rfl, ho.row, hb⟩)
  go_enter Try.func5, Try.ntmps5
  go_wp2_with fail
  refine haw.mono ?_
  rintro e w1 ⟨rfl, hb1⟩
  clear haw
  go_wp2_with fail
  refine (CH.out _).mono ?_
  rintro e wx ⟨rfl, hwx⟩
  rw [hwx]
  clear hwx wx CH
  go_wp2_with fail
  refine (C1.out a _ ha).mono ?_
  rintro e w2 ⟨ar, cr, rfl, hr2, hb2'⟩
  have hb2 := below_on hb1 hb2'
  have HR2 : Hid (∀ W, Below w2.heap.size w2 W → Row .i64 W (.slice ar n cr) (PM.of n a)) := fun W hb => hr2.below hb
  clear hb2' hb1
  by_cases h20 : 20 < n
  · have c2 := number_long _ _ w2 hr2 (PM.ord_of h24 a) (by rw [PM.of_len]; exact h20)
    clear hr2
    go_wp2_with fail
    refine c2.mono ?_
    rintro e w3 ⟨rfl, hb3'⟩
    have hb3 := below_on hb2 hb3'
    clear c2 hb3' hb2
    go_wp2_with fail
    go_ret
    exact ⟨rfl, hb3⟩
  · have c2 := number_ok _ _ w2 hr2 (PM.ord_of h24 a) (by rw [PM.of_len]; omega)
    rw [num_of h24] at c2
    have HX : Hid (PM.of n (a % PM.fac n) = PM.of n a) := PM.of_mod n a
    have HINJ : Hid (PM.of n a = PM.of n b ↔ a % PM.fac n = b % PM.fac n) := PM.of_inj h24
    have hxl : a % PM.fac n < 18446744073709551616 := Nat.lt_of_le_of_lt (Nat.mod_le _ _) ha
    have hF := PM.fac20 (n := n) (by omega)
    have hF0 := PM.fac_pos n
    have hmodA : (a : Int) % (PM.fac n : Int) = ((a % PM.fac n : Nat) : Int) := (Int.natCast_emod _ _).symm
    have hmodB : (b : Int) % (PM.fac n : Int) = ((b % PM.fac n : Nat) : Int) := (Int.natCast_emod _ _).symm
    clear hr2
    generalize a % PM.fac n = x at *
    generalize b % PM.fac n = xb at *
    go_wp2_with fail
    refine c2.mono ?_
    rintro e w3 ⟨rfl, hb3'⟩
    have hb3 := below_on hb2 hb3'
    have HR3 : Hid (∀ W, Below w3.heap.size w3 W → Row .i64 W (.slice ar n cr) (PM.of n a)) := fun W hb => HR2.out W (below_on hb3' hb)
    clear c2 hb3' hb2 HR2
    go_wp2_with fail
    go_loop [11, 12] (fun av iv => ∃ j : Nat, (j + 1 ≤ n ∨ j = 0) ∧ iv = .int .i64 (j + 2 : Nat) ∧ av = .int .u64 (PM.fac (j + 1) : Nat)) (fun _ i => n + 2 - (intOf i).toNat)
    case atStart => exact ⟨0, .inr rfl, rfl, rfl⟩
    case round =>
      obtain ⟨j, hj, rfl, rfl⟩ := hrel
      by_cases hlt : j + 2 ≤ n
      · have hf2 : PM.fac (j + 2) ≤ 2432902008176640000 := PM.fac20 (by omega)
        have HW : Hid (IntKind.u64.wrap ((PM.fac (j + 1) : Int) * ((j : Int) + 2)) = ((PM.fac (j + 2) : Nat) : Int)) := by
          show _ = _
          rw [show (j : Int) + 2 = ((j + 2 : Nat) : Int) by omega, ← Int.natCast_mul, Nat.mul_comm]
          exact wrap_nat (by show PM.fac (j + 2) < _; omega)
        have hlt' : (j : Int) + 2 ≤ (n : Int) := by omega
        go_wp2_with fail
        go_round
        case rel => exact ⟨j + 1, .inl (by omega), by simp; omega, by rw [HW.out]⟩
        case measure => simp [intOf]; omega
      · have hfe : PM.fac (j + 1) = PM.fac n := by
          rcases hj with h | h
          · rw [show j + 1 = n by omega]
          · subst h
            have : n = 0 ∨ n = 1 := by omega
            rcases this with rfl | rfl <;> rfl
        rw [hfe]
        have hlt' : ¬ (j : Int) + 2 ≤ (n : Int) := by omega
        clear hfe hj
        generalize PM.fac n = F at *
        go_wp2_with fail
        refine (C1.out b _ hb).mono ?_
        rintro e w4 ⟨am, cm, rfl, hr4, hb4'⟩
        have hb4 := below_on hb3 hb4'
        have HR4 : Hid (∀ W, Below w4.heap.size w4 W → Row .i64 W (.slice ar n cr) (PM.of n a)) := fun W hb => HR3.out W (below_on hb4' hb)
        have HM4 : Hid (∀ W, Below w4.heap.size w4 W → Row .i64 W (.slice am n cm) (PM.of n b)) := fun W hb => hr4.below hb
        clear hb3 hb4' hr4 HR3
        go_upto_region 14 with fail
        go_cut [15] (fun s15 wx => s15 = .int .i64 1 ∧ Below w4.heap.size w4 wx)
        case first =>
          have hA4 : RowAt .i64 (w4.alloc (.cells #[] 3)) ar cr (PM.of n a) := by
            obtain ⟨x1, x2, e, hat⟩ := HR4.out _ (below_new (Below.refl _ w4) (.cells #[] 3))
            injection e with e1 e2 e3
            subst e1 e3
            exact hat
          have HA4 : Hid (RowAt .i64 (w4.alloc (.cells #[] 3)) ar cr (PM.of n a)) := hA4
          have HOL : Hid ((PM.of n a).length = n) := PM.of_len n a
          clear hA4
          go_wp2_with (at_builtin; refine wpList_append_row _ rfl _ _ 22 rfl .i64 w4.heap.size 3 i0 8 Try.underlying22 hi hz0 hz1 hz2 (.slice (some ⟨w4.heap.size, 0, none⟩) 0 0) [] rfl (Own.lit .i64 3 w4 w4.heap.size (Nat.le_refl _) [] _ 0 rfl rfl (by decide)) ar n cr (PM.of n a) rfl HOL.out.symm HA4.out (by rw [HOL.out]; unfold maxLen; simp; omega) (by rw [HOL.out]; simp; omega) (by simp) ?_)
          intro v5 w5 ho5 hg5 _
          have hb5 : Below w4.heap.size w4 w5 := ((Below.refl _ w4).alloc (Nat.le_refl _) _).grown hg5 (by simp) (fun k hk => by cases hk; exact Nat.le_refl _)
          obtain ⟨a5, c5, e5, -⟩ := ho5.at
          rw [HOL.out] at e5
          subst e5
          have HO5 : Hid (Own .i64 3 w5 w4.heap.size (.slice a5 n c5) (PM.of n a)) := ho5
          clear ho5 hg5
          go_wp2_with (at_builtin; refine wpList_append_row _ rfl _ _ 22 rfl .i64 w4.heap.size 3 i0 8 Try.underlying22 hi hz0 hz1 hz2 (.slice a5 n c5) (PM.of n a) rfl (HO5.out.alloc _) (some ⟨w5.heap.size, 0, none⟩) 1 1 [(n : Int) + 1] rfl rfl (rowAt_lit1 .i64 w5 _ _) (by rw [HOL.out]; unfold maxLen; simp; omega) (by rw [HOL.out]; simp; omega) (by have := hb5.size; simp; omega) ?_)
          intro v6 w6 ho6 hg6 _
          have hb6 : Below w4.heap.size w4 w6 := (hb5.alloc hb5.size _).grown hg6 (by have := hb5.size; simp; omega) (fun k hk => by
            have := (HO5.out.alloc (.cells #[.int .i64 ((n : Int) + 1)] 3)).block k hk
            exact this)
          have c6 := number_no v6 _ w6 ho6.row (not_ord _ n HOL.out)
          obtain ⟨a6, cp6, e6, -⟩ := ho6.at
          rw [List.length_append, HOL.out] at e6
          subst e6
          clear ho6 hg6 HO5 hb5 HA4
          go_wp2_with fail
          refine c6.mono ?_
          rintro e wx ⟨rfl, hwx⟩
          rw [hwx]
          clear hwx wx c6
          go_wp2_with fail
          go_meet
          exact ⟨rfl, hb6⟩
        case rest =>
        obtain ⟨rfl, hb6⟩ := hcut
        have hb6w := below_on hb4 hb6
        have HR6 : Hid (∀ W, Below wc.heap.size wc W → Row .i64 W (.slice ar n cr) (PM.of n a)) := fun W hb => HR4.out W (below_on hb6 hb)
        have HM6 : Hid (∀ W, Below wc.heap.size wc W → Row .i64 W (.slice am n cm) (PM.of n b)) := fun W hb => HM4.out W (below_on hb6 hb)
        have CO : Hid (∀ W, Below wc.heap.size wc W → Calls Try.prog 15 #[.int .i64 n, .int .u64 x] W fun e w' => ∃ ao co, e = .returned (.slice ao n co) ∧ Row .i64 w' (.slice ao n co) (PM.of n a) ∧ Below wc.heap.size wc w') := fun W hW => (C1.out x W hxl).mono (by
          rintro e w' ⟨ao, co, rfl, hr, hb⟩
          rw [HX.out] at hr
          exact ⟨ao, co, rfl, hr, below_on hW hb⟩)
        have CI1 : Hid (∀ W v, Row .i64 W v (PM.of n a) → Below wc.heap.size wc W → Calls Try.prog 12 #[v, .slice ar n cr] W fun e w' => e = .returned (.bool true) ∧ Below wc.heap.size wc w') := fun W v hv hW => (ints_any v _ _ _ W hv (HR6.out W hW)).mono (by
          rintro e w' ⟨rfl, hb⟩
          exact ⟨ret_bool (by simp), below_on hW hb⟩)
        have CI2 : Hid (∀ W, Below wc.heap.size wc W → Calls Try.prog 12 #[.slice ar n cr, .slice am n cm] W fun e w' => e = .returned (.bool (decide (x = xb))) ∧ Below wc.heap.size wc w') := fun W hW => (ints_any _ _ _ _ W (HR6.out W hW) (HM6.out W hW)).mono (by
          rintro e w' ⟨rfl, hb⟩
          refine ⟨ret_bool ?_, below_on hW hb⟩
          rw [decide_eq_decide]
          exact HINJ.out)
        have hd6 : Below wc.heap.size wc wc.drew := (Below.refl _ _).drew
        clear HR4 HM4 HX HINJ C1 hb4 hb6 HR6 HM6 hz0 hz1 hz2 hi
        have hFn : ¬ F = 0 := by omega
        have htA : (a : Int).tmod (F : Int) = (x : Int) := by rw [Int.tmod_eq_emod_of_nonneg (by omega)]; exact hmodA
        have htB : (b : Int).tmod (F : Int) = (xb : Int) := by rw [Int.tmod_eq_emod_of_nonneg (by omega)]; exact hmodB
        clear hmodA hmodB
        go_upto_region 15 with fail
        go_cut [6] (fun s6 wx => s6 = .bool true ∧ Below wc.heap.size wc wx)
        case first =>
          by_cases hxx : x = xb
          · subst hxx
            rw [decide_eq_true rfl] at CI2
            go_region_held3 (fun _ => True) (go_keep) (first
              | (go_at_call 12; refine (CI2.out _ hb8).mono ?_; rintro e w9 ⟨rfl, hb9⟩)
              | (go_at_call 12; refine (CI1.out _ _ hr7 hb7).mono ?_; rintro e w8 ⟨rfl, hb8⟩)
              | (go_at_call 15; refine (CO.out _ hd6).mono ?_; rintro e w7 ⟨ao, co, rfl, hr7, hb7⟩))
            all_goals
              go_wp2_with fail
              go_meet
              exact ⟨rfl, hb9⟩
          · have hxx' : ((x : Int) == (xb : Int)) = false := beq_eq_false_iff_ne.2 (by omega)
            have hxn : (x == xb) = false := beq_eq_false_iff_ne.2 hxx
            rw [decide_eq_false hxx] at CI2
            go_region_held3 (fun _ => True) (go_keep) (first
              | (go_at_call 12; refine (CI2.out _ hb8).mono ?_; rintro e w9 ⟨rfl, hb9⟩)
              | (go_at_call 12; refine (CI1.out _ _ hr7 hb7).mono ?_; rintro e w8 ⟨rfl, hb8⟩)
              | (go_at_call 15; refine (CO.out _ hd6).mono ?_; rintro e w7 ⟨ao, co, rfl, hr7, hb7⟩))
            all_goals
              go_wp2_with fail
              go_meet
              exact ⟨rfl, hb9⟩
        case rest =>
          obtain ⟨rfl, hb7⟩ := hcut
          go_wp2_with fail
          go_ret
          exact ⟨rfl, below_on hb6w hb7⟩
end Go.Proofs.Ytdfipaojahdgcaa
