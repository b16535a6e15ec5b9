/-
  The walk of the law BitsBack.
-/
import Derived.Test.YtnfhjdealagckaaDoorBitsAwake
namespace Go.Proofs.YtnfhjdealagckaaDoor
open Go.RowKit

theorem has_without (s : Nat) (x : Int) : BM.has (BM.less s (BM.only x)) x = false := by
  unfold BM.has
  by_cases h : 0 ≤ x ∧ x < 64
  · rw [decide_eq_true h, Bool.true_and, BM.without_bit s x (by omega), decide_eq_true (by omega)]; simp
  · rw [decide_eq_false h, Bool.false_and]
theorem has_with (s : Nat) (x : Int) : BM.has (s ||| BM.only x) x = decide (0 ≤ x ∧ x < 64) := by
  unfold BM.has
  by_cases h : 0 ≤ x ∧ x < 64
  · rw [decide_eq_true h, Bool.true_and, BM.with_bit s x (by omega), decide_eq_true (by omega)]; simp
  · rw [decide_eq_false h, Bool.false_and]
theorem has_other_with (s : Nat) (x : Int) (y : Nat) (hy : y < 64) (h : ¬ (y : Int) = x) : BM.has (s ||| BM.only x) (y : Int) = BM.has s (y : Int) := by
  rw [has_nat _ y hy, has_nat _ y hy, BM.with_bit s x hy, decide_eq_false h, Bool.or_false]
theorem has_other_without (s : Nat) (x : Int) (y : Nat) (hy : y < 64) (h : ¬ (y : Int) = x) : BM.has (BM.less s (BM.only x)) (y : Int) = BM.has s (y : Int) := by
  rw [has_nat _ y hy, has_nat _ y hy, BM.without_bit s x hy, decide_eq_false h]; simp

set_option maxHeartbeats 1000000 in
theorem back_walk (a x : Int) (w : World) (hR : Ready w) (h0 : 0 ≤ a) (h1 : a ≤ 18446744073709551615) :
    Calls Tryd.prog 6 #[.int .u64 a, .int .i64 x] w fun e w' => e = .returned (.bool true) ∧ Below w.heap.size w w' := by
  obtain ⟨s, rfl⟩ : ∃ s : Nat, a = s := ⟨a.toNat, by omega⟩
  have hs : s < 18446744073709551616 := by omega
  have hwl := BM.less_lt s (BM.only x)
  have hwi := BM.or_lt hs (BM.only_lt x)
  have c1 := fun w => without_any s x hs w
  have c2 := fun w => with_any s x hs w
  have c3 := fun w => has_any _ x hwl w
  have c4 := fun w => has_any _ x hwi w
  have c5 := fun (y : Nat) w => has_any _ (y : Int) hwl w
  have c6 := fun (y : Nat) w => has_any _ (y : Int) hwi w
  have c7 := fun (y : Nat) w => has_any s (y : Int) hs w
  rw [has_without s x] at c3
  rw [has_with s x] at c4
  obtain ⟨t, ht, hx⟩ : ∃ t, t = decide (0 ≤ x ∧ x < 64) ∧ ((0 ≤ x ∧ x < 64 ∧ t = true) ∨ (x < 0 ∧ t = false) ∨ (64 ≤ x ∧ t = false)) := by
    refine ⟨_, rfl, ?_⟩
    by_cases h : 0 ≤ x ∧ x < 64
    · exact .inl ⟨h.1, h.2, decide_eq_true h⟩
    · rw [decide_eq_false h]
      rcases Int.lt_or_le x 0 with h2 | h2
      · exact .inr (.inl ⟨h2, rfl⟩)
      · exact .inr (.inr ⟨by omega, rfl⟩)
  rw [← ht] at c4
  have HX : Hid ((0 ≤ x ∧ x < 64 ∧ t = true) ∨ (x < 0 ∧ t = false) ∨ (64 ≤ x ∧ t = false)) := hx
  clear ht hx
  have H5 : Hid (∀ y : Nat, y < 64 → ¬ (y : Int) = x → BM.has (BM.less s (BM.only x)) (y : Int) = BM.has s (y : Int)) := has_other_without s x
  have H6 : Hid (∀ y : Nat, y < 64 → ¬ (y : Int) = x → BM.has (s ||| BM.only x) (y : Int) = BM.has s (y : Int)) := has_other_with s x
  generalize BM.less s (BM.only x) = sl at *
  generalize s ||| BM.only x = sw at *
  go_enter Tryd.func6, Tryd.ntmps6
  go_wp2_with fail
  refine (awake_any _ hR).mono ?_
  rintro e w1 ⟨rfl, hb1⟩
  have hR1 := hR.below hR.1 hb1
  have hs1 := hb1.size
  go_wp2_with fail
  refine (list_any s hs w1 hR1).mono ?_
  rintro e w2 ⟨r2, rfl, ho2, hb2⟩
  have hb2' : Below w.heap.size w w2 := hb1.trans (hb2.mono hs1)
  have hR2 := hR.below hR.1 hb2'
  have c8 := of_any r2 _ w2 ho2.row
  rw [BM.ofL_ilst s hs] at c8
  obtain ⟨a2, cp2, rfl, _⟩ := ho2.at
  clear ho2 hb2
  go_wp2_with fail
  refine c8.mono ?_
  rintro e w' ⟨rfl, rfl⟩
  go_wp2_with fail
  refine (c1 _).mono ?_
  rintro e w' ⟨rfl, rfl⟩
  go_wp2_with fail
  refine (c3 _).mono ?_
  rintro e w' ⟨rfl, rfl⟩
  go_wp2_with fail
  refine (c2 _).mono ?_
  rintro e w' ⟨rfl, rfl⟩
  go_wp2_with fail
  refine (c4 _).mono ?_
  rintro e w' ⟨rfl, rfl⟩
  rcases HX.out with ⟨hx0, hx1, rfl⟩ | ⟨hx0, rfl⟩ | ⟨hx0, rfl⟩
  all_goals clear HX
  all_goals go_wp2_with fail
  all_goals
    go_loop [6] (fun i => ∃ k : Nat, k ≤ 64 ∧ i = .int .i64 k) (fun i => 64 - (intOf i).toNat)
    case atStart => exact ⟨0, Nat.zero_le _, rfl⟩
    case round =>
      obtain ⟨k, hk, rfl⟩ := hrel
      by_cases hlt : k < 64
      · by_cases hxk : (k : Int) = x
        · first
            | (exfalso; omega)
            | (subst hxk
               have hq : ((k : Int) == (k : Int)) = true := by simp
               go_wp2_with fail
               go_round
               case rel => exact ⟨k + 1, by omega, by simp⟩
               case measure => simp [intOf]; omega)
        · have hq : ((k : Int) == x) = false := by simp [hxk]
          have d5 := c5 k w'
          have d6 := c6 k w'
          have d7 := c7 k w'
          rw [H5.out k hlt hxk] at d5
          rw [H6.out k hlt hxk] at d6
          generalize BM.has s (k : Int) = t at *
          go_wp2_with fail
          refine (c2 _).mono ?_
          rintro e w'' ⟨rfl, rfl⟩
          go_wp2_with fail
          refine d6.mono ?_
          rintro e w'' ⟨rfl, rfl⟩
          go_wp2_with fail
          refine d7.mono ?_
          rintro e w'' ⟨rfl, rfl⟩
          go_wp2_with fail
          refine (c1 _).mono ?_
          rintro e w'' ⟨rfl, rfl⟩
          go_wp2_with fail
          refine d5.mono ?_
          rintro e w'' ⟨rfl, rfl⟩
          go_wp2_with fail
          refine d7.mono ?_
          rintro e w'' ⟨rfl, rfl⟩
          go_wp2_with fail
          go_round
          case rel => exact ⟨k + 1, by omega, by simp⟩
          case measure => simp [intOf]; omega
      · obtain rfl : k = 64 := by omega
        go_wp2_with fail
        refine (list_any s hs w' hR2).mono ?_
        rintro e w4 ⟨r4, rfl, ho4, hb4⟩
        have hb4' : Below w.heap.size w w4 := hb2'.trans (hb4.mono hb2'.size)
        obtain ⟨a4, cp4, rfl, hat4⟩ := ho4.at
        have H4 : Hid (Row .i64 w4 (.slice a4 (BM.ilst s).length cp4) (BM.ilst s)) := ho4.row
        clear ho4 hat4 hb4
        go_wp2_with fail
        refine (rlist_any s hs w4).mono ?_
        rintro e w5 ⟨r5, rfl, ho5, hb5⟩
        have hb5' : Below w.heap.size w w5 := hb4'.trans (hb5.mono hb4'.size)
        have c9 := ints_same _ r5 _ w5 (H4.out.below hb5) ho5.row
        obtain ⟨a5, cp5, rfl, _⟩ := ho5.at
        clear ho5 hb5
        go_wp2_with fail
        refine c9.mono ?_
        rintro e w6 ⟨rfl, hb6⟩
        have hb6' : Below w.heap.size w w6 := hb5'.trans (hb6.mono hb5'.size)
        go_wp2_with fail
        go_ret
        exact ⟨rfl, hb6'⟩
end Go.Proofs.YtnfhjdealagckaaDoor
