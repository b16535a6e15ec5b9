/-
  The walk of the law BitsSplit.
-/
import Derived.Test.YtnfhjdealagckaaDoorBitsAwake
namespace Go.Proofs.YtnfhjdealagckaaDoor
open Go.RowKit

theorem some_lst (s : Nat) (hs : s < 18446744073709551616) : some? s = !(BM.lst s).isEmpty := by
  unfold some?
  by_cases h : s = 0
  · subst h; decide
  · rw [(BM.lst_cons s h hs).1]; simp [h]
theorem fst_mem (s : Nat) (hs : s < 18446744073709551616) (h : some? s = true) : ∃ i : Nat, i ∈ BM.lst s ∧ fst s = (i : Int) := by
  rw [some_lst s hs] at h
  unfold fst
  match hl : BM.lst s with
  | [] => rw [hl] at h; cases h
  | i :: r => exact ⟨i, by simp, rfl⟩
theorem cut_int (n : Int) : (BM.cut n : Int) = min (max n 0) 64 := by unfold BM.cut; omega

/-- What the law looks at. -/
theorem split_facts (s : Nat) (hs : s < 18446744073709551616) (n : Int) :
    (BM.lst (s &&& BM.below n)).length + (BM.lst (BM.less s (BM.below n))).length = (BM.lst s).length ∧
    some? s = (some? (s &&& BM.below n) || some? (BM.less s (BM.below n))) ∧
    (some? (s &&& BM.below n) = true → fst s = fst (s &&& BM.below n) ∧ fst (s &&& BM.below n) < n) ∧
    (some? (s &&& BM.below n) = false → some? (BM.less s (BM.below n)) = true → fst s = fst (BM.less s (BM.below n)) ∧ n ≤ fst (BM.less s (BM.below n))) := by
  have h := BM.lst_split s n
  have hl := BM.and_lt s (BM.below_lt n)
  have hh := BM.less_lt s (BM.below n)
  have hc := cut_int n
  refine ⟨by rw [h, List.length_append], ?_, fun h1 => ?_, fun h1 h2 => ?_⟩
  · rw [some_lst _ hs, some_lst _ hl, some_lst _ hh, h]
    cases BM.lst (s &&& BM.below n) <;> simp
  · obtain ⟨i, hi, e⟩ := fst_mem _ hl h1
    have hb := (BM.mem_lst.1 hi).2
    rw [Nat.testBit_and, BM.below_bit] at hb
    simp at hb
    refine ⟨?_, by rw [e]; omega⟩
    unfold fst
    rw [h]
    rw [some_lst _ hl] at h1
    cases hx : BM.lst (s &&& BM.below n) with
    | nil => rw [hx] at h1; cases h1
    | cons a r => rfl
  · obtain ⟨i, hi, e⟩ := fst_mem _ hh h2
    obtain ⟨h64, hb⟩ := BM.mem_lst.1 hi
    rw [BM.less_bit s _ h64, BM.below_bit] at hb
    simp at hb
    refine ⟨?_, by rw [e]; omega⟩
    unfold fst
    rw [h]
    rw [some_lst _ hl] at h1
    cases hx : BM.lst (s &&& BM.below n) with
    | nil => rfl
    | cons a r => rw [hx] at h1; cases h1

set_option maxHeartbeats 1000000 in
theorem split_walk (a n : Int) (w : World) (hR : Ready w) (h0 : 0 ≤ a) (h1 : a ≤ 18446744073709551615) :
    Calls Tryd.prog 7 #[.int .u64 a, .int .i64 n] w fun e w' => e = .returned (.bool true) ∧ Below w.heap.size w w' := by
  obtain ⟨s, rfl⟩ : ∃ s : Nat, a = s := ⟨a.toNat, by omega⟩
  have hs : s < 18446744073709551616 := by omega
  obtain ⟨f1, f2, f3, f4⟩ := split_facts s hs n
  have hl := BM.and_lt s (BM.below_lt n)
  have hh := BM.less_lt s (BM.below n)
  have l1 := BM.lst_len (s &&& BM.below n)
  have l2 := BM.lst_len (BM.less s (BM.below n))
  have l3 := BM.lst_len s
  have r1 := bits_and_u64_nat s _ hs (BM.below_lt n)
  have r2 := BM.bits_andNot_u64_nat s _ hs (BM.below_lt n)
  go_enter Tryd.func7, Tryd.ntmps7
  go_wp2_with fail
  refine (awake_any _ hR).mono ?_
  rintro e w1 ⟨rfl, hb1⟩
  have hR1 := hR.below hR.1 hb1
  have c1 := first_any s hs w1 hR1
  have c2 := first_any _ hl w1 hR1
  have c3 := first_any _ hh w1 hR1
  have c4 := len_any s hs w1
  have c5 := len_any _ hl w1
  have c6 := len_any _ hh w1
  have c7 := below_any n w1
  generalize s &&& BM.below n = lo at *
  generalize BM.less s (BM.below n) = hi at *
  generalize BM.below n = bw at *
  generalize (BM.lst s).length = L at *
  generalize (BM.lst lo).length = L1 at *
  generalize (BM.lst hi).length = L2 at *
  generalize fst s = x at *
  generalize fst lo = y at *
  generalize fst hi = z at *
  generalize some? s = b at *
  generalize some? lo = b1 at *
  generalize some? hi = b2 at *
  have F2 : Hid (b = (b1 || b2)) := f2
  have F3 : Hid (b1 = true → x = y ∧ y < n) := f3
  have F4 : Hid (b1 = false → b2 = true → x = z ∧ n ≤ z) := f4
  clear f2 f3 f4
  go_wp2_with fail
  refine c7.mono ?_
  rintro e w' ⟨rfl, rfl⟩
  go_wp2_with fail
  refine c7.mono ?_
  rintro e w' ⟨rfl, rfl⟩
  go_wp2_with fail
  refine c1.mono ?_
  rintro e w' ⟨rfl, rfl⟩
  go_wp2_with fail
  refine c2.mono ?_
  rintro e w' ⟨rfl, rfl⟩
  go_wp2_with fail
  refine c3.mono ?_
  rintro e w' ⟨rfl, rfl⟩
  go_wp2_with fail
  refine c5.mono ?_
  rintro e w' ⟨rfl, rfl⟩
  go_wp2_with fail
  refine c6.mono ?_
  rintro e w' ⟨rfl, rfl⟩
  go_wp2_with fail
  refine c4.mono ?_
  rintro e w' ⟨rfl, rfl⟩
  obtain rfl := f1
  obtain rfl := F2.out
  cases b1 with
  | true =>
    obtain ⟨rfl, hy⟩ := F3.out rfl
    go_wp2_with fail
    go_ret
    exact ⟨ret_bool (by simp), hb1⟩
  | false =>
    cases b2 with
    | true =>
      obtain ⟨rfl, hz⟩ := F4.out rfl rfl
      go_wp2_with fail
      go_ret
      exact ⟨ret_bool (by simp), hb1⟩
    | false =>
      go_wp2_with fail
      go_ret
      exact ⟨rfl, hb1⟩
end Go.Proofs.YtnfhjdealagckaaDoor
