/-
  BitsMath, WalkDist.
-/
import Derived.Test.YtkcfepppnclniaaGreatDoorMmGraphA
import Derived.Test.YtkcfepppnclniaaGreatDoorMmGraphMath
import Derived.Lib.TrailingZeros
import Derived.Laws.Bits64b
section
/-
  The arithmetic of sets of small numbers: which bits a number has, their list, how many, the least. Nothing of any program.
-/
namespace Go.Proofs.YtkcfepppnclniaaGreatDoor
namespace BM

/-- The numbers in a set, rising. -/
def lst (s : Nat) : List Nat := (List.range 64).filter (fun i => s.testBit i)
/-- The same as integers. -/
def ilst (s : Nat) : List Int := (lst s).map (fun i : Nat => (i : Int))
/-- The set of one number. -/
def only (x : Int) : Nat := if 0 ≤ x ∧ x < 64 then 2 ^ x.toNat else 0
/-- Is the number in the set? -/
def has (s : Nat) (x : Int) : Bool := decide (0 ≤ x ∧ x < 64) && s.testBit x.toNat
/-- The set of those of which it is so. -/
def sum (p : Nat → Bool) : Nat → Nat
  | 0 => 0
  | n + 1 => sum p n + if p n then 2 ^ n else 0
/-- The set of a list. -/
def ofL (l : List Int) : Nat := sum (fun i => l.contains (i : Int)) 64
/-- As many as may be below a number. -/
def cut (n : Int) : Nat := min (max n 0).toNat 64
/-- All below a number. -/
def below (n : Int) : Nat := 2 ^ cut n - 1
/-- What of the one is not in the other. -/
def less (s t : Nat) : Nat := sum (fun i => s.testBit i && !t.testBit i) 64
/-- The set of a list, number by number. -/
def setOf (l : List Int) : Nat := l.foldl (fun s x => s ||| only x) 0

theorem sum_lt (p : Nat → Bool) : ∀ n, sum p n < 2 ^ n
  | 0 => by simp [sum]
  | n + 1 => by
    have := sum_lt p n
    simp only [sum]
    rw [Nat.pow_succ]
    split <;> omega
theorem add_bit {n b : Nat} (h : b < 2 ^ n) (i : Nat) : (b + 2 ^ n).testBit i = (b.testBit i || decide (n = i)) := by
  have := Nat.testBit_two_pow_mul_add 1 h i
  rw [Nat.mul_one, Nat.add_comm] at this
  rw [this]
  split
  · rename_i h1
    simp [show ¬ n = i by omega]
  · rename_i h1
    have hb : b.testBit i = false := Nat.testBit_lt_two_pow (Nat.lt_of_lt_of_le h (Nat.pow_le_pow_right (by decide) (by omega)))
    rw [hb, Bool.false_or]
    by_cases h2 : n = i
    · subst h2; simp
    · rw [decide_eq_false h2]
      exact Nat.testBit_lt_two_pow (Nat.one_lt_two_pow (by omega))
theorem sum_bit (p : Nat → Bool) : ∀ n i, (sum p n).testBit i = (decide (i < n) && p i)
  | 0, i => by simp [sum]
  | n + 1, i => by
    have hlt := sum_lt p n
    have ih := sum_bit p n i
    simp only [sum]
    by_cases hp : p n
    · rw [if_pos hp, add_bit hlt, ih]
      by_cases h2 : n = i
      · subst h2; simp [hp]
      · by_cases h1 : i < n
        · simp [h1, h2, show i < n + 1 by omega]
        · simp [h1, h2, show ¬ i < n + 1 by omega]
    · rw [if_neg hp, Nat.add_zero, ih]
      by_cases h2 : n = i
      · subst h2; simp [hp]
      · by_cases h1 : i < n
        · simp [h1, show i < n + 1 by omega]
        · simp [h1, show ¬ i < n + 1 by omega]
theorem bit_hi {s i : Nat} (hs : s < 18446744073709551616) (hi : 64 ≤ i) : s.testBit i = false :=
  Nat.testBit_lt_two_pow (Nat.lt_of_lt_of_le (show s < 2 ^ 64 from hs) (Nat.pow_le_pow_right (by decide) hi))
/-- Two sets are the same just if the same 64 numbers are in them. -/
theorem ext {s t : Nat} (hs : s < 18446744073709551616) (ht : t < 18446744073709551616) (h : ∀ i, i < 64 → s.testBit i = t.testBit i) : s = t := by
  apply Nat.eq_of_testBit_eq
  intro i
  rcases Nat.lt_or_ge i 64 with hi | hi
  · exact h i hi
  · rw [bit_hi hs hi, bit_hi ht hi]
theorem sum64_lt (p : Nat → Bool) : sum p 64 < 18446744073709551616 := sum_lt p 64
theorem pow64 {k : Nat} (h : k < 64) : 2 ^ k < 18446744073709551616 := Nat.pow_lt_pow_right (a := 2) (n := 64) (by decide) h
theorem only_lt (x : Int) : only x < 18446744073709551616 := by
  unfold only
  split
  · rename_i h
    exact pow64 (by omega)
  · decide
theorem only_bit (x : Int) {i : Nat} (hi : i < 64) : (only x).testBit i = decide ((i : Int) = x) := by
  unfold only
  split
  · rename_i h
    rw [Nat.testBit_two_pow]
    by_cases h2 : (i : Int) = x
    · simp [h2]; omega
    · simp [h2]; omega
  · rename_i h
    simp
    omega
theorem or_lt {s t : Nat} (hs : s < 18446744073709551616) (ht : t < 18446744073709551616) : s ||| t < 18446744073709551616 := Nat.or_lt_two_pow (n := 64) hs ht
theorem and_lt (s : Nat) {t : Nat} (ht : t < 18446744073709551616) : s &&& t < 18446744073709551616 := Nat.and_lt_two_pow (n := 64) s ht
theorem with_bit (s : Nat) (x : Int) {i : Nat} (hi : i < 64) : (s ||| only x).testBit i = (s.testBit i || decide ((i : Int) = x)) := by
  rw [Nat.testBit_or, only_bit x hi]
theorem less_bit (s t : Nat) {i : Nat} (hi : i < 64) : (less s t).testBit i = (s.testBit i && !t.testBit i) := by
  unfold less; rw [sum_bit]; simp [hi]
theorem without_bit (s : Nat) (x : Int) {i : Nat} (hi : i < 64) : (less s (only x)).testBit i = (s.testBit i && !decide ((i : Int) = x)) := by
  rw [less_bit s _ hi, only_bit x hi]
theorem less_lt (s t : Nat) : less s t < 18446744073709551616 := sum64_lt _
theorem has_only (s : Nat) (x : Int) : (!(s &&& only x) == 0) = has s x := by
  unfold has only
  by_cases h : 0 ≤ x ∧ x < 64
  · rw [if_pos h, decide_eq_true h, Bool.true_and]
    cases hb : s.testBit x.toNat with
    | true =>
      have hne : ¬ s &&& 2 ^ x.toNat = 0 := fun h0 => by
        have := congrArg (fun n => n.testBit x.toNat) h0
        simp [Nat.testBit_and, hb] at this
      simp [hne]
    | false =>
      have h0 : s &&& 2 ^ x.toNat = 0 := by
        apply Nat.eq_of_testBit_eq
        intro i
        rw [Nat.testBit_and, Nat.testBit_two_pow, Nat.zero_testBit]
        by_cases hi : x.toNat = i
        · subst hi; simp [hb]
        · simp [hi]
      simp [h0]
  · rw [if_neg h]; simp [h]

theorem mem_lst {s i : Nat} : i ∈ lst s ↔ i < 64 ∧ s.testBit i = true := by simp [lst]
theorem ilst_has (s i : Nat) : (ilst s).contains (i : Int) = (decide (i < 64) && s.testBit i) := by
  rw [Bool.eq_iff_iff]
  simp only [List.contains_iff_mem, ilst, List.mem_map, Bool.and_eq_true, decide_eq_true_eq]
  constructor
  · rintro ⟨j, hj, e⟩
    obtain rfl : j = i := by omega
    exact mem_lst.1 hj
  · intro h
    exact ⟨i, mem_lst.2 h, rfl⟩
theorem ofL_lt (l : List Int) : ofL l < 18446744073709551616 := sum64_lt _
theorem ofL_bit (l : List Int) {i : Nat} (hi : i < 64) : (ofL l).testBit i = l.contains (i : Int) := by unfold ofL; rw [sum_bit]; simp [hi]
theorem ofL_with (s : Nat) (hs : s < 18446744073709551616) (x : Int) : ofL (ilst s ++ [x]) = s ||| only x := by
  refine ext (ofL_lt _) (or_lt hs (only_lt x)) fun i hi => ?_
  rw [ofL_bit _ hi, with_bit s x hi, List.contains_append, ilst_has]
  simp [hi]
theorem ofL_without (s : Nat) (x : Int) : ofL ((ilst s).filter (fun y => !decide (y = x))) = less s (only x) := by
  refine ext (ofL_lt _) (less_lt _ _) fun i hi => ?_
  rw [ofL_bit _ hi, without_bit s x hi, Bool.eq_iff_iff, List.contains_iff_mem, List.mem_filter]
  have := ilst_has s i
  rw [Bool.eq_iff_iff, List.contains_iff_mem] at this
  rw [this]
  simp [hi]
theorem fold_bit (l : List Int) {i : Nat} (hi : i < 64) : ∀ s : Nat, (l.foldl (fun s x => s ||| only x) s).testBit i = (s.testBit i || l.contains (i : Int)) := by
  induction l with
  | nil => intro s; simp
  | cons x l ih =>
    intro s
    rw [List.foldl_cons, ih, with_bit s x hi, List.contains_cons, Bool.or_assoc]
    rfl
theorem fold_lt (l : List Int) : ∀ s : Nat, s < 18446744073709551616 → l.foldl (fun s x => s ||| only x) s < 18446744073709551616 := by
  induction l with
  | nil => intro s h; exact h
  | cons x l ih => intro s h; exact ih _ (or_lt h (only_lt x))
theorem setOf_lt (l : List Int) : setOf l < 18446744073709551616 := fold_lt l 0 (by decide)
theorem setOf_snoc (l : List Int) (x : Int) : setOf (l ++ [x]) = setOf l ||| only x := by simp [setOf]
theorem setOf_eq (l : List Int) : setOf l = ofL l := by
  refine ext (setOf_lt l) (ofL_lt l) fun i hi => ?_
  unfold setOf
  rw [fold_bit l hi, ofL_bit l hi]
  simp
theorem ofL_ilst (s : Nat) (hs : s < 18446744073709551616) : ofL (ilst s) = s := by
  refine ext (ofL_lt _) hs fun i hi => ?_
  rw [ofL_bit _ hi, ilst_has]; simp [hi]

theorem cut_le (n : Int) : cut n ≤ 64 := by unfold cut; omega
theorem below_lt (n : Int) : below n < 18446744073709551616 := by
  unfold below
  have : 2 ^ cut n ≤ 2 ^ 64 := Nat.pow_le_pow_right (by decide) (cut_le n)
  have : 0 < 2 ^ cut n := Nat.two_pow_pos _
  omega
theorem below_bit (n : Int) (i : Nat) : (below n).testBit i = decide (i < cut n) := Nat.testBit_two_pow_sub_one _ _
theorem range_filter_lt : ∀ (m n : Nat), m ≤ n → (List.range n).filter (fun i => decide (i < m)) = List.range m
  | m, 0, h => by obtain rfl : m = 0 := by omega
                  rfl
  | m, n + 1, h => by
    rw [List.range_succ, List.filter_append]
    rcases Nat.lt_or_ge n m with h1 | h1
    · obtain rfl : m = n + 1 := by omega
      rw [List.range_succ]
      congr 1
      · rw [List.filter_eq_self]
        intro i hi
        have := List.mem_range.1 hi
        simp; omega
      · simp
    · rw [range_filter_lt m n h1]
      simp [show ¬ n < m by omega]
theorem lst_below (n : Int) : lst (below n) = List.range (cut n) := by
  unfold lst
  simp only [below_bit]
  exact range_filter_lt _ _ (cut_le n)

/-- A set is what is below a number, and the rest behind it. -/
theorem lst_split (s : Nat) (n : Int) : lst s = lst (s &&& below n) ++ lst (less s (below n)) := by
  obtain ⟨d, hd⟩ : ∃ d, 64 = cut n + d := ⟨64 - cut n, by have := cut_le n; omega⟩
  have h1 : lst (s &&& below n) = (List.range (cut n)).filter (fun i => s.testBit i) := by
    unfold lst
    rw [hd, List.range_add, List.filter_append]
    have e2 : ((List.range d).map (fun x => cut n + x)).filter (fun i => (s &&& below n).testBit i) = [] := by
      rw [List.filter_eq_nil_iff]
      intro a ha
      obtain ⟨j, hj, rfl⟩ := List.mem_map.1 ha
      simp [Nat.testBit_and, below_bit]
    rw [e2, List.append_nil]
    refine List.filter_congr fun i hi => ?_
    have := List.mem_range.1 hi
    simp [Nat.testBit_and, below_bit, this]
  have h2 : lst (less s (below n)) = ((List.range d).map (fun x => cut n + x)).filter (fun i => s.testBit i) := by
    unfold lst
    rw [hd, List.range_add, List.filter_append]
    have e1 : (List.range (cut n)).filter (fun i => (less s (below n)).testBit i) = [] := by
      rw [List.filter_eq_nil_iff]
      intro a ha
      have := List.mem_range.1 ha
      rw [less_bit s _ (by omega), below_bit]
      simp [this]
    rw [e1, List.nil_append]
    refine List.filter_congr fun i hi => ?_
    obtain ⟨j, hj, rfl⟩ := List.mem_map.1 hi
    have := List.mem_range.1 hj
    rw [less_bit s _ (by omega), below_bit]
    simp
  rw [h1, h2, ← List.filter_append, ← List.range_add, ← hd]
  rfl

/-- The least one, then the others. -/
theorem lst_cons (s : Nat) (h0 : s ≠ 0) (hs : s < 18446744073709551616) :
    lst s = Lib.ctz 64 s :: lst (less s (only (Lib.ctz 64 s))) ∧ Lib.ctz 64 s < 64 ∧ less s (only (Lib.ctz 64 s)) < s := by
  have hc : Lib.ctz 64 s = Lib.ctzFrom 64 s := by simp [Lib.ctz, h0]
  obtain ⟨m, hm, hk⟩ := Lib.ctzFrom_spec 64 s (by omega) hs
  rw [hc]
  obtain ⟨k, hkk⟩ : ∃ k, k = Lib.ctzFrom 64 s := ⟨_, rfl⟩
  rw [← hkk] at hm hk ⊢
  have hbit : ∀ i, s.testBit i = (decide (i ≥ k) && (2 * m + 1).testBit (i - k)) := by
    intro i; rw [hm, Nat.testBit_two_pow_mul]
  have hlow : ∀ i, i < k → s.testBit i = false := fun i hi => by rw [hbit]; simp; omega
  have hat : s.testBit k = true := by rw [hbit]; simp [Nat.testBit_zero]
  have hw : ∀ i, i < 64 → (less s (only (k : Int))).testBit i = (s.testBit i && !decide (i = k)) := by
    intro i hi
    rw [without_bit s _ hi]
    congr 2
    by_cases h : i = k
    · simp [h]
    · simp [h]; omega
  refine ⟨?_, hk, ?_⟩
  · obtain ⟨d, hd⟩ : ∃ d, 64 = k + (1 + d) := ⟨64 - k - 1, by omega⟩
    have hr : List.range 64 = List.range k ++ (k :: (List.range d).map (fun x => k + (1 + x))) := by
      rw [hd, List.range_add, List.range_add]
      simp [Function.comp_def]
    unfold lst
    rw [hr, List.filter_append, List.filter_append, List.filter_cons, List.filter_cons]
    have e1 : (List.range k).filter (fun i => s.testBit i) = [] := by
      rw [List.filter_eq_nil_iff]
      intro a ha
      simp [hlow a (List.mem_range.1 ha)]
    have e2 : (List.range k).filter (fun i => (less s (only (k : Int))).testBit i) = [] := by
      rw [List.filter_eq_nil_iff]
      intro a ha
      have := List.mem_range.1 ha
      rw [hw a (by omega)]
      simp [hlow a this]
    rw [e1, e2, if_pos hat, if_neg (by rw [hw k hk]; simp)]
    simp only [List.nil_append]
    congr 1
    refine List.filter_congr fun i hi => ?_
    obtain ⟨j, hj, rfl⟩ := List.mem_map.1 hi
    have := List.mem_range.1 hj
    rw [hw _ (by omega)]
    simp
  · have e : s &&& less s (only (k : Int)) = less s (only (k : Int)) := by
      refine ext (and_lt _ (less_lt _ _)) (less_lt _ _) fun i hi => ?_
      rw [Nat.testBit_and, hw i hi]
      cases s.testBit i <;> simp
    have hle : less s (only (k : Int)) ≤ s := by rw [← e]; exact Nat.and_le_left
    have hne : less s (only (k : Int)) ≠ s := fun h => by
      have := hw k hk
      rw [h, hat] at this
      simp at this
    omega
theorem lst_zero : lst 0 = [] := by decide
theorem lst_nil {s : Nat} (hs : s < 18446744073709551616) : lst s = [] ↔ s = 0 := by
  constructor
  · intro h
    refine Classical.byContradiction fun h0 => ?_
    rw [(lst_cons s h0 hs).1] at h
    cases h
  · rintro rfl; exact lst_zero
theorem lst_len (s : Nat) : (lst s).length ≤ 64 := by
  have := List.length_filter_le (fun i => s.testBit i) (List.range 64)
  simpa [lst] using this

theorem ofInt_nat (a : Nat) (h : a < 18446744073709551616) : (BitVec.ofInt 64 (a : Int)).toNat = a := by
  rw [BitVec.toNat_ofInt]; omega
/-- The bits that one number has and another lacks, as the model spells it. -/
theorem bits_andNot_u64_nat (a b : Nat) (ha : a < 18446744073709551616) (hb : b < 18446744073709551616) : bits .andNot .u64 (a : Int) (b : Int) = ((less a b : Nat) : Int) := by
  have hx : (BitVec.ofInt 64 (a : Int) &&& ~~~BitVec.ofInt 64 (b : Int)).toNat = less a b := by
    refine ext (BitVec.isLt _) (less_lt _ _) fun i hi => ?_
    rw [less_bit a b hi, BitVec.toNat_and, Nat.testBit_and, ofInt_nat a ha]
    congr 1
    rw [BitVec.testBit_toNat, BitVec.getLsbD_not, ← BitVec.testBit_toNat, ofInt_nat b hb]
    simp [hi]
  refine (congrArg (fun n : Nat => IntKind.u64.wrap (n : Int)) hx).trans ?_
  have := less_lt a b
  show IntKind.u64.wrap _ = _
  rw [IntKind.wrap_u64]
  omega
/-- The last step of the count: seven bits of a number, as the model spells it. -/
theorem bits_and127 (z : Nat) (h : z < 9223372036854775808) : (BitVec.ofInt 64 (z : Int) &&& BitVec.ofInt 64 127).toNat = z % 128 := by
  rw [BitVec.toNat_and, ofInt_nat z (by omega), show (127 : Int) = ((127 : Nat) : Int) from rfl, ofInt_nat 127 (by decide)]
  exact Nat.and_two_pow_sub_one_eq_mod z 7
end BM
end Go.Proofs.YtkcfepppnclniaaGreatDoor
end

section
/-
  The walks of dist and of bits as far as package walk leans on them: a sum of a list, the document's sum of two; a set's member, a set with one more.
-/
namespace Go.Proofs.YtkcfepppnclniaaGreatDoor
open Go.RowKit

theorem gnorm_eq (a : Int) : GM.norm a = DM.norm a := rfl
theorem dnorm_any (a : Int) (w : World) :
    Calls Tryz.prog 89 #[.int .i64 a] w fun e w' => e = .returned (.int .i64 (DM.norm a)) ∧ w' = w := norm_any a w
set_option maxHeartbeats 400000 in
theorem rnorm_any (a : Int) (w : World) :
    Calls Tryz.prog 107 #[.int .i64 a] w fun e w' => e = .returned (.int .i64 (DM.norm a)) ∧ w' = w := by
  go_enter Tryz.func107, Tryz.ntmps107
  go_wp2
  all_goals go_ret
  all_goals refine ⟨ret_int ?_, rfl⟩
  all_goals unfold DM.norm
  all_goals (repeat' split) <;> omega
set_option maxHeartbeats 400000 in
theorem told_any (a : Int) (w : World) :
    Calls Tryz.prog 97 #[.int .i64 a] w fun e w' => e = .returned (.bool (DM.told a)) ∧ w' = w := by
  go_enter Tryz.func97, Tryz.ntmps97
  go_wp2_with (go_at_call 89; refine (dnorm_any _ _).mono ?_; rintro e w' ⟨rfl, rfl⟩)
  all_goals go_ret
  all_goals exact ⟨rfl, rfl⟩
set_option maxHeartbeats 400000 in
theorem two_any (a b : Int) (w : World) :
    Calls Tryz.prog 93 #[.int .i64 a, .int .i64 b] w fun e w' => e = .returned (.int .i64 (DM.two a b)) ∧ w' = w := by
  have ha := DM.norm_bd a
  have hb := DM.norm_bd b
  go_enter Tryz.func93, Tryz.ntmps93
  go_wp2_with (go_at_call 107; refine (rnorm_any _ _).mono ?_; rintro e w' ⟨rfl, rfl⟩)
  all_goals go_ret
  all_goals refine ⟨ret_int ?_, rfl⟩
  all_goals unfold DM.two
  all_goals go_light
  all_goals (repeat' split) <;> (try simp only [beq_iff_eq, beq_eq_false_iff_ne, ne_eq] at *) <;> omega
set_option maxHeartbeats 400000 in
theorem addStep_any (s a : Int) (w : World) (h0 : 0 ≤ s) (h1 : s ≤ 4611686018427387906) :
    Calls Tryz.prog 96 #[.int .i64 s, .int .i64 a] w fun e w' => e = .returned (.int .i64 (DM.two s a)) ∧ w' = w := by
  have ha := DM.norm_bd a
  rcases DM.told_cases s with ⟨hs, hs'⟩ | ⟨hs, hs'⟩ <;> rcases DM.told_cases (DM.norm a) with ⟨hb, hb'⟩ | ⟨hb, hb'⟩
  all_goals
    rw [DM.norm_of h0 h1] at hs'
    rw [DM.norm_norm] at hb'
    go_enter Tryz.func96, Tryz.ntmps96
    go_wp2_with (first | (go_at_call 89; refine (dnorm_any _ _).mono ?_; rintro e w' ⟨rfl, rfl⟩) | (go_at_call 97; refine (told_any _ _).mono ?_; rintro e w' ⟨rfl, rfl⟩))
  all_goals go_ret
  all_goals refine ⟨ret_int ?_, rfl⟩
  all_goals simp only [DM.two, DM.norm_of h0 h1]
  all_goals (repeat' split) <;> omega
set_option maxHeartbeats 400000 in
theorem foldAdd_row (v : Value) (zs : List Int) (w : World) (h : Row .i64 w v zs) :
    Calls Tryz.prog 95 #[v, .int .i64 0, .func (.func 96) #[] #[]] w fun e w' => e = .returned (.int .i64 (DM.addl zs)) ∧ w' = w := by
  obtain ⟨a, cap, rfl, hat⟩ := h
  obtain ⟨h1, h2, h3, h4⟩ := hat
  have hml : zs.length ≤ 9223372036854775807 := by unfold maxLen at h2; omega
  go_enter Tryz.func95, Tryz.ntmps95
  go_wp2
  go_loop [7, 13] (fun s i => ∃ k : Nat, k ≤ zs.length ∧ i = .int .i64 k ∧ s = .int .i64 (DM.addl (zs.take k))) (fun _ i => zs.length - (intOf i).toNat)
  case atStart => exact ⟨0, Nat.zero_le _, rfl, rfl⟩
  case round =>
    obtain ⟨k, hk, rfl, rfl⟩ := hrel
    have hb := DM.addl_bd (zs.take k)
    by_cases hlt : k < zs.length
    · obtain ⟨b, o, rfl, hc⟩ := h4 (by omega)
      have hck := hc k hlt
      have HS : Hid (DM.addl (zs.take (k + 1)) = DM.two (DM.addl (zs.take k)) zs[k]) := DM.foldl_take_succ _ _ _ _ hlt
      go_wp2_with (go_at_call 96; refine (addStep_any _ _ _ hb.1 hb.2).mono ?_; rintro e w' ⟨rfl, rfl⟩)
      go_round
      case rel => exact ⟨k + 1, by omega, by go_num, by rw [HS.out]⟩
      case measure => simp [intOf]; omega
    · go_wp2
      go_ret
      exact ⟨ret_int (by rw [List.take_of_length_le (by omega)]), rfl⟩
set_option maxHeartbeats 400000 in
theorem add_row (v : Value) (zs : List Int) (w : World) (h : Row .i64 w v zs) :
    Calls Tryz.prog 74 #[v] w fun e w' => e = .returned (.int .i64 (DM.addl zs)) ∧ w' = w := by
  go_enter Tryz.func74, Tryz.ntmps74
  go_wp2_with (go_at_call 95; refine (foldAdd_row _ zs _ h).mono ?_; rintro e w' ⟨rfl, rfl⟩)
  go_ret
  exact ⟨rfl, rfl⟩

/-! bits -/
theorem pow_cast (n : Nat) : ((2 : Int) ^ n) = ((2 ^ n : Nat) : Int) := (Int.natCast_pow 2 n).symm
theorem shl_one (n : Nat) (h : n < 64) : IntKind.u64.wrap (2 ^ n) = ((2 ^ n : Nat) : Int) := by
  have := BM.pow64 h
  rw [IntKind.wrap_u64, pow_cast]
  generalize 2 ^ n = p at *
  omega
set_option maxHeartbeats 400000 in
theorem only_any (x : Int) (w : World) :
    Calls Tryz.prog 67 #[.int .i64 x] w fun e w' => e = .returned (.int .u64 (BM.only x : Nat)) ∧ w' = w := by
  by_cases h : 0 ≤ x ∧ x < 64
  · have e : BM.only x = 2 ^ x.toNat := by unfold BM.only; rw [if_pos h]
    obtain ⟨n, rfl⟩ : ∃ n : Nat, x = n := ⟨x.toNat, by omega⟩
    rw [e]
    go_enter Tryz.func67, Tryz.ntmps67
    go_wp2_with fail
    go_ret
    exact ⟨ret_int (shl_one n (by omega)), rfl⟩
  · have e : BM.only x = 0 := by unfold BM.only; rw [if_neg h]
    rw [e]
    go_enter Tryz.func67, Tryz.ntmps67
    go_wp2_with fail
    all_goals (try (exfalso; omega))
    all_goals go_ret
    all_goals exact ⟨rfl, rfl⟩
theorem int_bne (a : Nat) : (!(a : Int) == 0) = !(a == 0) := by
  rw [Bool.eq_iff_iff]; simp
set_option maxHeartbeats 400000 in
theorem has_any (s : Nat) (x : Int) (hs : s < 18446744073709551616) (w : World) :
    Calls Tryz.prog 116 #[.int .u64 s, .int .i64 x] w fun e w' => e = .returned (.bool (BM.has s x)) ∧ w' = w := by
  have hc := only_any x w
  have hr : (!bits BinOp.and IntKind.u64 (s : Int) (BM.only x : Nat) == 0) = BM.has s x := by
    rw [bits_and_u64_nat s _ hs (BM.only_lt x), ← BM.has_only, int_bne]
  go_enter Tryz.func116, Tryz.ntmps116
  go_wp2_with fail
  refine hc.mono ?_
  rintro e w' ⟨rfl, rfl⟩
  go_wp2_with fail
  go_ret
  exact ⟨ret_bool hr, rfl⟩
set_option maxHeartbeats 400000 in
theorem with_any (s : Nat) (x : Int) (hs : s < 18446744073709551616) (w : World) :
    Calls Tryz.prog 61 #[.int .u64 s, .int .i64 x] w fun e w' => e = .returned (.int .u64 (s ||| BM.only x : Nat)) ∧ w' = w := by
  have hc := only_any x w
  have hr := bits_or_u64_nat s _ hs (BM.only_lt x)
  go_enter Tryz.func61, Tryz.ntmps61
  go_wp2_with fail
  refine hc.mono ?_
  rintro e w' ⟨rfl, rfl⟩
  go_wp2_with fail
  go_ret
  exact ⟨rfl, rfl⟩
set_option maxHeartbeats 400000 in
theorem of_none (w : World) :
    Calls Tryz.prog 77 #[.slice none 0 0] w fun e w' => e = .returned (.int .u64 0) ∧ w' = w := by
  go_enter Tryz.func77, Tryz.ntmps77
  go_wp2_with fail
  go_loop [3, 8] (fun sv i => i = .int .i64 0 ∧ sv = .int .u64 0) (fun _ _ => 0)
  case atStart => exact ⟨rfl, rfl⟩
  case round =>
    obtain ⟨rfl, rfl⟩ := hrel
    go_wp2_with fail
    go_ret
    exact ⟨rfl, rfl⟩
end Go.Proofs.YtkcfepppnclniaaGreatDoor
end
