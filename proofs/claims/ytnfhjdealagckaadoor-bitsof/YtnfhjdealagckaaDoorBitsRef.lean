/-
  The walks of the program's Of, and of the reference's Has, List, Of and Ints.
-/
import Derived.Test.YtnfhjdealagckaaDoorBitsWalks
namespace Go.Proofs.YtnfhjdealagckaaDoor
open Go.RowKit

theorem info3 : (Tryd.prog.info? 3).map (fun i => (i.zero, i.size, i.bytes)) = some (some (.int .i64 0), 1, 8) := by kernel_rfl
theorem take_snoc (zs : List Int) (k : Nat) (h : k < zs.length) : zs.take (k + 1) = zs.take k ++ [zs[k]] := by
  rw [List.take_add_one, List.getElem?_eq_getElem h]; rfl

set_option maxHeartbeats 400000 in
/-- The program's Of: the set of any row of numbers. -/
theorem of_any (v : Value) (zs : List Int) (w : World) (hrow : Row .i64 w v zs) :
    Calls Tryd.prog 19 #[v] w fun e w' => e = .returned (.int .u64 (BM.ofL zs : Nat)) ∧ w' = w := by
  obtain ⟨a, cap, rfl, hat⟩ := hrow
  obtain ⟨h1, h2, h3, h4⟩ := hat
  have hml : zs.length ≤ 9223372036854775807 := by unfold maxLen at h2; omega
  rw [← BM.setOf_eq]
  go_enter Tryd.func19, Tryd.ntmps19
  go_wp2_with fail
  go_loop [3, 8] (fun sv i => ∃ k : Nat, k ≤ zs.length ∧ i = .int .i64 k ∧ sv = .int .u64 (BM.setOf (zs.take k) : Nat)) (fun _ i => zs.length - (intOf i).toNat)
  case atStart => exact ⟨0, Nat.zero_le _, rfl, by simp [BM.setOf]⟩
  case round =>
    obtain ⟨k, hk, rfl, rfl⟩ := hrel
    by_cases hlt : k < zs.length
    · obtain ⟨b, o, rfl, hc⟩ := h4 (by omega)
      have hck := hc k hlt
      rw [List.getElem?_eq_getElem hlt, Option.getD_some] at hck
      have hS : BM.setOf (zs.take (k + 1)) = BM.setOf (zs.take k) ||| BM.only zs[k] := by rw [take_snoc zs k hlt, BM.setOf_snoc]
      have HS : Hid (BM.setOf (zs.take (k + 1)) = BM.setOf (zs.take k) ||| BM.only zs[k]) := hS
      have hcall := with_any (BM.setOf (zs.take k)) zs[k] (BM.setOf_lt _) w
      clear hS hc
      generalize zs[k] = z at *
      go_wp2_with fail
      refine hcall.mono ?_
      rintro e w' ⟨rfl, rfl⟩
      go_wp2_with fail
      go_round
      case rel => exact ⟨k + 1, by omega, by simp, by rw [HS.out]⟩
      case measure => simp [intOf]; omega
    · obtain rfl : k = zs.length := by omega
      go_wp2_with fail
      go_ret
      exact ⟨by simp, rfl⟩

set_option maxHeartbeats 400000 in
/-- The reference's Has. -/
theorem rhas_any (s : Nat) (x : Int) (hs : s < 18446744073709551616) (w : World) :
    Calls Tryd.prog 12 #[.int .u64 s, .int .i64 x] w fun e w' => e = .returned (.bool (BM.has s x)) ∧ w' = w := by
  by_cases h : 0 ≤ x ∧ x < 64
  · obtain ⟨n, rfl⟩ : ∃ n : Nat, x = n := ⟨x.toNat, by omega⟩
    have hn : n < 64 := by omega
    have e : BM.has s (n : Int) = s.testBit n := by unfold BM.has; rw [decide_eq_true h, Bool.true_and, Int.toNat_natCast]
    rw [e]
    clear e h
    go_enter Tryd.func12, Tryd.ntmps12
    go_wp2_with fail
    go_loop [0, 5] (fun sv i => ∃ k : Nat, k ≤ n ∧ i = .int .i64 k ∧ sv = .int .u64 (s / 2 ^ k : Nat)) (fun _ i => n - (intOf i).toNat)
    case atStart => exact ⟨0, Nat.zero_le _, rfl, by simp⟩
    case round =>
      obtain ⟨k, hk, rfl, rfl⟩ := hrel
      have hq : s / 2 ^ k < 18446744073709551616 := Nat.lt_of_le_of_lt (Nat.div_le_self _ _) hs
      have HS : Hid (s / 2 ^ (k + 1) = s / 2 ^ k / 2) := by show _ = _; rw [Nat.pow_succ, Nat.div_div_eq_div_mul]
      have HT : Hid (k = n → s.testBit n = decide (s / 2 ^ k % 2 = 1)) := fun e => by rw [e, Nat.testBit_eq_decide_div_mod_eq]
      generalize s / 2 ^ k = q at *
      by_cases hlt : k < n
      · go_wp2_with fail
        go_round
        case rel => exact ⟨k + 1, by omega, by simp, by rw [HS.out]; simp⟩
        case measure => simp [intOf]; omega
      · go_wp2_with fail
        go_ret
        refine ⟨ret_bool ?_, rfl⟩
        rw [HT.out (by omega), Bool.eq_iff_iff]
        simp
        omega
  · have e : BM.has s x = false := by simp [BM.has]; omega
    rw [e]
    go_enter Tryd.func12, Tryd.ntmps12
    go_wp2_with fail
    all_goals (try (exfalso; omega))
    all_goals go_ret
    all_goals exact ⟨rfl, rfl⟩

/-- The reference's list, so far. -/
def upto (s k : Nat) : List Int := ((List.range k).filter (fun i => s.testBit i)).map (fun i : Nat => (i : Int))
theorem upto_hit (s k : Nat) (h : s.testBit k = true) : upto s (k + 1) = upto s k ++ [(k : Int)] := by simp [upto, List.range_succ, h]
theorem upto_miss (s k : Nat) (h : s.testBit k = false) : upto s (k + 1) = upto s k := by simp [upto, List.range_succ, h]
theorem upto_len (s k : Nat) : (upto s k).length ≤ k := by
  have := List.length_filter_le (fun i => s.testBit i) (List.range k)
  simpa [upto] using this
theorem has_nat (s k : Nat) (h : k < 64) : BM.has s (k : Int) = s.testBit k := by
  unfold BM.has
  rw [decide_eq_true (by omega), Bool.true_and, Int.toNat_natCast]

set_option maxHeartbeats 400000 in
/-- The reference's List. -/
theorem rlist_any (s : Nat) (hs : s < 18446744073709551616) (w : World) :
    Calls Tryd.prog 9 #[.int .u64 s] w fun e w' => ∃ r, e = .returned r ∧ Own .i64 3 w' w.heap.size r (BM.ilst s) ∧ Below w.heap.size w w' := by
  obtain ⟨i0, hi, hz0, hz1, hz2⟩ := info_parts info3
  go_enter Tryd.func9, Tryd.ntmps9
  go_wp2_with fail
  go_loopw [3, 4] (fun v i wr => ∃ k : Nat, k ≤ 64 ∧ i = .int .i64 k ∧ Hid (Own .i64 3 wr w.heap.size v (upto s k)) ∧ Below w.heap.size w wr) (fun _ i _ => 64 - (intOf i).toNat)
  case atStart => exact ⟨0, Nat.zero_le _, rfl, Own.nil _ _ _ _, Below.refl _ _⟩
  case round =>
    obtain ⟨k, hk, rfl, HO, hbr⟩ := hrel
    have hsz := hbr.size
    by_cases hlt : k < 64
    · have hc := rhas_any s k hs wr
      rw [has_nat s k hlt] at hc
      have hul := upto_len s k
      have HH : Hid (s.testBit k = true → upto s (k + 1) = upto s k ++ [(k : Int)]) := upto_hit s k
      have HM : Hid (s.testBit k = false → upto s (k + 1) = upto s k) := upto_miss s k
      generalize s.testBit k = t at *
      cases t with
      | false =>
        have HM2 : Hid (upto s (k + 1) = upto s k) := HM.out rfl
        clear HM HH
        go_wp2_with fail
        refine hc.mono ?_
        rintro e w' ⟨rfl, rfl⟩
        go_wp2_with fail
        go_roundw
        case rel => exact ⟨k + 1, by omega, by simp, by rw [HM2.out]; exact HO, hbr⟩
        case measure => simp [intOf]; omega
      | true =>
        have HH2 : Hid (upto s (k + 1) = upto s k ++ [(k : Int)]) := HH.out rfl
        clear HM HH
        go_wp2_with fail
        refine hc.mono ?_
        rintro e w' ⟨rfl, rfl⟩
        go_wp2_with (at_builtin; refine wpList_append_row _ rfl _ _ 25 rfl .i64 w.heap.size 3 i0 8 Tryd.underlying25 hi hz0 hz1 hz2 _ (upto s k) rfl (HO.out.alloc _) (some ⟨w'.heap.size, 0, none⟩) 1 1 [(k : Int)] rfl rfl (rowAt_lit1 _ _ _ _) (by unfold maxLen; simp; omega) (by simp; omega) (by simp; omega) ?_)
        intro v2 w2 hown2 hgrow2 _
        have hb2 : Below w.heap.size w w2 := (hbr.alloc hsz _).grown hgrow2 (by simp; omega) HO.out.block
        have HO2 : Hid (Own .i64 3 w2 w.heap.size v2 (upto s (k + 1))) := by
          show Own _ _ _ _ _ _
          rw [HH2.out]; exact hown2
        clear hown2 hgrow2
        go_wp2_with fail
        go_roundw
        case rel => exact ⟨k + 1, by omega, by simp, HO2, hb2⟩
        case measure => simp [intOf]; omega
    · obtain rfl : k = 64 := by omega
      go_wp2_with fail
      go_ret
      exact ⟨_, rfl, HO.out, hbr⟩

theorem contains_take (zs : List Int) (j : Nat) (hj : j < zs.length) (x : Int) : (zs.take (j + 1)).contains x = ((zs.take j).contains x || decide (zs[j] = x)) := by
  rw [take_snoc zs j hj, List.contains_append]
  congr 1
  by_cases h : zs[j] = x
  · rw [decide_eq_true h, ← h]; simp
  · rw [decide_eq_false h, List.contains_cons, beq_eq_false_iff_ne.2 (fun e => h e.symm)]; rfl

set_option maxHeartbeats 400000 in
/-- The reference's Of. -/
theorem rof_any (v : Value) (zs : List Int) (w : World) (hrow : Row .i64 w v zs) :
    Calls Tryd.prog 16 #[v] w fun e w' => e = .returned (.int .u64 (BM.ofL zs : Nat)) ∧ w' = w := by
  obtain ⟨a, cap, rfl, hat⟩ := hrow
  obtain ⟨h1, h2, h3, h4⟩ := hat
  have hml : zs.length ≤ 9223372036854775807 := by unfold maxLen at h2; omega
  obtain ⟨p, hp⟩ : ∃ p : Nat → Bool, p = fun i : Nat => zs.contains (i : Int) := ⟨_, rfl⟩
  have HP : Hid (∀ k : Nat, p k = zs.contains (k : Int)) := by show ∀ k : Nat, _; intro k; rw [hp]
  have HE : Hid (BM.ofL zs = BM.sum p 64) := by show _ = _; rw [hp]; rfl
  have H4 : Hid (0 < zs.length → ∃ b o, a = some ⟨b, o, none⟩ ∧ ∀ i, i < zs.length → w.cell? ⟨b, o + i, none⟩ = some (.int .i64 (zs[i]?.getD 0))) := h4
  clear hp h3 h4 h2
  go_enter Tryd.func16, Tryd.ntmps16
  go_wp2_with fail
  go_loop [3, 4, 5] (fun sv u i => ∃ k : Nat, k ≤ 64 ∧ i = .int .i64 k ∧ u = .int .u64 (2 ^ k % 18446744073709551616 : Nat) ∧ sv = .int .u64 (BM.sum p k : Nat)) (fun _ _ i => 64 - (intOf i).toNat)
  case atStart => exact ⟨0, Nat.zero_le _, rfl, rfl, rfl⟩
  case round =>
    obtain ⟨k, hk, rfl, rfl, rfl⟩ := hrel
    by_cases hlt : k < 64
    · have hpw := BM.pow64 hlt
      have hsl := BM.sum_lt p k
      have hs1 : BM.sum p (k + 1) < 18446744073709551616 := Nat.lt_of_lt_of_le (BM.sum_lt p (k + 1)) (Nat.pow_le_pow_right (n := 2) (j := 64) (by decide) (by omega))
      have HS : Hid (BM.sum p (k + 1) = BM.sum p k + if p k then 2 ^ k else 0) := rfl
      have HU : Hid (2 ^ (k + 1) = 2 * 2 ^ k) := by show _ = _; rw [Nat.pow_succ]; omega
      have hm : 2 ^ k % 18446744073709551616 = 2 ^ k := Nat.mod_eq_of_lt hpw
      rw [hm]
      have HPk : Hid (p k = zs.contains (k : Int)) := HP.out k
      have hs2 : BM.sum p (k + 1) = BM.sum p k + if p k then 2 ^ k else 0 := rfl
      generalize hP : 2 ^ k = P at *
      generalize BM.sum p k = S at *
      go_wp2_with fail
      go_loop [6, 7] (fun b i => ∃ j : Nat, j ≤ zs.length ∧ i = .int .i64 j ∧ b = .bool ((zs.take j).contains (k : Int))) (fun _ i => zs.length - (intOf i).toNat)
      case atStart => exact ⟨0, Nat.zero_le _, rfl, by simp⟩
      case round =>
        obtain ⟨j, hj, rfl, rfl⟩ := hrel
        by_cases hjl : j < zs.length
        · obtain ⟨b, o, rfl, hc⟩ := H4.out (by omega)
          have hck := hc j hjl
          rw [List.getElem?_eq_getElem hjl, Option.getD_some] at hck
          have HC : Hid ((zs.take (j + 1)).contains (k : Int) = ((zs.take j).contains (k : Int) || decide (zs[j] = (k : Int)))) := contains_take zs j hjl k
          generalize zs[j] = z at *
          generalize (zs.take j).contains (k : Int) = c at *
          clear hc
          cases c with
          | true =>
            go_wp2_with fail
            go_round
            case rel => exact ⟨j + 1, by omega, by simp, by rw [HC.out]; simp⟩
            case measure => simp [intOf]; omega
          | false =>
            go_wp2_with fail
            go_round
            case rel => exact ⟨j + 1, by omega, by simp, by rw [HC.out, Bool.false_or]; rfl⟩
            case measure => simp [intOf]; omega
        · obtain rfl : j = zs.length := by omega
          have hall : zs.take zs.length = zs := List.take_of_length_le (Nat.le_refl _)
          rw [hall]
          rw [← HPk.out]
          generalize p k = c at *
          cases c with
          | true =>
            go_wp2_with fail
            go_round
            case rel => exact ⟨k + 1, by omega, by simp, congrArg _ (by rw [HU.out, IntKind.wrap_u64]; omega), congrArg _ (by rw [HS.out, IntKind.wrap_u64]; rw [if_pos rfl] at hs2 ⊢; omega)⟩
            case measure => simp [intOf]; omega
          | false =>
            go_wp2_with fail
            go_round
            case rel => exact ⟨k + 1, by omega, by simp, congrArg _ (by rw [HU.out, IntKind.wrap_u64]; omega), by rw [HS.out]; simp⟩
            case measure => simp [intOf]; omega
    · obtain rfl : k = 64 := by omega
      go_wp2_with fail
      go_ret
      exact ⟨by rw [HE.out]; rfl, rfl⟩

set_option maxHeartbeats 400000 in
/-- The reference's Ints, of two rows of the same numbers. -/
theorem ints_same (u v : Value) (zs : List Int) (w : World) (hu : Row .i64 w u zs) (hv : Row .i64 w v zs) :
    Calls Tryd.prog 14 #[u, v] w fun e w' => e = .returned (.bool true) ∧ Below w.heap.size w w' := by
  obtain ⟨a, cap, rfl, hat⟩ := hu
  obtain ⟨a2, cap2, rfl, hat2⟩ := hv
  have hml : zs.length ≤ 9223372036854775807 := by have := hat.1; have := hat.2.1; unfold maxLen at this; omega
  have HA : Hid (RowAt .i64 w a cap zs) := hat
  have HB : Hid (RowAt .i64 w a2 cap2 zs) := hat2
  have h1 := hat.1
  have h2 := hat2.1
  clear hat hat2
  go_enter Tryd.func14, Tryd.ntmps14
  go_wp2_with fail
  go_loopw [5] (fun i wr => ∃ k : Nat, k ≤ zs.length ∧ i = .int .i64 k ∧ Below w.heap.size w wr) (fun i _ => zs.length - (intOf i).toNat)
  case atStart => exact ⟨0, Nat.zero_le _, rfl, Below.refl _ _⟩
  case round =>
    obtain ⟨k, hk, rfl, hbr⟩ := hrel
    by_cases hlt : k < zs.length
    · obtain ⟨b, o, rfl, hc⟩ := (HA.out.below hbr).2.2.2 (by omega)
      obtain ⟨b2, o2, rfl, hc2⟩ := (HB.out.below hbr).2.2.2 (by omega)
      have hck := hc k hlt
      have hck2 := hc2 k hlt
      clear hc hc2
      rw [List.getElem?_eq_getElem hlt, Option.getD_some] at hck hck2
      generalize zs[k] = z at *
      have hi0 : (0 : Int) ≤ (k : Int) := by omega
      have hi1 : (k : Int) < (zs.length : Int) := by omega
      go_wp2_with fail
      go_region
      go_wp2_with fail
      go_roundw
      case rel => exact ⟨k + 1, by omega, by simp, below_drewN hbr _⟩
      case measure => simp [intOf]; omega
    · go_wp2_with fail
      go_ret
      exact ⟨rfl, hbr⟩
end Go.Proofs.YtnfhjdealagckaaDoor
