/-
  The walk of the law BitsOf.
-/
import Derived.Test.YtnfhjdealagckaaDoorBitsAwake
namespace Go.Proofs.YtnfhjdealagckaaDoor
open Go.RowKit

/-- The first numbers. -/
def nums (k : Nat) : List Int := (List.range k).map (fun i : Nat => (i : Int))
theorem nums_succ (k : Nat) : nums (k + 1) = nums k ++ [(k : Int)] := by simp [nums, List.range_succ]
theorem nums_len (k : Nat) : (nums k).length = k := by simp [nums]
theorem ilst_below (n : Int) : BM.ilst (BM.below n) = nums (BM.cut n) := by unfold BM.ilst nums; rw [BM.lst_below]

set_option maxHeartbeats 1000000 in
theorem ofs_walk (v : Value) (zs : List Int) (n : Int) (w : World) (hR : Ready w) (hrow : Row .i64 w v zs) :
    Calls Tryd.prog 4 #[v, .int .i64 n] w fun e w' => e = .returned (.bool true) ∧ Below w.heap.size w w' := by
  have HRow : Hid (Row .i64 w v zs) := hrow
  obtain ⟨a, cap, rfl, hat⟩ := hrow
  have hml : zs.length ≤ 9223372036854775807 := by have := hat.1; have := hat.2.1; unfold maxLen at this; omega
  obtain ⟨i0, hi, hz0, hz1, hz2⟩ := info_parts info3
  clear hat
  by_cases h300 : 300 < zs.length
  · go_enter Tryd.func4, Tryd.ntmps4
    go_wp2_with fail
    refine (awake_any _ hR).mono ?_
    rintro e w1 ⟨rfl, hb1⟩
    go_wp2_with fail
    go_ret
    exact ⟨rfl, hb1⟩
  have hcl := BM.cut_le n
  have hcn : (BM.cut n : Int) = min (max n 0) 64 := by unfold BM.cut; omega
  have hbl := BM.below_lt n
  have HE : Hid (BM.ilst (BM.below n) = nums (BM.cut n)) := ilst_below n
  have cb := below_any n
  generalize BM.cut n = c at *
  go_enter Tryd.func4, Tryd.ntmps4
  go_wp2_with fail
  refine (awake_any _ hR).mono ?_
  rintro e w1 ⟨rfl, hb1⟩
  go_wp2_with fail
  go_loopw [5, 6] (fun v i wr => ∃ k : Nat, k ≤ c ∧ i = .int .i64 k ∧ Hid (Own .i64 3 wr w.heap.size v (nums k)) ∧ Below w.heap.size w wr) (fun _ i _ => c - (intOf i).toNat)
  case atStart => exact ⟨0, Nat.zero_le _, rfl, Own.nil _ _ _ _, hb1⟩
  case round =>
    obtain ⟨k, hk, rfl, HO, hbr⟩ := hrel
    have hsz := hbr.size
    have hnl := nums_len k
    by_cases hlt : k < c
    · have hk1 : (k : Int) < 64 := by omega
      have hk2 : (k : Int) < n := by omega
      go_wp2_with (at_builtin; refine wpList_append_row _ rfl _ _ 25 rfl .i64 w.heap.size 3 i0 8 Tryd.underlying25 hi hz0 hz1 hz2 _ (nums k) rfl (HO.out.alloc _) (some ⟨wr.heap.size, 0, none⟩) 1 1 [(k : Int)] rfl rfl (rowAt_lit1 _ _ _ _) (by unfold maxLen; simp; omega) (by simp; omega) (by simp; omega) ?_)
      intro v2 w2 hown2 hgrow2 _
      have hb2 : Below w.heap.size w w2 := (hbr.alloc hsz _).grown hgrow2 (by simp; omega) HO.out.block
      have HO2 : Hid (Own .i64 3 w2 w.heap.size v2 (nums (k + 1))) := by
        show Own _ _ _ _ _ _
        rw [nums_succ]; exact hown2
      clear hown2 hgrow2
      go_wp2_with fail
      go_roundw
      case rel => exact ⟨k + 1, by omega, by simp, HO2, hb2⟩
      case measure => simp [intOf]; omega
    · clear hnl
      obtain rfl : k = c := by omega
      have hRr := hR.below hR.1 hbr
      have c1 := of_any _ zs wr (HRow.out.below hbr)
      have c2 := rof_any _ zs wr (HRow.out.below hbr)
      have c3 := list_any _ hbl wr hRr
      rw [HE.out] at c3
      have hnk : ¬ ((k : Int) < 64 ∧ (k : Int) < n) := by omega
      rcases Int.lt_or_le (k : Int) 64 with hk1 | hk1
      · have hk2 : n ≤ (k : Int) := by omega
        clear hnk
        go_wp2_with fail
        refine c1.mono ?_
        rintro e w' ⟨rfl, rfl⟩
        go_wp2_with fail
        refine c2.mono ?_
        rintro e w' ⟨rfl, rfl⟩
        go_wp2_with fail
        refine (cb _).mono ?_
        rintro e w' ⟨rfl, rfl⟩
        go_wp2_with fail
        refine c3.mono ?_
        rintro e w3 ⟨r3, rfl, ho3, hb3⟩
        have c4 := ints_same r3 _ (nums k) w3 ho3.row (HO.out.row.below hb3)
        obtain ⟨a3, cp3, rfl, _⟩ := ho3.at
        have hb3' : Below w.heap.size w w3 := hbr.trans (hb3.mono hsz)
        clear ho3 hb3
        go_wp2_with fail
        refine c4.mono ?_
        rintro e w6 ⟨rfl, hb6⟩
        have hb6' : Below w.heap.size w w6 := hb3'.trans (hb6.mono hb3'.size)
        go_wp2_with fail
        go_ret
        exact ⟨rfl, hb6'⟩
      · clear hnk
        go_wp2_with fail
        refine c1.mono ?_
        rintro e w' ⟨rfl, rfl⟩
        go_wp2_with fail
        refine c2.mono ?_
        rintro e w' ⟨rfl, rfl⟩
        go_wp2_with fail
        refine (cb _).mono ?_
        rintro e w' ⟨rfl, rfl⟩
        go_wp2_with fail
        refine c3.mono ?_
        rintro e w3 ⟨r3, rfl, ho3, hb3⟩
        have c4 := ints_same r3 _ (nums k) w3 ho3.row (HO.out.row.below hb3)
        obtain ⟨a3, cp3, rfl, _⟩ := ho3.at
        have hb3' : Below w.heap.size w w3 := hbr.trans (hb3.mono hsz)
        clear ho3 hb3
        go_wp2_with fail
        refine c4.mono ?_
        rintro e w6 ⟨rfl, hb6⟩
        have hb6' : Below w.heap.size w w6 := hb3'.trans (hb6.mono hb3'.size)
        go_wp2_with fail
        go_ret
        exact ⟨rfl, hb6'⟩
end Go.Proofs.YtnfhjdealagckaaDoor
