/-
  The walk of the law OctetPuts.
-/
import Derived.Test.YtahamdgfndhfaaaOctetAwake
namespace Go.Proofs.Ytahamdgfndhfaaa
open Go.RowKit

set_option maxHeartbeats 1000000 in
theorem puts_walk (v : Value) (zs : List Int) (n x : Int) (w : World) (hrow : Row .u8 w v zs) (hx0 : 0 ≤ x) (hx1 : x ≤ 18446744073709551615) :
    Calls Try.prog 3 #[v, .int .i64 n, .int .u64 x] w fun e w' => e = .returned (.bool true) ∧ Below w.heap.size w w' := by
  obtain ⟨a, cap, rfl, hat⟩ := hrow
  obtain ⟨i0, hi, hz0, hz1, hz2⟩ := info_parts info8
  have HA : Hid (RowAt .u8 w a cap zs) := hat
  have hcap := hat.1
  have hcm := hat.2.1
  unfold maxLen at hcm
  clear hat
  by_cases h500 : 500 < zs.length
  · go_enter Try.func3, Try.ntmps3
    go_wp2_with fail
    refine (awake_any _).mono ?_
    rintro e w1 ⟨rfl, hb1⟩
    go_wp2_with fail
    go_ret
    exact ⟨rfl, hb1⟩
  go_enter Try.func3, Try.ntmps3
  go_wp2_with fail
  refine (awake_any _).mono ?_
  rintro e w1 ⟨rfl, hb1⟩
  have hs1 := hb1.size
  have HA1 : Hid (RowAt .u8 w1 a cap zs) := HA.out.below hb1
  go_wp2_with (at_builtin; refine wpList_append_row _ rfl _ _ 22 rfl .u8 w.heap.size 5 i0 1 Try.underlying22 hi hz0 hz1 hz2 (.slice (some ⟨w1.heap.size, 0, none⟩) 0 0) [] rfl (Own.lit .u8 5 w1 w.heap.size hs1 [] _ 0 rfl rfl (by decide)) a zs.length cap zs rfl rfl (HA1.out.below ((Below.refl _ _).alloc (Nat.le_refl _) _)) (by unfold maxLen; simp; omega) (by simp; omega) (by simp; omega) ?_)
  intro v2 w2 hown2 hgrow2 _
  have hb2 : Below w.heap.size w w2 := (hb1.alloc hs1 _).grown hgrow2 (by simp; omega) (fun k h => by cases h; exact hs1)
  have HO2 : Hid (Own .u8 5 w2 w.heap.size v2 zs) := hown2
  clear hown2 hgrow2
  go_wp2_with fail
  refine (put_any _ zs n x _ HO2.out.row (by omega) hx0 hx1).mono ?_
  rintro e w3 ⟨r3, rfl, ho3, hb3⟩
  have hb3' : Below w.heap.size w w3 := hb2.trans (hb3.mono hb2.size)
  have HO23 : Hid (Row .u8 w3 v2 zs) := HO2.out.row.below hb3
  have HO3 : Hid (Row .u8 w3 r3 (zs ++ OM.low n x)) := ho3.row
  have HA3 : Hid (RowAt .u8 w3 a cap zs) := HA.out.below hb3'
  clear ho3 hb3
  go_wp2_with fail
  have hs3 := hb3'.size
  have hcv := HO3.out.drew.string 22 5 9 Try.underlying22 Try.underlying5 Try.underlying9
  go_region_with (go_at_call 10; refine (rput_any _ zs n x _ ?_ (by omega) hx0 hx1).mono ?_; exact ⟨a, cap, rfl, HA3.out⟩; rintro e w4 ⟨r4, rfl, ho4, hb4⟩; have hb4' := below_of_drew hb4; have hc1 := (HO3.out.below hb4').string 22 5 9 Try.underlying22 Try.underlying5 Try.underlying9; have hc2 := ho4.row.string 22 5 9 Try.underlying22 Try.underlying5 Try.underlying9; have hc3 := (HO23.out.below hb4').string 22 5 9 Try.underlying22 Try.underlying5 Try.underlying9; have hc4 := (Row.below (v := .slice a zs.length cap) ⟨a, cap, rfl, HA3.out⟩ hb4').string 22 5 9 Try.underlying22 Try.underlying5 Try.underlying9)
  all_goals
    go_wp2_with fail
    go_ret
    exact ⟨rfl, hb3'.trans (hb4'.mono hs3)⟩
end Go.Proofs.Ytahamdgfndhfaaa
