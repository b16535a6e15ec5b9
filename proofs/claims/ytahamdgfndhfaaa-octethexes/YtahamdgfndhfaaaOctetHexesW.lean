/-
  The walk of the law OctetHexes.
-/
import Derived.Test.YtahamdgfndhfaaaOctetAwake
namespace Go.Proofs.Ytahamdgfndhfaaa
open Go.RowKit

set_option maxHeartbeats 1000000 in
theorem hexes_walk (v : Value) (zs : List Int) (s : ByteArray) (w : World) (hrow : Row .u8 w v zs) (hbd : ∀ z ∈ zs, 0 ≤ z ∧ z ≤ 255) (hs : s.size ≤ maxLen) :
    Calls Try.prog 5 #[v, .string s] w fun e w' => e = .returned (.bool true) ∧ Below w.heap.size w w' := by
  obtain ⟨a, cap, rfl, hat⟩ := hrow
  have HA : Hid (RowAt .u8 w a cap zs) := hat
  have HB : Hid (∀ z ∈ zs, 0 ≤ z ∧ z ≤ 255) := hbd
  have hcap := hat.1
  have hcm := hat.2.1
  unfold maxLen at hcm hs
  clear hat hbd
  by_cases h300 : 300 < zs.length
  · go_enter Try.func5, Try.ntmps5
    go_wp2_with fail
    refine (awake_any _).mono ?_
    rintro e w1 ⟨rfl, hb1⟩
    go_wp2_with fail
    go_ret
    exact ⟨rfl, hb1⟩
  by_cases hs300 : 300 < s.size
  · go_enter Try.func5, Try.ntmps5
    go_wp2_with fail
    refine (awake_any _).mono ?_
    rintro e w1 ⟨rfl, hb1⟩
    go_wp2_with fail
    go_ret
    exact ⟨rfl, hb1⟩
  go_enter Try.func5, Try.ntmps5
  go_wp2_with fail
  refine (awake_any _).mono ?_
  rintro e w1 ⟨rfl, hb1⟩
  have hs1 := hb1.size
  go_wp2_with fail
  refine (unhex_any s _ (by omega)).mono ?_
  rintro e w2 ⟨h2, hb2⟩
  have hb2' : Below w.heap.size w w2 := hb1.trans (hb2.mono hs1)
  have hs2 := hb2'.size
  rcases h2 with ⟨hg, r2, rfl, ho2⟩ | ⟨hg, rfl⟩
  all_goals
    go_wp2_with fail
    refine (runhex_any s _ (by omega)).mono ?_
    rintro e w3 ⟨h3, hb3⟩
    have hb3' : Below w.heap.size w w3 := hb2'.trans (hb3.mono hs2)
    have hs3 := hb3'.size
    rcases h3 with ⟨hg3, r3, rfl, ho3⟩ | ⟨hg3, rfl⟩
  · have HA3 : Hid (RowAt .u8 w3 a cap zs) := HA.out.below hb3'
    have HO2 : Hid (Row .u8 w3 r2 (OM.pairs s.data.toList)) := ho2.row.below hb3
    have HO3 : Hid (Row .u8 w3 r3 (OM.pairs s.data.toList)) := ho3.row
    clear ho2 ho3 hg hg3
    go_wp2_with fail
    refine (hex_any _ zs _ ⟨a, cap, rfl, HA3.out⟩ (by omega) HB.out).mono ?_
    rintro e w4 ⟨rfl, hb4⟩
    have hb4' : Below w.heap.size w w4 := hb3'.trans (hb4.mono hs3)
    have hs4 := hb4'.size
    go_wp2_with fail
    refine (unhex_any _ _ (by show (OM.hexL zs).toArray.size ≤ _; simp [OM.hexL_length]; omega)).mono ?_
    rintro e w5 ⟨h5, hb5⟩
    have hb5' : Below w.heap.size w w5 := hb4'.trans (hb5.mono hs4)
    have hs5 := hb5'.size
    rcases h5 with ⟨hg5, r5, rfl, ho5⟩ | ⟨hg5, _⟩
    · have ho5' : Own .u8 5 w5 w4.heap.size r5 zs := by have := ho5; rwa [show OM.pairs (ByteArray.mk (OM.hexL zs).toArray).data.toList = zs from OM.hexL_back zs HB.out] at this
      have HA5 : Hid (RowAt .u8 w5 a cap zs) := HA.out.below hb5'
      have hb35 : Below w3.heap.size w3 w5 := hb4.trans (hb5.mono hb4.size)
      clear ho5 hg5
      go_wp2_with fail
      refine (hex_any _ zs _ ⟨a, cap, rfl, HA5.out⟩ (by omega) HB.out).mono ?_
      rintro e w6 ⟨rfl, hb6⟩
      have hb6' : Below w.heap.size w w6 := hb5'.trans (hb6.mono hs5)
      have HA6 : Hid (RowAt .u8 w6 a cap zs) := HA.out.below hb6'
      go_wp2_with fail
      refine (rhex_any _ zs _ ⟨a, cap, rfl, HA6.out⟩ (by omega) HB.out).mono ?_
      rintro e w7 ⟨rfl, hb7⟩
      have hb7' : Below w.heap.size w w7 := hb6'.trans (hb7.mono hb6'.size)
      have hb57 : Below w5.heap.size w5 w7 := hb6.trans (hb7.mono hb6.size)
      have hb37 : Below w3.heap.size w3 w7 := hb35.trans (hb57.mono hb35.size)
      have c1 := (HO2.out.below hb37).string 22 5 9 Try.underlying22 Try.underlying5 Try.underlying9
      have c2 := (HO3.out.below hb37).string 22 5 9 Try.underlying22 Try.underlying5 Try.underlying9
      have c3 := (ho5'.row.below hb57).string 22 5 9 Try.underlying22 Try.underlying5 Try.underlying9
      have c4 := (Row.below (v := .slice a zs.length cap) ⟨a, cap, rfl, HA6.out⟩ hb7).string 22 5 9 Try.underlying22 Try.underlying5 Try.underlying9
      clear ho5'
      have hLL : (OM.hexL zs == OM.hexL zs) = true := by simp
      go_wp2_with fail
      go_ret
      exact ⟨rfl, hb7'⟩
    · exact absurd (OM.hexL_good zs HB.out) hg5
  · exact absurd hg hg3
  · exact absurd hg3 hg
  · have HA3 : Hid (RowAt .u8 w3 a cap zs) := HA.out.below hb3'
    have HO2 : Hid (Row .u8 w3 (.slice none 0 0) []) := Row.nil _ _
    clear hg hg3
    go_wp2_with fail
    refine (hex_any _ zs _ ⟨a, cap, rfl, HA3.out⟩ (by omega) HB.out).mono ?_
    rintro e w4 ⟨rfl, hb4⟩
    have hb4' : Below w.heap.size w w4 := hb3'.trans (hb4.mono hs3)
    have hs4 := hb4'.size
    go_wp2_with fail
    refine (unhex_any _ _ (by show (OM.hexL zs).toArray.size ≤ _; simp [OM.hexL_length]; omega)).mono ?_
    rintro e w5 ⟨h5, hb5⟩
    have hb5' : Below w.heap.size w w5 := hb4'.trans (hb5.mono hs4)
    have hs5 := hb5'.size
    rcases h5 with ⟨hg5, r5, rfl, ho5⟩ | ⟨hg5, _⟩
    · have ho5' : Own .u8 5 w5 w4.heap.size r5 zs := by have := ho5; rwa [show OM.pairs (ByteArray.mk (OM.hexL zs).toArray).data.toList = zs from OM.hexL_back zs HB.out] at this
      have HA5 : Hid (RowAt .u8 w5 a cap zs) := HA.out.below hb5'
      have hb35 : Below w3.heap.size w3 w5 := hb4.trans (hb5.mono hb4.size)
      clear ho5 hg5
      go_wp2_with fail
      refine (hex_any _ zs _ ⟨a, cap, rfl, HA5.out⟩ (by omega) HB.out).mono ?_
      rintro e w6 ⟨rfl, hb6⟩
      have hb6' : Below w.heap.size w w6 := hb5'.trans (hb6.mono hs5)
      have HA6 : Hid (RowAt .u8 w6 a cap zs) := HA.out.below hb6'
      go_wp2_with fail
      refine (rhex_any _ zs _ ⟨a, cap, rfl, HA6.out⟩ (by omega) HB.out).mono ?_
      rintro e w7 ⟨rfl, hb7⟩
      have hb7' : Below w.heap.size w w7 := hb6'.trans (hb7.mono hb6'.size)
      have hb57 : Below w5.heap.size w5 w7 := hb6.trans (hb7.mono hb6.size)
      have hb37 : Below w3.heap.size w3 w7 := hb35.trans (hb57.mono hb35.size)
      have c1 := (HO2.out.below hb37).string 22 5 9 Try.underlying22 Try.underlying5 Try.underlying9
      have c3 := (ho5'.row.below hb57).string 22 5 9 Try.underlying22 Try.underlying5 Try.underlying9
      have c4 := (Row.below (v := .slice a zs.length cap) ⟨a, cap, rfl, HA6.out⟩ hb7).string 22 5 9 Try.underlying22 Try.underlying5 Try.underlying9
      clear ho5'
      have hLL : (OM.hexL zs == OM.hexL zs) = true := by simp
      go_wp2_with fail
      go_ret
      exact ⟨rfl, hb7'⟩
    · exact absurd (OM.hexL_good zs HB.out) hg5
end Go.Proofs.Ytahamdgfndhfaaa
