/-
  The walks of package octet's Hex, and of the reference's.
-/
import Derived.Test.YtahamdgfndhfaaaOctetGet
import Derived.Test.YtahamdgfndhfaaaOctetHexMath
import Derived.Deep.QuietTactic
import Derived.BigQuiet
namespace Go.Proofs.Ytahamdgfndhfaaa
open Go.RowKit

set_option maxHeartbeats 400000 in
theorem hex_any (v : Value) (zs : List Int) (w : World) (hrow : Row .u8 w v zs) (hlen : zs.length ≤ 1000000) (hbd : ∀ z ∈ zs, 0 ≤ z ∧ z ≤ 255) :
    Calls Try.prog 15 #[v] w fun e w' => e = .returned (.string ⟨(OM.hexL zs).toArray⟩) ∧ Below w.heap.size w w' := by
  obtain ⟨a, cap, rfl, hat⟩ := hrow
  obtain ⟨i0, hi, hz0, hz1, hz2⟩ := info_parts info8
  have HA : Hid (RowAt .u8 w a cap zs) := hat
  have HB : Hid (∀ z ∈ zs, 0 ≤ z ∧ z ≤ 255) := hbd
  clear hat hbd
  go_enter Try.func15, Try.ntmps15
  go_wp2_with (at_make; refine wpList_make_own _ rfl _ _ 22 rfl w.heap.size 5 i0 (.int .u8 0) 1 Try.underlying22 hi hz0 hz1 _ _ _ (2 * zs.length) rfl rfl (by omega) (by rw [hz2]; omega) (by unfold maxLen; omega) (Nat.le_refl _) ?_)
  intro w0 hown0 hgrow0
  have hb0 : Below w.heap.size w w0 := (Below.refl _ _).grown hgrow0 (Nat.le_refl _) (fun k h => by cases h)
  clear hgrow0
  go_wp2_with fail
  go_loopw [3, 12] (fun out i wr => ∃ k : Nat, k ≤ zs.length ∧ i = .int .i64 k ∧ out = .slice (some ⟨w.heap.size, 0, none⟩) (2 * k) (2 * zs.length) ∧ wr.ownsRow w.heap.size 5 1 (.slice (some ⟨w.heap.size, 0, none⟩) (2 * k) (2 * zs.length)) (2 * k) ((OM.hexI (zs.take k)).map (Value.int .u8)) ∧ Below w.heap.size w wr) (fun _ i _ => zs.length - (intOf i).toNat)
  case atStart => exact ⟨0, Nat.zero_le _, rfl, rfl, hown0, hb0⟩
  case round =>
    obtain ⟨k, hk, rfl, rfl, hown, hbr⟩ := hrel
    have hsz := hbr.size
    by_cases hlt : k < zs.length
    · obtain ⟨b, o, rfl, hc⟩ := (HA.out.below hbr).2.2.2 (by omega)
      have hck := hc k hlt
      have hzb := HB.out zs[k] (List.getElem_mem _)
      have HE : Hid (OM.hexI (zs.take (k + 1)) = OM.hexI (zs.take k) ++ [((OM.dig (zs[k] / 16)).toNat : Int), ((OM.dig (zs[k] % 16)).toNat : Int)]) := OM.hexI_snoc zs k hlt
      rw [List.getElem?_eq_getElem hlt, Option.getD_some] at hck
      generalize zs[k] = z at *
      have e1 : (0 : Int) ≤ z / 16 := by omega
      have e2 : z / 16 < (16 : Int) := by omega
      have e3 : (0 : Int) ≤ z % 16 := by omega
      have e4 : z % 16 < (16 : Int) := by omega
      have ea := OM.and15 hzb.1 hzb.2
      clear hc HA
      go_wp2_with fail
      go_region_law (refine step_append_fits rfl (.tmp 16) (.tmp 23) 22 rfl w.heap.size 5 i0 1 Try.underlying22 hi hz1 w.heap.size (2 * k) (2 * zs.length) _ rfl (hown.alloc _) ⟨wr.heap.size, 0, none⟩ 2 2 [.int .u8 (OM.digs[(z / 16).toNat]'(by show _ < 16; omega)).toNat, .int .u8 (OM.digs[(z % 16).toNat]'(by show _ < 16; omega)).toNat] rfl rfl (cell_new2 _ _ _ _) (ints_oneCell .u8 [_, _]) (by omega) ?_; intro w2 hown2 hgrow2)
      all_goals
        have hb2 : Below w.heap.size w w2 := ((hbr.alloc hsz _).drew).grown hgrow2 (by simp; omega) (fun k h => by cases h; exact Nat.le_refl _)
        rw [OM.digs_at _ e1 e2, OM.digs_at _ e3 e4] at hown2
        have HO : Hid (w2.ownsRow w.heap.size 5 1 (.slice (some ⟨w.heap.size, 0, none⟩) (2 * (k + 1)) (2 * zs.length)) (2 * (k + 1)) ((OM.hexI (zs.take (k + 1))).map (Value.int .u8))) := by
          show World.ownsRow _ _ _ _ _ _ _
          rw [HE.out, List.map_append]
          exact hown2
        clear hown2 hgrow2 hown
        go_wp2_with fail
        go_roundw
        case rel => exact ⟨k + 1, by omega, by go_num, rfl, HO.out, hb2⟩
        case measure => simp [intOf]; omega
    · obtain rfl : k = zs.length := by omega
      have hr : Row .u8 wr (.slice (some ⟨w.heap.size, 0, none⟩) (2 * zs.length) (2 * zs.length)) (OM.hexI zs) := by
        have h2 : Own .u8 5 wr w.heap.size (.slice (some ⟨w.heap.size, 0, none⟩) (2 * zs.length) (2 * zs.length)) (OM.hexI zs) := by
          unfold Own; rw [OM.hexI_length]; simpa using hown
        exact h2.row
      have hcv := hr.string 22 5 9 Try.underlying22 Try.underlying5 Try.underlying9
      rw [OM.hexI_str] at hcv
      clear hr hown
      go_wp2_with fail
      go_ret
      exact ⟨rfl, hbr⟩
set_option maxHeartbeats 400000 in
theorem rhex_any (v : Value) (zs : List Int) (w : World) (hrow : Row .u8 w v zs) (hlen : zs.length ≤ 1000000) (hbd : ∀ z ∈ zs, 0 ≤ z ∧ z ≤ 255) :
    Calls Try.prog 16 #[v] w fun e w' => e = .returned (.string ⟨(OM.hexL zs).toArray⟩) ∧ Below w.heap.size w w' := by
  obtain ⟨a, cap, rfl, hat⟩ := hrow
  have HA : Hid (RowAt .u8 w a cap zs) := hat
  have HB : Hid (∀ z ∈ zs, 0 ≤ z ∧ z ≤ 255) := hbd
  clear hat hbd
  go_enter Try.func16, Try.ntmps16
  go_wp2_with fail
  go_loopw [3, 4] (fun s i wr => ∃ (k : Nat) (l : List UInt8), k ≤ zs.length ∧ i = .int .i64 k ∧ s = .string ⟨l.toArray⟩ ∧ l.length = 2 * k ∧ Hid (l = OM.hexL (zs.take k)) ∧ Below w.heap.size w wr) (fun _ i _ => zs.length - (intOf i).toNat)
  case atStart => exact ⟨0, [], Nat.zero_le _, rfl, rfl, rfl, rfl, Below.refl _ _⟩
  case round =>
    obtain ⟨k, l, hk, rfl, rfl, hl, HL, hbr⟩ := hrel
    by_cases hlt : k < zs.length
    · obtain ⟨b, o, rfl, hc⟩ := (HA.out.below hbr).2.2.2 (by omega)
      have hck := hc k hlt
      have hzb := HB.out zs[k] (List.getElem_mem _)
      have HE : Hid (OM.hexL (zs.take (k + 1)) = OM.hexL (zs.take k) ++ [OM.dig (zs[k] / 16), OM.dig (zs[k] % 16)]) := OM.hexL_snoc zs k hlt
      rw [List.getElem?_eq_getElem hlt, Option.getD_some] at hck
      generalize zs[k] = z at *
      have hll : (l.length : Int) ≤ 2000000 := by omega
      have e1 : (0 : Int) ≤ z / 16 := by omega
      have e2 : z / 16 < (16 : Int) := by omega
      have e3 : (0 : Int) ≤ z % 16 := by omega
      have e4 : z % 16 < (16 : Int) := by omega
      have HLL : Hid (l.length = 2 * k) := hl
      clear hc HA hl
      go_wp2_with fail
      go_quiet (fail)
      have HX1 : Hid (_ = _) := OM.digs_ext (z / 16) e1 e2
      have HX2 : Hid (_ = _) := OM.digs_ext (z % 16) e3 e4
      go_wp2_with fail
      go_roundw
      case rel => exact ⟨k + 1, l ++ [OM.dig (z / 16), OM.dig (z % 16)], by omega, by go_num, congrArg Value.string ((congr (congrArg HAppend.hAppend (congr (congrArg HAppend.hAppend rfl) HX1.out)) HX2.out).trans (OM.str_snoc2 l _ _)), by rw [List.length_append, HLL.out]; simp; omega, by show _ = _; rw [HE.out, HL.out], below_drewN hbr _⟩
      case measure => simp [intOf]; omega
    · go_wp2_with fail
      go_ret
      exact ⟨by rw [HL.out, List.take_of_length_le (by omega)]; rfl, hbr⟩
end Go.Proofs.Ytahamdgfndhfaaa
