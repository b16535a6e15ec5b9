/-
  The walks of the reference's Put and Number.
-/
import Derived.Test.YtahamdgfndhfaaaOctetPut
namespace Go.Proofs.Ytahamdgfndhfaaa
open Go.RowKit

set_option maxHeartbeats 400000 in
theorem rput_any (v : Value) (zs : List Int) (n x : Int) (w : World) (hrow : Row .u8 w v zs) (hlen : zs.length ≤ 1000000) (_hx0 : 0 ≤ x) (_hx1 : x ≤ 18446744073709551615) :
    Calls Try.prog 10 #[v, .int .i64 n, .int .u64 x] w fun e w' => ∃ r, e = .returned r ∧ Own .u8 5 w' w.heap.size r (zs ++ OM.low n x) ∧ Below w.heap.size w w' := by
  obtain ⟨a, cap, rfl, hat⟩ := hrow
  obtain ⟨i0, hi, hz0, hz1, hz2⟩ := info_parts info8
  obtain ⟨N, hN⟩ : ∃ N, N = OM.wide n := ⟨_, rfl⟩
  have hN8 : N ≤ 8 := hN ▸ OM.wide_le n
  have HN : Hid (N = OM.wide n) := hN
  have HA : Hid (RowAt .u8 w a cap zs) := hat
  clear hN hat
  go_enter Try.func10, Try.ntmps10
  go_upto_if 10 with fail
  go_cut [1] (fun s wx => s = .int .i64 (max n 0) ∧ wx = w)
  case first =>
    go_wp2_with fail
    all_goals (go_meet; refine ⟨?_, rfl⟩)
    all_goals go_light
    all_goals (refine congrArg _ ?_; omega)
  case rest =>
  obtain ⟨rfl, hwc⟩ := hcut
  subst hwc
  go_upto_if 12 with fail
  go_cut [1] (fun s wx => s = .int .i64 (N : Nat) ∧ wx = wc)
  case first =>
    go_wp2_with fail
    all_goals (go_meet; refine ⟨?_, rfl⟩)
    all_goals go_light
    all_goals (have hN := HN.out; unfold OM.wide at hN)
    all_goals (refine congrArg _ ?_; split at hN <;> (try split at hN) <;> omega)
  case rest =>
  obtain ⟨rfl, hwc⟩ := hcut
  subst hwc
  go_wp2_with fail
  go_loopw [2, 7, 8] (fun sx lw i wr => ∃ k : Nat, k ≤ N ∧ i = .int .i64 k ∧ sx = .int .u64 (x / 2 ^ (8 * k)) ∧ Own .u8 5 wr wc.heap.size lw (OM.lowN k x) ∧ Below wc.heap.size wc wr) (fun _ _ i _ => N - (intOf i).toNat)
  case atStart => exact ⟨0, Nat.zero_le _, rfl, by simp, Own.nil _ _ _ _, Below.refl _ _⟩
  case round =>
    obtain ⟨k, hk, rfl, rfl, hown, hbr⟩ := hrel
    obtain ⟨ao, ca, rfl, hat⟩ := hown.at
    have hql := OM.lowN_length k x
    have HQ : Hid ((OM.lowN k x).length = k) := hql
    by_cases hlt : k < N
    · have hq0 : 0 ≤ x / 2 ^ (8 * k) := Int.ediv_nonneg _hx0 (Int.pow_nonneg (by decide))
      have HS : Hid (x / 2 ^ (8 * k) / 256 = x / 2 ^ (8 * (k + 1))) := OM.div_step x k
      have HL : Hid (OM.lowN (k + 1) x = [x / 2 ^ (8 * k) % 256] ++ OM.lowN k x) := OM.lowN_succ k x
      have hq1 : x / 2 ^ (8 * k) ≤ 18446744073709551615 := Int.le_trans (OM.div_le _hx0 _) _hx1
      have HAT : Hid (RowAt .u8 wr ao ca (OM.lowN k x)) := hat
      clear hat hown hql
      generalize x / 2 ^ (8 * k) = q at *
      generalize OM.lowN k x = lw at *
      have hsz := hbr.size
      have hll : lw.length ≤ 8 := by have := HQ.out; omega
      go_wp2_with (at_builtin; refine wpList_append_row _ rfl _ _ 22 rfl .u8 wc.heap.size 5 i0 1 Try.underlying22 hi hz0 hz1 hz2 _ [q % 256] rfl (Own.lit .u8 5 wr wc.heap.size hsz [q % 256] _ 1 rfl rfl (by decide)) ao lw.length ca lw rfl rfl (HAT.out.below ((Below.refl _ _).alloc (Nat.le_refl _) _)) (by unfold maxLen; simp; omega) (by simp; omega) (by simp; omega) ?_)
      intro v2 w2 hown2 hgrow2 _
      have hb2 : Below wc.heap.size wc w2 := (hbr.alloc hsz _).grown hgrow2 (by simp; omega) (fun k h => by cases h; exact hsz)
      have HO : Hid (Own .u8 5 w2 wc.heap.size v2 (OM.lowN (k + 1) x)) := by
        show Own _ _ _ _ _ _
        rw [HL.out]; exact hown2
      have HQ2 := HS.out
      have HQ3 : Hid (Value.int .u64 (q / 256) = .int .u64 (x / 2 ^ (8 * (k + 1)))) := congrArg _ HQ2
      clear hown2 hgrow2 HQ2
      go_wp2_with fail
      go_roundw
      case rel => exact ⟨k + 1, by omega, by go_num, HQ3.out, HO.out, hb2⟩
      case measure => simp [intOf]; omega
    · obtain rfl : k = N := by omega
      have hsz := hbr.size
      have HAT : Hid (RowAt .u8 wr ao ca (OM.lowN k x)) := hat
      have HF : Hid (OM.low n x = OM.lowN k x) := by show _ = _; rw [OM.low, ← HN.out]
      have hll : (OM.lowN k x).length ≤ 8 := by omega
      have HAr : Hid (RowAt .u8 wr a cap zs) := HA.out.below (hbr)
      clear hat hown HQ hql
      generalize OM.lowN k x = lw at *
      go_wp2_with (at_builtin; refine wpList_append_row _ rfl _ _ 22 rfl .u8 wc.heap.size 5 i0 1 Try.underlying22 hi hz0 hz1 hz2 (.slice (some ⟨wr.heap.size, 0, none⟩) 0 0) [] rfl (Own.lit .u8 5 wr wc.heap.size hsz [] _ 0 rfl rfl (by decide)) a zs.length cap zs rfl rfl (HAr.out.below ((Below.refl _ _).alloc (Nat.le_refl _) _)) (by unfold maxLen; simp; omega) (by simp; omega) (by simp; omega) ?_)
      intro v2 w2 hown2 hgrow2 _
      have hb2 : Below wr.heap.size wr w2 := ((Below.refl _ _).alloc (Nat.le_refl _) _).grown hgrow2 (by simp) (fun k h => by cases h; exact Nat.le_refl _)
      have HAT2 : Hid (RowAt .u8 w2 ao ca lw) := HAT.out.below hb2
      have hsz2 := hb2.size
      have HO2 : Hid (Own .u8 5 w2 wc.heap.size v2 zs) := hown2
      clear hown2 hgrow2
      go_wp2_with (at_builtin; refine wpList_append_row _ rfl _ _ 22 rfl .u8 wc.heap.size 5 i0 1 Try.underlying22 hi hz0 hz1 hz2 v2 zs rfl HO2.out ao lw.length ca lw rfl rfl HAT2.out (by unfold maxLen; omega) (by omega) (by omega) ?_)
      intro v3 w3 hown3 hgrow3 _
      have hb3 : Below wc.heap.size wc w3 := (hbr.trans (hb2.mono hsz)).grown hgrow3 (by omega) HO2.out.block
      have HO3 : Hid (Own .u8 5 w3 wc.heap.size v3 (zs ++ OM.low n x)) := by
        show Own _ _ _ _ _ _
        rw [HF.out]; exact hown3
      clear hown3 hgrow3
      go_wp2_with fail
      go_ret
      exact ⟨_, rfl, HO3.out, hb3⟩

set_option maxHeartbeats 400000 in
theorem number_any (v : Value) (zs : List Int) (w : World) (hrow : Row .u8 w v zs) (hlen : zs.length ≤ 8) (hbd : ∀ z ∈ zs, 0 ≤ z ∧ z ≤ 255) :
    Calls Try.prog 12 #[v] w fun e w' => e = .returned (.int .u64 (OM.num zs)) ∧ w' = w := by
  obtain ⟨a, cap, rfl, hat⟩ := hrow
  have HA : Hid (RowAt .u8 w a cap zs) := hat
  have HB : Hid (∀ z ∈ zs, 0 ≤ z ∧ z ≤ 255) := hbd
  clear hat hbd
  go_enter Try.func12, Try.ntmps12
  go_wp2_with fail
  go_loop [3, 4] (fun s i => ∃ k : Nat, k ≤ zs.length ∧ i = .int .i64 k ∧ s = .int .u64 (OM.num (zs.take k))) (fun _ i => zs.length - (intOf i).toNat)
  case atStart => exact ⟨0, Nat.zero_le _, rfl, rfl⟩
  case round =>
    obtain ⟨k, hk, rfl, rfl⟩ := hrel
    by_cases hlt : k < zs.length
    · obtain ⟨b, o, rfl, hc⟩ := HA.out.2.2.2 (by omega)
      have hck := hc k hlt
      have hnb := OM.num_small zs HB.out k hk (by omega)
      have hzb := HB.out zs[k] (List.getElem_mem _)
      have HS : Hid (OM.num (zs.take (k + 1)) = 256 * OM.num (zs.take k) + zs[k]) := OM.num_take zs k hlt
      clear hc HA
      go_wp2_with fail
      go_round
      case rel => exact ⟨k + 1, by omega, by go_num, by rw [HS.out]⟩
      case measure => simp [intOf]; omega
    · go_wp2_with fail
      go_ret
      exact ⟨ret_int (by rw [List.take_of_length_le (by omega)]), rfl⟩
end Go.Proofs.Ytahamdgfndhfaaa
