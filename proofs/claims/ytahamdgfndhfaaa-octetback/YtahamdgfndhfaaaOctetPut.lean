/-
  The walk of package octet's Put.
-/
import Derived.Test.YtahamdgfndhfaaaBase
import Derived.Test.YtahamdgfndhfaaaOctetMath
import Derived.Deep.DeepCutAuto
namespace Go.Proofs.Ytahamdgfndhfaaa
open Go.RowKit

theorem info8 : (Try.prog.info? 5).map (fun i => (i.zero, i.size, i.bytes)) = some (some (.int .u8 0), 1, 1) := by kernel_rfl

set_option maxHeartbeats 400000 in
theorem put_any (v : Value) (zs : List Int) (n x : Int) (w : World) (hrow : Row .u8 w v zs) (hlen : zs.length ≤ 1000000) (_hx0 : 0 ≤ x) (_hx1 : x ≤ 18446744073709551615) :
    Calls Try.prog 9 #[v, .int .i64 n, .int .u64 x] w fun e w' => ∃ r, e = .returned r ∧ Own .u8 5 w' w.heap.size r (zs ++ OM.low n x) ∧ Below w.heap.size w w' := by
  obtain ⟨a, cap, rfl, hat⟩ := hrow
  obtain ⟨i0, hi, hz0, hz1, hz2⟩ := info_parts info8
  obtain ⟨N, hN⟩ : ∃ N, N = OM.wide n := ⟨_, rfl⟩
  have hN8 : N ≤ 8 := hN ▸ OM.wide_le n
  have HN : Hid (N = OM.wide n) := hN
  have HA : Hid (RowAt .u8 w a cap zs) := hat
  clear hN hat
  go_enter Try.func9, Try.ntmps9
  go_upto_region 1 with fail
  go_cut [1] (fun s wx => s = .int .i64 (N : Nat) ∧ wx = w)
  case first =>
    go_wp2_with fail
    all_goals (go_meet; refine ⟨?_, rfl⟩)
    all_goals go_light
    all_goals (have hN := HN.out; unfold OM.wide at hN)
    all_goals (refine congrArg _ ?_; split at hN <;> (try split at hN) <;> omega)
  case rest =>
  obtain ⟨rfl, hwc⟩ := hcut
  subst hwc
  go_wp2_with (at_make; refine wpList_make_own _ rfl _ _ 22 rfl wc.heap.size 5 i0 (.int .u8 0) 1 Try.underlying22 hi hz0 hz1 _ _ _ (zs.length + N) rfl rfl (by omega) (by rw [hz2]; omega) (by unfold maxLen; omega) (Nat.le_refl _) ?_)
  intro w0 hown0 hgrow0
  have hb0 : Below wc.heap.size wc w0 := (Below.refl _ _).grown hgrow0 (Nat.le_refl _) (fun k h => by cases h)
  have HA0 : Hid (RowAt .u8 w0 a cap zs) := HA.out.below hb0
  go_wp2_with (at_builtin; refine wpList_append_fits_any _ rfl _ _ 22 rfl wc.heap.size 5 i0 1 Try.underlying22 hi hz1 wc.heap.size 0 (zs.length + N) _ rfl hown0 a zs.length cap (zs.map (Value.int .u8)) rfl (by simp) HA0.out.empty HA0.out.cells (ints_oneCell _ _) (by omega) ?_)
  intro w1 hown1 hgrow1
  have hb1 : Below wc.heap.size wc w1 := hb0.grown hgrow1 hb0.size (fun k h => by cases h; exact Nat.le_refl _)
  try simp only [Nat.zero_add, List.nil_append] at hown1
  clear hown0 hgrow0 HA0 hgrow1
  go_wp2_with fail
  go_loopw [7, 21] (fun out i wr => ∃ k : Nat, k ≤ N ∧ i = .int .i64 k ∧ out = .slice (some ⟨wc.heap.size, 0, none⟩) (zs.length + k) (zs.length + N) ∧ wr.ownsRow wc.heap.size 5 1 (.slice (some ⟨wc.heap.size, 0, none⟩) (zs.length + k) (zs.length + N)) (zs.length + k) ((zs ++ (OM.lowN N x).take k).map (Value.int .u8)) ∧ Below wc.heap.size wc wr) (fun _ i _ => N - (intOf i).toNat)
  case atStart => exact ⟨0, Nat.zero_le _, rfl, rfl, by simpa using hown1, hb1⟩
  case round =>
    obtain ⟨k, hk, rfl, rfl, hown, hbr⟩ := hrel
    by_cases hlt : k < N
    · have HE : Hid ((zs ++ (OM.lowN N x).take (k + 1)).map (Value.int .u8) = (zs ++ (OM.lowN N x).take k).map (Value.int .u8) ++ [.int .u8 (x / 2 ^ (8 * (N - 1 - k)) % 256)]) := by
        show _ = _
        rw [OM.take_succ _ _ _ hlt]; simp [OM.byteOf]
      go_wp2_with (at_builtin; refine wpList_append_fits _ rfl _ _ 22 rfl wc.heap.size 5 i0 1 Try.underlying22 hi hz1 wc.heap.size (zs.length + k) (zs.length + N) _ rfl (hown.alloc _) ⟨wr.heap.size, 0, none⟩ 1 1 [.int .u8 (x / 2 ^ (8 * (N - 1 - k)) % 256)] rfl rfl (cell_new1 _ _ _) (ints_oneCell .u8 [_]) (by omega) ?_)
      intro w2 hown2 hgrow2
      have hb2 : Below wc.heap.size wc w2 := (hbr.alloc hbr.size _).grown hgrow2 (by simp; have := hbr.size; omega) (fun k h => by cases h; exact Nat.le_refl _)
      have HO : Hid (w2.ownsRow wc.heap.size 5 1 (.slice (some ⟨wc.heap.size, 0, none⟩) (zs.length + (k + 1)) (zs.length + N)) (zs.length + (k + 1)) ((zs ++ (OM.lowN N x).take (k + 1)).map (Value.int .u8))) := by
        show World.ownsRow _ _ _ _ _ _ _
        rw [HE.out]
        simpa [Nat.add_assoc] using hown2
      clear hown2 hgrow2 hown
      go_wp2_with fail
      go_roundw
      case rel => exact ⟨k + 1, by omega, by go_num, rfl, HO.out, hb2⟩
      case measure => simp [intOf]; omega
    · obtain rfl : k = N := by omega
      go_wp2_with fail
      go_ret
      refine ⟨_, rfl, ?_, hbr⟩
      rw [List.take_of_length_le (by rw [OM.lowN_length]; exact Nat.le_refl _)] at hown
      have hl : (zs ++ OM.low n x).length = zs.length + k := by rw [List.length_append, OM.low, OM.lowN_length, ← HN.out]
      unfold Own
      rw [hl, OM.low, ← HN.out]
      exact hown
end Go.Proofs.Ytahamdgfndhfaaa
