/-
  The walks of package octet's Get, and of the library's Clone of bytes.
-/
import Derived.Test.YtahamdgfndhfaaaOctetRef
namespace Go.Proofs.Ytahamdgfndhfaaa
open Go.RowKit

set_option maxHeartbeats 400000 in
theorem clone_any (v : Value) (zs : List Int) (w : World) (hrow : Row .u8 w v zs) (hlen : zs.length ≤ 1000000) :
    Calls Try.prog 18 #[v] w fun e w' => ∃ r, e = .returned r ∧ Own .u8 5 w' w.heap.size r zs ∧ Below w.heap.size w w' := by
  obtain ⟨a, cap, rfl, hat⟩ := hrow
  obtain ⟨i0, hi, hz0, hz1, hz2⟩ := info_parts info8
  have HA : Hid (RowAt .u8 w a cap zs) := hat
  clear hat
  have heq := Lib.run_eql_slice_nil (P := Try.prog)
  cases a with
  | none =>
    obtain ⟨h0, rfl⟩ := HA.out.empty rfl
    obtain rfl := List.eq_nil_of_length_eq_zero h0
    go_enter Try.func18, Try.ntmps18
    go_wp2_with fail
    go_ret
    exact ⟨_, rfl, Own.nil _ _ _ _, Below.refl _ _⟩
  | some ad =>
    go_enter Try.func18, Try.ntmps18
    go_wp2_with (at_builtin; refine wpList_append_row _ rfl _ _ 22 rfl .u8 w.heap.size 5 i0 1 Try.underlying22 hi hz0 hz1 hz2 (.slice (some ⟨w.heap.size, 0, none⟩) 0 0) [] rfl (Own.lit .u8 5 w w.heap.size (Nat.le_refl _) [] _ 0 rfl rfl (by decide)) (some ad) zs.length cap zs rfl rfl (HA.out.below ((Below.refl _ _).alloc (Nat.le_refl _) _)) (by unfold maxLen; simp; omega) (by simp; omega) (by simp) ?_)
    intro v2 w2 hown2 hgrow2 _
    have hb2 : Below w.heap.size w w2 := ((Below.refl _ _).alloc (Nat.le_refl _) _).grown hgrow2 (by simp) (fun k h => by cases h; exact Nat.le_refl _)
    have HO2 : Hid (Own .u8 5 w2 w.heap.size v2 zs) := hown2
    clear hown2 hgrow2
    go_wp2_with fail
    go_ret
    exact ⟨_, rfl, HO2.out, hb2⟩
set_option maxHeartbeats 400000 in
theorem get_ok (v : Value) (zs : List Int) (n : Nat) (w : World) (hrow : Row .u8 w v zs) (hlen : zs.length ≤ 1000000) (hbd : ∀ z ∈ zs, 0 ≤ z ∧ z ≤ 255) (h8 : n ≤ 8) (hn : n ≤ zs.length) :
    Calls Try.prog 11 #[v, .int .i64 n] w fun e w' => ∃ r, e = .returned (.tuple #[.int .u64 (OM.num (zs.take n)), r, .int .i64 0]) ∧ Own .u8 5 w' w.heap.size r (zs.drop n) ∧ Below w.heap.size w w' := by
  obtain ⟨a, cap, rfl, hat⟩ := hrow
  have HA : Hid (RowAt .u8 w a cap zs) := hat
  have HB : Hid (∀ z ∈ zs, 0 ≤ z ∧ z ≤ 255) := hbd
  have hcap := hat.1
  have hcm := hat.2.1
  unfold maxLen at hcm
  clear hat hbd
  go_enter Try.func11, Try.ntmps11
  go_wp2_with fail
  go_loop [7, 20] (fun s i => ∃ k : Nat, k ≤ n ∧ i = .int .i64 k ∧ s = .int .u64 (OM.num (zs.take k))) (fun _ i => n - (intOf i).toNat)
  case atStart => exact ⟨0, Nat.zero_le _, rfl, rfl⟩
  case round =>
    obtain ⟨k, hk, rfl, rfl⟩ := hrel
    by_cases hlt : k < n
    · obtain ⟨b, o, rfl, hc⟩ := HA.out.2.2.2 (by omega)
      have hck := hc k (by omega)
      have hkz : k < zs.length := by omega
      have hnb := OM.num_small zs HB.out k (by omega) (by omega)
      have hzb := HB.out zs[k] (List.getElem_mem _)
      have HS : Hid (OM.num (zs.take (k + 1)) = 256 * OM.num (zs.take k) + zs[k]) := OM.num_take zs k (by omega)
      clear hc HA
      generalize OM.num (zs.take k) = q at *
      go_wp2_with fail
      go_round
      case rel => exact ⟨k + 1, by omega, by go_num, by rw [HS.out, OM.or8 hnb.1 hnb.2 hzb.1 hzb.2]⟩
      case measure => simp [intOf]; omega
    · obtain rfl : k = n := by omega
      go_wp2_with fail
      · have hcn : cap = k := by assumption
        have hcl := HA.out.drop_end hcn
        refine (clone_any _ (zs.drop k) _ hcl (by rw [List.length_drop]; omega)).mono ?_
        rintro e w1 ⟨r, rfl, ho, hb⟩
        go_wp2_with fail
        go_ret3
        exact ⟨r, rfl, ho, hb⟩
      · have hcn : ¬ cap = k := by assumption
        have hcl := HA.out.drop hn hcn
        refine (clone_any _ (zs.drop k) _ hcl (by rw [List.length_drop]; omega)).mono ?_
        rintro e w1 ⟨r, rfl, ho, hb⟩
        go_wp2_with fail
        go_ret3
        exact ⟨r, rfl, ho, hb⟩
set_option maxHeartbeats 400000 in
theorem get_arg (v : Value) (n : Int) (w : World) (hn : n < 0 ∨ 8 < n) :
    Calls Try.prog 11 #[v, .int .i64 n] w fun e w' => e = .returned (.tuple #[.int .u64 0, .slice none 0 0, .int .i64 1]) ∧ w' = w := by
  rcases hn with h | h
  · go_enter Try.func11, Try.ntmps11
    go_wp2_with fail
    go_ret3
    exact ⟨rfl, rfl⟩
  · have h' : ¬ n < 0 := by omega
    go_enter Try.func11, Try.ntmps11
    go_wp2_with fail
    go_ret3
    exact ⟨rfl, rfl⟩
set_option maxHeartbeats 400000 in
theorem get_short (a : Option Addr) (len cap n : Nat) (w : World) (h8 : n ≤ 8) (hn : len < n) :
    Calls Try.prog 11 #[.slice a len cap, .int .i64 n] w fun e w' => e = .returned (.tuple #[.int .u64 0, .slice none 0 0, .int .i64 7]) ∧ w' = w := by
  go_enter Try.func11, Try.ntmps11
  go_wp2_with fail
  go_ret3
  exact ⟨rfl, rfl⟩
end Go.Proofs.Ytahamdgfndhfaaa
