/-
  The walk of the law OctetGets.
-/
import Derived.Test.YtahamdgfndhfaaaOctetAwake
import Derived.Deep.QuietTactic
import Derived.BigQuiet
namespace Go.Proofs.Ytahamdgfndhfaaa
open Go.RowKit

set_option maxHeartbeats 1000000 in
theorem gets_walk (v : Value) (zs : List Int) (n : Int) (w : World) (hrow : Row .u8 w v zs) (hbd : ∀ z ∈ zs, 0 ≤ z ∧ z ≤ 255) :
    Calls Try.prog 4 #[v, .int .i64 n] w fun e w' => e = .returned (.bool true) ∧ Below w.heap.size w w' := by
  obtain ⟨a, cap, rfl, hat⟩ := hrow
  have HA : Hid (RowAt .u8 w a cap zs) := hat
  have HB : Hid (∀ z ∈ zs, 0 ≤ z ∧ z ≤ 255) := hbd
  have hcap := hat.1
  have hcm := hat.2.1
  unfold maxLen at hcm
  clear hat hbd
  by_cases h500 : 500 < zs.length
  · go_enter Try.func4, Try.ntmps4
    go_wp2_with fail
    refine (awake_any _).mono ?_
    rintro e w1 ⟨rfl, hb1⟩
    go_wp2_with fail
    go_ret
    exact ⟨rfl, hb1⟩
  by_cases harg : n < 0 ∨ 8 < n
  · rcases harg with hn | hn
    · go_enter Try.func4, Try.ntmps4
      go_wp2_with fail
      refine (awake_any _).mono ?_
      rintro e w1 ⟨rfl, hb1⟩
      go_wp2_with fail
      refine (get_arg _ n _ (.inl hn)).mono ?_
      rintro e w2 ⟨rfl, rfl⟩
      go_wp2_with fail
      go_ret
      exact ⟨rfl, hb1⟩
    · have hn' : ¬ n < 0 := by omega
      go_enter Try.func4, Try.ntmps4
      go_wp2_with fail
      refine (awake_any _).mono ?_
      rintro e w1 ⟨rfl, hb1⟩
      go_wp2_with fail
      refine (get_arg _ n _ (.inr hn)).mono ?_
      rintro e w2 ⟨rfl, rfl⟩
      go_wp2_with fail
      go_ret
      exact ⟨rfl, hb1⟩
  obtain ⟨k, rfl⟩ := Int.eq_ofNat_of_zero_le (show 0 ≤ n by omega)
  have hk8 : k ≤ 8 := by omega
  have hk0 : ¬ (k : Int) < 0 := by omega
  have hk1 : ¬ 8 < (k : Int) := by omega
  clear harg
  by_cases hsh : zs.length < k
  · go_enter Try.func4, Try.ntmps4
    go_wp2_with fail
    refine (awake_any _).mono ?_
    rintro e w1 ⟨rfl, hb1⟩
    go_wp2_with fail
    refine (get_short _ _ _ k _ hk8 hsh).mono ?_
    rintro e w2 ⟨rfl, rfl⟩
    go_wp2_with fail
    go_ret
    exact ⟨rfl, hb1⟩
  have hkl : k ≤ zs.length := by omega
  go_enter Try.func4, Try.ntmps4
  go_wp2_with fail
  refine (awake_any _).mono ?_
  rintro e w1 ⟨rfl, hb1⟩
  have hs1 := hb1.size
  have HA1 : Hid (RowAt .u8 w1 a cap zs) := HA.out.below hb1
  go_wp2_with fail
  refine (get_ok _ zs k _ ⟨a, cap, rfl, HA1.out⟩ (by omega) HB.out hk8 hkl).mono ?_
  rintro e w2 ⟨r2, rfl, ho2, hb2⟩
  have hb2' : Below w.heap.size w w2 := hb1.trans (hb2.mono hs1)
  have HA2 : Hid (RowAt .u8 w2 a cap zs) := HA1.out.below hb2
  have HR2 : Hid (Row .u8 w2 r2 (zs.drop k)) := ho2.row
  have hcv := fun nq => (HR2.out.below (below_drewN (Below.refl _ _) nq)).string 22 5 9 Try.underlying22 Try.underlying5 Try.underlying9
  have HBk : Hid (∀ z ∈ zs.take k, 0 ≤ z ∧ z ≤ 255) := fun z hz => HB.out z (List.mem_of_mem_take hz)
  have HLk : Hid ((zs.take k).length = k) := by show _ = _; rw [List.length_take]; omega
  clear ho2 hb2
  by_cases hck : cap = k
  · subst hck
    have hcv3 := fun nq => ((HA2.out.drop_end rfl).below (below_drewN (Below.refl _ _) nq)).string 22 5 9 Try.underlying22 Try.underlying5 Try.underlying9
    have hcv2 := hcv3
    rw [show zs.length - cap = 0 by omega] at hcv2
    go_wp2_with fail
    go_quiet ((go_at_call 12; refine Calls.quiet_of_same (number_any _ (zs.take cap) _ ?_ ?_ HBk.out); exact (HA2.out.take hkl).below (below_drewN (Below.refl _ _) _); rw [HLk.out]; exact hk8))
    go_wp2_with fail
    go_ret
    exact ⟨rfl, below_drewN hb2' _⟩
  · have hcv2 := fun nq => ((HA2.out.drop hkl hck).below (below_drewN (Below.refl _ _) nq)).string 22 5 9 Try.underlying22 Try.underlying5 Try.underlying9
    go_wp2_with fail
    go_quiet ((go_at_call 12; refine Calls.quiet_of_same (number_any _ (zs.take k) _ ?_ ?_ HBk.out); exact (HA2.out.take hkl).below (below_drewN (Below.refl _ _) _); rw [HLk.out]; exact hk8))
    go_wp2_with fail
    go_ret
    exact ⟨rfl, below_drewN hb2' _⟩
end Go.Proofs.Ytahamdgfndhfaaa
