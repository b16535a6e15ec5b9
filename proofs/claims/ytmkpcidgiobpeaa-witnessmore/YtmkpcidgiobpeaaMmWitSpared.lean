/-
  The walk of the document's Spared (layer 13).
-/
import Derived.Test.YtmkpcidgiobpeaaMmWitSpare
namespace Go.Proofs.Ytmkpcidgiobpeaa
open Go.RowKit
theorem WM.outOf_two {v : Nat} (hv : v < 64) (x : Nat) : WM.outOf (2 ^ v) x = decide (x = v) := by
  unfold WM.outOf BM.has
  rw [Int.toNat_natCast, Nat.testBit_two_pow, Bool.eq_iff_iff]
  simp
  omega
theorem pow_small {k : Nat} (h : k ≤ 24) : 2 ^ k ≤ 16777216 := Nat.pow_le_pow_right (by decide) h
set_option maxRecDepth 100000 in
set_option maxHeartbeats 2000000 in
/-- The document's Spared. -/
theorem rspared_any {W : World} {p N : Nat} {D : Nat → Nat → Int} (hg : XMem W p N D) (hm : XM.Mesh N D) (hN : N ≤ 24) (u v w : Nat) (hu : u < N) (hv : v < N) (huv : u ≠ v) (k : Int) :
    Calls Try.prog 17 #[.pointer (some ⟨p, 0, none⟩), .int .i64 u, .int .i64 v, .int .i64 w, .int .i64 k] W fun e w' => ∃ L, e = .returned (.bool (WM.has L w)) ∧ WM.Got N D u (WM.outOf (2 ^ v)) (DM.two (D u v) (D v w)) k.toNat L ∧ Below W.heap.size W w' := by
  have HA : Hid (∀ a b : Nat, Calls Try.prog 34 #[.pointer (some ⟨p, 0, none⟩), .int .i64 a, .int .i64 b] W fun e w' => e = .returned (.int .i64 (D a b)) ∧ w' = W) := fun a b => by
    have := rat_any hg hm hN (a : Int) (b : Int)
    rwa [XM.atE_nat hm a b] at this
  have b2 := DM.two_bd (D u v) (D v w)
  have HS : Hid (Calls Try.prog 14 #[.pointer (some ⟨p, 0, none⟩), .int .i64 u, .int .u64 (2 ^ v : Nat), .int .i64 (DM.two (D u v) (D v w)), .int .i64 k] W fun e w' => ∃ sv dv tv L, e = .returned (.agg #[sv, dv, tv]) ∧ WM.Got N D u (WM.outOf (2 ^ v)) (DM.two (D u v) (D v w)) k.toNat L ∧ Row .i64 w' sv (WM.vsL L) ∧ Below W.heap.size W w') := by
    have h24 := pow_small (show v ≤ 24 by omega)
    have := rsearch_any hg hm hN u (2 ^ v) hu (by omega) (by have := WM.outOf_two (show v < 64 by omega) u; unfold WM.outOf at this; rw [this]; simp [huv]) (DM.two (D u v) (D v w)) k
    rw [DM.norm_of b2.1 b2.2] at this
    refine this.mono ?_
    rintro e w' ⟨sv, dv, tv, L, bs, h1, h2, h3, -, -, -, h7⟩
    exact ⟨sv, dv, tv, L, h1, h2, h3, h7⟩
  have h1 := HA.out u v
  have h2 := HA.out v w
  have HP : Hid (∀ q : Nat, q ≤ v → 2 ^ q ≤ 16777216) := fun q hq => pow_small (by omega)
  clear hg hm b2 HA
  generalize D u v = x at *
  generalize D v w = y at *
  go_enter Try.func17, Try.ntmps17
  go_wp2_with fail
  go_loop [11, 12] (fun ov iv => ∃ q : Nat, q ≤ v ∧ iv = .int .i64 q ∧ ov = .int .u64 (2 ^ q : Nat)) (fun _ iv => v - (intOf iv).toNat)
  case atStart => exact ⟨0, Nat.zero_le _, rfl, rfl⟩
  case round =>
    obtain ⟨q, hq, rfl, rfl⟩ := hrel
    by_cases hl : q < v
    · have hz := HP.out q hq
      have HZ : Hid (2 ^ (q + 1) = 2 * 2 ^ q) := by
        show _ = _
        rw [Nat.pow_succ, Nat.mul_comm]
      have q1 : (q : Int) < (v : Int) := by omega
      generalize 2 ^ q = z at *
      clear HS h1 h2
      go_wp2_with fail
      go_round
      case rel => exact ⟨q + 1, by omega, by go_num, by rw [HZ.out]; go_num⟩
      case measure => simp [intOf]; omega
    · obtain rfl : q = v := by omega
      have hs := HS.out
      have ht := two_any x y W
      clear HS
      generalize hxy : DM.two x y = xy at *
      have HXY : Hid (DM.two x y = xy) := hxy
      clear hxy
      generalize hz2 : 2 ^ q = z at *
      have HZ2 : Hid (2 ^ q = z) := hz2
      clear hz2
      go_wp2_with fail
      refine h1.mono ?_
      rintro e w' ⟨rfl, hw'⟩
      rw [hw']
      clear h1 hw' w'
      go_wp2_with fail
      refine h2.mono ?_
      rintro e w' ⟨rfl, hw'⟩
      rw [hw']
      clear h2 hw' w'
      go_wp2_with fail
      refine ht.mono ?_
      rintro e w' ⟨rfl, hw'⟩
      rw [hw']
      clear ht hw' w'
      go_wp2_with fail
      refine hs.mono ?_
      rintro e w4 ⟨sv, dv, tv, L, rfl, g1, g2, g3⟩
      clear hs
      have hfd : ∀ w, (Instr.field 41 (.agg #[sv, dv, tv]) 0).run Try.prog w = .ok sv w := fun _ => by kernel_rfl
      have hh := rhas13_any _ _ (w : Int) _ g2
      rw [WM.vsL_mem] at hh
      have HG : Hid (WM.Got N D u (WM.outOf z) xy k.toNat L) := g1
      have HB : Hid (Below W.heap.size W w4) := g3
      clear g1 g2 g3
      go_wp2_with fail
      refine hh.mono ?_
      rintro e w' ⟨rfl, hw'⟩
      rw [hw']
      clear hh hw' w'
      go_wp2_with fail
      go_ret
      exact ⟨L, rfl, by rw [HZ2.out, HXY.out]; exact HG.out, HB.out⟩
end Go.Proofs.Ytmkpcidgiobpeaa
