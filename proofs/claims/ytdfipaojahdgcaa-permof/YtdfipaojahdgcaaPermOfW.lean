/-
  The walk of the law PermOf.
-/
import Derived.Test.YtdfipaojahdgcaaPermAwake
import Derived.Test.YtdfipaojahdgcaaPermRef
namespace Go.Proofs.Ytdfipaojahdgcaa
open Go.RowKit

theorem turn_law' {n : Nat} (b : Int) {v : Nat} (hv : v < n) : ((v : Int) + b.tmod n % n) % n = ((v : Int) + b) % (n : Int) := by
  have h := PM.tmod_in b (n := (n : Int)) (by omega)
  have e : (b.tmod n + n).tmod n = b.tmod n % n := by rw [Int.tmod_eq_emod_of_nonneg (by omega), Int.add_emod_right]
  have h0 : (0 : Int) ≤ b.tmod n % (n : Int) := Int.emod_nonneg _ (by omega)
  rw [← PM.turn_law b hv, e, Int.tmod_eq_emod_of_nonneg (a := (v : Int) + b.tmod n % n) (by omega)]
set_option maxHeartbeats 4000000 in
set_option maxRecDepth 100000 in
theorem of_walk (n0 a0 y : Int) (w : World) (ha0 : 0 ≤ a0) (ha1 : a0 ≤ 18446744073709551615) :
    Calls Try.prog 4 #[.int .i64 n0, .int .u64 a0, .int .i64 y] w fun e w' => e = .returned (.bool true) ∧ Below w.heap.size w w' := by
  obtain ⟨a, rfl⟩ : ∃ a : Nat, a0 = a := ⟨a0.toNat, by omega⟩
  have ha : a < 18446744073709551616 := by omega
  have haw := awake_any w
  have h24 := PM.cnt_le n0
  have CH : Hid (∀ W, Calls Try.prog 14 #[.int .i64 n0] W fun e w' => e = .returned (.int .i64 (PM.cnt n0 : Nat)) ∧ w' = W) := fun W => held_any n0 W
  have C1 : Hid (∀ W, Calls Try.prog 15 #[.int .i64 n0, .int .u64 a] W fun e w' => ∃ r, e = .returned r ∧ Row .i64 w' r (PM.of (PM.cnt n0) a) ∧ Below W.heap.size W w') := fun W => (pof_any n0 a ha W).mono (by rintro e w' ⟨r, rfl, ho, hb⟩; exact ⟨r, rfl, ho.row, hb⟩)
  have C2 : Hid (∀ W, Calls Try.prog 16 #[.int .i64 n0, .int .u64 a] W fun e w' => ∃ r, e = .returned r ∧ Row .i64 w' r (PM.of (PM.cnt n0) a) ∧ Below W.heap.size W w') := fun W => (rof_any n0 a ha W).mono (by rintro e w' ⟨r, rfl, ho, hb⟩; exact ⟨r, rfl, ho.row, hb⟩)
  have C3 : Hid (∀ W, Calls Try.prog 17 #[.int .i64 n0] W fun e w' => ∃ r, e = .returned r ∧ Row .i64 w' r (PM.rise (PM.cnt n0)) ∧ Below W.heap.size W w') := fun W => (rising_any n0 W).mono (by rintro e w' ⟨r, rfl, ho, hb⟩; exact ⟨r, rfl, ho.row, hb⟩)
  have C4 : Hid (∀ W, Calls Try.prog 18 #[.int .i64 n0] W fun e w' => ∃ r, e = .returned r ∧ Row .i64 w' r (PM.fall (PM.cnt n0)) ∧ Below W.heap.size W w') := fun W => (falling_any n0 W).mono (by rintro e w' ⟨r, rfl, ho, hb⟩; exact ⟨r, rfl, ho.row, hb⟩)
  have C5 : Hid (∀ W, Calls Try.prog 19 #[.int .i64 n0, .int .i64 y] W fun e w' => ∃ r, e = .returned r ∧ Row .i64 w' r (PM.turn (PM.cnt n0) y) ∧ Below W.heap.size W w') := fun W => (turned_any n0 y W).mono (by rintro e w' ⟨r, rfl, ho, hb⟩; exact ⟨r, rfl, ho.row, hb⟩)
  generalize PM.cnt n0 = n at *
  go_enter Try.func4, Try.ntmps4
  go_wp2_with fail
  refine haw.mono ?_
  rintro e w1 ⟨rfl, hb1⟩
  clear haw
  go_wp2_with fail
  refine (CH.out _).mono ?_
  rintro e wx ⟨rfl, hwx⟩
  rw [hwx]
  clear hwx wx CH
  go_wp2_with fail
  refine (C1.out _).mono ?_
  rintro e w2 ⟨r2, rfl, hr2, hb2'⟩
  have hb2 := below_on hb1 hb2'
  have HR2 : Hid (∀ W, Below w2.heap.size w2 W → Row .i64 W r2 (PM.of n a)) := fun W hb => hr2.below hb
  clear hr2 hb2' hb1 C1
  go_wp2_with fail
  refine (C2.out _).mono ?_
  rintro e w3 ⟨r3, rfl, hr3, hb3'⟩
  have hb3 := below_on hb2 hb3'
  have c3 := ints_any r2 r3 _ _ w3 (HR2.out _ hb3') hr3
  rw [decide_eq_true rfl] at c3
  clear hr3 hb3' hb2 C2 HR2
  go_wp2_with fail
  refine c3.mono ?_
  rintro e w4 ⟨rfl, hb4'⟩
  have hb4 := below_on hb3 hb4'
  clear c3 hb4' hb3
  go_wp2_with fail
  refine (C3.out _).mono ?_
  rintro e w5 ⟨r5, rfl, hr5, hb5'⟩
  have hb5 := below_on hb4 hb5'
  have HU5 : Hid (∀ W, Below w5.heap.size w5 W → Row .i64 W r5 (PM.rise n)) := fun W hb => hr5.below hb
  clear hr5 hb5' hb4 C3
  go_wp2_with fail
  refine (C4.out _).mono ?_
  rintro e w6 ⟨r6, rfl, hr6, hb6'⟩
  have hb6 := below_on hb5 hb6'
  have HD6 : Hid (∀ W, Below w6.heap.size w6 W → Row .i64 W r6 (PM.fall n)) := fun W hb => hr6.below hb
  have HU6 : Hid (∀ W, Below w6.heap.size w6 W → Row .i64 W r5 (PM.rise n)) := fun W hb => HU5.out W (below_on hb6' hb)
  clear hr6 hb6' hb5 C4 HU5
  go_wp2_with fail
  refine (C5.out _).mono ?_
  rintro e w7 ⟨r7, rfl, hr7, hb7'⟩
  have hb7 := below_on hb6 hb7'
  obtain ⟨a5, c5, e5, h5⟩ := HU6.out w7 hb7'
  obtain ⟨a6, c6, e6, h6⟩ := HD6.out w7 hb7'
  obtain ⟨a7, c7, e7, h7⟩ := hr7
  rw [show (PM.rise n).length = n by simp [PM.rise]] at e5
  rw [show (PM.fall n).length = n by simp [PM.fall]] at e6
  rw [show (PM.turn n y).length = n by simp [PM.turn]] at e7
  subst e5 e6 e7
  have H5 : Hid (RowAt .i64 w7 a5 c5 (PM.rise n)) := h5
  have H6 : Hid (RowAt .i64 w7 a6 c6 (PM.fall n)) := h6
  have H7 : Hid (RowAt .i64 w7 a7 c7 (PM.turn n y)) := h7
  clear h5 h6 h7 HU6 HD6 C5 hb6 hb7'
  go_wp2_with fail
  go_loopw [11] (fun i wr => ∃ v : Nat, v ≤ n ∧ i = .int .i64 v ∧ Below w7.heap.size w7 wr) (fun i _ => n - (intOf i).toNat)
  case atStart => exact ⟨0, Nat.zero_le _, rfl, Below.refl _ _⟩
  case round =>
    obtain ⟨v, hv, rfl, hbr⟩ := hrel
    by_cases hlt : v < n
    · obtain ⟨b5, o5, rfl, k5⟩ := (H5.out.below hbr).2.2.2 (by simp [PM.rise]; omega)
      obtain ⟨b6, o6, rfl, k6⟩ := (H6.out.below hbr).2.2.2 (by simp [PM.fall]; omega)
      obtain ⟨b7, o7, rfl, k7⟩ := (H7.out.below hbr).2.2.2 (by simp [PM.turn]; omega)
      have q5 := k5 v (by simp [PM.rise]; omega)
      have q6 := k6 v (by simp [PM.fall]; omega)
      have q7 := k7 v (by simp [PM.turn]; omega)
      rw [show (PM.rise n)[v]? = some (v : Int) from PM.map_get n _ hlt, Option.getD_some] at q5
      rw [PM.fall_at hlt, Option.getD_some] at q6
      rw [PM.turn_at y hlt, Option.getD_some, ← turn_law' y hlt] at q7
      have ht := PM.tmod_in y (n := (n : Int)) (by omega)
      have hn0 : ¬ (n : Int) = 0 := by omega
      have hm0 : (0 : Int) ≤ y.tmod n % (n : Int) := Int.emod_nonneg _ hn0
      have hm1 : y.tmod n % (n : Int) < (n : Int) := Int.emod_lt_of_pos _ (by omega)
      have hv0 : (0 : Int) ≤ (v : Int) := by omega
      have hv1 : (v : Int) < (n : Int) := by omega
      clear k5 k6 k7
      go_wp2_with fail
      go_region
      go_wp2_with fail
      go_roundw
      case rel => exact ⟨v + 1, by omega, by simp, below_drewN hbr _⟩
      case measure => simp [intOf]; omega
    · go_wp2_with fail
      go_ret
      exact ⟨rfl, below_on hb7 hbr⟩
end Go.Proofs.Ytdfipaojahdgcaa
