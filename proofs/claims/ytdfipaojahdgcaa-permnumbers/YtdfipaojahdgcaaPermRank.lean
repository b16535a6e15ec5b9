/-
  The walks of perm's Rising, Falling and Turned, and of what they lean on.
-/
import Derived.Test.YtdfipaojahdgcaaPermBits
namespace Go.Proofs.Ytdfipaojahdgcaa
open Go.RowKit

theorem counted_any (n : Int) (w : World) :
    Calls Try.prog 23 #[.int .i64 n] w fun e w' => e = .returned (.int .i64 (PM.cnt n : Nat)) ∧ w' = w := by
  go_enter Try.func23, Try.ntmps23
  go_wp2_with fail
  all_goals go_ret
  all_goals exact ⟨ret_int (by unfold PM.cnt; omega), rfl⟩
theorem held_any (n : Int) (w : World) :
    Calls Try.prog 14 #[.int .i64 n] w fun e w' => e = .returned (.int .i64 (PM.cnt n : Nat)) ∧ w' = w := by
  go_enter Try.func14, Try.ntmps14
  go_wp2_with fail
  all_goals go_ret
  all_goals exact ⟨ret_int (by unfold PM.cnt; omega), rfl⟩
theorem cnt_nat {n : Nat} (h : n ≤ 24) : PM.cnt (n : Int) = n := by unfold PM.cnt; omega

theorem rise1_any (v : Nat) (w : World) :
    Calls Try.prog 26 #[.int .i64 v] w fun e w' => e = .returned (.int .i64 v) ∧ w' = w := by
  go_enter Try.func26, Try.ntmps26
  go_wp2_with fail
  go_ret
  exact ⟨rfl, rfl⟩
theorem fall1_any (b n v : Nat) (hn : n ≤ 24) (hv : v < n) (w : World) (hc : w.cell? ⟨b, 0, none⟩ = some (.int .i64 n)) :
    Calls Try.prog 27 #[.int .i64 v, .pointer (some ⟨b, 0, none⟩)] w fun e w' => e = .returned (.int .i64 ((n : Int) - 1 - v)) ∧ w' = w := by
  go_enter Try.func27, Try.ntmps27
  go_wp2_with fail
  go_ret
  exact ⟨rfl, rfl⟩
set_option maxHeartbeats 1000000 in
theorem turn1_any (bb b n v : Nat) (y : Int) (hn : n ≤ 24) (hv : v < n) (w : World) (hc : w.cell? ⟨b, 0, none⟩ = some (.int .i64 n)) (hcb : w.cell? ⟨bb, 0, none⟩ = some (.int .i64 y)) :
    Calls Try.prog 28 #[.int .i64 v, .pointer (some ⟨bb, 0, none⟩), .pointer (some ⟨b, 0, none⟩)] w fun e w' => e = .returned (.int .i64 (((v : Int) + y) % (n : Int))) ∧ ∃ q, w' = w.drewN q := by
  have ht := PM.tmod_in y (n := (n : Int)) (by omega)
  have hn0 : ¬ (n : Int) = 0 := by omega
  rw [← PM.turn_val' y hv]
  go_enter Try.func28, Try.ntmps28
  go_wp2_with fail
  go_region
  go_wp2_with fail
  go_ret
  exact ⟨rfl, _, rfl⟩
theorem drew_below (w : World) (q : Nat) : Below w.heap.size w (w.drewN q) := below_drewN (Below.refl _ _) q

set_option maxHeartbeats 1000000 in
theorem rankR_any (n : Nat) (hn : n ≤ 24) (f : Nat → Int) (w : World)
    (hcall : ∀ (k : Nat) (W : World), k < n → Below w.heap.size w W → Calls Try.prog 26 #[.int .i64 k] W fun e W' => e = .returned (.int .i64 (f k)) ∧ ∃ q, W' = W.drewN q) :
    Calls Try.prog 25 #[.int .i64 n, .func (.func 26) #[] #[]] w fun e w' => e = .returned (.slice (some ⟨w.heap.size, 0, none⟩) n n) ∧ Own .i64 3 w' w.heap.size (.slice (some ⟨w.heap.size, 0, none⟩) n n) ((List.range n).map f) ∧ Below w.heap.size w w' := by
  obtain ⟨i0, hi, hz0, hz1, hz2⟩ := info_parts info3
  have HC : Hid (∀ (k : Nat) (W : World), k < n → Below w.heap.size w W → Calls Try.prog 26 #[.int .i64 k] W fun e W' => e = .returned (.int .i64 (f k)) ∧ ∃ q, W' = W.drewN q) := hcall
  clear hcall
  go_enter Try.func25, Try.ntmps25
  go_wp2_with (at_make; refine wpList_make_full _ rfl _ _ 22 rfl w.heap.size 3 i0 (.int .i64 0) 1 Try.underlying22 hi hz0 hz1 _ _ _ _ n rfl rfl (by omega) (by omega) (by rw [hz2]; omega) (by unfold maxLen; omega) (Nat.le_refl _) ?_)
  intro w0 hown0 hgrow0
  have hb0 : Below w.heap.size w w0 := (Below.refl _ _).grown hgrow0 (Nat.le_refl _) (fun k h => by cases h)
  have HO0 : Hid (Own .i64 3 w0 w.heap.size (.slice (some ⟨w.heap.size, 0, none⟩) n n) (PM.sf f n 0)) := by
    show World.ownsRow _ _ _ _ _ _ _
    rw [PM.sf_len, PM.sf_zero, ← made_zeros]; exact hown0
  clear hown0 hgrow0
  go_wp2_with fail
  go_loopw [11] (fun i wr => ∃ k : Nat, k ≤ n ∧ i = .int .i64 k ∧ Hid (Own .i64 3 wr w.heap.size (.slice (some ⟨w.heap.size, 0, none⟩) n n) (PM.sf f n k)) ∧ Below w.heap.size w wr) (fun i _ => n - (intOf i).toNat)
  case atStart => exact ⟨0, Nat.zero_le _, rfl, HO0, hb0⟩
  case round =>
    obtain ⟨k, hk, rfl, HO, hb1⟩ := hrel
    by_cases hlt : k < n
    · have hc := HC.out k wr hlt hb1
      go_wp2_with fail
      refine hc.mono ?_
      rintro e w2 ⟨rfl, q, rfl⟩
      have HO2 : Hid (Own .i64 3 (wr.drewN q) w.heap.size (.slice (some ⟨w.heap.size, 0, none⟩) n n) (PM.sf f n k)) := HO.out.below (drew_below _ _)
      have hb2 : Below w.heap.size w (wr.drewN q) := below_drewN hb1 q
      have hcf := Own.cell (by rw [PM.sf_len]) HO2.out k hlt
      obtain ⟨hc1, hc2⟩ := hcf
      have hst := Own.stored (by rw [PM.sf_len]) HO2.out k (f k)
      rw [PM.sf_set f hlt] at hst
      have HST : Hid (Own .i64 3 ((wr.drewN q).setCell ⟨w.heap.size, k, none⟩ (.int .i64 (f k))) w.heap.size (.slice (some ⟨w.heap.size, 0, none⟩) n n) (PM.sf f n (k + 1))) := hst.1
      have hb3 : Below w.heap.size w ((wr.drewN q).setCell ⟨w.heap.size, k, none⟩ (.int .i64 (f k))) := hb2.grown hst.2 (by have := hb2.size; omega) (fun j hj => by cases hj; exact Nat.le_refl _)
      clear hc hst HO
      generalize wr.drewN q = w2 at *
      generalize f k = z at *
      go_wp2_with fail
      go_roundw
      case rel => exact ⟨k + 1, by omega, by simp, HST, hb3⟩
      case measure => simp [intOf]; omega
    · obtain rfl : k = n := by omega
      rw [PM.sf_end] at HO
      go_wp2_with fail
      go_ret
      exact ⟨rfl, HO.out, hb1⟩

set_option maxHeartbeats 1000000 in
theorem rankF_any (n : Nat) (hn : n ≤ 24) (f : Nat → Int) (b : Nat) (w : World)
    (hcall : ∀ (k : Nat) (W : World), k < n → Below w.heap.size w W → Calls Try.prog 27 #[.int .i64 k, .pointer (some ⟨b, 0, none⟩)] W fun e W' => e = .returned (.int .i64 (f k)) ∧ ∃ q, W' = W.drewN q) :
    Calls Try.prog 25 #[.int .i64 n, .func (.func 27) #[] #[.pointer (some ⟨b, 0, none⟩)]] w fun e w' => e = .returned (.slice (some ⟨w.heap.size, 0, none⟩) n n) ∧ Own .i64 3 w' w.heap.size (.slice (some ⟨w.heap.size, 0, none⟩) n n) ((List.range n).map f) ∧ Below w.heap.size w w' := by
  obtain ⟨i0, hi, hz0, hz1, hz2⟩ := info_parts info3
  have HC : Hid (∀ (k : Nat) (W : World), k < n → Below w.heap.size w W → Calls Try.prog 27 #[.int .i64 k, .pointer (some ⟨b, 0, none⟩)] W fun e W' => e = .returned (.int .i64 (f k)) ∧ ∃ q, W' = W.drewN q) := hcall
  clear hcall
  go_enter Try.func25, Try.ntmps25
  go_wp2_with (at_make; refine wpList_make_full _ rfl _ _ 22 rfl w.heap.size 3 i0 (.int .i64 0) 1 Try.underlying22 hi hz0 hz1 _ _ _ _ n rfl rfl (by omega) (by omega) (by rw [hz2]; omega) (by unfold maxLen; omega) (Nat.le_refl _) ?_)
  intro w0 hown0 hgrow0
  have hb0 : Below w.heap.size w w0 := (Below.refl _ _).grown hgrow0 (Nat.le_refl _) (fun k h => by cases h)
  have HO0 : Hid (Own .i64 3 w0 w.heap.size (.slice (some ⟨w.heap.size, 0, none⟩) n n) (PM.sf f n 0)) := by
    show World.ownsRow _ _ _ _ _ _ _
    rw [PM.sf_len, PM.sf_zero, ← made_zeros]; exact hown0
  clear hown0 hgrow0
  go_wp2_with fail
  go_loopw [11] (fun i wr => ∃ k : Nat, k ≤ n ∧ i = .int .i64 k ∧ Hid (Own .i64 3 wr w.heap.size (.slice (some ⟨w.heap.size, 0, none⟩) n n) (PM.sf f n k)) ∧ Below w.heap.size w wr) (fun i _ => n - (intOf i).toNat)
  case atStart => exact ⟨0, Nat.zero_le _, rfl, HO0, hb0⟩
  case round =>
    obtain ⟨k, hk, rfl, HO, hb1⟩ := hrel
    by_cases hlt : k < n
    · have hc := HC.out k wr hlt hb1
      go_wp2_with fail
      refine hc.mono ?_
      rintro e w2 ⟨rfl, q, rfl⟩
      have HO2 : Hid (Own .i64 3 (wr.drewN q) w.heap.size (.slice (some ⟨w.heap.size, 0, none⟩) n n) (PM.sf f n k)) := HO.out.below (drew_below _ _)
      have hb2 : Below w.heap.size w (wr.drewN q) := below_drewN hb1 q
      have hcf := Own.cell (by rw [PM.sf_len]) HO2.out k hlt
      obtain ⟨hc1, hc2⟩ := hcf
      have hst := Own.stored (by rw [PM.sf_len]) HO2.out k (f k)
      rw [PM.sf_set f hlt] at hst
      have HST : Hid (Own .i64 3 ((wr.drewN q).setCell ⟨w.heap.size, k, none⟩ (.int .i64 (f k))) w.heap.size (.slice (some ⟨w.heap.size, 0, none⟩) n n) (PM.sf f n (k + 1))) := hst.1
      have hb3 : Below w.heap.size w ((wr.drewN q).setCell ⟨w.heap.size, k, none⟩ (.int .i64 (f k))) := hb2.grown hst.2 (by have := hb2.size; omega) (fun j hj => by cases hj; exact Nat.le_refl _)
      clear hc hst HO
      generalize wr.drewN q = w2 at *
      generalize f k = z at *
      go_wp2_with fail
      go_roundw
      case rel => exact ⟨k + 1, by omega, by simp, HST, hb3⟩
      case measure => simp [intOf]; omega
    · obtain rfl : k = n := by omega
      rw [PM.sf_end] at HO
      go_wp2_with fail
      go_ret
      exact ⟨rfl, HO.out, hb1⟩

set_option maxHeartbeats 1000000 in
theorem rankT_any (n : Nat) (hn : n ≤ 24) (f : Nat → Int) (bb b : Nat) (w : World)
    (hcall : ∀ (k : Nat) (W : World), k < n → Below w.heap.size w W → Calls Try.prog 28 #[.int .i64 k, .pointer (some ⟨bb, 0, none⟩), .pointer (some ⟨b, 0, none⟩)] W fun e W' => e = .returned (.int .i64 (f k)) ∧ ∃ q, W' = W.drewN q) :
    Calls Try.prog 25 #[.int .i64 n, .func (.func 28) #[] #[.pointer (some ⟨bb, 0, none⟩), .pointer (some ⟨b, 0, none⟩)]] w fun e w' => e = .returned (.slice (some ⟨w.heap.size, 0, none⟩) n n) ∧ Own .i64 3 w' w.heap.size (.slice (some ⟨w.heap.size, 0, none⟩) n n) ((List.range n).map f) ∧ Below w.heap.size w w' := by
  obtain ⟨i0, hi, hz0, hz1, hz2⟩ := info_parts info3
  have HC : Hid (∀ (k : Nat) (W : World), k < n → Below w.heap.size w W → Calls Try.prog 28 #[.int .i64 k, .pointer (some ⟨bb, 0, none⟩), .pointer (some ⟨b, 0, none⟩)] W fun e W' => e = .returned (.int .i64 (f k)) ∧ ∃ q, W' = W.drewN q) := hcall
  clear hcall
  go_enter Try.func25, Try.ntmps25
  go_wp2_with (at_make; refine wpList_make_full _ rfl _ _ 22 rfl w.heap.size 3 i0 (.int .i64 0) 1 Try.underlying22 hi hz0 hz1 _ _ _ _ n rfl rfl (by omega) (by omega) (by rw [hz2]; omega) (by unfold maxLen; omega) (Nat.le_refl _) ?_)
  intro w0 hown0 hgrow0
  have hb0 : Below w.heap.size w w0 := (Below.refl _ _).grown hgrow0 (Nat.le_refl _) (fun k h => by cases h)
  have HO0 : Hid (Own .i64 3 w0 w.heap.size (.slice (some ⟨w.heap.size, 0, none⟩) n n) (PM.sf f n 0)) := by
    show World.ownsRow _ _ _ _ _ _ _
    rw [PM.sf_len, PM.sf_zero, ← made_zeros]; exact hown0
  clear hown0 hgrow0
  go_wp2_with fail
  go_loopw [11] (fun i wr => ∃ k : Nat, k ≤ n ∧ i = .int .i64 k ∧ Hid (Own .i64 3 wr w.heap.size (.slice (some ⟨w.heap.size, 0, none⟩) n n) (PM.sf f n k)) ∧ Below w.heap.size w wr) (fun i _ => n - (intOf i).toNat)
  case atStart => exact ⟨0, Nat.zero_le _, rfl, HO0, hb0⟩
  case round =>
    obtain ⟨k, hk, rfl, HO, hb1⟩ := hrel
    by_cases hlt : k < n
    · have hc := HC.out k wr hlt hb1
      go_wp2_with fail
      refine hc.mono ?_
      rintro e w2 ⟨rfl, q, rfl⟩
      have HO2 : Hid (Own .i64 3 (wr.drewN q) w.heap.size (.slice (some ⟨w.heap.size, 0, none⟩) n n) (PM.sf f n k)) := HO.out.below (drew_below _ _)
      have hb2 : Below w.heap.size w (wr.drewN q) := below_drewN hb1 q
      have hcf := Own.cell (by rw [PM.sf_len]) HO2.out k hlt
      obtain ⟨hc1, hc2⟩ := hcf
      have hst := Own.stored (by rw [PM.sf_len]) HO2.out k (f k)
      rw [PM.sf_set f hlt] at hst
      have HST : Hid (Own .i64 3 ((wr.drewN q).setCell ⟨w.heap.size, k, none⟩ (.int .i64 (f k))) w.heap.size (.slice (some ⟨w.heap.size, 0, none⟩) n n) (PM.sf f n (k + 1))) := hst.1
      have hb3 : Below w.heap.size w ((wr.drewN q).setCell ⟨w.heap.size, k, none⟩ (.int .i64 (f k))) := hb2.grown hst.2 (by have := hb2.size; omega) (fun j hj => by cases hj; exact Nat.le_refl _)
      clear hc hst HO
      generalize wr.drewN q = w2 at *
      generalize f k = z at *
      go_wp2_with fail
      go_roundw
      case rel => exact ⟨k + 1, by omega, by simp, HST, hb3⟩
      case measure => simp [intOf]; omega
    · obtain rfl : k = n := by omega
      rw [PM.sf_end] at HO
      go_wp2_with fail
      go_ret
      exact ⟨rfl, HO.out, hb1⟩

set_option maxHeartbeats 400000 in
theorem rising_at (n : Int) (w : World) :
    Calls Try.prog 17 #[.int .i64 n] w fun e w' => e = .returned (.slice (some ⟨w.heap.size, 0, none⟩) (PM.cnt n) (PM.cnt n)) ∧ Own .i64 3 w' w.heap.size (.slice (some ⟨w.heap.size, 0, none⟩) (PM.cnt n) (PM.cnt n)) (PM.rise (PM.cnt n)) ∧ Below w.heap.size w w' := by
  have h1 := counted_any n w
  have h2 := rankR_any (PM.cnt n) (PM.cnt_le n) (fun v : Nat => (v : Int)) w (fun k W _ _ => (rise1_any k W).mono (by rintro e w' ⟨rfl, rfl⟩; exact ⟨rfl, 0, rfl⟩))
  generalize PM.cnt n = m at *
  go_enter Try.func17, Try.ntmps17
  go_wp2_with fail
  refine h1.mono ?_
  rintro e w' ⟨rfl, rfl⟩
  go_wp2_with fail
  refine h2.mono ?_
  rintro e w2 ⟨rfl, ho, hb⟩
  have HO : Hid (Own .i64 3 w2 w'.heap.size (.slice (some ⟨w'.heap.size, 0, none⟩) m m) (PM.rise m)) := ho
  clear ho h1 h2
  go_wp2_with fail
  go_ret
  exact ⟨rfl, HO.out, hb⟩
theorem rising_any (n : Int) (w : World) :
    Calls Try.prog 17 #[.int .i64 n] w fun e w' => ∃ v, e = .returned v ∧ Own .i64 3 w' w.heap.size v (PM.rise (PM.cnt n)) ∧ Below w.heap.size w w' :=
  (rising_at n w).mono (fun _ _ h => ⟨_, h⟩)
set_option maxHeartbeats 400000 in
theorem falling_any (n : Int) (w : World) :
    Calls Try.prog 18 #[.int .i64 n] w fun e w' => ∃ v, e = .returned v ∧ Own .i64 3 w' w.heap.size v (PM.fall (PM.cnt n)) ∧ Below w.heap.size w w' := by
  have h1 := counted_any n (w.alloc (.cells #[.int .i64 n] 3))
  have hm := PM.cnt_le n
  unfold PM.fall
  generalize PM.cnt n = m at *
  go_enter Try.func18, Try.ntmps18
  go_wp2_with fail
  refine h1.mono ?_
  rintro e w' ⟨rfl, rfl⟩
  go_wp2_with fail
  have hb1 : Below w.heap.size w (w.alloc (.cells #[.int .i64 m] 3)) := (Below.refl _ w).alloc (Nat.le_refl _) _
  have hc1 : (w.alloc (.cells #[.int .i64 m] 3)).cell? ⟨w.heap.size, 0, none⟩ = some (.int .i64 m) := by simp
  have hs1 : w.heap.size < (w.alloc (.cells #[.int .i64 m] 3)).heap.size := by simp
  generalize w.alloc (.cells #[.int .i64 m] 3) = w1 at *
  refine (rankF_any m hm (fun v : Nat => (m : Int) - 1 - v) w.heap.size w1 (fun k W hk hW => (fall1_any w.heap.size m k hm hk W (by rw [hW.cell (by exact hs1)]; exact hc1)).mono (by rintro e w' ⟨rfl, rfl⟩; exact ⟨rfl, 0, rfl⟩))).mono ?_
  rintro e w2 ⟨rfl, ho, hb⟩
  have HO : Hid (Own .i64 3 w2 w.heap.size (.slice (some ⟨w1.heap.size, 0, none⟩) m m) ((List.range m).map (fun v : Nat => (m : Int) - 1 - v))) := ho.base_le (by omega)
  have hb2 : Below w.heap.size w w2 := hb1.trans (hb.mono (by omega))
  clear ho h1
  go_wp2_with fail
  go_ret
  exact ⟨_, rfl, HO.out, hb2⟩
set_option maxHeartbeats 400000 in
theorem turned_any (n y : Int) (w : World) :
    Calls Try.prog 19 #[.int .i64 n, .int .i64 y] w fun e w' => ∃ v, e = .returned v ∧ Own .i64 3 w' w.heap.size v (PM.turn (PM.cnt n) y) ∧ Below w.heap.size w w' := by
  have h1 := counted_any n ((w.alloc (.cells #[.int .i64 n] 3)).alloc (.cells #[.int .i64 y] 3))
  have hm := PM.cnt_le n
  unfold PM.turn
  generalize PM.cnt n = m at *
  go_enter Try.func19, Try.ntmps19
  go_wp2_with fail
  refine h1.mono ?_
  rintro e w' ⟨rfl, rfl⟩
  go_wp2_with fail
  have hb1 : Below w.heap.size w ((w.alloc (.cells #[.int .i64 m] 3)).alloc (.cells #[.int .i64 y] 3)) := ((Below.refl _ w).alloc (Nat.le_refl _) _).alloc (by simp) _
  have hc1 : ((w.alloc (.cells #[.int .i64 m] 3)).alloc (.cells #[.int .i64 y] 3)).cell? ⟨w.heap.size, 0, none⟩ = some (.int .i64 m) := by simp
  have hc2 : ((w.alloc (.cells #[.int .i64 m] 3)).alloc (.cells #[.int .i64 y] 3)).cell? ⟨w.heap.size + 1, 0, none⟩ = some (.int .i64 y) := by
    simp
  have hs1 : w.heap.size + 1 < ((w.alloc (.cells #[.int .i64 m] 3)).alloc (.cells #[.int .i64 y] 3)).heap.size := by simp
  generalize (w.alloc (.cells #[.int .i64 m] 3)).alloc (.cells #[.int .i64 y] 3) = w1 at *
  refine (rankT_any m hm (fun v : Nat => ((v : Int) + y) % (m : Int)) (w.heap.size + 1) w.heap.size w1 (fun k W hk hW => (turn1_any (w.heap.size + 1) w.heap.size m k y hm hk W (by rw [hW.cell (by dsimp only; omega)]; exact hc1) (by rw [hW.cell (by exact hs1)]; exact hc2)))).mono ?_
  rintro e w2 ⟨rfl, ho, hb⟩
  have HO : Hid (Own .i64 3 w2 w.heap.size (.slice (some ⟨w1.heap.size, 0, none⟩) m m) ((List.range m).map (fun v : Nat => ((v : Int) + y) % (m : Int)))) := ho.base_le (by omega)
  have hb2 : Below w.heap.size w w2 := hb1.trans (hb.mono (by omega))
  clear ho h1
  go_wp2_with fail
  go_ret
  exact ⟨_, rfl, HO.out, hb2⟩
end Go.Proofs.Ytdfipaojahdgcaa
