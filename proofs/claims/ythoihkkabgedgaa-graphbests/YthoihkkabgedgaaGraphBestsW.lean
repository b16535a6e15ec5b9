/-
  The walk of the law GraphBests.
-/
import Derived.Test.YthoihkkabgedgaaGraphMade
namespace Go.Proofs.Ythoihkkabgedgaa
open Go.RowKit

namespace GM
/-- What is found of the best one, place by place. -/
theorem best_found {most : Nat} {m : M} (hg : Good most m) (u v : Int) : ∃ fd : Nat → Bool, fd 0 = false ∧
    (∀ k, k < 64 → (is m k && fits u v (arc m k)) = false → fd (k + 1) = fd k) ∧
    (∀ k, k < 64 → (is m k && fits u v (arc m k)) = true → fd (k + 1) = (fd k || (decide ((k : Int) = (best m u v 64).2) && decide ((arc m k).weight = (best m u v 64).1))) ∧ 0 ≤ (best m u v 64).2 ∧ (best m u v 64).1 ≤ (arc m k).weight ∧ ((arc m k).weight = (best m u v 64).1 → (best m u v 64).2 ≤ (k : Int))) ∧
    fd 64 = decide (0 ≤ (best m u v 64).2) ∧ (0 ≤ (best m u v 64).2 ∨ ((best m u v 64).2 = -1 ∧ okW (best m u v 64).1 = false)) := by
  rcases best_is hg u v 64 (Nat.le_refl _) with ⟨h1, h2⟩ | ⟨j, hj, h1, h2, h3, h4⟩
  · rw [h1]
    refine ⟨fun _ => false, rfl, fun _ _ _ => rfl, fun k hk hf => ?_, by decide, .inr ⟨rfl, by decide⟩⟩
    rw [Bool.and_eq_true] at hf
    rw [h2 k hk hf.1] at hf
    exact absurd hf.2 (by decide)
  · rw [h3]
    refine ⟨fun k => decide (j < k), by simp, fun k hk hf => ?_, fun k hk hf => ?_, ?_, .inl (by simp)⟩
    · have hne : k ≠ j := fun e => by
        subst e
        rw [h1, h2] at hf
        exact absurd hf (by decide)
      rw [decide_eq_decide]
      omega
    · rw [Bool.and_eq_true] at hf
      obtain ⟨g1, g2⟩ := h4 k hk hf.1 hf.2
      refine ⟨?_, by simp, g1, fun e => by have := g2 e.symm; simp; omega⟩
      by_cases e : k = j
      · subst e
        simp
      · have e' : ¬ ((k : Int) = (j : Int)) := by omega
        simp only [e', decide_false, Bool.false_and, Bool.or_false]
        rw [decide_eq_decide]
        omega
    · have : (0 : Int) ≤ (j : Int) := by omega
      simp [hj]
end GM

set_option maxHeartbeats 4000000 in
set_option maxRecDepth 100000 in
theorem bests_walk (n : Int) (v : Value) (xs : List Chg) (u h : Int) (w : World) (hn0 : 0 ≤ n) (hn1 : n ≤ 255) (hch : Chgs w v xs) :
    Calls Try.prog 7 #[.int .u8 n, v, .int .i64 u, .int .i64 h] w fun e w' => e = .returned (.bool true) ∧ Below w.heap.size w w' := by
  have haw := awake_any w
  have HMD : Hid (∀ W, Below w.heap.size w W → Calls Try.prog 15 #[.int .u8 n, v] W fun e w' => ∃ p q, e = .returned (.tuple #[.pointer (some ⟨p, 0, none⟩), .pointer (some ⟨q, 0, none⟩)]) ∧ ∃ N, (1 ≤ N ∧ N ≤ 24) ∧ Both w' W.heap.size p q N 64 (GM.made N xs (min xs.length 150)) ∧ Below W.heap.size W w') := fun W hW => made_any n v xs W hn0 hn1 (hch.on hW)
  clear hn0 hn1
  obtain ⟨ao, cap, rfl, -, -⟩ := hch
  generalize xs.length = L at *
  go_enter Try.func7, Try.ntmps7
  go_wp2_with fail
  refine haw.mono ?_
  rintro e w1 ⟨rfl, hb1⟩
  clear haw
  go_wp2_with fail
  refine (HMD.out w1 hb1).mono ?_
  rintro e w2 ⟨p, q, rfl, N, -, ho2, hb2⟩
  have hb2' := below_on hb1 hb2
  generalize GM.made N xs (min L 150) = m at *
  have hbe := best_any ho2.g ho2.ok u h
  obtain ⟨fd, f0, f1, f2, f3, f4⟩ := GM.best_found ho2.ok u h
  have HF0 : Hid (fd 0 = false) := f0
  have HF1 : Hid (∀ k, k < 64 → (GM.is m k && GM.fits u h (GM.arc m k)) = false → fd (k + 1) = fd k) := f1
  have HF2 : Hid (∀ k, k < 64 → (GM.is m k && GM.fits u h (GM.arc m k)) = true → fd (k + 1) = (fd k || (decide ((k : Int) = (GM.best m u h 64).2) && decide ((GM.arc m k).weight = (GM.best m u h 64).1))) ∧ 0 ≤ (GM.best m u h 64).2 ∧ (GM.best m u h 64).1 ≤ (GM.arc m k).weight ∧ ((GM.arc m k).weight = (GM.best m u h 64).1 → (GM.best m u h 64).2 ≤ (k : Int))) := f2
  have HF3 : Hid (fd 64 = decide (0 ≤ (GM.best m u h 64).2)) := f3
  have HF4 : Hid (0 ≤ (GM.best m u h 64).2 ∨ ((GM.best m u h 64).2 = -1 ∧ GM.okW (GM.best m u h 64).1 = false)) := f4
  have HR : Hid (∀ W, Below w2.heap.size w2 W → RMem W q N 64 m) := fun W hW => ho2.r.on hW
  clear f0 f1 f2 f3 f4 ho2 hb1 hb2 HMD
  generalize GM.best m u h 64 = B at *
  obtain ⟨bw, bi⟩ := B
  dsimp only at hbe HF2 HF3 HF4
  go_wp2_with fail
  refine hbe.mono ?_
  rintro e w3 ⟨rfl, hb3⟩
  clear hbe
  go_wp2_with fail
  go_loopw [13, 14] (fun fv iv wr => ∃ k : Nat, k ≤ 64 ∧ iv = .int .i64 k ∧ fv = .bool (fd k) ∧ Below w2.heap.size w2 wr) (fun _ iv _ => 64 - (intOf iv).toNat)
  case atStart => exact ⟨0, Nat.zero_le _, rfl, by rw [HF0.out], hb3⟩
  case round =>
    obtain ⟨k, hk, rfl, rfl, hbr⟩ := hrel
    clear hb3
    by_cases hlt : k < 64
    · have har := rarc_any (HR.out wr hbr) (k : Int)
      rw [show GM.look m (k : Int) = (GM.arc m k, GM.is m k) from by unfold GM.look; rw [if_pos (show GM.place (k : Int) = true from decide_eq_true (by omega)), Int.toNat_natCast]] at har
      have G1 : Hid ((GM.is m k && GM.fits u h (GM.arc m k)) = false → fd (k + 1) = fd k) := HF1.out k hlt
      have G2 : Hid ((GM.is m k && GM.fits u h (GM.arc m k)) = true → fd (k + 1) = (fd k || (decide ((k : Int) = bi) && decide ((GM.arc m k).weight = bw))) ∧ 0 ≤ bi ∧ bw ≤ (GM.arc m k).weight ∧ ((GM.arc m k).weight = bw → bi ≤ (k : Int))) := HF2.out k hlt
      have k64 : (k : Int) < 64 := by omega
      have HB : Hid (Below w2.heap.size w2 wr) := hbr
      unfold arcV at har
      dsimp only at har
      generalize GM.is m k = ok at *
      generalize GM.arc m k = a at *
      obtain ⟨t, hd, x, c⟩ := a
      dsimp only at har G2
      clear hbr
      go_upto_region 12 with (refine har.mono ?_; rintro e w4 ⟨rfl, hb4⟩)
      have hb5 : Below w2.heap.size w2 (w4.alloc (.cells #[.int .i64 t, .int .i64 hd, .int .i64 x, .bool c] 33)) := below_new (below_on HB.out hb4) _
      obtain ⟨a0, a1, a2, a3⟩ := arcIn_new w4 t hd x c
      simp only [Nat.zero_add] at a1 a2 a3
      dsimp only at a0 a1 a2 a3
      generalize w4.alloc (.cells #[.int .i64 t, .int .i64 hd, .int .i64 x, .bool c] 33) = w5 at *
      generalize w4.heap.size = g at *
      have HB5 : Hid (Below w2.heap.size w2 w5) := hb5
      clear hb4 hb5 HB har
      cases ok with
      | false =>
        have HE : Hid (fd (k + 1) = fd k) := G1.out rfl
        clear G1 G2
        go_wp2_with fail
        go_roundw
        case rel => exact ⟨k + 1, by omega, by go_num, by rw [HE.out], HB5.out⟩
        case measure => simp [intOf]; omega
      | true =>
      cases c with
      | true =>
        have HE : Hid (fd (k + 1) = fd k) := G1.out (by simp [GM.fits])
        clear G1 G2
        go_wp2_with fail
        go_roundw
        case rel => exact ⟨k + 1, by omega, by go_num, by rw [HE.out], HB5.out⟩
        case measure => simp [intOf]; omega
      | false =>
      by_cases ht : t = u
      · by_cases hh : hd = h
        · obtain ⟨e1, e2, e3, e4⟩ := G2.out (by simp [GM.fits, ht, hh])
          subst ht hh
          clear G1 G2
          have hbi : ¬ bi < 0 := by omega
          have hbx : ¬ x < bw := by omega
          by_cases hx : x = bw
          · subst hx
            have hki2 : ¬ (k : Int) < bi := by have := e4 rfl; omega
            have HE : Hid (fd (k + 1) = (fd k || decide ((k : Int) = bi))) := by
              show _ = _
              rw [e1]
              simp
            clear e1 e4
            cases hfd : fd k with
            | true =>
              rw [hfd] at HE
              have HE2 : Hid (fd (k + 1) = true) := by
                show _ = _
                rw [HE.out]
                rfl
              clear HE hfd
              go_wp2_with fail
              go_roundw
              case rel => exact ⟨k + 1, by omega, by go_num, by rw [HE2.out], HB5.out⟩
              case measure => simp [intOf]; omega
            | false =>
              rw [hfd, Bool.false_or] at HE
              clear hfd
              by_cases hki : (k : Int) = bi
              · rw [decide_eq_true hki] at HE
                subst hki
                go_wp2_with fail
                go_roundw
                case rel => exact ⟨k + 1, by omega, by go_num, by rw [HE.out], HB5.out⟩
                case measure => simp [intOf]; omega
              · rw [decide_eq_false hki] at HE
                have hki' : ((k : Int) == bi) = false := beq_eq_false_iff_ne.2 hki
                go_wp2_with fail
                go_roundw
                case rel => exact ⟨k + 1, by omega, by go_num, by rw [HE.out], HB5.out⟩
                case measure => simp [intOf]; omega
          · have hx' : (x == bw) = false := beq_eq_false_iff_ne.2 hx
            have HE : Hid (fd (k + 1) = fd k) := by
              show _ = _
              rw [e1, decide_eq_false hx, Bool.and_false, Bool.or_false]
            clear e1 e4
            generalize fd k = f at *
            cases f with
            | true =>
              go_wp2_with fail
              go_roundw
              case rel => exact ⟨k + 1, by omega, by go_num, by rw [HE.out], HB5.out⟩
              case measure => simp [intOf]; omega
            | false =>
              by_cases hki : (k : Int) = bi
              · subst hki
                go_wp2_with fail
                go_roundw
                case rel => exact ⟨k + 1, by omega, by go_num, by rw [HE.out], HB5.out⟩
                case measure => simp [intOf]; omega
              · have hki' : ((k : Int) == bi) = false := beq_eq_false_iff_ne.2 hki
                go_wp2_with fail
                go_roundw
                case rel => exact ⟨k + 1, by omega, by go_num, by rw [HE.out], HB5.out⟩
                case measure => simp [intOf]; omega
        · have HE : Hid (fd (k + 1) = fd k) := G1.out (by simp [GM.fits, hh])
          have hh' : (hd != h) = true := by simpa using hh
          subst ht
          clear G1 G2
          go_wp2_with fail
          go_roundw
          case rel => exact ⟨k + 1, by omega, by go_num, by rw [HE.out], HB5.out⟩
          case measure => simp [intOf]; omega
      · have HE : Hid (fd (k + 1) = fd k) := G1.out (by simp [GM.fits, ht])
        have ht' : (t != u) = true := by simpa using ht
        clear G1 G2
        go_wp2_with fail
        go_roundw
        case rel => exact ⟨k + 1, by omega, by go_num, by rw [HE.out], HB5.out⟩
        case measure => simp [intOf]; omega
    · obtain rfl : k = 64 := by omega
      have hwt := rweight_any bw wr
      have HBE : Hid (Below w.heap.size w wr) := below_on hb2' hbr
      rw [HF3.out]
      rcases HF4.out with h4 | ⟨h4, h5⟩
      · have h4' : decide (0 ≤ bi) = true := decide_eq_true h4
        rw [h4']
        clear hwt hlt hk hbr hb2'
        go_wp2_with fail
        go_ret
        exact ⟨by simp, HBE.out⟩
      · subst h4
        rw [h5] at hwt
        rw [show decide ((0 : Int) ≤ -1) = false from by decide]
        clear hlt hk hbr hb2'
        go_wp2_with fail
        refine hwt.mono ?_
        rintro e w9 ⟨rfl, hw9⟩
        rw [hw9]
        clear hw9 w9 hwt
        go_wp2_with fail
        go_ret
        exact ⟨by simp, HBE.out⟩
end Go.Proofs.Ythoihkkabgedgaa
