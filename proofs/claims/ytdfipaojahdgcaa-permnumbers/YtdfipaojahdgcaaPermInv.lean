/-
  The walks of perm's Inverse, of the reference's Right and Inverse, and of whether two lists are the same.
-/
import Derived.Test.YtdfipaojahdgcaaPermRank
namespace Go.Proofs.Ytdfipaojahdgcaa
open Go.RowKit

set_option maxHeartbeats 400000 in
/-- Of a list that is no order. -/
theorem inverse_no (v : Value) (zs : List Int) (w : World) (hrow : Row .i64 w v zs) (h : ¬ PM.Ord zs) :
    Calls Try.prog 9 #[v] w fun e w' => e = .returned (.tuple #[.slice none 0 0, .int .i64 1]) ∧ w' = w := by
  have hr := right_any v zs w hrow
  have hf : PM.right zs = false := by
    cases e : PM.right zs with
    | false => rfl
    | true => exact absurd ((PM.right_iff zs).1 e) h
  rw [hf] at hr
  obtain ⟨a, cap, rfl, -⟩ := hrow
  clear h hf
  go_enter Try.func9, Try.ntmps9
  go_wp2_with fail
  refine hr.mono ?_
  rintro e w' ⟨rfl, rfl⟩
  go_wp2_with fail
  go_ret2
  exact ⟨rfl, rfl⟩

set_option maxHeartbeats 1000000 in
/-- Of an order. -/
theorem inverse_ok (v : Value) (zs : List Int) (w : World) (hrow : Row .i64 w v zs) (h : PM.Ord zs) :
    Calls Try.prog 9 #[v] w fun e w' => ∃ r, e = .returned (.tuple #[r, .int .i64 0]) ∧ Own .i64 3 w' w.heap.size r (PM.inv zs) ∧ Below w.heap.size w w' := by
  obtain ⟨i0, hi, hz0, hz1, hz2⟩ := info_parts info3
  have hr := right_any v zs w hrow
  rw [(PM.right_iff zs).2 h] at hr
  obtain ⟨a, cap, rfl, hat⟩ := hrow
  have h24 := h.1
  have HZ : Hid (PM.Ord zs) := h
  have HA : Hid (RowAt .i64 w a cap zs) := hat
  have HE : Hid (PM.inv zs = PM.fil zs zs.length) := rfl
  clear h hat
  generalize PM.inv zs = iz at *
  obtain ⟨n, hn⟩ : ∃ n, n = zs.length := ⟨_, rfl⟩
  have HN : Hid (n = zs.length) := hn
  rw [← hn] at h24 hr ⊢
  clear hn
  go_enter Try.func9, Try.ntmps9
  go_wp2_with fail
  refine hr.mono ?_
  rintro e w2 ⟨rfl, hw2⟩
  rw [hw2]
  clear hr hw2 w2
  go_wp2_with (at_make; refine wpList_make_full _ rfl _ _ 22 rfl w.heap.size 3 i0 (.int .i64 0) 1 Try.underlying22 hi hz0 hz1 _ _ _ _ n rfl rfl (by omega) (by omega) (by rw [hz2]; omega) (by unfold maxLen; omega) (Nat.le_refl _) ?_)
  intro w0 hown0 hgrow0
  have hb0 : Below w.heap.size w w0 := (Below.refl _ _).grown hgrow0 (Nat.le_refl _) (fun k h => by cases h)
  have HO0 : Hid (Own .i64 3 w0 w.heap.size (.slice (some ⟨w.heap.size, 0, none⟩) n n) (PM.fil zs 0)) := by
    show World.ownsRow _ _ _ _ _ _ _
    rw [PM.fil_len, PM.fil, ← made_zeros, ← HN.out]; exact hown0
  clear hown0 hgrow0
  go_wp2_with fail
  go_loopw [15] (fun i wr => ∃ k : Nat, k ≤ n ∧ i = .int .i64 k ∧ Hid (Own .i64 3 wr w.heap.size (.slice (some ⟨w.heap.size, 0, none⟩) n n) (PM.fil zs k)) ∧ Below w.heap.size w wr) (fun i _ => n - (intOf i).toNat)
  case atStart => exact ⟨0, Nat.zero_le _, rfl, HO0, hb0⟩
  case round =>
    obtain ⟨k, hk, rfl, HO, hb1⟩ := hrel
    by_cases hlt : k < n
    · have hkl : k < zs.length := by rw [← HN.out]; exact hlt
      obtain ⟨hr, hat⟩ := HZ.out.rk hkl
      rw [← HN.out] at hr
      obtain ⟨b, o, rfl, hcs⟩ := (HA.out.below hb1).2.2.2 (by omega)
      have hck := hcs k hkl
      rw [hat, Option.getD_some] at hck
      obtain ⟨hc1, hc2⟩ := Own.cell (by rw [PM.fil_len]; exact HN.out) HO.out (PM.rk zs k) hr
      have hst := Own.stored (by rw [PM.fil_len]; exact HN.out) HO.out (PM.rk zs k) (k : Int)
      have HST : Hid (Own .i64 3 (wr.setCell ⟨w.heap.size, PM.rk zs k, none⟩ (.int .i64 k)) w.heap.size (.slice (some ⟨w.heap.size, 0, none⟩) n n) (PM.fil zs (k + 1))) := hst.1
      have hb3 : Below w.heap.size w (wr.setCell ⟨w.heap.size, PM.rk zs k, none⟩ (.int .i64 k)) := hb1.grown hst.2 (by have := hb1.size; omega) (fun j hj => by cases hj; exact Nat.le_refl _)
      clear hst HO hat hcs hkl
      generalize PM.rk zs k = r at *
      have hr0 : (0 : Int) ≤ (r : Int) := by omega
      have hr1 : (r : Int) < (n : Int) := by omega
      go_wp2_with fail
      go_roundw
      case rel => exact ⟨k + 1, by omega, by simp, HST, hb3⟩
      case measure => simp [intOf]; omega
    · obtain rfl : k = n := by omega
      have HO2 : Hid (Own .i64 3 wr w.heap.size (.slice (some ⟨w.heap.size, 0, none⟩) k k) iz) := by
        have := HO.out
        show Own _ _ _ _ _ _
        rw [HE.out, ← HN.out]
        exact this
      clear HO
      go_wp2_with fail
      go_ret2
      exact ⟨_, rfl, HO2.out, hb1⟩

set_option maxHeartbeats 1000000 in
/-- The reference's. -/
theorem rinverse_ok (v : Value) (zs : List Int) (w : World) (hrow : Row .i64 w v zs) (h : PM.Ord zs) :
    Calls Try.prog 13 #[v] w fun e w' => ∃ r, e = .returned r ∧ Own .i64 3 w' w.heap.size r (PM.inv zs) ∧ Below w.heap.size w w' := by
  obtain ⟨i0, hi, hz0, hz1, hz2⟩ := info_parts info3
  obtain ⟨a, cap, rfl, hat⟩ := hrow
  have h24 := h.1
  have HZ : Hid (PM.Ord zs) := h
  have HA : Hid (RowAt .i64 w a cap zs) := hat
  have HE : Hid (PM.inv zs = PM.fil zs zs.length) := rfl
  clear h hat
  generalize PM.inv zs = iz at *
  obtain ⟨n, hn⟩ : ∃ n, n = zs.length := ⟨_, rfl⟩
  have HN : Hid (n = zs.length) := hn
  rw [← hn] at h24 ⊢
  clear hn
  go_enter Try.func13, Try.ntmps13
  go_wp2_with (at_make; refine wpList_make_full _ rfl _ _ 22 rfl w.heap.size 3 i0 (.int .i64 0) 1 Try.underlying22 hi hz0 hz1 _ _ _ _ n rfl rfl (by omega) (by omega) (by rw [hz2]; omega) (by unfold maxLen; omega) (Nat.le_refl _) ?_)
  intro w0 hown0 hgrow0
  have hb0 : Below w.heap.size w w0 := (Below.refl _ _).grown hgrow0 (Nat.le_refl _) (fun k h => by cases h)
  have HO0 : Hid (Own .i64 3 w0 w.heap.size (.slice (some ⟨w.heap.size, 0, none⟩) n n) (PM.fil zs 0)) := by
    show World.ownsRow _ _ _ _ _ _ _
    rw [PM.fil_len, PM.fil, ← made_zeros, ← HN.out]; exact hown0
  clear hown0 hgrow0
  go_wp2_with fail
  go_loopw [4] (fun i wr => ∃ k : Nat, k ≤ n ∧ i = .int .i64 k ∧ Hid (Own .i64 3 wr w.heap.size (.slice (some ⟨w.heap.size, 0, none⟩) n n) (PM.fil zs k)) ∧ Below w.heap.size w wr) (fun i _ => n - (intOf i).toNat)
  case atStart => exact ⟨0, Nat.zero_le _, rfl, HO0, hb0⟩
  case round =>
    obtain ⟨k, hk, rfl, HO, hb1⟩ := hrel
    by_cases hlt : k < n
    · have hkl : k < zs.length := by rw [← HN.out]; exact hlt
      obtain ⟨hr, hat⟩ := HZ.out.rk hkl
      rw [← HN.out] at hr
      obtain ⟨b, o, rfl, hcs⟩ := (HA.out.below hb1).2.2.2 (by omega)
      have hck := hcs k hkl
      rw [hat, Option.getD_some] at hck
      obtain ⟨hc1, hc2⟩ := Own.cell (by rw [PM.fil_len]; exact HN.out) HO.out (PM.rk zs k) hr
      have hst := Own.stored (by rw [PM.fil_len]; exact HN.out) HO.out (PM.rk zs k) (k : Int)
      have HST : Hid (Own .i64 3 (wr.setCell ⟨w.heap.size, PM.rk zs k, none⟩ (.int .i64 k)) w.heap.size (.slice (some ⟨w.heap.size, 0, none⟩) n n) (PM.fil zs (k + 1))) := hst.1
      have hb3 : Below w.heap.size w (wr.setCell ⟨w.heap.size, PM.rk zs k, none⟩ (.int .i64 k)) := hb1.grown hst.2 (by have := hb1.size; omega) (fun j hj => by cases hj; exact Nat.le_refl _)
      clear hst HO hat hcs hkl
      generalize PM.rk zs k = r at *
      have hr0 : (0 : Int) ≤ (r : Int) := by omega
      have hr1 : (r : Int) < (n : Int) := by omega
      go_wp2_with fail
      go_roundw
      case rel => exact ⟨k + 1, by omega, by simp, HST, hb3⟩
      case measure => simp [intOf]; omega
    · obtain rfl : k = n := by omega
      have HO2 : Hid (Own .i64 3 wr w.heap.size (.slice (some ⟨w.heap.size, 0, none⟩) k k) iz) := by
        have := HO.out
        show Own _ _ _ _ _ _
        rw [HE.out, ← HN.out]
        exact this
      clear HO
      go_wp2_with fail
      go_ret
      exact ⟨_, rfl, HO2.out, hb1⟩

theorem count_take (zs : List Int) (j : Nat) (hj : j < zs.length) (x : Int) : (zs.take (j + 1)).count x = (zs.take j).count x + if zs[j] = x then 1 else 0 := by
  rw [take_snoc zs j hj, List.count_append, List.count_singleton]
  simp
theorem all_upto (p : Nat → Bool) (k : Nat) : (List.range (k + 1)).all p = ((List.range k).all p && p k) := by rw [List.range_succ, List.all_append]; simp
theorem all_not {p : Nat → Bool} {n k : Nat} (hk : k < n) (h : p k = false) : (List.range n).all p = false := by
  rw [List.all_eq_false]
  exact ⟨k, List.mem_range.2 hk, by simp [h]⟩

set_option maxHeartbeats 1000000 in
/-- The reference's Right. -/
theorem rright_any (v : Value) (zs : List Int) (w : World) (hrow : Row .i64 w v zs) :
    Calls Try.prog 10 #[v] w fun e w' => e = .returned (.bool (PM.right zs)) ∧ w' = w := by
  rw [← PM.rright_eq]
  obtain ⟨a, cap, rfl, h1, h2, -, h4⟩ := hrow
  by_cases h24 : zs.length ≤ 24
  · obtain ⟨p, hp⟩ : ∃ p : Nat → Bool, p = fun r : Nat => zs.count (r : Int) == 1 := ⟨_, rfl⟩
    have HP : Hid (∀ k : Nat, p k = (zs.count (k : Int) == 1)) := by show ∀ k : Nat, _; intro k; rw [hp]
    have he : PM.rright zs = (List.range zs.length).all p := by simp [PM.rright, h24, hp]
    rw [he]
    have H4 : Hid (0 < zs.length → ∃ b o, a = some ⟨b, o, none⟩ ∧ ∀ i, i < zs.length → w.cell? ⟨b, o + i, none⟩ = some (.int .i64 (zs[i]?.getD 0))) := h4
    clear h4 he hp h2
    go_enter Try.func10, Try.ntmps10
    go_wp2_with fail
    go_loop [3] (fun i => ∃ k : Nat, k ≤ zs.length ∧ i = .int .i64 k ∧ Hid ((List.range k).all p = true)) (fun i => zs.length - (intOf i).toNat)
    case atStart => exact ⟨0, Nat.zero_le _, rfl, rfl⟩
    case round =>
      obtain ⟨k, hk, rfl, HK⟩ := hrel
      by_cases hlt : k < zs.length
      · go_wp2_with fail
        go_loop [4, 5] (fun c i => ∃ j : Nat, j ≤ zs.length ∧ i = .int .i64 j ∧ c = .int .i64 ((zs.take j).count (k : Int) : Nat)) (fun _ i => zs.length - (intOf i).toNat)
        case atStart => exact ⟨0, Nat.zero_le _, rfl, by simp⟩
        case round =>
          obtain ⟨j, hj, rfl, rfl⟩ := hrel
          have hcl : (zs.take j).count (k : Int) ≤ 24 := by
            have := List.count_le_length (a := (k : Int)) (l := zs.take j)
            rw [List.length_take] at this
            omega
          by_cases hjl : j < zs.length
          · obtain ⟨b, o, rfl, hc⟩ := H4.out (by omega)
            have hck := hc j hjl
            rw [List.getElem?_eq_getElem hjl, Option.getD_some] at hck
            have HC : Hid ((zs.take (j + 1)).count (k : Int) = (zs.take j).count (k : Int) + if zs[j] = (k : Int) then 1 else 0) := count_take zs j hjl k
            clear hc
            generalize zs[j] = z at *
            generalize (zs.take j).count (k : Int) = c at *
            by_cases hz : z = (k : Int)
            · subst hz
              go_wp2_with fail
              go_round
              case rel => exact ⟨j + 1, by omega, by simp, congrArg _ (by rw [HC.out, if_pos rfl]; omega)⟩
              case measure => simp [intOf]; omega
            · go_wp2_with fail
              go_round
              case rel => exact ⟨j + 1, by omega, by simp, congrArg _ (by rw [HC.out, if_neg hz]; omega)⟩
              case measure => simp [intOf]; omega
          · obtain rfl : j = zs.length := by omega
            have hall : zs.take zs.length = zs := List.take_of_length_le (Nat.le_refl _)
            rw [hall] at hcl ⊢
            have HPk : Hid (p k = (zs.count (k : Int) == 1)) := HP.out k
            generalize zs.count (k : Int) = c at *
            clear hall
            by_cases hc1 : c = 1
            · subst hc1
              have HK2 : Hid ((List.range (k + 1)).all p = true) := by show _ = _; rw [all_upto, HK.out, HPk.out]; rfl
              go_wp2_with fail
              go_round
              case rel => exact ⟨k + 1, by omega, by simp, HK2⟩
              case measure => simp [intOf]; omega
            · have HK2 : Hid ((List.range zs.length).all p = false) := all_not hlt (by rw [HPk.out]; simp [hc1])
              have hc2 : ¬ (c : Int) = 1 := by omega
              go_wp2_with fail
              go_ret
              exact ⟨ret_bool HK2.out.symm, rfl⟩
      · obtain rfl : k = zs.length := by omega
        go_wp2_with fail
        go_ret
        exact ⟨ret_bool HK.out.symm, rfl⟩
  · have he : PM.rright zs = false := by simp [PM.rright, h24]
    rw [he]
    have h24' : ¬ (zs.length : Int) ≤ 24 := by omega
    clear h4
    go_enter Try.func10, Try.ntmps10
    go_wp2_with fail
    go_ret
    exact ⟨rfl, rfl⟩

theorem take_eq {zs ys : List Int} {k : Nat} (hz : k < zs.length) (hy : k < ys.length) (h : zs.take k = ys.take k) (e : zs[k] = ys[k]) : zs.take (k + 1) = ys.take (k + 1) := by
  rw [take_snoc zs k hz, take_snoc ys k hy, h, e]
set_option maxHeartbeats 1000000 in
/-- The reference's Ints. -/
theorem ints_any (u v : Value) (zs ys : List Int) (w : World) (hu : Row .i64 w u zs) (hv : Row .i64 w v ys) :
    Calls Try.prog 12 #[u, v] w fun e w' => e = .returned (.bool (decide (zs = ys))) ∧ Below w.heap.size w w' := by
  obtain ⟨a, cap, rfl, hat⟩ := hu
  obtain ⟨a2, cap2, rfl, hat2⟩ := hv
  have hml : zs.length ≤ 9223372036854775807 := by have := hat.1; have := hat.2.1; unfold maxLen at this; omega
  by_cases hl : zs.length = ys.length
  · have HA : Hid (RowAt .i64 w a cap zs) := hat
    have HB : Hid (RowAt .i64 w a2 cap2 ys) := hat2
    obtain ⟨n, hn⟩ : ∃ n, n = zs.length := ⟨_, rfl⟩
    have HN : Hid (n = zs.length) := hn
    have HN2 : Hid (n = ys.length) := hn.trans hl
    have h1 := hat.1
    have h2 := hat2.1
    rw [← hl] at h2 ⊢
    rw [← hn] at h1 h2 hml ⊢
    clear hat hat2 hl hn
    go_enter Try.func12, Try.ntmps12
    go_wp2_with fail
    go_loopw [5] (fun i wr => ∃ k : Nat, k ≤ n ∧ i = .int .i64 k ∧ Hid (zs.take k = ys.take k) ∧ Below w.heap.size w wr) (fun i _ => n - (intOf i).toNat)
    case atStart => exact ⟨0, Nat.zero_le _, rfl, rfl, Below.refl _ _⟩
    case round =>
      obtain ⟨k, hk, rfl, HK, hbr⟩ := hrel
      by_cases hlt : k < n
      · have hz : k < zs.length := by rw [← HN.out]; exact hlt
        have hy : k < ys.length := by rw [← HN2.out]; exact hlt
        obtain ⟨b, o, rfl, hc⟩ := (HA.out.below hbr).2.2.2 (by omega)
        obtain ⟨b2, o2, rfl, hc2⟩ := (HB.out.below hbr).2.2.2 (by omega)
        have hck := hc k hz
        have hck2 := hc2 k hy
        rw [List.getElem?_eq_getElem hz, Option.getD_some] at hck
        rw [List.getElem?_eq_getElem hy, Option.getD_some] at hck2
        have HE : Hid (zs[k] = ys[k] → zs.take (k + 1) = ys.take (k + 1)) := fun e => take_eq hz hy HK.out e
        have HD : Hid (zs[k] ≠ ys[k] → zs ≠ ys) := by
          intro e e'
          subst e'
          exact e rfl
        clear hc hc2 HK
        generalize zs[k] = z at *
        generalize ys[k] = y at *
        have hi0 : (0 : Int) ≤ (k : Int) := by omega
        have hi1 : (k : Int) < (n : Int) := by omega
        clear hz hy
        by_cases hzy : z = y
        · subst hzy
          have HK2 : Hid (zs.take (k + 1) = ys.take (k + 1)) := HE.out rfl
          go_wp2_with fail
          go_region
          go_wp2_with fail
          go_roundw
          case rel => exact ⟨k + 1, by omega, by simp, HK2, below_drewN hbr _⟩
          case measure => simp [intOf]; omega
        · have HD2 : Hid (zs ≠ ys) := HD.out hzy
          go_wp2_with fail
          go_region
          go_wp2_with fail
          go_ret
          exact ⟨ret_bool (by rw [decide_eq_false HD2.out]), below_drewN hbr _⟩
      · obtain rfl : k = n := by omega
        have HD2 : Hid (zs = ys) := by
          have := HK.out
          rw [List.take_of_length_le (by rw [← HN.out]; omega), List.take_of_length_le (by rw [← HN2.out]; omega)] at this
          exact this
        clear HK
        go_wp2_with fail
        go_ret
        exact ⟨ret_bool (by rw [decide_eq_true HD2.out]), hbr⟩
  · have hne : decide (zs = ys) = false := decide_eq_false (fun e => hl (by rw [e]))
    rw [hne]
    have hl' : ¬ (zs.length : Int) = (ys.length : Int) := by omega
    clear hat hat2
    go_enter Try.func12, Try.ntmps12
    go_wp2_with fail
    go_ret
    exact ⟨rfl, Below.refl _ _⟩
end Go.Proofs.Ytdfipaojahdgcaa
