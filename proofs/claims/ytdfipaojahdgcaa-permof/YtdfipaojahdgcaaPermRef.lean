/-
  The walk of the reference's Of: the order of a number.
-/
import Derived.Test.YtdfipaojahdgcaaPermInv
namespace Go.Proofs.Ytdfipaojahdgcaa
open Go.RowKit

theorem infoB : (Try.prog.info? 4).map (fun i => (i.zero, i.size, i.bytes)) = some (some (.bool false), 1, 1) := by kernel_rfl
theorem made_false (n : Nat) : (madeCells #[Value.bool false] n).toList = (List.replicate n false).map Value.bool := by rw [toList_madeCells_one]; simp
/-- Truth values in a row of the call's own. -/
def OwnB (w : World) (gb n : Nat) (bs : List Bool) : Prop := w.ownsRow gb 4 1 (.slice (some ⟨gb, 0, none⟩) n n) n (bs.map Value.bool)

set_option maxHeartbeats 4000000 in
set_option maxRecDepth 100000 in
theorem rof_any (n0 : Int) (a : Nat) (ha : a < 18446744073709551616) (w : World) :
    Calls Try.prog 16 #[.int .i64 n0, .int .u64 a] w fun e w' => ∃ r, e = .returned r ∧ Own .i64 3 w' w.heap.size r (PM.of (PM.cnt n0) a) ∧ Below w.heap.size w w' := by
  obtain ⟨i0, hi, hz0, hz1, hz2⟩ := info_parts info3
  obtain ⟨j0, hj, hy0, hy1, hy2⟩ := info_parts infoB
  have hh := held_any n0 w
  have h24 := PM.cnt_le n0
  generalize PM.cnt n0 = n at *
  go_enter Try.func16, Try.ntmps16
  go_wp2_with fail
  refine hh.mono ?_
  rintro e w9 ⟨rfl, hw9⟩
  rw [hw9]
  clear hh hw9 w9
  go_wp2_with (at_make; refine wpList_make_full _ rfl _ _ 22 rfl w.heap.size 3 i0 (.int .i64 0) 1 Try.underlying22 hi hz0 hz1 _ _ _ _ n rfl rfl (by omega) (by omega) (by rw [hz2]; omega) (by unfold maxLen; omega) (Nat.le_refl _) ?_)
  intro w0 hown0 hgrow0
  have hb0 : Below w.heap.size w w0 := (Below.refl _ _).grown hgrow0 (Nat.le_refl _) (fun k h => by cases h)
  have HO0 : Hid (Own .i64 3 w0 w.heap.size (.slice (some ⟨w.heap.size, 0, none⟩) n n) (PM.fil (PM.whose n a) 0)) := by
    show World.ownsRow _ _ _ _ _ _ _
    rw [PM.fil_len, PM.whose_len, PM.fil, PM.whose_len, ← made_zeros]; exact hown0
  have hs0 : w.heap.size < w0.heap.size := (World.ownsRow.lt HO0.out _ rfl).2
  clear hown0 hgrow0
  go_wp2_with (at_make; refine wpList_make_full _ rfl _ _ 48 rfl w0.heap.size 4 j0 (.bool false) 1 Try.underlying48 hj hy0 hy1 _ _ _ _ n rfl rfl (by omega) (by omega) (by rw [hy2]; omega) (by unfold maxLen; omega) (Nat.le_refl _) ?_)
  intro w1 hown1 hgrow1
  have hb01 : Below w0.heap.size w0 w1 := (Below.refl _ _).grown hgrow1 (Nat.le_refl _) (fun k h => by cases h)
  have hb1 : Below w.heap.size w w1 := hb0.trans (hb01.mono (by omega))
  have HB1 : Hid (OwnB w1 w0.heap.size n (List.replicate n false)) := by
    show World.ownsRow _ _ _ _ _ _ _
    rw [← made_false]; exact hown1
  have HO1 : Hid (Own .i64 3 w1 w.heap.size (.slice (some ⟨w.heap.size, 0, none⟩) n n) (PM.fil (PM.whose n a) 0)) := HO0.out.below hb01
  generalize w0.heap.size = gb at *
  clear hown1 hgrow1 HO0 hb0 hb01
  go_wp2_with fail
  go_loopw [1, 7] (fun av i wr => ∃ (k rest : Nat) (pre : List Nat) (bs : List Bool), k ≤ n ∧ i = .int .i64 k ∧ av = .int .u64 rest ∧ rest < 18446744073709551616 ∧ pre.length = k ∧ bs.length = n ∧ Hid ((PM.lf n bs).length = n - k) ∧ Hid (pre ++ PM.draw (n - k) (PM.lf n bs) rest = PM.who n a)
    ∧ Hid (OwnB wr gb n bs) ∧ Hid (Own .i64 3 wr w.heap.size (.slice (some ⟨w.heap.size, 0, none⟩) n n) (PM.fil (PM.whose n a) k)) ∧ Below w.heap.size w wr) (fun _ i _ => n - (intOf i).toNat)
  case atStart => exact ⟨0, a, [], List.replicate n false, Nat.zero_le _, rfl, rfl, ha, rfl, by simp, by show _ = _; rw [PM.lf_new]; simp, by show _ = _; rw [PM.lf_new]; rfl, HB1, HO1, hb1⟩
  case round =>
    obtain ⟨k, rest, pre, bs, hk, rfl, rfl, hrest, hpre, hbl, HLL, HD, HB, HO, hbr⟩ := hrel
    by_cases hlt : k < n
    · obtain ⟨v0, hat, hpm, hwk, hnx⟩ := PM.draw_step hlt hpre HLL.out HD.out
      have hv0 := PM.who_lt hwk
      have hrk := PM.who_rk hwk
      obtain ⟨p, hp⟩ : ∃ p, p = rest % (n - k) := ⟨_, rfl⟩
      rw [← hp] at hat hpm hnx
      have e1 : (n : Int) - (k : Int) = ((n - k : Nat) : Int) := by omega
      have e2 : (rest : Int) % ((n - k : Nat) : Int) = (p : Int) := by rw [hp]; exact (Int.natCast_emod _ _).symm
      have e3 : (rest : Int) / ((n - k : Nat) : Int) = ((rest / (n - k) : Nat) : Int) := (Int.natCast_ediv _ _).symm
      have hm0 : ¬ ((n - k : Nat) : Int) = 0 := by omega
      have hml : n - k ≤ 24 := by omega
      have hq : rest / (n - k) < 18446744073709551616 := Nat.lt_of_le_of_lt (Nat.div_le_self _ _) hrest
      have HN : Hid ((pre ++ [v0]) ++ PM.draw (n - (k + 1)) ((PM.lf n bs).eraseIdx p) (rest / (n - k)) = PM.who n a) := hnx
      have HAT : Hid ((PM.lf n bs)[p]? = some v0) := hat
      have HRK : Hid (PM.rk (PM.whose n a) k = v0) := hrk
      have HBL : Hid (bs.length = n) := hbl
      have HPL : Hid (pre.length = k) := hpre
      clear hp hat hrk hnx hbl hpre HD hwk
      generalize rest / (n - k) = q at *
      generalize n - k = m at *
      have HS : Hid (PM.lf n (bs.set v0 true) = (PM.lf n bs).eraseIdx p) := PM.lf_set HBL.out HAT.out
      have HL2 : Hid ((PM.lf n (bs.set v0 true)).length = n - (k + 1)) := by
        show _ = _
        rw [HS.out, List.length_eraseIdx_of_lt (by rw [HLL.out]; exact hpm), HLL.out]
        omega
      have HN2 : Hid ((pre ++ [v0]) ++ PM.draw (n - (k + 1)) (PM.lf n (bs.set v0 true)) q = PM.who n a) := by show _ = _; rw [HS.out]; exact HN.out
      have HST : Hid (Own .i64 3 (wr.setCell ⟨w.heap.size, v0, none⟩ (.int .i64 k)) w.heap.size (.slice (some ⟨w.heap.size, 0, none⟩) n n) (PM.fil (PM.whose n a) (k + 1))) := by
        have := (Own.stored (by rw [PM.fil_len, PM.whose_len]) HO.out v0 (k : Int)).1
        show Own _ _ _ _ _ _
        rw [PM.fil, HRK.out]
        exact this
      obtain ⟨hc1, hc2⟩ := Own.cell (by rw [PM.fil_len, PM.whose_len]) HO.out v0 hv0
      have hbs : ∀ j, j < n → wr.cell? ⟨gb, j, none⟩ = some (.bool (bs[j]?.getD false)) := fun j hj => by
        have := World.ownsRow.cellAt (size := 1) HB.out j (by omega)
        rw [this, List.getElem?_map]
        rw [List.getElem?_eq_getElem (by rw [HBL.out]; exact hj)]
        rfl
      have HCB : Hid (∀ j, j < n → wr.cell? ⟨gb, j, none⟩ = some (.bool (bs[j]?.getD false))) := hbs
      have HFB : Hid (∀ j, wr.frozen? ⟨gb, j, none⟩ = false) := fun j => World.ownsRow.frozenAt (size := 1) HB.out j
      have hbw : Below w.heap.size w (wr.setCell ⟨w.heap.size, v0, none⟩ (.int .i64 k)) := hbr.setCell (p := ⟨w.heap.size, v0, none⟩) (Nat.le_refl _) _
      have hgc := HCB.out v0 hv0
      have hgf := HFB.out v0
      have hgc2 : (wr.setCell ⟨w.heap.size, v0, none⟩ (.int .i64 k)).cell? ⟨gb, v0, none⟩ = some (.bool (bs[v0]?.getD false)) := by
        rw [World.cell?_setCell_other _ _ _ _ (by intro e; injection e with e _; omega)]; exact hgc
      have HO2 : Hid (Own .i64 3 ((wr.setCell ⟨w.heap.size, v0, none⟩ (.int .i64 k)).setCell ⟨gb, v0, none⟩ (.bool true)) w.heap.size (.slice (some ⟨w.heap.size, 0, none⟩) n n) (PM.fil (PM.whose n a) (k + 1))) :=
        (keeps_set _ gb _ _).row HST.out (fun g hg e => by cases hg; dsimp only at e; omega)
      have HB2 : Hid (OwnB ((wr.setCell ⟨w.heap.size, v0, none⟩ (.int .i64 k)).setCell ⟨gb, v0, none⟩ (.bool true)) gb n (bs.set v0 true)) := by
        have h1 : (wr.setCell ⟨w.heap.size, v0, none⟩ (.int .i64 k)).ownsRow gb 4 1 (.slice (some ⟨gb, 0, none⟩) n n) n (bs.map Value.bool) := (keeps_set _ w.heap.size _ _).row HB.out (fun g hg e => by cases hg; dsimp only at e; omega)
        have h2 := (World.ownsRow.stored h1 v0 (.bool true)).1
        show World.ownsRow _ _ _ _ _ _ _
        rw [List.map_set]
        exact h2
      have hbw2 : Below w.heap.size w ((wr.setCell ⟨w.heap.size, v0, none⟩ (.int .i64 k)).setCell ⟨gb, v0, none⟩ (.bool true)) := hbw.setCell (p := ⟨gb, v0, none⟩) (by dsimp only; omega) _
      have HBS : Hid (∀ j, j < n → bs[j]? = some (bs[j]?.getD false)) := fun j hj => by rw [List.getElem?_eq_getElem (by rw [HBL.out]; exact hj)]; rfl
      clear hbs HST hbw hgc HO HB
      go_wp2_with fail
      go_loop [9, 10] (fun av iv => ∃ (at0 v : Nat), v ≤ n ∧ at0 ≤ p ∧ iv = .int .i64 v ∧ av = .int .i64 at0 ∧ Hid ((PM.lfr n bs v)[at0]? = some v0)) (fun _ i => n - (intOf i).toNat)
      case atStart => exact ⟨p, 0, Nat.zero_le _, Nat.le_refl _, rfl, rfl, by show _ = _; rw [← PM.lf_lfr]; exact HAT.out⟩
      case round =>
        obtain ⟨at0, v, hv, hat0, rfl, rfl, HV⟩ := hrel
        by_cases hvn : v < n
        · have hcv := HCB.out v hvn
          cases hbv : bs[v]?.getD false with
          | true =>
            have HV2 : Hid ((PM.lfr n bs (v + 1))[at0]? = some v0) := by show _ = _; rw [← PM.lfr_gone hvn (by rw [HBS.out v hvn, hbv])]; exact HV.out
            rw [hbv] at hcv
            clear hbv HV
            go_wp2_with fail
            go_round
            case rel => exact ⟨at0, v + 1, by omega, by omega, by simp, rfl, HV2⟩
            case measure => simp [intOf]; omega
          | false =>
            have hst := PM.lfr_stays (bs := bs) hvn (by rw [HBS.out v hvn, hbv])
            rw [hbv] at hcv
            cases at0 with
            | zero =>
              obtain rfl : v = v0 := by
                have := HV.out
                rw [hst] at this
                simpa using this
              clear hst hbv HV
              go_wp2_with fail
              go_roundw
              case rel => exact ⟨k + 1, q, pre ++ [v], bs.set v true, by omega, by simp, rfl, hq, by simp [HPL.out], by simp [HBL.out], HL2, HN2, HB2, HO2, hbw2⟩
              case measure => simp [intOf]; omega
            | succ t =>
              have HV2 : Hid ((PM.lfr n bs (v + 1))[t]? = some v0) := by
                have := HV.out
                rw [hst, List.getElem?_cons_succ] at this
                exact this
              clear hst hbv HV
              go_wp2_with fail
              go_round
              case rel => exact ⟨t, v + 1, by omega, by omega, by simp, by simp, HV2⟩
              case measure => simp [intOf]; omega
        · exfalso
          obtain rfl : v = n := by omega
          have := HV.out
          rw [PM.lfr_end] at this
          simp at this
    · obtain rfl : k = n := by omega
      clear HD HB HLL
      go_wp2_with fail
      go_ret
      exact ⟨_, rfl, by have := HO.out; rw [PM.of, PM.inv, PM.whose_len]; exact this, hbr⟩
end Go.Proofs.Ytdfipaojahdgcaa
