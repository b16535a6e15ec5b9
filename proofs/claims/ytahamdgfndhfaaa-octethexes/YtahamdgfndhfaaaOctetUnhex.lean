/-
  The walks of package octet's Unhex, and of the reference's.
-/
import Derived.Test.YtahamdgfndhfaaaOctetHex
namespace Go.Proofs.Ytahamdgfndhfaaa
open Go.RowKit

theorem ret_dig {a b : Int} (h : a = b) : Ending.returned (.tuple #[.int .u8 a, .bool true]) = .returned (.tuple #[.int .u8 b, .bool true]) := by rw [h]
theorem byte_at (s : ByteArray) (l : List UInt8) (h : l = s.data.toList) (i : Nat) (hi : i < s.size) : OM.at' l i = OM.dv ((s[i]'hi).toNat : Int) := by
  subst h
  unfold OM.at'
  have e : s.data.toList.getD i 0 = s[i] := by
    have hi' : i < s.data.toList.length := by simpa using hi
    rw [List.getD_eq_getElem?_getD, List.getElem?_eq_getElem hi', Option.getD_some]; rfl
  rw [e]
theorem digit_yes (r : Int) (w : World) (h : 0 ≤ OM.dv r) :
    Calls Try.prog 19 #[.int .i32 r] w fun e w' => e = .returned (.tuple #[.int .u8 (OM.dv r), .bool true]) ∧ w' = w := by
  unfold OM.dv at h ⊢
  split at h
  · rename_i h1
    obtain ⟨ha, hb⟩ := h1
    rw [if_pos ⟨ha, hb⟩]
    clear h
    go_enter Try.func19, Try.ntmps19
    go_wp2
    go_ret2
    exact ⟨rfl, rfl⟩
  · split at h
    · rename_i h1 h2
      obtain ⟨ha, hb⟩ := h2
      rw [if_neg (by omega), if_pos ⟨ha, hb⟩]
      clear h h1
      have hc : ¬ r ≤ 57 := by omega
      go_enter Try.func19, Try.ntmps19
      go_wp2
      go_ret2
      exact ⟨ret_dig (by omega), rfl⟩
    · omega
theorem digit_no (r : Int) (w : World) (h : ¬ 0 ≤ OM.dv r) :
    Calls Try.prog 19 #[.int .i32 r] w fun e w' => e = .returned (.tuple #[.int .u8 0, .bool false]) ∧ w' = w := by
  unfold OM.dv at h
  have h1 : ¬ (48 ≤ r ∧ r ≤ 57) := fun h1 => by rw [if_pos h1] at h; omega
  have h2 : ¬ (97 ≤ r ∧ r ≤ 102) := fun h2 => by rw [if_neg h1, if_pos h2] at h; omega
  clear h
  by_cases a1 : 48 ≤ r <;> by_cases a2 : 97 ≤ r
  all_goals
    first
    | (exfalso; omega)
    | (go_enter Try.func19, Try.ntmps19
       go_wp2
       go_ret2
       exact ⟨rfl, rfl⟩)
theorem rdigit_any (c : Int) (w : World) (_h0 : 0 ≤ c) (_h1 : c ≤ 255) :
    Calls Try.prog 20 #[.int .u8 c] w fun e w' => e = .returned (.int .i64 (OM.dv c)) ∧ w' = w := by
  by_cases a1 : 48 ≤ c <;> by_cases a2 : c ≤ 57 <;> by_cases a3 : 97 ≤ c <;> by_cases a4 : c ≤ 102
  all_goals
    first
    | (exfalso; omega)
    | (go_enter Try.func20, Try.ntmps20
       go_wp2
       go_ret
       refine ⟨ret_int ?_, rfl⟩
       unfold OM.dv
       go_light
       (repeat' split) <;> omega)

set_option maxHeartbeats 400000 in
theorem unhex_any (s : ByteArray) (w : World) (hs : s.size ≤ 1000000) :
    Calls Try.prog 13 #[.string s] w fun e w' => ((OM.good s.data.toList ∧ ∃ r, e = .returned (.tuple #[r, .int .i64 0]) ∧ Own .u8 5 w' w.heap.size r (OM.pairs s.data.toList)) ∨ (¬ OM.good s.data.toList ∧ e = .returned (.tuple #[.slice none 0 0, .int .i64 8]))) ∧ Below w.heap.size w w' := by
  obtain ⟨i0, hi, hz0, hz1, hz2⟩ := info_parts info8
  obtain ⟨l, hl⟩ : ∃ l, l = s.data.toList := ⟨_, rfl⟩
  have hln : l.length = s.size := by rw [hl]; rfl
  by_cases hodd : s.size % 2 = 0
  · go_enter Try.func13, Try.ntmps13
    go_wp2_with (at_make; refine wpList_make_full _ rfl _ _ 22 rfl w.heap.size 5 i0 (.int .u8 0) 1 Try.underlying22 hi hz0 hz1 _ _ _ _ (s.size / 2) rfl rfl (by omega) (by omega) (by rw [hz2]; omega) (by unfold maxLen; omega) (Nat.le_refl _) ?_)
    intro w0 hown0 hgrow0
    have hb0 : Below w.heap.size w w0 := (Below.refl _ _).grown hgrow0 (Nat.le_refl _) (fun k h => by cases h)
    have HO0 : Hid (Own .u8 5 w0 w.heap.size (.slice (some ⟨w.heap.size, 0, none⟩) (s.size / 2) (s.size / 2)) (OM.sofar l 0)) := by
      show World.ownsRow _ _ _ _ _ _ _
      rw [OM.sofar_length, hln, OM.sofar_zero, hln]
      rw [← made_zeros]; exact hown0
    have HL : Hid (l = s.data.toList) := hl
    have HN : Hid (l.length = s.size) := hln
    clear hown0 hgrow0 hl hln
    go_wp2_with fail
    go_loopw [5] (fun _x wr => ∃ (i : Nat) (w1 : World), i ≤ s.size ∧ wr = w1.iter s i ∧ w1.heap.size = w0.heap.size ∧ (∀ j, j < i → 0 ≤ OM.at' l j) ∧ Hid (Own .u8 5 w1 w.heap.size (.slice (some ⟨w.heap.size, 0, none⟩) (s.size / 2) (s.size / 2)) (OM.sofar l i)) ∧ Below w.heap.size w w1) (fun _ wr => s.size - wr.iterPos w0.heap.size)
    case atStart => exact ⟨0, w0, Nat.zero_le _, rfl, rfl, fun j h => by omega, HO0, hb0⟩
    case round =>
      obtain ⟨i, w1, hi, rfl, hsz, hg, HO, hb1⟩ := hrel
      have hwl : w.heap.size < w1.heap.size := (World.ownsRow.lt HO.out w.heap.size rfl).2
      by_cases hlt : i < s.size
      · have HB : Hid (OM.at' l i = OM.dv ((s[i]'hlt).toNat : Int)) := byte_at s l HL.out i hlt
        have HG : Hid (∀ j, j < i → 0 ≤ OM.at' l j) := hg
        have HSZ : Hid (w1.heap.size = w0.heap.size) := hsz
        by_cases hd : 0 ≤ OM.at' l i
        · have hr : 0 ≤ OM.dv ((s[i]'hlt).toNat : Int) := by rw [← HB.out]; exact hd
          have hra := OM.dv_ascii hr
          have hrb := OM.dv_bd ((s[i]'hlt).toNat : Int)
          have hnx := fun ty => run_next_ascii (P := Try.prog) w1 s i ty hlt (by omega)
          rw [hsz] at hnx
          have hq := OM.sofar_bd l i (by rw [HN.out]; exact hlt) (by rw [HN.out]; exact hodd) hg
          have hcf := Own.cell (by rw [OM.sofar_length, HN.out]) HO.out (i / 2) (by omega)
          have hc1 := (iter_cell w1 s (i + 1) ⟨w.heap.size, i / 2, none⟩ hwl).1.trans hcf.1
          have hc2 := (iter_cell w1 s (i + 1) ⟨w.heap.size, i / 2, none⟩ hwl).2.trans hcf.2
          have HST : Hid _ := OM.sofar_step l i (by rw [HN.out]; exact hlt) (by rw [HN.out]; exact hodd)
          generalize ((s[i]'hlt).toNat : Int) = c at *
          generalize (OM.sofar l i)[i / 2]?.getD 0 = q at *
          clear hd hsz hg hcf
          go_wp2_with (go_at_call 19; refine (digit_yes _ _ hr).mono ?_; rintro e w' ⟨rfl, rfl⟩)
          go_roundw
          case rel =>
            have hst := Own.stored (by rw [OM.sofar_length, HN.out]) HO.out (i / 2) (16 * q + OM.dv c)
            refine ⟨i + 1, w1.setCell ⟨w.heap.size, i / 2, none⟩ (.int .u8 (16 * q + OM.dv c)), by omega, ?_, ?_, ?_, ?_, ?_⟩
            · rw [OM.or4 hq.1 hq.2 hr hrb.2, iter_setCell _ _ _ _ _ _ hwl]
            · rw [setCell_size]; exact HSZ.out
            · intro j hj
              rcases Nat.lt_or_ge j i with h | h
              · exact HG.out j h
              · obtain rfl : j = i := by omega
                rw [HB.out]; exact hr
            · show Own _ _ _ _ _ _
              rw [HST.out, HB.out]; exact hst.1
            · exact hb1.setCell (Nat.le_refl _) _
          case measure =>
            rw [iter_setCell _ _ _ _ _ _ hwl, iterPos_at (by rw [setCell_size]; exact HSZ.out), iterPos_at HSZ.out]
            omega
        · have HBAD : Hid (¬ OM.good s.data.toList) := fun hgd => hd (by
            have := hgd.2 i (by simpa using hlt)
            rw [← HL.out] at this; exact this)
          have hr : ¬ 0 ≤ OM.dv ((s[i]'hlt).toNat : Int) := by rw [← HB.out]; exact hd
          clear hd hg
          by_cases has : (s[i]'hlt).toNat < 128
          · have hnx := fun ty => run_next_ascii (P := Try.prog) w1 s i ty hlt has
            rw [hsz] at hnx
            generalize ((s[i]'hlt).toNat : Int) = c at *
            clear hsz
            go_wp2_with (go_at_call 19; refine (digit_no _ _ hr).mono ?_; rintro e w' ⟨rfl, rfl⟩)
            go_ret2
            exact ⟨.inr ⟨HBAD.out, rfl⟩, below_iter hb1 (by omega) _ _⟩
          · have hnx := fun ty => run_next_any (P := Try.prog) w1 s i ty hlt
            have hhi := decode_high s i hlt (by omega)
            rw [hsz] at hnx
            have hr2 : ¬ 0 ≤ OM.dv ((Utf8.decode s i).1 : Int) := by rw [OM.dv_high (by omega)]; omega
            generalize ((Utf8.decode s i).1 : Int) = c at *
            generalize (Utf8.decode s i).2 = d at *
            clear hsz
            go_wp2_with (go_at_call 19; refine (digit_no _ _ hr2).mono ?_; rintro e w' ⟨rfl, rfl⟩)
            go_ret2
            exact ⟨.inr ⟨HBAD.out, rfl⟩, below_iter hb1 (by omega) _ _⟩
      · have hnx := fun ty => run_next_end (P := Try.prog) w1 s i ty hlt
        rw [hsz] at hnx
        obtain rfl : i = s.size := by omega
        have HGD : Hid (OM.good s.data.toList) := ⟨by rw [← HL.out, HN.out]; exact hodd, fun j hj => by rw [← HL.out]; exact hg j (by rw [← HL.out, HN.out] at hj; exact hj)⟩
        have HF : Hid (OM.sofar l s.size = OM.pairs s.data.toList) := by
          show _ = _
          rw [← HN.out, OM.sofar_all l (by rw [HN.out]; exact hodd), HL.out]
        clear hsz hg
        go_wp2_with fail
        go_ret2
        refine ⟨.inl ⟨HGD.out, _, rfl, ?_⟩, below_iter hb1 (by omega) _ _⟩
        rw [← HF.out]
        exact HO.out.iter _ _
  · go_enter Try.func13, Try.ntmps13
    go_wp2_with fail
    go_ret2
    exact ⟨.inr ⟨fun hg => hodd (by rw [← hln, hl]; exact hg.1), rfl⟩, Below.refl _ _⟩

set_option maxHeartbeats 400000 in
theorem runhex_any (s : ByteArray) (w : World) (hs : s.size ≤ 1000000) :
    Calls Try.prog 14 #[.string s] w fun e w' => ((OM.good s.data.toList ∧ ∃ r, e = .returned (.tuple #[r, .bool true]) ∧ Own .u8 5 w' w.heap.size r (OM.pairs s.data.toList)) ∨ (¬ OM.good s.data.toList ∧ e = .returned (.tuple #[.slice none 0 0, .bool false]))) ∧ Below w.heap.size w w' := by
  obtain ⟨i0, hi, hz0, hz1, hz2⟩ := info_parts info8
  obtain ⟨l, hl⟩ : ∃ l, l = s.data.toList := ⟨_, rfl⟩
  have hln : l.length = s.size := by rw [hl]; rfl
  by_cases hodd : s.size % 2 = 0
  · have hoddb : ((s.size : Int) % 2 == 1) = false := by simp; omega
    have HL : Hid (l = s.data.toList) := hl
    have HN : Hid (l.length = s.size) := hln
    clear hl hln
    go_enter Try.func14, Try.ntmps14
    go_wp2_with fail
    go_loopw [4, 5] (fun out i wr => ∃ (k : Nat), 2 * k ≤ s.size ∧ i = .int .i64 (2 * k : Nat) ∧ (∀ j, j < 2 * k → 0 ≤ OM.at' l j) ∧ Own .u8 5 wr w.heap.size out ((OM.pairs l).take k) ∧ Below w.heap.size w wr) (fun _ i _ => s.size - (intOf i).toNat)
    case atStart => exact ⟨0, by omega, rfl, fun j h => by omega, Own.nil _ _ _ _, Below.refl _ _⟩
    case round =>
      obtain ⟨k, hk, rfl, hg, hown, hbr⟩ := hrel
      have hsz := hbr.size
      by_cases hlt : 2 * k < s.size
      · have hlt1 : 2 * k + 1 < s.size := by omega
        have HB0 : Hid (OM.at' l (2 * k) = OM.dv ((s[2 * k]'hlt).toNat : Int)) := byte_at s l HL.out _ hlt
        have HB1 : Hid (OM.at' l (2 * k + 1) = OM.dv ((s[2 * k + 1]'hlt1).toNat : Int)) := byte_at s l HL.out _ hlt1
        have HG : Hid (∀ j, j < 2 * k → 0 ≤ OM.at' l j) := hg
        have hb0 := OM.dv_bd ((s[2 * k]'hlt).toNat : Int)
        have hb1 := OM.dv_bd ((s[2 * k + 1]'hlt1).toNat : Int)
        have hc0 : ((s[2 * k]'hlt).toNat : Int) ≤ 255 := by have := (s[2 * k]'hlt).toNat_lt; omega
        have hc1 : ((s[2 * k + 1]'hlt1).toNat : Int) ≤ 255 := by have := (s[2 * k + 1]'hlt1).toNat_lt; omega
        clear hg
        have HP : Hid ((OM.pairs l).take (k + 1) = (OM.pairs l).take k ++ [16 * OM.at' l (2 * k) + OM.at' l (2 * k + 1)]) := OM.pairs_snoc l k (by rw [HN.out]; omega)
        have hpl : ((OM.pairs l).take k).length ≤ 1000000 := by rw [List.length_take, OM.pairs_length, HN.out]; omega
        have HOW : Hid (Own .u8 5 wr w.heap.size u4 ((OM.pairs l).take k)) := hown
        clear hown
        by_cases hd : 0 ≤ OM.dv ((s[2 * k]'hlt).toNat : Int) ∧ 0 ≤ OM.dv ((s[2 * k + 1]'hlt1).toNat : Int)
        · obtain ⟨hd0, hd1⟩ := hd
          go_wp2_with fail
          refine (rdigit_any _ _ (by omega) hc0).mono ?_
          rintro e w' ⟨rfl, rfl⟩
          go_wp2_with fail
          refine (rdigit_any _ _ (by omega) hc1).mono ?_
          rintro e w' ⟨rfl, rfl⟩
          generalize OM.dv ((s[2 * k]'hlt).toNat : Int) = h at *
          generalize OM.dv ((s[2 * k + 1]'hlt1).toNat : Int) = d at *
          generalize (OM.pairs l).take k = ps at *
          go_wp2_with (at_builtin; refine wpList_append_row _ rfl _ _ 22 rfl .u8 w.heap.size 5 i0 1 Try.underlying22 hi hz0 hz1 hz2 u4 ps rfl (HOW.out.alloc _) (some ⟨w'.heap.size, 0, none⟩) 1 1 [16 * h + d] rfl rfl (rowAt_lit1 .u8 _ _ _) (by unfold maxLen; simp; omega) (by simp; omega) (by simp; omega) ?_)
          intro v2 w2 hown2 hgrow2 _
          have hb2 : Below w.heap.size w w2 := (hbr.alloc hsz _).grown hgrow2 (by simp; omega) HOW.out.block
          have HO2 : Hid (Own .u8 5 w2 w.heap.size v2 ((OM.pairs l).take (k + 1))) := by
            show Own _ _ _ _ _ _
            rw [HP.out, HB0.out, HB1.out]; exact hown2
          clear hown2 hgrow2 HOW
          go_wp2_with fail
          go_roundw
          case rel =>
            refine ⟨k + 1, by omega, by go_num, ?_, HO2.out, hb2⟩
            intro j hj
            rcases Nat.lt_or_ge j (2 * k) with h1 | h1
            · exact HG.out j h1
            · rcases (show j = 2 * k ∨ j = 2 * k + 1 by omega) with rfl | rfl
              · rw [HB0.out]; exact hd0
              · rw [HB1.out]; exact hd1
          case measure => simp [intOf]; omega
        · have HBAD : Hid (¬ OM.good s.data.toList) := fun hgd => hd (by
            have e1 := hgd.2 (2 * k) (by simpa using hlt)
            have e2 := hgd.2 (2 * k + 1) (by simpa using hlt1)
            rw [← HL.out, HB0.out] at e1
            rw [← HL.out, HB1.out] at e2
            exact ⟨e1, e2⟩)
          by_cases hd0 : 0 ≤ OM.dv ((s[2 * k]'hlt).toNat : Int)
          · have hd1 : ¬ 0 ≤ OM.dv ((s[2 * k + 1]'hlt1).toNat : Int) := fun h => hd ⟨hd0, h⟩
            clear hd
            go_wp2_with fail
            refine (rdigit_any _ _ (by omega) hc0).mono ?_
            rintro e w' ⟨rfl, rfl⟩
            go_wp2_with fail
            refine (rdigit_any _ _ (by omega) hc1).mono ?_
            rintro e w' ⟨rfl, rfl⟩
            go_wp2_with fail
            go_ret2
            exact ⟨.inr ⟨HBAD.out, rfl⟩, hbr⟩
          · clear hd
            go_wp2_with fail
            refine (rdigit_any _ _ (by omega) hc0).mono ?_
            rintro e w' ⟨rfl, rfl⟩
            go_wp2_with fail
            refine (rdigit_any _ _ (by omega) hc1).mono ?_
            rintro e w' ⟨rfl, rfl⟩
            go_wp2_with fail
            go_ret2
            exact ⟨.inr ⟨HBAD.out, rfl⟩, hbr⟩
      · have HO : Hid (Own .u8 5 wr w.heap.size u4 (OM.pairs s.data.toList)) := by
          show Own _ _ _ _ _ _
          rw [← HL.out]
          rw [List.take_of_length_le (by rw [OM.pairs_length, HN.out]; omega)] at hown
          exact hown
        have HGD : Hid (OM.good s.data.toList) := ⟨by rw [← HL.out, HN.out]; exact hodd, fun j hj => by rw [← HL.out]; exact hg j (by rw [← HL.out, HN.out] at hj; omega)⟩
        clear hown hg
        go_wp2_with fail
        go_ret2
        exact ⟨.inl ⟨HGD.out, _, rfl, HO.out⟩, hbr⟩
  · have hoddb : ((s.size : Int) % 2 == 1) = true := by simp; omega
    go_enter Try.func14, Try.ntmps14
    go_wp2_with fail
    go_ret2
    exact ⟨.inr ⟨fun hg => hodd (by rw [← hln, hl]; exact hg.1), rfl⟩, Below.refl _ _⟩
end Go.Proofs.Ytahamdgfndhfaaa
