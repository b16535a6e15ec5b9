/-
  The walks of package dist's and its reference's readings of texts.
-/
import Derived.Test.YtnjhnfppblojcaaDoorDistTexts
namespace Go.Proofs.YtnjhnfppblojcaaDoor
open Go.RowKit

set_option maxHeartbeats 400000 in
theorem rtext_any (a : Int) (w : World) :
    Calls Tryd.prog 19 #[.int .i64 a] w fun e w' => e = .returned (.string ⟨(DM.text a).toArray⟩) ∧ w' = w := by
  have hb := DM.norm_bd a
  by_cases h1 : DM.norm a = 4611686018427387905
  · go_enter Tryd.func19, Tryd.ntmps19
    go_wp2_with (go_at_call 10; refine (rnorm_any _ _).mono ?_; rintro e w' ⟨rfl, rfl⟩)
    go_ret
    refine ⟨ret_str (a := [102, 97, 114]) ?_, rfl⟩
    unfold DM.text; rw [if_pos h1]; rfl
  by_cases h2 : DM.norm a = 4611686018427387906
  · go_enter Tryd.func19, Tryd.ntmps19
    go_wp2_with (go_at_call 10; refine (rnorm_any _ _).mono ?_; rintro e w' ⟨rfl, rfl⟩)
    go_ret
    refine ⟨ret_str (a := [110, 111, 110, 101]) ?_, rfl⟩
    unfold DM.text; rw [if_neg h1, if_pos h2]; rfl
  · obtain ⟨n, hn⟩ := Int.eq_ofNat_of_zero_le hb.1
    have HT : Hid (DM.text a = Lib.decDigits n) := by
      show _ = _
      unfold DM.text
      rw [if_neg h1, if_neg h2, hn]; simp
    have HN : Hid (DM.norm a = n) := hn
    have hn2 : n ≤ 4611686018427387904 := by omega
    have f1 : (DM.norm a == 4611686018427387905) = false := by simp [h1]
    have f2 : (DM.norm a == 4611686018427387906) = false := by simp [h2]
    clear hn
    go_enter Tryd.func19, Tryd.ntmps19
    go_wp2_with (first
      | (go_at_call 10; refine (rnorm_any _ _).mono ?_; rintro e w' ⟨rfl, rfl⟩)
      | (go_at_call 28; rw [HN.out]; refine (digits_any _ _ hn2).mono ?_; rintro e w' ⟨rfl, rfl⟩))
    go_ret
    exact ⟨ret_str HT.out.symm, rfl⟩

/-- What a reading answers. -/
def parsed : Option Int → Value
  | some v => .tuple #[.int .i64 v, .bool true]
  | none => .tuple #[.int .i64 0, .bool false]

set_option maxHeartbeats 400000 in
theorem rparse_any (s : ByteArray) (w : World) (hs : s.size ≤ maxLen) :
    Calls Tryd.prog 17 #[.string s] w fun e w' => e = .returned (parsed (DM.parse s.data.toList)) ∧ w' = w := by
  unfold maxLen at hs
  by_cases hf : s = ⟨#[102, 97, 114]⟩
  · subst hf
    go_enter Tryd.func17, Tryd.ntmps17
    go_wp2
    go_ret2
    exact ⟨rfl, rfl⟩
  by_cases hn : s = ⟨#[110, 111, 110, 101]⟩
  · subst hn
    go_enter Tryd.func17, Tryd.ntmps17
    go_wp2
    go_ret2
    exact ⟨rfl, rfl⟩
  have lf : s.data.toList ≠ DM.farT := fun e => hf (by apply ByteArray.ext; apply Array.ext'; exact e)
  have ln : s.data.toList ≠ DM.noneT := fun e => hn (by apply ByteArray.ext; apply Array.ext'; exact e)
  have bf : (s.toList == [102, 97, 114]) = false := DM.toList_ne lf
  have bn : (s.toList == [110, 111, 110, 101]) = false := DM.toList_ne ln
  have hlen : s.data.toList.length = s.size := by simp
  by_cases hA : s.size < 1 ∨ 19 < s.size
  · have HP : Hid (DM.parse s.data.toList = none) := by
      show _ = _
      unfold DM.parse
      rw [if_neg lf, if_neg ln, if_pos (by omega)]
    rcases hA with hA | hA
    · clear lf ln hlen hf hn
      go_enter Tryd.func17, Tryd.ntmps17
      go_wp2
      go_ret2
      exact ⟨by rw [HP.out]; rfl, rfl⟩
    · have hA' : ¬ s.size < 1 := by omega
      clear lf ln hlen hf hn
      go_enter Tryd.func17, Tryd.ntmps17
      go_wp2
      go_ret2
      exact ⟨by rw [HP.out]; rfl, rfl⟩
  have hA1 : ¬ s.size < 1 := by omega
  have hA2 : ¬ 19 < s.size := by omega
  have h0 : 0 < s.size := by omega
  by_cases hC : 1 < s.size ∧ s[0].toNat = 48
  · obtain ⟨hC1, hC2⟩ := hC
    have HP : Hid (DM.parse s.data.toList = none) := by
      show _ = _
      unfold DM.parse
      rw [if_neg lf, if_neg ln, if_pos (by right; right; exact ⟨by omega, DM.head_of s h0 hC2⟩)]
    have hC3 : ((s[0].toNat : Int) == 48) = true := by simp; omega
    clear lf ln hlen hf hn hA
    go_enter Tryd.func17, Tryd.ntmps17
    go_wp2
    go_ret2
    exact ⟨by rw [HP.out]; rfl, rfl⟩
  have HP : Hid (DM.parse s.data.toList = (DM.digs 0 s.data.toList).map fun (n : Nat) => (n : Int)) := by
    show _ = _
    unfold DM.parse
    rw [if_neg lf, if_neg ln, if_neg]
    rintro (h | h | ⟨h1, h2⟩)
    · omega
    · omega
    · exact hC ⟨by omega, DM.of_head s h0 h2⟩
  have hC3 : s.size ≤ 1 ∨ (1 < s.size ∧ ((s[0].toNat : Int) == 48) = false) := by
    by_cases h : 1 < s.size
    · right; refine ⟨h, ?_⟩; simp; intro e; exact hC ⟨h, by omega⟩
    · left; omega
  clear lf ln hlen hf hn hA hC
  rcases hC3 with hC3 | ⟨hC4, hC3⟩
  all_goals
    go_enter Tryd.func17, Tryd.ntmps17
    go_wp2
    go_loop [4, 5] (fun m i => ∃ (k acc : Nat), k ≤ s.size ∧ i = .int .i64 k ∧ m = .int .i64 acc ∧ acc ≤ 4611686018427387904 ∧ DM.digs 0 s.data.toList = DM.digs acc (s.data.toList.drop k)) (fun _ i => s.size - (intOf i).toNat)
    case atStart => exact ⟨0, 0, by omega, rfl, rfl, by omega, rfl⟩
    case round =>
      obtain ⟨k, acc, hk, rfl, rfl, hacc, hd⟩ := hrel
      have HD : Hid _ := hd
      clear hd
      by_cases hlt : k < s.size
      · by_cases hc : s[k].toNat < 48
        · have HP' : Hid (DM.parse s.data.toList = none) := by
            show _ = _
            rw [HP.out, HD.out, DM.digs_bad s k acc hlt (.inl hc)]; rfl
          go_wp2
          go_ret2
          exact ⟨by rw [HP'.out]; rfl, rfl⟩
        by_cases hc2 : 57 < s[k].toNat
        · have HP' : Hid (DM.parse s.data.toList = none) := by
            show _ = _
            rw [HP.out, HD.out, DM.digs_bad s k acc hlt (.inr hc2)]; rfl
          go_wp2
          go_ret2
          exact ⟨by rw [HP'.out]; rfl, rfl⟩
        obtain ⟨d, hd⟩ : ∃ d : Nat, s[k].toNat = d + 48 := ⟨s[k].toNat - 48, by omega⟩
        have hd9 : d ≤ 9 := by omega
        by_cases ho : (4611686018427387904 - d) / 10 < acc
        · have HP' : Hid (DM.parse s.data.toList = none) := by
            show _ = _
            rw [HP.out, HD.out, DM.digs_over s k acc hlt (by rw [hd]; simpa using ho)]; rfl
          go_wp2
          go_ret2
          exact ⟨by rw [HP'.out]; rfl, rfl⟩
        · have hd1 : s[k].toNat - 48 = d := by omega
          have FIN : Hid (∃ k1 acc1 : Nat, k1 ≤ s.size ∧ Value.int IntKind.i64 ((k : Int) + 1) = .int .i64 k1 ∧ Value.int IntKind.i64 (10 * (acc : Int) + d) = .int .i64 acc1 ∧ acc1 ≤ 4611686018427387904 ∧ DM.digs 0 s.data.toList = DM.digs acc1 (s.data.toList.drop k1)) :=
            ⟨k + 1, 10 * acc + d, by omega, by go_num, by go_num, by omega, by rw [HD.out, DM.digs_on s k acc hlt (by omega) (by rw [hd1]; exact ho), hd1]⟩
          go_wp2
          exact ⟨FIN.out, by simp [intOf]; omega⟩
      · have HP' : Hid (DM.parse s.data.toList = some (acc : Int)) := by
          show _ = _
          rw [HP.out, HD.out, DM.digs_end s k acc hlt]; rfl
        go_wp2
        go_ret2
        exact ⟨by rw [HP'.out]; rfl, rfl⟩
end Go.Proofs.YtnjhnfppblojcaaDoor
