/-
  The walk of package dist's reading of a text.
-/
import Derived.Test.YtnjhnfppblojcaaDoorDistParse
namespace Go.Proofs.YtnjhnfppblojcaaDoor
open Go.RowKit

/-- strconv.Atoi of whatever is no int's numeral: an error that is not nil. -/
theorem atoi_bad (s : ByteArray) (hlim : s.size ≤ 281474976710656) (h : ∀ v, Lib.atoiAll s.data.toList ≠ .ok v) (w : World) (hw : Ready w) :
    Calls Tryd.prog 26 #[.string s] w fun e w' => ∃ v N, e = .returned (.tuple #[.int .i64 v, .iface 46 (.pointer (some ⟨N, 0, none⟩))]) ∧ Below w.heap.size w w' := by
  obtain ⟨_, _, ⟨t0, p0, h0⟩, t1, p1, h1⟩ := hw
  rcases ha : Lib.atoiAll s.data.toList with v | _ | _
  · exact absurd ha (h v)
  · exact (Any.strconv_Atoi_syntax Tryd.laysC172 s hlim ha _ w h0 (.inr ⟨t0, p0, rfl⟩)).mono fun e w' ⟨N, he, _, _, hb⟩ => ⟨_, N, he, hb⟩
  · exact (Any.strconv_Atoi_range Tryd.laysC172 s hlim ha _ w h1 (.inr ⟨t1, p1, rfl⟩)).mono fun e w' ⟨N, he, _, _, hb⟩ => ⟨_, N, he, hb⟩

set_option maxHeartbeats 400000 in
theorem parse_any (s : ByteArray) (w : World) (hs : s.size ≤ 281474976710656) (hw : Ready w) :
    Calls Tryd.prog 16 #[.string s] w fun e w' => e = .returned (parsed (DM.parse s.data.toList)) ∧ Below w.heap.size w w' := by
  by_cases hf : s = ⟨#[102, 97, 114]⟩
  · subst hf
    go_enter Tryd.func16, Tryd.ntmps16
    go_wp2
    go_ret2
    exact ⟨rfl, Below.refl _ _⟩
  by_cases hn : s = ⟨#[110, 111, 110, 101]⟩
  · subst hn
    go_enter Tryd.func16, Tryd.ntmps16
    go_wp2
    go_ret2
    exact ⟨rfl, Below.refl _ _⟩
  have lf : s.data.toList ≠ DM.farT := fun e => hf (by apply ByteArray.ext; apply Array.ext'; exact e)
  have ln : s.data.toList ≠ DM.noneT := fun e => hn (by apply ByteArray.ext; apply Array.ext'; exact e)
  have bf : (s.toList == [102, 97, 114]) = false := DM.toList_ne lf
  have bn : (s.toList == [110, 111, 110, 101]) = false := DM.toList_ne ln
  by_cases hok : ∃ v, Lib.atoiAll s.data.toList = .ok v
  · obtain ⟨v, ha⟩ := hok
    have HP : Hid _ := DM.parse_ok lf ln ha
    clear lf ln hf hn
    go_enter Tryd.func16, Tryd.ntmps16
    go_wp2_with fail
    refine (Tryd.strconv_Atoi_ok s (by omega) v ha _).mono ?_
    rintro e w1 ⟨rfl, hw1⟩
    have hb1 : Below w.heap.size w w1 := by
      rcases hw1 with rfl | ⟨t, rfl⟩
      · exact Below.refl _ _
      · exact Lib.bytesWorld_below _ _ _
    clear hw1
    have hr1 := hw.below hb1
    go_wp2_with fail
    refine (text_any v _ hr1).mono ?_
    rintro e w2 ⟨rfl, hb2⟩
    have hb := hb1.trans (hb2.mono hb1.size)
    by_cases ht : DM.text v = s.data.toList
    · have hq : (DM.text v == s.toList) = true := by rw [ByteArray.toList_eq]; simp [ht]
      have HP' : Hid (DM.parse s.data.toList = some v) := by
        show _ = _
        rw [HP.out, if_pos ht]
      clear ht
      go_wp2
      go_ret2
      exact ⟨by rw [HP'.out]; rfl, hb⟩
    · have hq : (DM.text v == s.toList) = false := by rw [ByteArray.toList_eq]; simp [ht]
      have HP' : Hid (DM.parse s.data.toList = none) := by
        show _ = _
        rw [HP.out, if_neg ht]
      clear ht
      go_wp2
      go_ret2
      exact ⟨by rw [HP'.out]; rfl, hb⟩
  · have ha : ∀ v, Lib.atoiAll s.data.toList ≠ .ok v := fun v e => hok ⟨v, e⟩
    have HP : Hid _ := DM.parse_bad lf ln ha
    clear lf ln hf hn hok
    go_enter Tryd.func16, Tryd.ntmps16
    go_wp2_with fail
    refine (atoi_bad s hs ha _ hw).mono ?_
    rintro e w1 ⟨v, N, rfl, hb1⟩
    clear ha
    go_wp2
    go_ret2
    exact ⟨by rw [HP.out]; rfl, hb1⟩
end Go.Proofs.YtnjhnfppblojcaaDoor
