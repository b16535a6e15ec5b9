/-
  The walks of the document's Steps, Detours and Contract, and of Links.
-/
import Derived.Test.YtleckkpfnjpbiaaMeshRow
import Derived.Test.YtleckkpfnjpbiaaWalkDist
import Derived.Deep.DeepCutAuto
import Derived.Laws.Tables
import Derived.Deep.QuietTactic
import Derived.BigQuiet
namespace Go.Proofs.Ytleckkpfnjpbiaa
open Go.RowKit

def firsts (l : List (Nat × Int)) : List Int := l.map (fun x => ((x.1 : Nat) : Int))
theorem firsts_len (l : List (Nat × Int)) : (firsts l).length = l.length := by simp [firsts]
theorem firsts_snoc (l : List (Nat × Int)) (x : Nat × Int) : firsts (l ++ [x]) = firsts l ++ [((x.1 : Nat) : Int)] := by simp [firsts]
set_option maxHeartbeats 2000000 in
theorem rsteps_any {w : World} {p N : Nat} {D : Nat → Nat → Int} (hg : XMem w p N D) (hm : XM.Mesh N D) (hN : N ≤ 24) (v : Int) (back : Bool) :
    Calls Try.prog 31 #[.pointer (some ⟨p, 0, none⟩), .int .i64 v, .bool back] w fun e w' => ∃ r, e = .returned r ∧ Own .i64 3 w' w.heap.size r (firsts (XM.steps N D v back N)) ∧ Below w.heap.size w w' := by
  obtain ⟨i0, hi, hz0, hz1, hz2⟩ := info_parts info3
  have HX : Hid (∀ W, Below w.heap.size w W → XMem W p N D) := fun W hW => hg.on hW
  have HAT : Hid (∀ W, Below w.heap.size w W → ∀ a b : Int, Calls Try.prog 29 #[.pointer (some ⟨p, 0, none⟩), .int .i64 a, .int .i64 b] W fun e w' => e = .returned (.int .i64 (XM.atE N D a b)) ∧ w' = W) := fun W hW a b => rat_any (hg.on hW) hm hN a b
  have HBD : Hid (∀ a b : Int, XM.atE N D a b ≤ 4611686018427387906) := fun a b => (XM.atE_bd hm a b).2
  clear hg hm
  go_enter Try.func31, Try.ntmps31
  go_wp2_with fail
  go_loopw [7, 8] (fun ov iv wr => ∃ k : Nat, k ≤ N ∧ iv = .int .i64 k ∧ Own .i64 3 wr w.heap.size ov (firsts (XM.steps N D v back k)) ∧ Below w.heap.size w wr) (fun _ iv _ => N - (intOf iv).toNat)
  case atStart => exact ⟨0, Nat.zero_le _, rfl, Own.nil _ _ _ _, Below.refl _ _⟩
  case round =>
    obtain ⟨k, hk, rfl, hO, hB⟩ := hrel
    have HO : Hid (Own .i64 3 wr w.heap.size u7 (firsts (XM.steps N D v back k))) := hO
    have HB : Hid (Below w.heap.size w wr) := hB
    have c0 := (HX.out wr hB).c0
    have hkN : (k : Int) ≤ (N : Int) := by omega
    clear hO
    by_cases hlt : k < N
    · have k1 : (k : Int) < (N : Int) := by omega
      have h1 := HAT.out wr hB v k
      have h2 := HAT.out wr hB k v
      have HSK : Hid (XM.dirE N D v back (k : Nat) = 4611686018427387906 → firsts (XM.steps N D v back (k + 1)) = firsts (XM.steps N D v back k)) := fun h => by rw [XM.steps_skip h]
      have HTK : Hid (XM.dirE N D v back (k : Nat) ≠ 4611686018427387906 → firsts (XM.steps N D v back (k + 1)) = firsts (XM.steps N D v back k) ++ [(k : Int)]) := fun h => by rw [XM.steps_take h, firsts_snoc]
      have hd2 : XM.dirE N D v back (k : Nat) ≤ 4611686018427387906 := by
        unfold XM.dirE
        split
        · exact HBD.out _ _
        · exact HBD.out _ _
      have hl : (firsts (XM.steps N D v back k)).length ≤ 24 := by
        rw [firsts_len]
        have := XM.steps_len (N := N) (D := D) (v := v) (back := back) k
        omega
      have HDE : Hid (XM.dirE N D v back (k : Nat) = if back then XM.atE N D (k : Nat) v else XM.atE N D v (k : Nat)) := rfl
      have hbs := hB.size
      clear hB
      generalize XM.dirE N D v back (k : Nat) = d at *
      obtain ⟨S2, hS2⟩ : ∃ S2, S2 = firsts (XM.steps N D v back (k + 1)) := ⟨_, rfl⟩
      have HS2 : Hid (firsts (XM.steps N D v back (k + 1)) = S2) := hS2.symm
      rw [← hS2] at HSK HTK
      clear hS2
      generalize firsts (XM.steps N D v back k) = S1 at *
      cases back with
      | false =>
        have e : XM.atE N D v (k : Nat) = d := HDE.out.symm
        rw [e] at h1
        clear h2 HDE e
        by_cases hd : d = 4611686018427387906
        · have HE : Hid (S2 = S1) := HSK.out hd
          clear HSK HTK
          subst hd
          go_wp2_with fail
          refine h1.mono ?_
          rintro e w' ⟨rfl, rfl⟩
          clear h1
          go_wp2_with fail
          go_roundw
          case rel => exact ⟨k + 1, by omega, by go_num, by rw [HS2.out, HE.out]; exact HO.out, HB.out⟩
          case measure => simp [intOf]; omega
        · have HE : Hid (S2 = S1 ++ [(k : Int)]) := HTK.out hd
          have hdl : d < 4611686018427387906 := by omega
          clear HSK HTK hd
          go_wp2_with fail
          refine h1.mono ?_
          rintro e w' ⟨rfl, hw'⟩
          rw [hw']
          clear h1 hw' w'
          go_wp2_with (at_builtin; refine wpList_append_row _ rfl _ _ 47 rfl .i64 w.heap.size 3 i0 8 Try.underlying47 hi hz0 hz1 hz2 _ S1 rfl (HO.out.alloc _) (some ⟨wr.heap.size, 0, none⟩) 1 1 [(k : Int)] rfl rfl (rowAt_lit1 _ _ _ _) (by unfold maxLen; simp; omega) (by simp; omega) (by simp; omega) ?_)
          intro v2 w2 hown2 hgrow2 _
          have hb2 : Below w.heap.size w w2 := (HB.out.alloc HB.out.size _).grown hgrow2 (by simp; omega) (fun g hg => HO.out.block g hg)
          have HO2 : Hid (Own .i64 3 w2 w.heap.size v2 S2) := by
            show Own _ _ _ _ _ _
            rw [HE.out]
            exact hown2
          have HB2 : Hid (Below w.heap.size w w2) := hb2
          clear hown2 hgrow2 hb2
          go_wp2_with fail
          go_roundw
          case rel => exact ⟨k + 1, by omega, by go_num, by rw [HS2.out]; exact HO2.out, HB2.out⟩
          case measure => simp [intOf]; omega
      | true =>
        have e : XM.atE N D (k : Nat) v = d := HDE.out.symm
        rw [e] at h2
        clear HDE e
        by_cases hd : d = 4611686018427387906
        · have HE : Hid (S2 = S1) := HSK.out hd
          clear HSK HTK
          subst hd
          go_wp2_with fail
          refine h1.mono ?_
          rintro e w' ⟨rfl, rfl⟩
          clear h1
          go_wp2_with fail
          refine h2.mono ?_
          rintro e w' ⟨rfl, rfl⟩
          clear h2
          go_wp2_with fail
          go_roundw
          case rel => exact ⟨k + 1, by omega, by go_num, by rw [HS2.out, HE.out]; exact HO.out, HB.out⟩
          case measure => simp [intOf]; omega
        · have HE : Hid (S2 = S1 ++ [(k : Int)]) := HTK.out hd
          have hdl : d < 4611686018427387906 := by omega
          clear HSK HTK hd
          go_wp2_with fail
          refine h1.mono ?_
          rintro e w' ⟨rfl, hw'⟩
          rw [hw']
          clear h1 hw' w'
          go_wp2_with fail
          refine h2.mono ?_
          rintro e w' ⟨rfl, hw'⟩
          rw [hw']
          clear h2 hw' w'
          go_wp2_with (at_builtin; refine wpList_append_row _ rfl _ _ 47 rfl .i64 w.heap.size 3 i0 8 Try.underlying47 hi hz0 hz1 hz2 _ S1 rfl (HO.out.alloc _) (some ⟨wr.heap.size, 0, none⟩) 1 1 [(k : Int)] rfl rfl (rowAt_lit1 _ _ _ _) (by unfold maxLen; simp; omega) (by simp; omega) (by simp; omega) ?_)
          intro v2 w2 hown2 hgrow2 _
          have hb2 : Below w.heap.size w w2 := (HB.out.alloc HB.out.size _).grown hgrow2 (by simp; omega) (fun g hg => HO.out.block g hg)
          have HO2 : Hid (Own .i64 3 w2 w.heap.size v2 S2) := by
            show Own _ _ _ _ _ _
            rw [HE.out]
            exact hown2
          have HB2 : Hid (Below w.heap.size w w2) := hb2
          clear hown2 hgrow2 hb2
          go_wp2_with fail
          go_roundw
          case rel => exact ⟨k + 1, by omega, by go_num, by rw [HS2.out]; exact HO2.out, HB2.out⟩
          case measure => simp [intOf]; omega
    · obtain rfl : k = N := by omega
      clear hlt hk hB
      go_wp2_with fail
      go_ret
      exact ⟨_, rfl, HO.out, HB.out⟩
set_option maxHeartbeats 2000000 in
theorem rdet_any {w : World} {p N : Nat} {D : Nat → Nat → Int} (hg : XMem w p N D) (hm : XM.Mesh N D) (hN : N ≤ 24) (v : Int) :
    Calls Try.prog 16 #[.pointer (some ⟨p, 0, none⟩), .int .i64 v] w fun e w' => ∃ r, e = .returned r ∧ OwnL w' w.heap.size r v (XM.dets N D v N) ∧ Below w.heap.size w w' := by
  obtain ⟨i0, hi, hz0, hz1, hz2⟩ := info_parts infoLink
  have HX : Hid (∀ W, Below w.heap.size w W → XMem W p N D) := fun W hW => hg.on hW
  have HAT : Hid (∀ W, Below w.heap.size w W → ∀ a b : Int, Calls Try.prog 29 #[.pointer (some ⟨p, 0, none⟩), .int .i64 a, .int .i64 b] W fun e w' => e = .returned (.int .i64 (XM.atE N D a b)) ∧ w' = W) := fun W hW a b => rat_any (hg.on hW) hm hN a b
  have HLEN : Hid (∀ k j, k ≤ N → j ≤ N → (XM.dets N D v k ++ XM.detRow N D v k j).length ≤ 700) := fun k j hk hj => by
    have h1 := XM.dets_len (N := N) (D := D) (v := v) k
    have h2 := XM.detRow_len (N := N) (D := D) (v := v) k j
    have h3 : k * N ≤ 24 * 24 := Nat.mul_le_mul (by omega) hN
    rw [List.length_append]
    omega
  clear hg hm
  go_enter Try.func16, Try.ntmps16
  go_wp2_with fail
  go_loopw [5, 6] (fun ov iv wr => ∃ k : Nat, k ≤ N ∧ iv = .int .i64 k ∧ OwnL wr w.heap.size ov v (XM.dets N D v k) ∧ Below w.heap.size w wr) (fun _ iv _ => N - (intOf iv).toNat)
  case atStart => exact ⟨0, Nat.zero_le _, rfl, OwnL.nil _ _ _, Below.refl _ _⟩
  case round =>
    obtain ⟨k, hk, rfl, hO, hB⟩ := hrel
    have HO : Hid (OwnL wr w.heap.size u5 v (XM.dets N D v k)) := hO
    have HB : Hid (Below w.heap.size w wr) := hB
    have c0 := (HX.out wr hB).c0
    have hkN : (k : Int) ≤ (N : Int) := by omega
    clear hO hB
    by_cases hlt : k < N
    · have k1 : (k : Int) < (N : Int) := by omega
      go_wp2_with fail
      go_loopw [5, 7] (fun ov jv wr' => ∃ j : Nat, j ≤ N ∧ jv = .int .i64 j ∧ OwnL wr' w.heap.size ov v (XM.dets N D v k ++ XM.detRow N D v k j) ∧ Below w.heap.size w wr') (fun _ jv _ => N - (intOf jv).toNat)
      case atStart => exact ⟨0, Nat.zero_le _, rfl, by rw [show XM.detRow N D v k 0 = [] from rfl, List.append_nil]; exact HO.out, HB.out⟩
      case round =>
        clear HO HB c0
        rename_i wr0 hwr0
        obtain ⟨j, hj, rfl, hO, hB⟩ := hrel
        have HB : Hid (Below w.heap.size w wr) := hB
        have c0 := (HX.out wr hB).c0
        have hjN : (j : Int) ≤ (N : Int) := by omega
        by_cases hjl : j < N
        · have j1 : (j : Int) < (N : Int) := by omega
          have h1 := HAT.out wr hB k v
          have h2 := HAT.out wr hB v j
          have hbs := hB.size
          have hlen := HLEN.out k j hk hj
          have HTK : Hid (k ≠ j ∧ DM.two (XM.atE N D k v) (XM.atE N D v j) < 4611686018427387906 → XM.dets N D v k ++ XM.detRow N D v k (j + 1) = XM.dets N D v k ++ XM.detRow N D v k j ++ [⟨k, j, DM.two (XM.atE N D k v) (XM.atE N D v j)⟩]) := fun h => by
            show _ ++ (_ ++ _) = _
            rw [if_pos h, List.append_assoc]
          have HSK : Hid (¬ (k ≠ j ∧ DM.two (XM.atE N D k v) (XM.atE N D v j) < 4611686018427387906) → XM.dets N D v k ++ XM.detRow N D v k (j + 1) = XM.dets N D v k ++ XM.detRow N D v k j) := fun h => by
            show _ ++ (_ ++ _) = _
            rw [if_neg h, List.append_nil]
          have h3 := two_any (XM.atE N D k v) (XM.atE N D v j) wr
          have hx2 := (DM.two_bd (XM.atE N D k v) (XM.atE N D v j)).2
          have HO : Hid (OwnL wr w.heap.size u5 v (XM.dets N D v k ++ XM.detRow N D v k j)) := hO
          clear hO hB
          generalize DM.two (XM.atE N D k v) (XM.atE N D v j) = x at *
          generalize XM.atE N D k v = a1 at *
          generalize XM.atE N D v j = a2 at *
          obtain ⟨S2, hS2⟩ : ∃ S2, S2 = XM.dets N D v k ++ XM.detRow N D v k (j + 1) := ⟨_, rfl⟩
          have HS2 : Hid (XM.dets N D v k ++ XM.detRow N D v k (j + 1) = S2) := hS2.symm
          rw [← hS2] at HSK HTK
          clear hS2
          generalize XM.dets N D v k ++ XM.detRow N D v k j = S1 at *
          by_cases hkj : k = j
          · have HE : Hid (S2 = S1) := HSK.out (fun h => h.1 hkj)
            have hne : ((k : Int) != (j : Int)) = false := by simp [hkj]
            clear HSK HTK hkj
            go_wp2_with fail
            refine h1.mono ?_
            rintro e w' ⟨rfl, rfl⟩
            clear h1
            go_wp2_with fail
            refine h2.mono ?_
            rintro e w' ⟨rfl, rfl⟩
            clear h2
            go_wp2_with fail
            refine h3.mono ?_
            rintro e w' ⟨rfl, rfl⟩
            clear h3
            go_wp2_with fail
            go_roundw
            case rel => exact ⟨j + 1, by omega, by go_num, by rw [HS2.out, HE.out]; exact HO.out, HB.out⟩
            case measure => simp [intOf]; omega
          · have hne : ((k : Int) != (j : Int)) = true := by simp; omega
            by_cases hx : x < 4611686018427387906
            · have HE : Hid (S2 = S1 ++ [⟨k, j, x⟩]) := HTK.out ⟨hkj, hx⟩
              clear HSK HTK hkj
              go_wp2_with fail
              refine h1.mono ?_
              rintro e w' ⟨rfl, hw'⟩
              rw [hw']
              clear h1 hw' w'
              go_wp2_with fail
              refine h2.mono ?_
              rintro e w' ⟨rfl, hw'⟩
              rw [hw']
              clear h2 hw' w'
              go_wp2_with fail
              refine h3.mono ?_
              rintro e w' ⟨rfl, hw'⟩
              rw [hw']
              clear h3 hw' w'
              go_wp2_with (at_builtin; refine wpList_append_own _ rfl _ _ 36 rfl w.heap.size 68 i0 zLink 5 40 Try.underlying36 hi hz0 hz1 hz2 rfl (by decide) u5 S1.length (linkCells v S1) rfl (HO.out.alloc _) ⟨wr.heap.size, 0, none⟩ 1 1 (detCells v ⟨k, j, x⟩) rfl rfl (cell_new5 _ _ _ _ _ _ _) (detCells_one _ _) (by unfold maxLen; omega) (by omega) (by simp; omega) ?_)
              intro v2 w2 hown2 hgrow2 _
              have hb2 : Below w.heap.size w w2 := (HB.out.alloc HB.out.size _).grown hgrow2 (by simp; omega) (fun g hg => (HO.out.block g hg).1)
              have HO2 : Hid (OwnL w2 w.heap.size v2 v S2) := by
                show OwnL _ _ _ _ _
                rw [HE.out]
                unfold OwnL
                rw [List.length_append, linkCells_snoc]
                exact hown2
              have HB2 : Hid (Below w.heap.size w w2) := hb2
              clear hown2 hgrow2 hb2
              go_wp2_with fail
              go_roundw
              case rel => exact ⟨j + 1, by omega, by go_num, by rw [HS2.out]; exact HO2.out, HB2.out⟩
              case measure => simp [intOf]; omega
            · have HE : Hid (S2 = S1) := HSK.out (fun h => hx h.2)
              obtain rfl : x = 4611686018427387906 := by omega
              clear HSK HTK hkj hx hx2
              go_wp2_with fail
              refine h1.mono ?_
              rintro e w' ⟨rfl, rfl⟩
              clear h1
              go_wp2_with fail
              refine h2.mono ?_
              rintro e w' ⟨rfl, rfl⟩
              clear h2
              go_wp2_with fail
              refine h3.mono ?_
              rintro e w' ⟨rfl, rfl⟩
              clear h3
              go_wp2_with fail
              go_roundw
              case rel => exact ⟨j + 1, by omega, by go_num, by rw [HS2.out, HE.out]; exact HO.out, HB.out⟩
              case measure => simp [intOf]; omega
        · obtain rfl : j = N := by omega
          have HO : Hid (OwnL wr w.heap.size u5 v (XM.dets j D v (k + 1))) := hO
          clear hO hB hjl
          go_wp2_with fail
          go_roundw
          case rel => exact ⟨k + 1, by omega, by go_num, HO.out, HB.out⟩
          case measure => simp [intOf]; omega
    · obtain rfl : k = N := by omega
      clear hlt hk
      go_wp2_with fail
      go_ret
      exact ⟨_, rfl, HO.out, HB.out⟩
end Go.Proofs.Ytleckkpfnjpbiaa
