/-
  The walk of the law OrderEnds.
-/
import Derived.Test.YtkcfepppnclniaaMmOrdMore
import Derived.Test.YtkcfepppnclniaaMmWitSpare
import Derived.Test.YtkcfepppnclniaaMmWalkDist
import Derived.Deep.DeepCutAuto
import Derived.Deep.QuietTactic
import Derived.BigQuiet
namespace Go.Proofs.Ytkcfepppnclniaa
open Go.RowKit
set_option maxHeartbeats 2000000 in
set_option maxRecDepth 100000 in
theorem ends_walk (HAW : AwakeIs) (HND : NeedIs) (n : Int) (v : Value) (xs : List Stp) (vv ww k : Int) (w : World) (hn0 : 0 ≤ n) (hn1 : n ≤ 255) (hch : Stps w v xs) (hv0 : 0 ≤ vv) (hv1 : vv ≤ 255) (hw0 : 0 ≤ ww) (hw1 : ww ≤ 255) :
    Calls Try.prog 4 #[.int .u8 n, v, .int .u8 vv, .int .u8 ww, .int .i64 k] w fun e w' => e = .returned (.bool true) ∧ Below w.heap.size w w' := by
  have haw := HAW w
  obtain ⟨i0, hi, hz0, hz1, hz2⟩ := info_parts infoStep
  obtain ⟨a, rfl⟩ : ∃ a : Nat, n = a := ⟨n.toNat, by omega⟩
  obtain ⟨vn, rfl⟩ : ∃ a : Nat, vv = a := ⟨vv.toNat, by omega⟩
  obtain ⟨wn, rfl⟩ : ∃ a : Nat, ww = a := ⟨ww.toNat, by omega⟩
  obtain ⟨N, hN⟩ : ∃ N, N = 1 + a % 24 := ⟨_, rfl⟩
  have hN1 : 1 ≤ N := by omega
  have hN2 : N ≤ 24 := by omega
  have ek : (1 : Int) + (a : Int) % 24 = (N : Int) := by omega
  have ek2 : (a : Int).tmod 24 = (N : Int) - 1 := by rw [Int.tmod_eq_emod_of_nonneg (by omega)]; omega
  have ev : (vn : Int).tmod (N : Int) = ((vn % N : Nat) : Int) := by rw [Int.tmod_eq_emod_of_nonneg (by omega)]; omega
  have ew : (wn : Int).tmod (N : Int) = ((wn % N : Nat) : Int) := by rw [Int.tmod_eq_emod_of_nonneg (by omega)]; omega
  have hX : vn % N < N := Nat.mod_lt _ (by omega)
  have hY : wn % N < N := Nat.mod_lt _ (by omega)
  generalize vn % N = X at *
  generalize wn % N = Y at *
  have HCH : Hid (Stps w v xs) := hch
  have HMD : Hid (∀ W, ∀ sv ys, Stps W sv ys → Calls Try.prog 7 #[.int .u8 a, sv] W fun e w' => ∃ p q, e = .returned (.tuple #[.pointer (some ⟨p, 0, none⟩), .pointer (some ⟨q, 0, none⟩)]) ∧ St W W.heap.size p q N (XM.made N ys (min ys.length 400)) (XM.made N ys (min ys.length 400)) w') := fun W sv ys hW => by
    refine (madeX_at a sv ys W hn0 hn1 hW).mono ?_
    rintro e w' ⟨p, q, he, N', -, hN', hS⟩
    obtain rfl : N' = N := by omega
    exact ⟨p, q, he, hS⟩
  obtain ⟨ao, cap, rfl, ⟨hcp, hml⟩, hcells⟩ := hch
  have HC : Hid (0 < xs.length → ∃ b o, ao = some ⟨b, o, none⟩ ∧ b < w.heap.size ∧ ∀ i, i < xs.length → StpIn w b (o + i * 3) (stpAt xs i)) := hcells
  have hml' : xs.length ≤ 9223372036854775807 := by unfold maxLen at hml; omega
  have hcpI : (xs.length : Int) ≤ (cap : Int) := by omega
  have HSN : Hid (∀ j, j < xs.length → OM.some' X Y (xs.take (j + 1)) = OM.some' X Y (xs.take j) ++ (if OM.drop X Y (stpAt xs j) = true then [] else [stpAt xs j])) := fun j hj => OM.some_snoc hj
  have HSL : Hid (∀ j, (OM.some' X Y (xs.take j)).length ≤ j) := fun j => OM.some_len _ _ _ _
  have HSE : Hid (∀ j i, OM.need N (XM.made N (OM.some' X Y (xs.take j)) (min (OM.some' X Y (xs.take j)).length 400)) X i = 0) := fun j i => OM.some_ends N X Y xs j i
  have HS0 : Hid (OM.some' X Y (xs.take 0) = []) := rfl
  obtain ⟨some2, hs2⟩ : ∃ some2 : Nat → List Stp, some2 = fun j => OM.some' X Y (xs.take j) := ⟨_, rfl⟩
  have HSB : Hid (∀ j, some2 j = OM.some' X Y (xs.take j)) := fun j => by rw [hs2]
  have HNX : Hid (X < N ∧ N ≤ 24) := ⟨hX, hN2⟩
  clear hs2 hcells hml hN hcp HCH
  obtain ⟨L, hL⟩ : ∃ L, L = xs.length := ⟨_, rfl⟩
  rw [← hL] at HC hml' hcpI HSN ⊢
  clear hL
  go_enter Try.func4, Try.ntmps4
  go_wp2_with fail
  refine haw.mono ?_
  rintro e w1 ⟨rfl, hb1⟩
  have HB1 : Hid (Below w.heap.size w w1) := hb1
  clear haw hb1
  go_upto_region 5 with fail
  rw [show (1 : Int) + ((N : Int) - 1) = (N : Int) by omega]
  clear ek ek2
  go_quiet (fail)
  have HB1 : Hid (Below w.heap.size w (w1.drewN nq)) := below_drewN HB1.out _
  generalize w1.drewN nq = w1 at *
  go_wp2_with fail
  clear ev ew hn0 hn1 hv0 hv1 hw0 hw1
  go_loopw [11, 15] (fun sv iv wr => ∃ j : Nat, j ≤ L ∧ j ≤ 400 ∧ iv = .int .i64 j ∧ OwnS wr w.heap.size sv (some2 j) ∧ Below w.heap.size w wr) (fun _ iv _ => L - (intOf iv).toNat)
  case atStart => exact ⟨0, Nat.zero_le _, by omega, rfl, by rw [HSB.out, HS0.out]; exact OwnS.nil _ _, HB1.out⟩
  case round =>
    clear HB1
    obtain ⟨j, hj, hj4, rfl, hO, hB⟩ := hrel
    by_cases hlt : j < L ∧ j < 400
    · obtain ⟨b, o, rfl, hbl, hc⟩ := HC.out (by omega)
      have hst := (hc j hlt.1).on hB
      have HST0 := HSN.out j hlt.1
      rw [← HSB.out, ← HSB.out] at HST0
      have hsl : (some2 j).length ≤ 400 := by
        have := HSL.out j
        rw [← HSB.out] at this
        omega
      have k1 : (j : Int) < (L : Int) := by omega
      have k4 : (j : Int) < 400 := by omega
      generalize stpAt xs j = s at *
      obtain ⟨su, sw, sx⟩ := s
      generalize some2 j = S1 at *
      have HST : Hid (some2 (j + 1) = S1 ++ (if OM.drop X Y ⟨su, sw, sx⟩ = true then [] else [⟨su, sw, sx⟩])) := HST0
      obtain ⟨s0, s1, s2⟩ := hst
      dsimp only at s0 s1 s2
      have HO2 : Hid (OwnS (wr.alloc (.cells #[.int .i64 su, .int .i64 sw, .int .i64 sx] 35)) w.heap.size u11 S1) := hO.alloc _
      have HB2 : Hid (Below w.heap.size w (wr.alloc (.cells #[.int .i64 su, .int .i64 sw, .int .i64 sx] 35))) := hB.alloc hB.size _
      have HDR0 : True := trivial
      have hbs : w.heap.size ≤ wr.heap.size := hB.size
      have hk4 : j < 400 := hlt.2
      have hkL : j < L := hlt.1
      clear hO hB hc HST0 hbl hlt
      by_cases c1 : su = (X : Int)
      · by_cases c2 : sw = (Y : Int)
        · by_cases c3 : sw = (X : Int)
          · by_cases c4 : su = (Y : Int)
            · have HDR : Hid (OM.drop X Y ⟨su, sw, sx⟩ = false) := by show _ = _; unfold OM.drop; simp only [Bool.or_eq_false_iff, decide_eq_false_iff_not]; omega
              clear HDR0
              obtain rfl : X = Y := by omega
              subst c1
              subst c2
              clear c3 c4
              have HO3 : Hid (OwnS (((wr.alloc (.cells #[.int .i64 (X : Int), .int .i64 (X : Int), .int .i64 sx] 35)).alloc (.cells #[.int .i64 (X : Int), .int .i64 (X : Int), .int .i64 sx] 35))) w.heap.size u11 S1) := HO2.out.alloc _
              go_wp2_with (at_builtin; refine wpList_append_own _ rfl _ _ 22 rfl w.heap.size 35 i0 zStep 3 24 Try.underlying22 hi hz0 hz1 hz2 rfl (by decide) u11 S1.length (rowCells S1) rfl HO3.out ⟨wr.heap.size + 1, 0, none⟩ 1 1 (stpCells ⟨(X : Int), (X : Int), sx⟩) rfl rfl (by have := cell_new3s (wr.alloc (.cells #[.int .i64 (X : Int), .int .i64 (X : Int), .int .i64 sx] 35)) (.int .i64 (X : Int)) (.int .i64 (X : Int)) (.int .i64 sx) 35; rw [World.size_alloc] at this; exact this) (stpCells_one _) (by unfold maxLen; omega) (by omega) (by simp; omega) ?_)
              intro v2 w2 hown2 hgrow2 _
              have hb2 : Below w.heap.size w w2 := (HB2.out.alloc HB2.out.size _).grown hgrow2 (by have := HB2.out.size; simp at this ⊢; omega) (fun g hg => (World.ownsRow.lt HO3.out g hg).1)
              have HO4 : Hid (OwnS w2 w.heap.size v2 (some2 (j + 1))) := by
                show OwnS _ _ _ _
                rw [HST.out, if_neg (by rw [HDR.out]; decide)]
                unfold OwnS
                rw [List.length_append, rowCells_snoc]
                exact hown2
              have HB4 : Hid (Below w.heap.size w w2) := hb2
              clear hown2 hgrow2 hb2 HO3
              go_wp2_with fail
              go_roundw
              case rel => exact ⟨j + 1, by omega, by omega, by go_num, HO4.out, HB4.out⟩
              case measure => simp [intOf]; omega
            · exfalso; omega
          · have HDR : Hid (OM.drop X Y ⟨su, sw, sx⟩ = false) := by show _ = _; unfold OM.drop; simp only [Bool.or_eq_false_iff, decide_eq_false_iff_not]; omega
            clear HDR0
            subst c1
            subst c2
            have HO3 : Hid (OwnS (((wr.alloc (.cells #[.int .i64 (X : Int), .int .i64 (Y : Int), .int .i64 sx] 35)).alloc (.cells #[.int .i64 (X : Int), .int .i64 (Y : Int), .int .i64 sx] 35))) w.heap.size u11 S1) := HO2.out.alloc _
            go_wp2_with (at_builtin; refine wpList_append_own _ rfl _ _ 22 rfl w.heap.size 35 i0 zStep 3 24 Try.underlying22 hi hz0 hz1 hz2 rfl (by decide) u11 S1.length (rowCells S1) rfl HO3.out ⟨wr.heap.size + 1, 0, none⟩ 1 1 (stpCells ⟨(X : Int), (Y : Int), sx⟩) rfl rfl (by have := cell_new3s (wr.alloc (.cells #[.int .i64 (X : Int), .int .i64 (Y : Int), .int .i64 sx] 35)) (.int .i64 (X : Int)) (.int .i64 (Y : Int)) (.int .i64 sx) 35; rw [World.size_alloc] at this; exact this) (stpCells_one _) (by unfold maxLen; omega) (by omega) (by simp; omega) ?_)
            intro v2 w2 hown2 hgrow2 _
            have hb2 : Below w.heap.size w w2 := (HB2.out.alloc HB2.out.size _).grown hgrow2 (by have := HB2.out.size; simp at this ⊢; omega) (fun g hg => (World.ownsRow.lt HO3.out g hg).1)
            have HO4 : Hid (OwnS w2 w.heap.size v2 (some2 (j + 1))) := by
              show OwnS _ _ _ _
              rw [HST.out, if_neg (by rw [HDR.out]; decide)]
              unfold OwnS
              rw [List.length_append, rowCells_snoc]
              exact hown2
            have HB4 : Hid (Below w.heap.size w w2) := hb2
            clear hown2 hgrow2 hb2 HO3
            go_wp2_with fail
            go_roundw
            case rel => exact ⟨j + 1, by omega, by omega, by go_num, HO4.out, HB4.out⟩
            case measure => simp [intOf]; omega
        · have HDR : Hid (OM.drop X Y ⟨su, sw, sx⟩ = true) := by show _ = _; unfold OM.drop; simp only [Bool.or_eq_true, decide_eq_true_eq]; omega
          clear HDR0
          subst c1
          go_wp2_with fail
          go_roundw
          case rel => exact ⟨j + 1, by omega, by omega, by go_num, by rw [HST.out, if_pos HDR.out, List.append_nil]; exact HO2.out, HB2.out⟩
          case measure => simp [intOf]; omega
      · by_cases c3 : sw = (X : Int)
        · by_cases c4 : su = (Y : Int)
          · have HDR : Hid (OM.drop X Y ⟨su, sw, sx⟩ = false) := by show _ = _; unfold OM.drop; simp only [Bool.or_eq_false_iff, decide_eq_false_iff_not]; omega
            clear HDR0
            subst c3
            subst c4
            have HO3 : Hid (OwnS (((wr.alloc (.cells #[.int .i64 (Y : Int), .int .i64 (X : Int), .int .i64 sx] 35)).alloc (.cells #[.int .i64 (Y : Int), .int .i64 (X : Int), .int .i64 sx] 35))) w.heap.size u11 S1) := HO2.out.alloc _
            go_wp2_with (at_builtin; refine wpList_append_own _ rfl _ _ 22 rfl w.heap.size 35 i0 zStep 3 24 Try.underlying22 hi hz0 hz1 hz2 rfl (by decide) u11 S1.length (rowCells S1) rfl HO3.out ⟨wr.heap.size + 1, 0, none⟩ 1 1 (stpCells ⟨(Y : Int), (X : Int), sx⟩) rfl rfl (by have := cell_new3s (wr.alloc (.cells #[.int .i64 (Y : Int), .int .i64 (X : Int), .int .i64 sx] 35)) (.int .i64 (Y : Int)) (.int .i64 (X : Int)) (.int .i64 sx) 35; rw [World.size_alloc] at this; exact this) (stpCells_one _) (by unfold maxLen; omega) (by omega) (by simp; omega) ?_)
            intro v2 w2 hown2 hgrow2 _
            have hb2 : Below w.heap.size w w2 := (HB2.out.alloc HB2.out.size _).grown hgrow2 (by have := HB2.out.size; simp at this ⊢; omega) (fun g hg => (World.ownsRow.lt HO3.out g hg).1)
            have HO4 : Hid (OwnS w2 w.heap.size v2 (some2 (j + 1))) := by
              show OwnS _ _ _ _
              rw [HST.out, if_neg (by rw [HDR.out]; decide)]
              unfold OwnS
              rw [List.length_append, rowCells_snoc]
              exact hown2
            have HB4 : Hid (Below w.heap.size w w2) := hb2
            clear hown2 hgrow2 hb2 HO3
            go_wp2_with fail
            go_roundw
            case rel => exact ⟨j + 1, by omega, by omega, by go_num, HO4.out, HB4.out⟩
            case measure => simp [intOf]; omega
          · have HDR : Hid (OM.drop X Y ⟨su, sw, sx⟩ = true) := by show _ = _; unfold OM.drop; simp only [Bool.or_eq_true, decide_eq_true_eq]; omega
            clear HDR0
            subst c3
            go_wp2_with fail
            go_roundw
            case rel => exact ⟨j + 1, by omega, by omega, by go_num, by rw [HST.out, if_pos HDR.out, List.append_nil]; exact HO2.out, HB2.out⟩
            case measure => simp [intOf]; omega
        · have HDR : Hid (OM.drop X Y ⟨su, sw, sx⟩ = false) := by show _ = _; unfold OM.drop; simp only [Bool.or_eq_false_iff, decide_eq_false_iff_not]; omega
          clear HDR0
          have HO3 : Hid (OwnS (((wr.alloc (.cells #[.int .i64 su, .int .i64 sw, .int .i64 sx] 35)).alloc (.cells #[.int .i64 su, .int .i64 sw, .int .i64 sx] 35))) w.heap.size u11 S1) := HO2.out.alloc _
          go_wp2_with (at_builtin; refine wpList_append_own _ rfl _ _ 22 rfl w.heap.size 35 i0 zStep 3 24 Try.underlying22 hi hz0 hz1 hz2 rfl (by decide) u11 S1.length (rowCells S1) rfl HO3.out ⟨wr.heap.size + 1, 0, none⟩ 1 1 (stpCells ⟨su, sw, sx⟩) rfl rfl (by have := cell_new3s (wr.alloc (.cells #[.int .i64 su, .int .i64 sw, .int .i64 sx] 35)) (.int .i64 su) (.int .i64 sw) (.int .i64 sx) 35; rw [World.size_alloc] at this; exact this) (stpCells_one _) (by unfold maxLen; omega) (by omega) (by simp; omega) ?_)
          intro v2 w2 hown2 hgrow2 _
          have hb2 : Below w.heap.size w w2 := (HB2.out.alloc HB2.out.size _).grown hgrow2 (by have := HB2.out.size; simp at this ⊢; omega) (fun g hg => (World.ownsRow.lt HO3.out g hg).1)
          have HO4 : Hid (OwnS w2 w.heap.size v2 (some2 (j + 1))) := by
            show OwnS _ _ _ _
            rw [HST.out, if_neg (by rw [HDR.out]; decide)]
            unfold OwnS
            rw [List.length_append, rowCells_snoc]
            exact hown2
          have HB4 : Hid (Below w.heap.size w w2) := hb2
          clear hown2 hgrow2 hb2 HO3
          go_wp2_with fail
          go_roundw
          case rel => exact ⟨j + 1, by omega, by omega, by go_num, HO4.out, HB4.out⟩
          case measure => simp [intOf]; omega
    · obtain ⟨ys, hys⟩ : ∃ ys, ys = some2 j := ⟨_, rfl⟩
      rw [← hys] at hO
      have hne := fun i => HSE.out j i
      rw [← HSB.out, ← hys] at hne
      have HNE : Hid (∀ i, OM.need N (XM.made N ys (min ys.length 400)) X i = 0) := hne
      have hmd := HMD.out wr u11 ys hO.stps
      have HB2 : Hid (Below w.heap.size w wr) := hB
      have hkn : ¬ ((j : Int) < (L : Int) ∧ (j : Int) < 400) := by omega
      clear hO hB hne hys hj4
      by_cases hkl : (j : Int) < (L : Int)
      · have h4 : ¬ (j : Int) < 400 := fun h => hkn ⟨hkl, h⟩
        clear hkn
        go_wp2_with fail
        refine hmd.mono ?_
        rintro e w2 ⟨p, q, rfl, hS2⟩
        have hnd := HND hS2.xp (XM.made_mesh N ys _) HNX.out.2 X HNX.out.1 k
        rw [HNE.out] at hnd
        have HB5 : Hid (Below w.heap.size w w2) := below_on HB2.out hS2.bel
        clear hmd hS2
        go_wp2_with fail
        refine hnd.mono ?_
        rintro e w3 ⟨rfl, hb3⟩
        have HB6 : Hid (Below w.heap.size w w3) := below_on HB5.out hb3
        clear hnd hb3
        go_wp2_with fail
        go_ret
        exact ⟨rfl, HB6.out⟩
      · clear hkn
        go_wp2_with fail
        refine hmd.mono ?_
        rintro e w2 ⟨p, q, rfl, hS2⟩
        have hnd := HND hS2.xp (XM.made_mesh N ys _) HNX.out.2 X HNX.out.1 k
        rw [HNE.out] at hnd
        have HB5 : Hid (Below w.heap.size w w2) := below_on HB2.out hS2.bel
        clear hmd hS2
        go_wp2_with fail
        refine hnd.mono ?_
        rintro e w3 ⟨rfl, hb3⟩
        have HB6 : Hid (Below w.heap.size w w3) := below_on HB5.out hb3
        clear hnd hb3
        go_wp2_with fail
        go_ret
        exact ⟨rfl, HB6.out⟩
end Go.Proofs.Ytkcfepppnclniaa
