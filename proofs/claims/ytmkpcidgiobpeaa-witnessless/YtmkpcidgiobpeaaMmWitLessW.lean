/-
  The walk of the law WitnessLess.
-/
import Derived.Test.YtmkpcidgiobpeaaMmWitLessM
import Derived.BigQuiet
import Derived.Deep.QuietTactic
namespace Go.Proofs.Ytmkpcidgiobpeaa
open Go.RowKit

/-- What the law has of its two searches: all of it in block f1, part of it in block f2. -/
structure LS (w2 : World) (f1 f2 : Nat) (a1 a2 b1 b2 : Option Addr) (m pl l1 l2 k1 k2 T T2 : Nat) (vs ds ps : List Int) (A : World) : Prop where
  bel : Below w2.heap.size w2 A
  c0 : A.cell? ⟨f1, 0, none⟩ = some (.slice a1 m k1)
  c1 : A.cell? ⟨f1, 1, none⟩ = some (.slice a2 m k2)
  c2 : A.cell? ⟨f1, 2, none⟩ = some (.int .u64 (T : Nat))
  p0 : A.cell? ⟨f2, 0, none⟩ = some (.slice b1 pl l1)
  p2 : A.cell? ⟨f2, 2, none⟩ = some (.int .u64 (T2 : Nat))
  vs : RowAt .i64 A a1 k1 vs
  ds : RowAt .i64 A a2 k2 ds
  ps : RowAt .i64 A b1 l1 ps
theorem LS.on {w2 A A' : World} {f1 f2 : Nat} {a1 a2 b1 b2 : Option Addr} {m pl l1 l2 k1 k2 T T2 : Nat} {vs ds ps : List Int} (h : LS w2 f1 f2 a1 a2 b1 b2 m pl l1 l2 k1 k2 T T2 vs ds ps A) (hb : Below A.heap.size A A') : LS w2 f1 f2 a1 a2 b1 b2 m pl l1 l2 k1 k2 T T2 vs ds ps A' :=
  ⟨below_on h.bel hb, (hb.cell (p := ⟨f1, 0, none⟩) (cell_lt h.c0)).trans h.c0, (hb.cell (p := ⟨f1, 1, none⟩) (cell_lt h.c1)).trans h.c1, (hb.cell (p := ⟨f1, 2, none⟩) (cell_lt h.c2)).trans h.c2, (hb.cell (p := ⟨f2, 0, none⟩) (cell_lt h.p0)).trans h.p0, (hb.cell (p := ⟨f2, 2, none⟩) (cell_lt h.p2)).trans h.p2, h.vs.below hb, h.ds.below hb, h.ps.below hb⟩

set_option maxHeartbeats 2000000 in
set_option maxRecDepth 100000 in
theorem less_walk (n : Int) (v : Value) (xs : List Stp) (fr o fw : Int) (w : World) (hn0 : 0 ≤ n) (hn1 : n ≤ 255) (hch : Stps w v xs) (hfr0 : 0 ≤ fr) (hfr1 : fr ≤ 255) (ho0 : 0 ≤ o) (ho1 : o ≤ 18446744073709551615) (hfw0 : 0 ≤ fw) (hfw1 : fw ≤ 255) :
    Calls Try.prog 5 #[.int .u8 n, v, .int .u8 fr, .int .u64 o, .int .u8 fw] w fun e w' => e = .returned (.bool true) ∧ Below w.heap.size w w' := by
  have haw := awake13_any w
  have HMD : Hid (∀ W, Below w.heap.size w W → Calls Try.prog 9 #[.int .u8 n, v] W fun e w' => ∃ p q, e = .returned (.tuple #[.pointer (some ⟨p, 0, none⟩), .pointer (some ⟨q, 0, none⟩)]) ∧ ∃ N, (1 ≤ N ∧ N ≤ 24) ∧ St W W.heap.size p q N (XM.made N xs (min xs.length 400)) (XM.made N xs (min xs.length 400)) w') := fun W hW => madeX_any n v xs W hn0 hn1 (hch.on hW)
  have HMM : Hid (∀ N, XM.Mesh N (XM.made N xs (min xs.length 400))) := fun N => XM.made_mesh N xs _
  obtain ⟨O, rfl⟩ : ∃ O : Nat, o = O := ⟨o.toNat, by omega⟩
  have hO : O < 18446744073709551616 := by omega
  obtain ⟨un, rfl⟩ : ∃ un : Nat, fr = un := ⟨fr.toNat, by omega⟩
  obtain ⟨tn, rfl⟩ : ∃ tn : Nat, fw = tn := ⟨fw.toNat, by omega⟩
  clear hn0 hn1 ho0 ho1 hfr0 hfw0
  obtain ⟨ao, cap, rfl, -, -⟩ := hch
  generalize xs.length = L at *
  obtain ⟨j, hj⟩ : ∃ j, j = tn % 30 := ⟨_, rfl⟩
  have hj30 : j < 30 := by rw [hj]; exact Nat.mod_lt _ (by decide)
  have hrj : (tn : Int).tmod 30 = (j : Int) := by rw [hj, Int.tmod_eq_emod_of_nonneg (by omega)]; omega
  have hrj2 : (tn : Int) % 30 = (j : Int) := by rw [hj]; omega
  clear hj
  go_enter Try.func5, Try.ntmps5
  go_wp2_with fail
  refine haw.mono ?_
  rintro e w1 ⟨rfl, hb1⟩
  clear haw
  go_wp2_with fail
  refine (HMD.out w1 hb1).mono ?_
  rintro e w2 ⟨p, q, rfl, N, ⟨hN1, hN2⟩, hS2⟩
  have hMD := HMM.out N
  generalize XM.made N xs (min L 400) = D at *
  have HW2 : Hid (Below w.heap.size w w2) := hb1.trans (hS2.bel.mono hb1.size)
  have HS2 : Hid (St w1 w1.heap.size p q N D D w2 ∧ XM.Mesh N D ∧ N ≤ 24) := ⟨hS2, hMD, hN2⟩
  have x0 := hS2.xq.c0
  obtain ⟨s, hs⟩ : ∃ s, s = un % N := ⟨_, rfl⟩
  have hN0 : ¬ N = 0 := by omega
  have hN0I : ¬ (N : Int) = 0 := by omega
  have hrs : (un : Int).tmod (N : Int) = (s : Int) := by rw [hs, Int.tmod_eq_emod_of_nonneg (by omega)]; omega
  have hrs2 : (un : Int) % (N : Int) = (s : Int) := by rw [hs]; omega
  have hsN : s < N := by rw [hs]; exact Nat.mod_lt _ (by omega)
  have hwo := without13_any O (s : Int) hO w2
  have HOS : Hid (BM.has (BM.less O (BM.only (s : Int))) (s : Int) = false ∧ BM.less O (BM.only (s : Int)) < 18446744073709551616) := ⟨WM.has_without O s (by omega), BM.less_lt _ _⟩
  generalize BM.less O (BM.only (s : Int)) = O2 at *
  have HSN : Hid (s < N) := hsN
  clear HMD HMM hb1 hS2 hMD hN1 hN2 hs hO hsN
  go_upto_region 7 with fail
  clear x0 hrs hrs2 hN0 hN0I hfr1
  have hf1 := find_ok HS2.out.1.xp HS2.out.2.1 HS2.out.2.2 HSN.out HOS.out.2 HOS.out.1 4611686018427387906 64
  have HF2 : Hid (∀ W, Below w2.heap.size w2 W → Calls Try.prog 10 #[.pointer (some ⟨p, 0, none⟩), .int .i64 (s : Nat), .int .u64 (O2 : Nat), .int .i64 4611686018427387906, .int .i64 (j : Nat)] W fun e w' => ∃ sv dv T, e = .returned (.tuple #[.agg #[sv, dv, .int .u64 (T : Nat)], .int .i64 0]) ∧ ∃ L, WM.Got N D s (WM.outOf O2) (DM.norm 4611686018427387906) j L ∧ WM.TT N D (WM.outOf O2) L T ∧ Own .i64 3 w' W.heap.size sv (WM.vsL L) ∧ Own .i64 3 w' W.heap.size dv (WM.dsL L) ∧ Below W.heap.size W w') := fun W hW => find_ok (HS2.out.1.on hW).xp HS2.out.2.1 HS2.out.2.2 HSN.out HOS.out.2 HOS.out.1 4611686018427387906 (j : Nat)
  have HLN : Hid (∀ X L, WM.Seq N D s (WM.outOf O2) X L → L.length ≤ 24) := fun X L h => Nat.le_trans (WM.Seq.len HSN.out HOS.out.1 h) HS2.out.2.2
  clear HS2 HSN HOS
  go_wp2_with fail
  refine hwo.mono ?_
  rintro e w3 ⟨rfl, hw3⟩
  rw [hw3]
  clear hwo hw3 w3
  go_wp2_with fail
  refine hf1.mono ?_
  rintro e w3 ⟨sv, dv, T, rfl, M, hG, hT, hsv, hdv, hb3⟩
  obtain ⟨a1, k1, rfl, hv1⟩ := hsv.row
  obtain ⟨a2, k2, rfl, hv2⟩ := hdv.row
  obtain ⟨m, hm⟩ : ∃ m, m = M.length := ⟨_, rfl⟩
  rw [WM.vsL_len, WM.dsL_len, ← hm]
  obtain ⟨W4, hW4⟩ : ∃ W4, W4 = w3.alloc (.cells #[.slice a1 m k1, .slice a2 m k2, .int .u64 (T : Nat)] 32) := ⟨_, rfl⟩
  have hb4 : Below w3.heap.size w3 W4 := by rw [hW4]; exact (Below.refl _ _).alloc (Nat.le_refl _) _
  have c0 : W4.cell? ⟨w3.heap.size, 0, none⟩ = some (.slice a1 m k1) := by rw [hW4]; simp
  have c1 : W4.cell? ⟨w3.heap.size, 1, none⟩ = some (.slice a2 m k2) := by rw [hW4]; simp
  have c2 : W4.cell? ⟨w3.heap.size, 2, none⟩ = some (.int .u64 (T : Nat)) := by rw [hW4]; simp
  have H4 : Hid (Below w2.heap.size w2 W4 ∧ WM.Got N D s (WM.outOf O2) (DM.norm 4611686018427387906) 64 M ∧ WM.TT N D (WM.outOf O2) M T ∧ RowAt .i64 W4 a1 k1 (WM.vsL M) ∧ RowAt .i64 W4 a2 k2 (WM.dsL M) ∧ m = M.length ∧ m ≤ 24) := ⟨below_on hb3 hb4, hG, hT, hv1.below hb4, hv2.below hb4, hm, by rw [hm]; exact HLN.out _ _ hG.seq⟩
  have HC4 : Hid (W4.cell? ⟨w3.heap.size, 0, none⟩ = some (.slice a1 m k1) ∧ W4.cell? ⟨w3.heap.size, 1, none⟩ = some (.slice a2 m k2) ∧ W4.cell? ⟨w3.heap.size, 2, none⟩ = some (.int .u64 (T : Nat))) := ⟨c0, c1, c2⟩
  clear hf1 hb3 hb4 hsv hdv hv1 hv2 hG hT hm c0 c1 c2
  go_upto_region 9 with fail
  rw [← hW4]
  clear hW4
  generalize w3.heap.size = f1 at *
  go_wp2_with fail
  refine (HF2.out W4 H4.out.1).mono ?_
  rintro e w5 ⟨sv, dv, T2, rfl, P, hG, hT, hsv, hdv, hb5⟩
  obtain ⟨b1, l1, rfl, hv1⟩ := hsv.row
  obtain ⟨b2, l2, rfl, hv2⟩ := hdv.row
  obtain ⟨pl, hpl⟩ : ∃ pl, pl = P.length := ⟨_, rfl⟩
  rw [WM.vsL_len, WM.dsL_len, ← hpl]
  obtain ⟨W6, hW6⟩ : ∃ W6, W6 = w5.alloc (.cells #[.slice b1 pl l1, .slice b2 pl l2, .int .u64 (T2 : Nat)] 32) := ⟨_, rfl⟩
  have hb6 : Below w5.heap.size w5 W6 := by rw [hW6]; exact (Below.refl _ _).alloc (Nat.le_refl _) _
  have hb46 : Below W4.heap.size W4 W6 := below_on hb5 hb6
  have HLS : Hid (LS w2 f1 w5.heap.size a1 a2 b1 b2 m pl l1 l2 k1 k2 T T2 (WM.vsL M) (WM.dsL M) (WM.vsL P) W6) := by
    obtain ⟨q1, q2, q3, q4, q5, q6, q7⟩ := H4.out
    obtain ⟨d0, d1, d2⟩ := HC4.out
    exact ⟨below_on q1 hb46, (hb46.cell (p := ⟨f1, 0, none⟩) (cell_lt d0)).trans d0, (hb46.cell (p := ⟨f1, 1, none⟩) (cell_lt d1)).trans d1, (hb46.cell (p := ⟨f1, 2, none⟩) (cell_lt d2)).trans d2, by rw [hW6]; simp, by rw [hW6]; simp, q4.below hb46, q5.below hb46, hv1.below hb6⟩
  have HP : Hid (pl = min m j ∧ P <+: M ∧ BM.less T2 T = 0 ∧ T < 18446744073709551616 ∧ T2 < 18446744073709551616 ∧ m ≤ 24 ∧ pl ≤ m ∧ WM.vsL P = (WM.vsL M).take pl ∧ (WM.vsL M).length = m ∧ (WM.dsL M).length = m ∧ (WM.vsL P).length = pl ∧ (∀ i, i + 1 < m → (WM.dsL M)[i]?.getD 0 ≤ (WM.dsL M)[i + 1]?.getD 0)) := by
    obtain ⟨q1, q2, q3, q4, q5, q6, q7⟩ := H4.out
    have hpre := hG.pre q2 (by omega) (Int.le_refl _)
    have hmn := hG.min_len q2 (by omega)
    have h1 := q3.1
    have h2 := hT.1
    exact ⟨by rw [hpl, hmn, q6], hpre, WM.touched_less hT q3 hpre, by omega, by omega, q7, by rw [hpl, q6]; exact hpre.length_le, by rw [hpl]; exact WM.vs_take hpre, by rw [WM.vsL_len, q6], by rw [WM.dsL_len, q6], by rw [WM.vsL_len, hpl], fun i hi => WM.rises_at q2.seq (by omega)⟩
  clear hb5 hb6 hb46 hsv hdv hv1 hv2 hG hT hpl HF2 H4 HC4 HLN
  go_upto_region 10 with fail
  rw [← hW6]
  clear hW6
  generalize w5.heap.size = f2 at *
  generalize WM.vsL P = ps at *
  generalize WM.vsL M = vs at *
  generalize WM.dsL M = ds at *
  have c0 := HLS.out.c0
  have c1 := HLS.out.c1
  have p0 := HLS.out.p0
  go_cut [84] (fun c wx => c = .bool false ∧ wx = W6)
  case first =>
    have hpm := HP.out.1
    by_cases hjm : j < m
    · have hjmI : (j : Int) < (m : Int) := by omega
      obtain rfl : pl = j := by omega
      clear hpm HP
      go_wp2_with fail
      go_meet
      exact ⟨rfl, rfl⟩
    · have hjmI : ¬ (j : Int) < (m : Int) := by omega
      obtain rfl : pl = m := by omega
      clear hpm HP
      go_wp2_with fail
      go_meet
      exact ⟨rfl, rfl⟩
  case rest =>
  obtain ⟨rfl, hwc⟩ := hcut
  subst hwc
  clear c0 c1 p0 hrj hrj2 hj30 hfw1
  go_wp2_with fail
  go_loopw [19] (fun iv wr => ∃ i : Nat, iv = .int .i64 (i : Nat) ∧ 1 ≤ i ∧ i ≤ m + 1 ∧ LS w2 f1 f2 a1 a2 b1 b2 m pl l1 l2 k1 k2 T T2 vs ds ps wr) (fun iv _ => m + 1 - (intOf iv).toNat)
  case atStart => exact ⟨1, rfl, Nat.le_refl _, by omega, HLS.out⟩
  case round =>
    clear HLS
    obtain ⟨i, rfl, hi1, hi2, hL⟩ := hrel
    have HL : Hid (LS w2 f1 f2 a1 a2 b1 b2 m pl l1 l2 k1 k2 T T2 vs ds ps wr) := hL
    have c1 := hL.c1
    have m24 : m ≤ 24 := HP.out.2.2.2.2.2.1
    by_cases hlt : i < m
    · have hd := hL.ds.2.2.2 (by have := HP.out.2.2.2.2.2.2.2.2.2.1; omega)
      obtain ⟨bb, oo, rfl, hc⟩ := hd
      obtain ⟨h, hh⟩ : ∃ h, h = i - 1 := ⟨_, rfl⟩
      have hle := HP.out.2.2.2.2.2.2.2.2.2.2.2 h (by omega)
      have hdl := HP.out.2.2.2.2.2.2.2.2.2.1
      have cc1 := hc i (by omega)
      have cc2 := hc h (by omega)
      rw [show h + 1 = i by omega] at hle
      generalize ds[i]?.getD 0 = di at *
      generalize ds[h]?.getD 0 = dh at *
      have hni : ¬ di < dh := by omega
      have hwr : IntKind.i64.wrap ((i : Int) - 1) = (h : Int) := by
        rw [show (i : Int) - 1 = (h : Int) by omega]
        exact Go.IntWalk.i64_in _ (by omega)
      have i0 : (0 : Int) ≤ (i : Int) := by omega
      have i1 : (i : Int) < (m : Int) := by omega
      have h0 : (0 : Int) ≤ (h : Int) := by omega
      have h1 : (h : Int) < (m : Int) := by omega
      have HI : Hid (i + 1 ≤ m + 1) := by show _ ≤ _; omega
      clear hc hle hL hh hdl hi2
      go_upto_region 15 with fail
      go_quiet (fail)
      have HLQ : Hid (LS w2 f1 f2 a1 (some ⟨bb, oo, none⟩) b1 b2 m pl l1 l2 k1 k2 T T2 vs ds ps (wr.drewN nq)) := HL.out.on (below_drewN (Below.refl _ _) nq)
      clear HL c1 cc1 cc2 hni hwr h0 h1
      generalize wr.drewN nq = w8 at *
      go_wp2_with fail
      go_roundw
      case rel => exact ⟨i + 1, by go_num, by omega, HI.out, HLQ.out⟩
      case measure => simp [intOf]; omega
    · have hr17 : bits .andNot .u64 (T2 : Int) (T : Int) = 0 := by
        obtain ⟨-, -, q3, q4, q5, -⟩ := HP.out
        rw [BM.bits_andNot_u64_nat _ _ q5 q4, q3]
        rfl
      have hcap : (pl : Int) ≤ (k1 : Int) := by
        have h1 := hL.vs.1
        have h2 := HP.out.2.2.2.2.2.2.1
        have h3 := HP.out.2.2.2.2.2.2.2.2.1
        omega
      have hpl0 : (0 : Int) ≤ (pl : Int) := by omega
      have HIN : Hid (∀ A, Below wr.heap.size wr A → Calls Try.prog 19 #[.slice b1 pl l1, .slice a1 pl k1] A fun e w' => e = .returned (.bool true) ∧ Below A.heap.size A w') := fun A hA => by
        have hq := HL.out.on hA
        have h8 := HP.out.2.2.2.2.2.2.2.1
        have h7 := HP.out.2.2.2.2.2.2.1
        have h9 := HP.out.2.2.2.2.2.2.2.2.1
        have h11 := HP.out.2.2.2.2.2.2.2.2.2.2.1
        have := ints_any (.slice b1 pl l1) (.slice a1 pl k1) ps (vs.take pl) A ⟨b1, l1, by rw [h11], hq.ps⟩ (rowAt_take hq.vs (by omega))
        rwa [decide_eq_true h8] at this
      have HCS : Hid (∀ A, Below wr.heap.size wr A → A.cell? ⟨f2, 0, none⟩ = some (.slice b1 pl l1) ∧ A.cell? ⟨f1, 0, none⟩ = some (.slice a1 m k1) ∧ A.cell? ⟨f2, 2, none⟩ = some (.int .u64 (T2 : Nat)) ∧ A.cell? ⟨f1, 2, none⟩ = some (.int .u64 (T : Nat))) := fun A hA => by
        have hq := HL.out.on hA
        exact ⟨hq.p0, hq.c0, hq.p2, hq.c2⟩
      have HB : Hid (Below w.heap.size w wr) := below_on HW2.out hL.bel
      have c0 := hL.c0
      have p0 := hL.p0
      obtain ⟨g1, g2, g3, g4⟩ := HCS.out wr.drew (Below.refl _ wr).drew
      clear hL HL HP HW2 hi1 hi2 m24
      go_upto_region 17 with fail
      go_region_held3 (fun W => W.cell? ⟨f2, 0, none⟩ = some (.slice b1 pl l1) ∧ W.cell? ⟨f1, 0, none⟩ = some (.slice a1 m k1) ∧ W.cell? ⟨f2, 2, none⟩ = some (.int .u64 (T2 : Nat)) ∧ W.cell? ⟨f1, 2, none⟩ = some (.int .u64 (T : Nat))) (first | exact HCS.out _ H7.out | go_keep) (first
        | (go_at_call 19; refine (HIN.out _ (Below.refl _ wr).drew).mono ?_; rintro e w7 ⟨rfl, hb7⟩; have H7 : Hid (Below wr.heap.size wr w7) := below_of_drew hb7; clear hb7; obtain ⟨g71, g72, g73, g74⟩ := HCS.out w7 H7.out))
      all_goals (go_wp2_with fail; go_ret)
      all_goals exact ⟨rfl, below_on HB.out H7.out⟩
end Go.Proofs.Ytmkpcidgiobpeaa
