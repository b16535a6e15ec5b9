/-
  The walk of the law WitnessFar.
-/
import Derived.Test.YtmkpcidgiobpeaaMmWitFarM
import Derived.BigQuiet
import Derived.Deep.QuietTactic
namespace Go.Proofs.Ytmkpcidgiobpeaa
open Go.RowKit

set_option maxHeartbeats 600000 in
set_option maxRecDepth 100000 in
theorem far_walk (n : Int) (v : Value) (xs : List Stp) (fr : Int) (w : World) (hn0 : 0 ≤ n) (hn1 : n ≤ 255) (hch : Stps w v xs) (hfr0 : 0 ≤ fr) (hfr1 : fr ≤ 255) :
    Calls Try.prog 6 #[.int .u8 n, v, .int .u8 fr] w fun e w' => e = .returned (.bool true) ∧ Below w.heap.size w w' := by
  have haw := awake13_any w
  have HMD : Hid (∀ W, Below w.heap.size w W → Calls Try.prog 9 #[.int .u8 n, v] W fun e w' => ∃ p q, e = .returned (.tuple #[.pointer (some ⟨p, 0, none⟩), .pointer (some ⟨q, 0, none⟩)]) ∧ ∃ N, (1 ≤ N ∧ N ≤ 24) ∧ St W W.heap.size p q N (XM.made N xs (min xs.length 400)) (XM.made N xs (min xs.length 400)) w') := fun W hW => madeX_any n v xs W hn0 hn1 (hch.on hW)
  have HMM : Hid (∀ N, XM.Mesh N (XM.made N xs (min xs.length 400))) := fun N => XM.made_mesh N xs _
  obtain ⟨un, rfl⟩ : ∃ un : Nat, fr = un := ⟨fr.toNat, by omega⟩
  clear hn0 hn1 hfr0
  obtain ⟨ao, cap, rfl, -, -⟩ := hch
  generalize xs.length = L0 at *
  go_enter Try.func6, Try.ntmps6
  go_wp2_with fail
  refine haw.mono ?_
  rintro e w1 ⟨rfl, hb1⟩
  clear haw
  go_wp2_with fail
  refine (HMD.out w1 hb1).mono ?_
  rintro e w2 ⟨p, q, rfl, N, ⟨hN1, hN2⟩, hS2⟩
  have hMD := HMM.out N
  generalize XM.made N xs (min L0 400) = D at *
  have HW2 : Hid (Below w.heap.size w w2) := hb1.trans (hS2.bel.mono hb1.size)
  have HS2 : Hid (St w1 w1.heap.size p q N D D w2 ∧ XM.Mesh N D ∧ N ≤ 24) := ⟨hS2, hMD, hN2⟩
  have x0 := hS2.xq.c0
  obtain ⟨s, hs⟩ : ∃ s, s = un % N := ⟨_, rfl⟩
  have hN0 : ¬ N = 0 := by omega
  have hN0I : ¬ (N : Int) = 0 := by omega
  have hrs : (un : Int).tmod (N : Int) = (s : Int) := by rw [hs, Int.tmod_eq_emod_of_nonneg (by omega)]; omega
  have hrs2 : (un : Int) % (N : Int) = (s : Int) := by rw [hs]; omega
  have hsN : s < N := by rw [hs]; exact Nat.mod_lt _ (by omega)
  have hf := find_ok (O := 0) hS2.xp hMD hN2 hsN (by decide) (by have := congrFun WM.out_none s; exact this) 4611686018427387905 24
  have HSN : Hid (s < N) := hsN
  clear HMD HMM hb1 hS2 hMD hN1 hN2 hs hsN
  go_upto_region 7 with fail
  clear x0 hrs hrs2 hN0 hN0I hfr1
  go_wp2_with fail
  refine hf.mono ?_
  rintro e w3 ⟨sv, dv, T, rfl, M, hG, hT, hsv, hdv, hb3⟩
  obtain ⟨a1, k1, rfl, hv1⟩ := hsv.row
  obtain ⟨a2, k2, rfl, hv2⟩ := hdv.row
  obtain ⟨m, hm⟩ : ∃ m, m = M.length := ⟨_, rfl⟩
  rw [WM.vsL_len, WM.dsL_len, ← hm]
  obtain ⟨W4, hW4⟩ : ∃ W4, W4 = w3.alloc (.cells #[.slice a1 m k1, .slice a2 m k2, .int .u64 (T : Nat)] 32) := ⟨_, rfl⟩
  have hb4 : Below w3.heap.size w3 W4 := by rw [hW4]; exact (Below.refl _ _).alloc (Nat.le_refl _) _
  have c0 : W4.cell? ⟨w3.heap.size, 0, none⟩ = some (.slice a1 m k1) := by rw [hW4]; simp
  have c1 : W4.cell? ⟨w3.heap.size, 1, none⟩ = some (.slice a2 m k2) := by rw [hW4]; simp
  have c2 : W4.cell? ⟨w3.heap.size, 2, none⟩ = some (.int .u64 (T : Nat)) := by rw [hW4]; simp
  have hb24 : Below w2.heap.size w2 W4 := below_on hb3 hb4
  have H4 : Hid (Below w2.heap.size w2 W4 ∧ WM.Got N D s (WM.outOf 0) (DM.norm 4611686018427387905) 24 M ∧ WM.TT N D (WM.outOf 0) M T ∧ RowAt .i64 W4 a1 k1 (WM.vsL M) ∧ RowAt .i64 W4 a2 k2 (WM.dsL M) ∧ m = M.length ∧ m ≤ 24) := ⟨hb24, hG, hT, hv1.below hb4, hv2.below hb4, hm, by rw [hm]; exact hG.len⟩
  have HC4 : Hid (W4.cell? ⟨w3.heap.size, 0, none⟩ = some (.slice a1 m k1) ∧ W4.cell? ⟨w3.heap.size, 1, none⟩ = some (.slice a2 m k2) ∧ W4.cell? ⟨w3.heap.size, 2, none⟩ = some (.int .u64 (T : Nat))) := ⟨c0, c1, c2⟩
  have hall := xall_any (HS2.out.1.on hb24).xq HS2.out.2.1 HS2.out.2.2
  clear hf hb3 hb4 hb24 hsv hdv hv1 hv2 hG hT hm
  go_upto_region 8 with fail
  rw [← hW4]
  clear hW4
  generalize w3.heap.size = f at *
  have hz := zeroT
  have HZ : Hid (zT.size = 576) := zT_size
  generalize zT = Z0 at *
  go_wp2_with fail
  refine hall.mono ?_
  rintro e w5 ⟨TB, rfl, hTB, hb5⟩
  have HTB : Hid (∀ a b : Nat, a < N → b < N → XM.Far D N a b (TB a b)) := hTB
  have HTL : Hid ((tabCells TB).toArray.size = 576) := by
    show _ = _
    rw [List.size_toArray]
    exact tabCells_len TB
  have HTO : Hid ((tabCells TB).toArray.all (·.oneCell') = true) := all_one (tabCells_one TB)
  have HTN : Hid (TMem (w5.alloc (.cells (tabCells TB).toArray 50)) w5.heap.size TB) := tmem_new w5 TB _
  have HB5 : Hid (Below W4.heap.size W4 w5) := hb5
  clear hall hb5 hTB c0 c1 c2
  generalize tabCells TB = TC at *
  go_wp2_with (refine wpList_store_row rfl 50 (.tmp 12) (.tmp 52) rfl w5.heap.size TC.toArray rfl rfl 50 Z0 (heap_alloc_last w5 _) (by rw [HTL.out]; exact infoT) (by rw [HZ.out, HTL.out]) HTO.out ?_; rw [World.setRow_alloc_new])
  obtain ⟨A0, hA0⟩ : ∃ A0, A0 = w5.alloc (.cells TC.toArray 50) := ⟨_, rfl⟩
  have hs0 : A0.heap.size = w5.heap.size + 1 := by rw [hA0]; simp
  have HSN0 : Hid (Sn A0 (fun v => WM.has (M.take 0) v) (A0.alloc (.cells #[.bool false, .bool false, .bool false, .bool false, .bool false, .bool false, .bool false, .bool false, .bool false, .bool false, .bool false, .bool false, .bool false, .bool false, .bool false, .bool false, .bool false, .bool false, .bool false, .bool false, .bool false, .bool false, .bool false, .bool false] 57))) := sn_new A0 57
  rw [← hA0] at HTN ⊢
  have hb50 : Below w5.heap.size w5 A0 := by rw [hA0]; exact (Below.refl _ _).alloc (Nat.le_refl _) _
  have HA : Hid (∀ A, Below A0.heap.size A0 A → (A.cell? ⟨q, 0, none⟩ = some (.int .i64 (N : Nat)) ∧ A.cell? ⟨f, 0, none⟩ = some (.slice a1 m k1) ∧ A.cell? ⟨f, 1, none⟩ = some (.slice a2 m k2) ∧ A.cell? ⟨f, 2, none⟩ = some (.int .u64 (T : Nat))) ∧ TMem A w5.heap.size TB ∧ RowAt .i64 A a1 k1 (WM.vsL M) ∧ RowAt .i64 A a2 k2 (WM.dsL M) ∧ Below w.heap.size w A) := fun A hA => by
    have hb4A : Below W4.heap.size W4 A := below_on (below_on HB5.out hb50) hA
    have h2A : Below w2.heap.size w2 A := below_on H4.out.1 hb4A
    obtain ⟨d0, d1, d2⟩ := HC4.out
    exact ⟨⟨(HS2.out.1.on h2A).xq.c0, (hb4A.cell (p := ⟨f, 0, none⟩) (cell_lt d0)).trans d0, (hb4A.cell (p := ⟨f, 1, none⟩) (cell_lt d1)).trans d1, (hb4A.cell (p := ⟨f, 2, none⟩) (cell_lt d2)).trans d2⟩, HTN.out.on hA, H4.out.2.2.2.1.below hb4A, H4.out.2.2.2.2.1.below hb4A, below_on HW2.out h2A⟩
  have HFA : Hid (∀ i, i < m → ∃ v : Nat, v < N ∧ (WM.vsL M)[i]?.getD 0 = (v : Int) ∧ (WM.dsL M)[i]?.getD 0 = TB s v ∧ WM.has (M.take i) v = false ∧ ∀ u, WM.has (M.take (i + 1)) u = (WM.has (M.take i) u || decide (u = v))) := fun i hi => WM.far_at HS2.out.2.1 HSN.out H4.out.2.1.seq HTB.out (by rw [← H4.out.2.2.2.2.2.1]; exact hi)
  have HFB : Hid (∀ v, v < N → WM.has M v = decide (TB s v < 4611686018427387906) ∧ BM.has T (v : Int) = WM.has M v) := fun v hv => WM.far_all HS2.out.2.1 HSN.out HS2.out.2.2 H4.out.2.1 HTB.out H4.out.2.2.1 hv
  have HM : Hid (m = M.length ∧ m ≤ 24 ∧ N ≤ 24 ∧ s < 24 ∧ T < 18446744073709551616 ∧ (WM.vsL M).length = m ∧ (WM.dsL M).length = m ∧ M.take m = M) := by
    obtain ⟨-, -, q3, -, -, q6, q7⟩ := H4.out
    have h1 := HS2.out.2.2
    have h2 := HSN.out
    have h3 := q3.1
    exact ⟨q6, q7, h1, by omega, by omega, by rw [WM.vsL_len, q6], by rw [WM.dsL_len, q6], by rw [q6]; exact List.take_length⟩
  clear hA0 hz HZ HTL HTO HTN HB5 HTB HC4 H4 HS2 HW2 hb50 HSN
  generalize A0.alloc (.cells #[.bool false, .bool false, .bool false, .bool false, .bool false, .bool false, .bool false, .bool false, .bool false, .bool false, .bool false, .bool false, .bool false, .bool false, .bool false, .bool false, .bool false, .bool false, .bool false, .bool false, .bool false, .bool false, .bool false, .bool false] 57) = A1 at *
  rw [← hs0]
  clear hs0
  generalize WM.vsL M = vs at *
  generalize WM.dsL M = ds at *
  generalize w5.heap.size = fb at *
  go_loopw [14] (fun iv wr => ∃ i : Nat, iv = .int .i64 (i : Nat) ∧ i ≤ m ∧ Sn A0 (fun v => WM.has (M.take i) v) wr) (fun iv _ => m - (intOf iv).toNat)
  case atStart => exact ⟨0, rfl, Nat.zero_le _, HSN0.out⟩
  case round =>
    clear HSN0
    obtain ⟨i, rfl, hi, hSn⟩ := hrel
    obtain ⟨⟨x0, c0, c1, c2⟩, htb, hvs, hds, hbw⟩ := HA.out wr hSn.bl
    have HS : Hid (Sn A0 (fun v => WM.has (M.take i) v) wr) := hSn
    by_cases hlt : i < m
    · obtain ⟨v, hvN, ev, ed, hno, hnx⟩ := HFA.out i hlt
      obtain ⟨q6, q7, q8, q9, q10, q11, q12, -⟩ := HM.out
      obtain ⟨b1, o1, rfl, hc1⟩ := hvs.2.2.2 (by omega)
      obtain ⟨b2, o2, rfl, hc2⟩ := hds.2.2.2 (by omega)
      have cv := hc1 i (by omega)
      have cd := hc2 i (by omega)
      rw [ev] at cv
      rw [ed] at cd
      have csn := hSn.c v (by omega)
      rw [hno] at csn
      have fsn := hSn.fz v
      have ctb := htb.c s v (by omega) (by omega)
      have HNX : Hid (∀ r, Sn A0 (fun v => WM.has (M.take (i + 1)) v) ((wr.drewN r).setCell ⟨A0.heap.size, v, none⟩ (.bool true))) := fun r => (hSn.on (below_drewN (Below.refl _ _) r)).set (by omega) hnx
      generalize TB s v = dv at *
      have HI : Hid (i + 1 ≤ m) := hlt
      have i1 : (i : Int) < (m : Int) := by omega
      have i0 : (0 : Int) ≤ (i : Int) := by omega
      have v0 : ¬ (v : Int) < 0 := by omega
      have v1 : ¬ (N : Int) ≤ (v : Int) := by omega
      have v2 : (v : Int) < 24 := by omega
      have s2 : (s : Int) < 24 := by omega
      have hne : (dv != dv) = false := by simp
      clear hc1 hc2 hvs hds htb hbw ev ed hno hnx hSn q6 q8 q10 q11 q12 c2 hi
      generalize A0.heap.size = sb at *
      go_upto_region 16 with fail
      go_quiet (fail)
      have csn' : (wr.drewN nq).cell? ⟨sb, v, none⟩ = some (.bool false) := csn
      have fsn' : (wr.drewN nq).frozen? ⟨sb, v, none⟩ = false := fsn
      have HN1 : Hid (Sn A0 (fun v => WM.has (M.take (i + 1)) v) ((wr.drewN nq).setCell ⟨sb, v, none⟩ (.bool true))) := HNX.out nq
      clear csn fsn cv cd ctb x0 c0 c1 hne HNX HS
      generalize wr.drewN nq = w8 at *
      go_wp2_with fail
      go_roundw
      case rel => exact ⟨i + 1, by go_num, HI.out, HN1.out⟩
      case measure =>
        have := HI.out
        simp [intOf]
        omega
    · obtain rfl : i = m := by omega
      have HS1 : Hid (Sn A0 (fun v => WM.has M v) wr) := by
        have := HS.out
        rwa [HM.out.2.2.2.2.2.2.2] at this
      clear HS hSn hvs hds htb hbw HFA hi hlt x0 c1 c2
      go_wp2_with fail
      clear c0
      go_loopw [16] (fun iv wr => ∃ u : Nat, iv = .int .i64 (u : Nat) ∧ u ≤ N ∧ Sn A0 (fun v => WM.has M v) wr) (fun iv _ => N - (intOf iv).toNat)
      case atStart => exact ⟨0, rfl, Nat.zero_le _, HS1.out⟩
      case round =>
        clear HS1
        rename_i wr0 hwr0
        obtain ⟨u, rfl, hu, hSn⟩ := hrel
        obtain ⟨⟨x0, c0, c1, c2⟩, htb, hvs, hds, hbw⟩ := HA.out wr hSn.bl
        have HS : Hid (Sn A0 (fun v => WM.has M v) wr) := hSn
        by_cases hlt : u < N
        · obtain ⟨hb1, hb2⟩ := HFB.out u hlt
          obtain ⟨q6, q7, q8, q9, q10, q11, q12, -⟩ := HM.out
          have csn := hSn.c u (by omega)
          have ctb := htb.c s u (by omega) (by omega)
          have hh := fun W => has_any T (u : Int) q10 W
          rw [hb2] at hh
          have HU : Hid (u + 1 ≤ N) := hlt
          have u1 : (u : Int) < (N : Int) := by omega
          have u2 : (u : Int) < 24 := by omega
          have u0 : (0 : Int) ≤ (u : Int) := by omega
          have s2 : (s : Int) < 24 := by omega
          have HSQ : Hid (∀ r, Sn A0 (fun v => WM.has M v) (wr.drewN r)) := fun r => HS.out.on (below_drewN (Below.refl _ _) r)
          generalize TB s u = dv at *
          generalize WM.has M u = bh at *
          clear hvs hds htb hbw hb2 hSn q6 q7 q9 q10 q11 q12 c0 c1 HS hu
          generalize A0.heap.size = sb at *
          by_cases hd : dv < 4611686018427387906
          · rw [decide_eq_true hd] at hb1
            subst hb1
            go_upto_region 22 with fail
            go_quiet ((go_at_call 21; exact Calls.quiet_of_same (hh _)))
            have HS2 := HSQ.out nq
            clear csn ctb hh x0 c2 HSQ
            generalize wr.drewN nq = w8 at *
            have HS2 : Hid (Sn A0 (fun v => WM.has M v) w8) := HS2
            go_wp2_with fail
            go_roundw
            case rel => exact ⟨u + 1, by go_num, HU.out, HS2.out⟩
            case measure =>
              have := HU.out
              simp [intOf]
              omega
          · rw [decide_eq_false hd] at hb1
            subst hb1
            go_upto_region 22 with fail
            go_quiet ((go_at_call 21; exact Calls.quiet_of_same (hh _)))
            have HS2 := HSQ.out nq
            clear csn ctb hh x0 c2 HSQ
            generalize wr.drewN nq = w8 at *
            have HS2 : Hid (Sn A0 (fun v => WM.has M v) w8) := HS2
            go_wp2_with fail
            go_roundw
            case rel => exact ⟨u + 1, by go_num, HU.out, HS2.out⟩
            case measure =>
              have := HU.out
              simp [intOf]
              omega
        · obtain rfl : u = N := by omega
          have HE : Hid (Below w.heap.size w wr) := hbw
          clear hvs hds htb hbw hSn HS HA HFB c0 c1 c2 hu hlt
          go_wp2_with fail
          go_ret
          exact ⟨rfl, HE.out⟩
end Go.Proofs.Ytmkpcidgiobpeaa
