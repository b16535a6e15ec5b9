/-
  WitSearch, WitSpare.
-/
import Derived.Test.YtkcfepppnclniaaGreatDoorMmWitPick
section
/-
  The walk of the document's Search (layer 13).
-/
namespace Go.Proofs.YtkcfepppnclniaaGreatDoor
open Go.RowKit
set_option maxRecDepth 100000 in
set_option maxHeartbeats 4000000 in
/-- The document's Search. -/
theorem rsearch_any {w : World} {p N : Nat} {D : Nat → Nat → Int} (hg : XMem w p N D) (hm : XM.Mesh N D) (hN : N ≤ 24) (s O : Nat) (hs : s < N) (hO : O < 18446744073709551616) (hsO : BM.has O (s : Int) = false) (most k : Int) :
    Calls Tryz.prog 106 #[.pointer (some ⟨p, 0, none⟩), .int .i64 s, .int .u64 O, .int .i64 most, .int .i64 k] w fun e w' => ∃ sv dv tv L bs, e = .returned (.agg #[sv, dv, tv]) ∧ WM.Got N D s (WM.outOf O) (DM.norm most) k.toNat L ∧ Row .i64 w' sv (WM.vsL L) ∧ Row .i64 w' dv (WM.dsL L) ∧
      (∃ g, tv = .slice (some ⟨g, 0, none⟩) N N ∧ w'.ownsRow w.heap.size 4 1 tv N ((bs : List Bool).map Value.bool)) ∧ (∀ v : Nat, v < N → (bs[v]?.getD false = true ↔ WM.Tch N D (WM.outOf O) L v)) ∧ Below w.heap.size w w' := by
  have hmb := run_make_row' (P := Tryz.prog) 75 4 (.bool false) 1 Tryz.underlying75 infoBW rfl .i64 .i64 N (by omega) (by omega)
  have c0 := (hg.on (((Below.refl _ w).alloc (Nat.le_refl _) (.cells #[.slice none 0 0, .slice none 0 0, .slice none 0 0] 139)))).c0
  have HX : Hid (∀ W, Below w.heap.size w W → XMem W p N D) := fun W hW => hg.on hW
  have HM : Hid (XM.Mesh N D) := hm
  have h3 := rf_new w N hN
  obtain ⟨i0, hi0, hz0, hz1, hz2⟩ := info_parts infoIW
  obtain ⟨X, hX⟩ : ∃ X, X = DM.norm most := ⟨_, rfl⟩
  have HX2 : Hid (DM.norm most = X) := hX.symm
  obtain ⟨WW, hWW⟩ : ∃ WW : Nat → Bool, WW = WM.outOf O := ⟨_, rfl⟩
  have HWW : Hid (∀ v : Nat, BM.has O (v : Int) = WW v) := fun v => by rw [hWW]; rfl
  have HWS : Hid (WW s = false) := by rw [hWW]; exact hsO
  have HNO : Hid (∀ v : Nat, Calls Tryz.prog 118 #[.int .u64 O, .int .i64 v] w fun e w' => e = .returned (.bool (BM.has O v)) ∧ w' = w) := fun v => rhas3_any O v hO w
  have HHO : Hid (∀ (W : World) (v : Nat), Calls Tryz.prog 118 #[.int .u64 O, .int .i64 v] W fun e w' => e = .returned (.bool (WW v)) ∧ w' = W) := fun W v => by
    rw [← HWW.out]
    exact rhas3_any O v hO W
  have hrn := rnorm_any most
  rw [← hX] at hrn ⊢
  rw [← hWW]
  clear hg hm hX hWW hsO HNO HWW
  go_enter Tryz.func106, Tryz.ntmps106
  go_upto_block 0 with fail
  obtain ⟨w3, hw3, hR⟩ := h3
  rw [← hw3]
  clear hw3 c0 hmb
  have HR3 : Hid (RF w w.heap.size N (.slice none 0 0) (.slice none 0 0) [] [] (List.replicate N false) w3) := hR
  clear hR
  generalize hbf : w.heap.size + 1 + 1 = bf at *
  have HBF : Hid (w.heap.size + 2 = bf) := hbf
  clear hbf
  go_cut [12, 13, 14, 15] from 24 to 83 (fun _ _ _ _ wx => ∃ L sv dv, WM.Got N D s WW X k.toNat L ∧ RF w w.heap.size N sv dv (WM.vsL L) (WM.dsL L) (List.replicate N false) wx)
  case first =>
    go_wp2_with fail
    go_loopw [12] (fun _ wr => ∃ L sv dv, WM.Seq N D s WW X L ∧ L.length ≤ k.toNat ∧ RF w w.heap.size N sv dv (WM.vsL L) (WM.dsL L) (List.replicate N false) wr) (fun _ wr => N + 1 - lenAt wr bf)
    case atStart => exact ⟨[], _, _, .nil, Nat.zero_le _, HR3.out⟩
    case round =>
      clear HR3
      obtain ⟨L, sv, dv, hq, hlk, hR⟩ := hrel
      obtain ⟨a1, c1, rfl⟩ : ∃ a c, sv = .slice a L.length c := by
        obtain ⟨a, c, e, -⟩ := hR.os.row
        exact ⟨a, c, by rw [e, WM.vsL_len]⟩
      obtain ⟨a2, c2, rfl⟩ : ∃ a c, dv = .slice a L.length c := by
        obtain ⟨a, c, e, -⟩ := hR.od.row
        exact ⟨a, c, by rw [e, WM.dsL_len]⟩
      have hLN : L.length ≤ N := hq.len hs HWS.out
      have HLA : Hid (lenAt wr bf = L.length) := by
        have := hR.lenAt
        rwa [WM.vsL_len, HBF.out] at this
      have HKEY : Hid (∀ i : Nat, WM.key D s L i = if L.length = 0 ∧ i = s then 0 else WM.sum D L i) := fun i => key_if D s L L.length i rfl
      obtain ⟨n, hn⟩ : ∃ n, n = L.length := ⟨_, rfl⟩
      have HNL : Hid (n = L.length) := hn
      rw [← hn] at hR hlk hLN HLA HKEY
      clear hn
      have d0 := hR.c0
      rw [HBF.out] at d0
      have HR : Hid (RF w w.heap.size N (.slice a1 n c1) (.slice a2 n c2) (WM.vsL L) (WM.dsL L) (List.replicate N false) wr) := hR
      clear hR
      have HQ : Hid (WM.Seq N D s WW X L) := hq
      clear hq
      by_cases hlt : (n : Int) < k
      · go_wp2_with fail
        go_loopw [12, 13, 14] (fun xv dv iv wr => ∃ (i : Nat) (x d : Int), i ≤ N ∧ xv = .int .i64 x ∧ dv = .int .i64 d ∧ iv = .int .i64 i ∧ WM.Pick N D s WW L i x d ∧ RF w w.heap.size N (.slice a1 n c1) (.slice a2 n c2) (WM.vsL L) (WM.dsL L) (List.replicate N false) wr) (fun _ _ iv _ => N - (intOf iv).toNat)
        case atStart => exact ⟨0, -1, _, Nat.zero_le _, rfl, rfl, rfl, WM.Pick.zero _ _ _ _ _, HR.out⟩
        case round =>
          clear d0
          obtain ⟨i, x, d, hi, rfl, rfl, rfl, hp, hR2⟩ := hrel
          have d0 := hR2.c0
          rw [HBF.out] at d0
          have x0 := (HX.out _ hR2.bel).c0
          have HP : Hid (WM.Pick N D s WW L i x d) := hp
          have HR2 : Hid (RF w w.heap.size N (.slice a1 n c1) (.slice a2 n c2) (WM.vsL L) (WM.dsL L) (List.replicate N false) wr) := hR2
          by_cases hl2 : i < N
          · have i1 : (i : Int) < (N : Int) := by omega
            have hh := rhas13_any _ _ (i : Int) _ hR2.os.row
            rw [WM.vsL_mem] at hh
            have hfr := WM.free_iff (W := WW) (L := L) hl2
            clear hp hR2
            cases e1 : WM.has L i with
            | true =>
              have HP2 : Hid (WM.Pick N D s WW L (i + 1) x d) := HP.out.skip (fun h => by rw [hfr, e1] at h; cases h.1)
              rw [e1] at hh
              clear e1 hfr
              go_wp2_with fail
              refine hh.mono ?_
              rintro e w' ⟨rfl, hw'⟩
              rw [hw']
              clear hh hw' w'
              go_wp2_with fail
              go_roundw
              case rel => exact ⟨i + 1, x, d, by omega, rfl, rfl, by go_num, HP2.out, HR2.out⟩
              case measure => simp [intOf]; omega
            | false =>
              rw [e1] at hh
              have ho := HHO.out wr i
              cases e2 : WW i with
              | true =>
                have HP2 : Hid (WM.Pick N D s WW L (i + 1) x d) := HP.out.skip (fun h => by rw [hfr, e2] at h; cases h.2)
                rw [e2] at ho
                clear e1 e2 hfr
                go_wp2_with fail
                refine hh.mono ?_
                rintro e w' ⟨rfl, hw'⟩
                rw [hw']
                clear hh hw' w'
                go_wp2_with fail
                refine ho.mono ?_
                rintro e w' ⟨rfl, hw'⟩
                rw [hw']
                clear ho hw' w'
                go_wp2_with fail
                go_roundw
                case rel => exact ⟨i + 1, x, d, by omega, rfl, rfl, by go_num, HP2.out, HR2.out⟩
                case measure => simp [intOf]; omega
              | false =>
                rw [e2] at ho
                have HFR : Hid (WM.Free N WW L i) := hfr.2 ⟨e1, e2⟩
                clear e1 e2 hfr
                have d1 := HR2.out.c1
                have d2 := HR2.out.c2
                rw [HBF.out] at d1 d2
                have hsum := rsum_any (HX.out _ HR2.out.bel) HM.out hN L _ _ (.slice (some ⟨w.heap.size + 1, 0, none⟩) N N) HR2.out.os.row HR2.out.od.row i
                have HTK : Hid (WM.key D s L i < d → WM.Pick N D s WW L (i + 1) (i : Nat) (WM.key D s L i)) := fun h => HP.out.take HFR.out h
                have HPS : Hid (d ≤ WM.key D s L i → WM.Pick N D s WW L (i + 1) x d) := fun h => HP.out.pass (by omega)
                have hke := HKEY.out i
                generalize WM.key D s L i = ky at *
                generalize WM.sum D L i = sm at *
                go_wp2_with fail
                refine hh.mono ?_
                rintro e w' ⟨rfl, hw'⟩
                rw [hw']
                clear hh hw' w'
                go_wp2_with fail
                refine ho.mono ?_
                rintro e w' ⟨rfl, hw'⟩
                rw [hw']
                clear ho hw' w'
                go_wp2_with fail
                refine hsum.mono ?_
                rintro e w4 ⟨rfl, hb4⟩
                clear hsum
                have hR4 := HR2.out.on hb4 (Nat.le_refl _)
                clear d0 d1 d2 x0 hb4
                have d0 := hR4.c0
                rw [HBF.out] at d0
                have HR4 : Hid (RF w w.heap.size N (.slice a1 n c1) (.slice a2 n c2) (WM.vsL L) (WM.dsL L) (List.replicate N false) w4) := hR4
                clear hR4
                by_cases hn0 : n = 0
                · have hn1 : ((n : Int) == 0) = true := beq_iff_eq.2 (by omega)
                  by_cases his : i = s
                  · rw [if_pos ⟨hn0, his⟩] at hke
                    have hee : ((i : Int) == (s : Int)) = true := beq_iff_eq.2 (by omega)
                    clear his hn0
                    by_cases hkl : (0 : Int) < d
                    · have HP2 : Hid (WM.Pick N D s WW L (i + 1) (i : Nat) (0 : Int)) := by
                        have := HTK.out (by rw [hke]; exact hkl)
                        rwa [hke] at this
                      clear HTK HPS hke
                      go_wp2_with fail
                      go_roundw
                      case rel => exact ⟨i + 1, (i : Nat), (0 : Int), by omega, rfl, rfl, by go_num, HP2.out, HR4.out⟩
                      case measure => simp [intOf]; omega
                    · have HP2 : Hid (WM.Pick N D s WW L (i + 1) x d) := HPS.out (by rw [hke]; omega)
                      clear HTK HPS hke
                      go_wp2_with fail
                      go_roundw
                      case rel => exact ⟨i + 1, x, d, by omega, rfl, rfl, by go_num, HP2.out, HR4.out⟩
                      case measure => simp [intOf]; omega
                  · rw [if_neg (fun h => his h.2)] at hke
                    have hee : ((i : Int) == (s : Int)) = false := beq_eq_false_iff_ne.2 (by omega)
                    clear his hn0
                    by_cases hkl : sm < d
                    · have HP2 : Hid (WM.Pick N D s WW L (i + 1) (i : Nat) sm) := by
                        have := HTK.out (by rw [hke]; exact hkl)
                        rwa [hke] at this
                      clear HTK HPS hke
                      go_wp2_with fail
                      go_roundw
                      case rel => exact ⟨i + 1, (i : Nat), sm, by omega, rfl, rfl, by go_num, HP2.out, HR4.out⟩
                      case measure => simp [intOf]; omega
                    · have HP2 : Hid (WM.Pick N D s WW L (i + 1) x d) := HPS.out (by rw [hke]; omega)
                      clear HTK HPS hke
                      go_wp2_with fail
                      go_roundw
                      case rel => exact ⟨i + 1, x, d, by omega, rfl, rfl, by go_num, HP2.out, HR4.out⟩
                      case measure => simp [intOf]; omega
                · rw [if_neg (fun h => hn0 h.1)] at hke
                  have hn1 : ((n : Int) == 0) = false := beq_eq_false_iff_ne.2 (by omega)
                  by_cases hkl : sm < d
                  · have HP2 : Hid (WM.Pick N D s WW L (i + 1) (i : Nat) sm) := by
                      have := HTK.out (by rw [hke]; exact hkl)
                      rwa [hke] at this
                    clear HTK HPS hke
                    go_wp2_with fail
                    go_roundw
                    case rel => exact ⟨i + 1, (i : Nat), sm, by omega, rfl, rfl, by go_num, HP2.out, HR4.out⟩
                    case measure => simp [intOf]; omega
                  · have HP2 : Hid (WM.Pick N D s WW L (i + 1) x d) := HPS.out (by rw [hke]; omega)
                    clear HTK HPS hke
                    go_wp2_with fail
                    go_roundw
                    case rel => exact ⟨i + 1, x, d, by omega, rfl, rfl, by go_num, HP2.out, HR4.out⟩
                    case measure => simp [intOf]; omega
          · obtain rfl : i = N := by omega
            clear hp hR2
            by_cases hx : x < 0
            · have HG : Hid (WM.Got i D s WW X k.toNat L) := ⟨HQ.out, by have := HNL.out; omega, .inr (HP.out.none hx X)⟩
              go_wp2_with fail
              go_meet
              exact ⟨L, _, _, HG.out, HR2.out⟩
            · obtain ⟨v, rfl, hv, hnx⟩ := HP.out.next hx
              have hc := hrn wr
              by_cases hd : X < d
              · have HG : Hid (WM.Got i D s WW X k.toNat L) := ⟨HQ.out, by have := HNL.out; omega, .inr (HP.out.far hx hd)⟩
                clear hnx
                go_wp2_with fail
                refine hc.mono ?_
                rintro e w' ⟨rfl, hw'⟩
                rw [hw']
                clear hc hw' w'
                go_wp2_with fail
                go_meet
                exact ⟨L, _, _, HG.out, HR2.out⟩
              · have HQ2 : Hid (WM.Seq i D s WW X (L ++ [(v, d)])) := .snoc HQ.out hnx (by omega)
                clear hnx
                go_wp2_with fail
                refine hc.mono ?_
                rintro e w' ⟨rfl, hw'⟩
                rw [hw']
                clear hc hw' w'
                have hgo := HR2.out.os
                go_wp2_with (at_builtin; refine wpList_append_at _ rfl _ _ 28 rfl .i64 (w.heap.size + 3) 3 i0 8 Tryz.underlying28 hi0 hz0 hz1 hz2 _ (WM.vsL L) rfl (HR2.out.os.alloc _) ⟨wr.heap.size, 0, none⟩ (v : Nat) 1 rfl (by unfold World.cell?; rw [heap_alloc_new]; rfl) (by rw [WM.vsL_len]; have := HNL.out; unfold maxLen; omega) (by rw [WM.vsL_len]; have := HNL.out; omega) (by have := HR2.out.sz; simp; omega) ?_)
                intro v1 w5 ho5 hg5 h35
                obtain ⟨a3, c3, rfl⟩ : ∃ a c, v1 = .slice a (n + 1) c := by
                  obtain ⟨a, c, e, -⟩ := ho5.row
                  exact ⟨a, c, by rw [e, List.length_append, WM.vsL_len, ← HNL.out]; rfl⟩
                obtain ⟨k0, kf, hR5⟩ := HR2.out.app1 (Nat.le_refl _) hg5 ho5 (by rw [World.size_alloc]; exact h35)
                rw [HBF.out] at k0 kf hR5
                have d1 := hR5.c1
                rw [HBF.out] at d1
                have HR5 : Hid (RF w w.heap.size i (.slice a3 (n + 1) c3) (.slice a2 n c2) (WM.vsL L ++ [((v : Nat) : Int)]) (WM.dsL L) (List.replicate i false) (w5.setCell ⟨bf, 0, none⟩ (.slice a3 (n + 1) c3))) := hR5
                clear hR5 ho5 hg5 h35 d0 x0 hgo
                go_upto_region 17 with fail
                clear k0 kf
                generalize w5.setCell ⟨bf, 0, none⟩ (.slice a3 (n + 1) c3) = w6 at *
                go_wp2_with (at_builtin; refine wpList_append_at _ rfl _ _ 28 rfl .i64 (w.heap.size + 3) 3 i0 8 Tryz.underlying28 hi0 hz0 hz1 hz2 _ (WM.dsL L) rfl (HR5.out.od.alloc _) ⟨w6.heap.size, 0, none⟩ d 1 rfl (by unfold World.cell?; rw [heap_alloc_new]; rfl) (by rw [WM.dsL_len]; have := HNL.out; unfold maxLen; omega) (by rw [WM.dsL_len]; have := HNL.out; omega) (by have := HR5.out.sz; simp; omega) ?_)
                intro v2 w7 ho7 hg7 h37
                obtain ⟨a4, c4, rfl⟩ : ∃ a c, v2 = .slice a (n + 1) c := by
                  obtain ⟨a, c, e, -⟩ := ho7.row
                  exact ⟨a, c, by rw [e, List.length_append, WM.dsL_len, ← HNL.out]; rfl⟩
                obtain ⟨k0, kf, hR7⟩ := HR5.out.app2 (Nat.le_refl _) hg7 ho7 (by rw [World.size_alloc]; exact h37)
                rw [HBF.out] at k0 kf hR7
                have HR7 : Hid (RF w w.heap.size i (.slice a3 (n + 1) c3) (.slice a4 (n + 1) c4) (WM.vsL (L ++ [(v, d)])) (WM.dsL (L ++ [(v, d)])) (List.replicate i false) (w7.setCell ⟨bf, 1, none⟩ (.slice a4 (n + 1) c4))) := by
                  rw [WM.vsL_snoc, WM.dsL_snoc]
                  exact hR7
                have HLE : Hid (lenAt (w7.setCell ⟨bf, 1, none⟩ (.slice a4 (n + 1) c4)) bf = n + 1) := by
                  have := hR7.lenAt
                  rw [HBF.out, List.length_append, WM.vsL_len, ← HNL.out] at this
                  exact this
                clear hR7 ho7 hg7 h37 d1
                go_wp2_with fail
                go_roundw
                case rel => exact ⟨L ++ [(v, d)], _, _, HQ2.out, by rw [List.length_append, ← HNL.out]; simp; omega, HR7.out⟩
                case measure =>
                  rw [HLE.out, HLA.out]
                  omega
      · have HG : Hid (WM.Got N D s WW X k.toNat L) := ⟨HQ.out, by have := HNL.out; omega, .inl (by have := HNL.out; omega)⟩
        go_wp2_with fail
        go_meet
        exact ⟨L, _, _, HG.out, HR.out⟩
  case rest =>
  obtain ⟨L, sv, dv, hgot, hR⟩ := hcut
  clear HR3 hrn
  obtain ⟨a1, c1, rfl⟩ : ∃ a c, sv = .slice a L.length c := by
    obtain ⟨a, c, e, -⟩ := hR.os.row
    exact ⟨a, c, by rw [e, WM.vsL_len]⟩
  obtain ⟨a2, c2, rfl⟩ : ∃ a c, dv = .slice a L.length c := by
    obtain ⟨a, c, e, -⟩ := hR.od.row
    exact ⟨a, c, by rw [e, WM.dsL_len]⟩
  have hLN : L.length ≤ N := hgot.seq.len hs HWS.out
  have HGT : Hid (WM.Got N D s WW X k.toNat L) := hgot
  have HTT : Hid (∀ v : Nat, v < N → (WM.tchB D WW L v L.length = true ↔ WM.Tch N D WW L v)) := fun v hv => WM.tchB_iff hv
  have HT0 : Hid (∀ v : Nat, WM.tchB D WW L v 0 = WM.has L v) := fun v => WM.tchB_zero
  have HTS : Hid (∀ v t : Nat, t < L.length → ∃ u : Nat, (WM.vsL L)[t]?.getD 0 = (u : Int) ∧ WM.tchB D WW L v (t + 1) = (WM.tchB D WW L v t || (!WW v && decide (D u v < 4611686018427387906)))) := fun v t ht => WM.tchB_step ht
  obtain ⟨n, hn⟩ : ∃ n, n = L.length := ⟨_, rfl⟩
  have HNL : Hid (n = L.length) := hn
  rw [← hn] at hR hLN HTT HTS
  clear hn hgot
  have HR : Hid (RF w w.heap.size N (.slice a1 n c1) (.slice a2 n c2) (WM.vsL L) (WM.dsL L) (List.replicate N false) wc) := hR
  clear hR
  have HBL : Hid (∀ (bs : List Bool) (W : World), RF w w.heap.size N (.slice a1 n c1) (.slice a2 n c2) (WM.vsL L) (WM.dsL L) bs W → ∀ q, RF w w.heap.size N (.slice a1 n c1) (.slice a2 n c2) (WM.vsL L) (WM.dsL L) bs (W.drewN q)) := fun bs W h q => h.on (below_drewN (Below.refl _ _) q) (Nat.le_refl _)
  go_wp2_with fail
  go_loopw [16] (fun iv wr => ∃ (j : Nat) (bs : List Bool), j ≤ N ∧ iv = .int .i64 j ∧ bs.length = N ∧ Hid (∀ v : Nat, v < j → bs[v]?.getD false = WM.tchB D WW L v n) ∧ RF w w.heap.size N (.slice a1 n c1) (.slice a2 n c2) (WM.vsL L) (WM.dsL L) bs wr) (fun iv _ => N - (intOf iv).toNat)
  case atStart => exact ⟨0, _, Nat.zero_le _, rfl, by simp, fun v hv => absurd hv (by omega), HR.out⟩
  case round =>
    clear HR
    obtain ⟨j, bs, hj, rfl, hbl, HV, hR⟩ := hrel
    have x0 := (HX.out _ hR.bel).c0
    have d0 := hR.c0
    have d2 := hR.c2
    rw [HBF.out] at d0 d2
    have HR2 : Hid (RF w w.heap.size N (.slice a1 n c1) (.slice a2 n c2) (WM.vsL L) (WM.dsL L) bs wr) := hR
    by_cases hl : j < N
    · have j1 : (j : Int) < (N : Int) := by omega
      have j0 : (0 : Int) ≤ (j : Int) := by omega
      have hh := rhas13_any _ _ (j : Int) wr.drew hR.os.row
      rw [WM.vsL_mem] at hh
      have ct : wr.cell? ⟨w.heap.size + 1, j, none⟩ = some (.bool (bs[j]'(by omega))) := by
        rw [World.ownsRow.cellAt hR.tb j (by omega)]
        simp [show j < bs.length by omega]
      have ft : wr.frozen? ⟨w.heap.size + 1, j, none⟩ = false := World.ownsRow.frozenAt hR.tb j
      have ctd : wr.drew.cell? ⟨w.heap.size + 1, j, none⟩ = some (.bool (bs[j]'(by omega))) := ct
      have ftd : wr.drew.frozen? ⟨w.heap.size + 1, j, none⟩ = false := ft
      have d0d : wr.drew.cell? ⟨bf, 0, none⟩ = some (.slice a1 n c1) := d0
      have d2d : wr.drew.cell? ⟨bf, 2, none⟩ = some (.slice (some ⟨w.heap.size + 1, 0, none⟩) N N) := d2
      have HM2 : Hid (RF w w.heap.size N (.slice a1 n c1) (.slice a2 n c2) (WM.vsL L) (WM.dsL L) (bs.set j (WM.has L j)) (wr.setCell ⟨w.heap.size + 1, j, none⟩ (.bool (WM.has L j)))) := hR.mark (Nat.le_refl _) j _
      have hk0 : (wr.setCell ⟨w.heap.size + 1, j, none⟩ (.bool (WM.has L j))).drew.cell? ⟨bf, 0, none⟩ = some (.slice a1 n c1) := by
        have := HM2.out.c0
        rw [HBF.out] at this
        exact this
      have hk2 : (wr.setCell ⟨w.heap.size + 1, j, none⟩ (.bool (WM.has L j))).drew.cell? ⟨bf, 2, none⟩ = some (.slice (some ⟨w.heap.size + 1, 0, none⟩) N N) := by
        have := HM2.out.c2
        rw [HBF.out] at this
        exact this
      generalize bs[j]'(by omega) = old at *
      have HHS : Hid (WM.has L j = WM.tchB D WW L j 0) := (HT0.out j).symm
      generalize WM.has L j = b at *
      clear hR
      go_upto_region 21 with fail
      go_region_held3 (fun w' => w'.cell? ⟨bf, 0, none⟩ = some (.slice a1 n c1) ∧ w'.cell? ⟨bf, 2, none⟩ = some (.slice (some ⟨w.heap.size + 1, 0, none⟩) N N)) (first | go_keep | exact ⟨hk0, hk2⟩) (first
        | (go_at_call 105; refine hh.mono ?_; rintro e w4 ⟨rfl, rfl⟩))
      clear ct ft ctd ftd d0d d2d hk0 hk2 hh d0 d2 x0 HR2
      have HM3 : Hid (RF w w.heap.size N (.slice a1 n c1) (.slice a2 n c2) (WM.vsL L) (WM.dsL L) (bs.set j b) (wr.setCell ⟨w.heap.size + 1, j, none⟩ (.bool b)).drew) := HBL.out _ _ HM2.out 1
      clear HM2
      generalize (wr.setCell ⟨w.heap.size + 1, j, none⟩ (.bool b)).drew = w5 at *
      go_wp2_with fail
      go_loopw [17] (fun iv wr => ∃ t : Nat, t ≤ n ∧ iv = .int .i64 t ∧ RF w w.heap.size N (.slice a1 n c1) (.slice a2 n c2) (WM.vsL L) (WM.dsL L) (bs.set j (WM.tchB D WW L j t)) wr) (fun iv _ => n - (intOf iv).toNat)
      case atStart => exact ⟨0, Nat.zero_le _, rfl, by rw [← HHS.out]; exact HM3.out⟩
      case round =>
        clear HM3
        obtain ⟨t, ht, rfl, hR3⟩ := hrel
        have d0 := hR3.c0
        have d2 := hR3.c2
        rw [HBF.out] at d0 d2
        have HR3 : Hid (RF w w.heap.size N (.slice a1 n c1) (.slice a2 n c2) (WM.vsL L) (WM.dsL L) (bs.set j (WM.tchB D WW L j t)) wr) := hR3
        by_cases hl3 : t < n
        · have t1 : (t : Int) < (n : Int) := by omega
          have t0 : (0 : Int) ≤ (t : Int) := by omega
          have ho := HHO.out wr j
          obtain ⟨u, u1, u2⟩ := HTS.out j t hl3
          cases e2 : WW j with
          | true =>
            rw [e2] at ho u2
            have HE : Hid (WM.tchB D WW L j (t + 1) = WM.tchB D WW L j t) := by
              show _ = _
              rw [u2]
              simp
            clear u2 u1 hR3 e2 d2
            go_wp2_with fail
            refine ho.mono ?_
            rintro e w' ⟨rfl, hw'⟩
            rw [hw']
            clear ho hw' w'
            go_wp2_with fail
            go_roundw
            case rel => exact ⟨t + 1, by omega, by go_num, by rw [HE.out]; exact HR3.out⟩
            case measure => simp [intOf]; omega
          | false =>
            rw [e2] at ho u2
            have hat := rat_any (HX.out _ hR3.bel) HM.out hN (u : Int) (j : Int)
            rw [XM.atE_nat HM.out u j] at hat
            obtain ⟨ax, cx, ex, hrow⟩ := hR3.os.row
            obtain ⟨rfl, -, rfl⟩ := Value.slice.inj ex
            obtain ⟨bb, oo, rfl, hc⟩ := hrow.2.2.2 (by rw [WM.vsL_len, ← HNL.out]; omega)
            have hct := hc t (by rw [WM.vsL_len, ← HNL.out]; omega)
            rw [u1] at hct
            have hlen : j < (bs.set j (WM.tchB D WW L j t)).length := by rw [List.length_set]; omega
            have ct : wr.cell? ⟨w.heap.size + 1, j, none⟩ = some (.bool ((bs.set j (WM.tchB D WW L j t))[j]'hlen)) := by
              rw [World.ownsRow.cellAt hR3.tb j (by omega), List.getElem?_map, List.getElem?_eq_getElem hlen]
              rfl
            have ft : wr.frozen? ⟨w.heap.size + 1, j, none⟩ = false := World.ownsRow.frozenAt hR3.tb j
            have HMK : Hid (RF w w.heap.size N (.slice (some ⟨bb, oo, none⟩) n c1) (.slice a2 n c2) (WM.vsL L) (WM.dsL L) (bs.set j true) (wr.setCell ⟨w.heap.size + 1, j, none⟩ (.bool true))) := by
              have := hR3.mark (Nat.le_refl _) j true
              rwa [List.set_set] at this
            generalize (bs.set j (WM.tchB D WW L j t))[j]'hlen = old at *
            clear hc hrow ex u1 hR3 e2 hlen
            by_cases hdu : D u j < 4611686018427387906
            · have HE : Hid (WM.tchB D WW L j (t + 1) = true) := by
                show _ = _
                rw [u2, decide_eq_true hdu]
                simp
              clear u2
              generalize D u j = du at *
              go_wp2_with fail
              refine ho.mono ?_
              rintro e w' ⟨rfl, hw'⟩
              rw [hw']
              clear ho hw' w'
              go_wp2_with fail
              refine hat.mono ?_
              rintro e w' ⟨rfl, hw'⟩
              rw [hw']
              clear hat hw' w'
              go_wp2_with fail
              go_roundw
              case rel => exact ⟨t + 1, by omega, by go_num, by rw [HE.out]; exact HMK.out⟩
              case measure => simp [intOf]; omega
            · have HE : Hid (WM.tchB D WW L j (t + 1) = WM.tchB D WW L j t) := by
                show _ = _
                rw [u2, decide_eq_false hdu]
                simp
              clear u2
              generalize D u j = du at *
              go_wp2_with fail
              refine ho.mono ?_
              rintro e w' ⟨rfl, hw'⟩
              rw [hw']
              clear ho hw' w'
              go_wp2_with fail
              refine hat.mono ?_
              rintro e w' ⟨rfl, hw'⟩
              rw [hw']
              clear hat hw' w'
              go_wp2_with fail
              go_roundw
              case rel => exact ⟨t + 1, by omega, by go_num, by rw [HE.out]; exact HR3.out⟩
              case measure => simp [intOf]; omega
        · obtain rfl : t = n := by omega
          have HV2 : Hid (∀ v : Nat, v < j + 1 → (bs.set j (WM.tchB D WW L j t))[v]?.getD false = WM.tchB D WW L v t) := fun v hv => by
            by_cases e : v = j
            · subst e
              rw [List.getElem?_set_self (by omega)]
              rfl
            · rw [List.getElem?_set_ne (by omega)]
              exact HV v (by omega)
          clear hR3 d2
          go_wp2_with fail
          go_roundw
          case rel => exact ⟨j + 1, _, by omega, by go_num, by rw [List.length_set]; exact hbl, HV2, HR3.out⟩
          case measure => simp [intOf]; omega
    · obtain rfl : j = N := by omega
      have d1 := hR.c1
      rw [HBF.out] at d1
      have e0 : wr.cell? ⟨w.heap.size, 0, none⟩ = some (.slice none 0 0) := by unfold World.cell?; rw [hR.r0]; rfl
      have e1 : wr.cell? ⟨w.heap.size, 1, none⟩ = some (.slice none 0 0) := by unfold World.cell?; rw [hR.r0]; rfl
      have e2 : wr.cell? ⟨w.heap.size, 2, none⟩ = some (.slice none 0 0) := by unfold World.cell?; rw [hR.r0]; rfl
      have ef : ∀ q, wr.frozen? ⟨w.heap.size, q, none⟩ = false := fun q => by unfold World.frozen?; rw [hR.r0]; simp
      have f0 := ef 0
      have f1 := ef 1
      have f2 := ef 2
      clear hR ef
      obtain ⟨w9, hw9, hld, r1, r2, r3, r4⟩ := HR2.out.answer (Nat.le_refl _)
      go_wp2_with fail
      rw [← hw9]
      refine bodyPost_ret (v := .agg #[.slice a1 n c1, .slice a2 n c2, .slice (some ⟨w.heap.size + 1, 0, none⟩) j j]) (results_cellW rfl rfl hld) rfl ?_
      exact ⟨_, _, _, L, bs, rfl, HGT.out, r1, r2, ⟨_, rfl, row_base r3 (by omega)⟩, fun v hv => by rw [HV v hv]; exact HTT.out v hv, r4⟩
end Go.Proofs.YtkcfepppnclniaaGreatDoor
end

section
/-
  The walks of the document's Three and Spared (layer 13).
-/
namespace Go.Proofs.YtkcfepppnclniaaGreatDoor
open Go.RowKit
/-- Three unlike vertices. -/
def WM.three (N : Nat) (u v w : Int) : Bool := GM.vert N u && GM.vert N v && GM.vert N w && decide (u ≠ v) && decide (v ≠ w) && decide (w ≠ u)
theorem WM.three_nat {N : Nat} {u v w : Int} (h : WM.three N u v w = true) : ∃ a b c : Nat, u = a ∧ v = b ∧ w = c ∧ a < N ∧ b < N ∧ c < N ∧ a ≠ b ∧ b ≠ c ∧ c ≠ a := by
  unfold WM.three at h
  simp only [Bool.and_eq_true, decide_eq_true_eq] at h
  obtain ⟨⟨⟨⟨⟨h1, h2⟩, h3⟩, h4⟩, h5⟩, h6⟩ := h
  obtain ⟨a, rfl, ha⟩ := XM.vert_nat h1
  obtain ⟨b, rfl, hb⟩ := XM.vert_nat h2
  obtain ⟨c, rfl, hc⟩ := XM.vert_nat h3
  exact ⟨a, b, c, rfl, rfl, rfl, ha, hb, hc, by omega, by omega, by omega⟩
end Go.Proofs.YtkcfepppnclniaaGreatDoor
end
