/-
  The walk of the document's All (layer 10).
-/
import Derived.Test.YtmamligiopbefaaMmTabs
import Derived.Test.YtmamligiopbefaaMmWalkDist
import Derived.Deep.DeepCutAuto
import Derived.Laws.Tables
import Derived.Deep.QuietTactic
import Derived.BigQuiet
namespace Go.Proofs.Ytmamligiopbefaa
open Go.RowKit

theorem Own.rowAt {k : IntKind} {e : TypeId} {w : World} {B n c : Nat} {a : Option Addr} {zs : List Int} (h : Own k e w B (.slice a n c) zs) : RowAt k w a c zs := by
  obtain ⟨ao, cap, er, hat⟩ := h.at
  injection er with e1 e2 e3
  rw [e1, e3]
  exact hat
/-- A row stays where another block is turned. -/
theorem Own.kept {k : IntKind} {e : TypeId} {w w' : World} {B bd : Nat} {v : Value} {zs : List Int} (h : Own k e w B v zs) (hk : Keeps (fun b => b = bd) w w') (hb : bd < B) : Own k e w' B v zs := hk.row h (fun g hg e => by have := h.block g hg; omega)

/-- A result that lies in a cell of its own. -/
theorem results_cell {P : Program} {fn : Func} {tmps : Array Value} {w : World} {a : Nat} {t : TypeId} {ad : Addr} {v : Value} (hr : fn.results = #[.cell a t]) (ht : tmps[a]?.getD undef = .pointer (some ad)) (hl : (loadVar t ad).run P w = .ok v w) : (results fn tmps).run P w = .ok v w := by
  unfold results
  rw [hr]
  simp [ht, asAddr, hl]
theorem all_out {W : World} {t : Array Value} {g : Nat} {v : Value} {R : Ending → World → Prop} (ht : t[2]?.getD undef = .pointer (some ⟨g, 0, none⟩)) (hl : (loadVar 29 ⟨g, 0, none⟩).run Try.prog W = .ok v W) (h : R (.returned v) W) :
    bodyPost Try.prog Try.f8 R Exit.ret { tmps := t, defers := [] } W :=
  bodyPost_ret (v := v) (results_cell rfl ht hl) rfl h
set_option maxHeartbeats 4000000 in
set_option maxRecDepth 100000 in
theorem all_tab {w : World} {q N most : Nat} {m : GM.M} (hg : RMem w q N most m) (hm : GM.Good most m) (hN : N ≤ 24) (hin : WK.Inn N m) :
    Calls Try.prog 8 #[.pointer (some ⟨q, 0, none⟩)] w fun e w' => ∃ D : Nat → Nat → Int, e = .returned (.agg (tabCells D).toArray) ∧ (∀ a b : Nat, a < N → b < N → NM.Dst m a b (D a b)) ∧ Below w.heap.size w w' := by
  have hz := zeroT
  have hs := zT_size
  have hne := zT_ne
  have h2 := two_tabs w
  have hid := fun (W : World) (hW : Below w.heap.size w W) => rids_any (hg.on hW)
  have HG : Hid (∀ W, Below w.heap.size w W → RMem W q N most m) := fun W hW => hg.on hW
  have HID : Hid (∀ W, Below w.heap.size w W → Calls Try.prog 22 #[.pointer (some ⟨q, 0, none⟩)] W fun e w' => ∃ r, e = .returned r ∧ Own .i64 3 w' W.heap.size r (GM.iids m 64) ∧ Below W.heap.size W w') := hid
  have HQL : Hid (q < w.heap.size) := hg.lt
  clear hg hid
  generalize zT = Z0 at *
  go_enter Try.func8, Try.ntmps8
  go_wp2_with (simp only [hz])
  obtain ⟨w2, hw2, hR2, hD2, hb2, hs2, hbl2⟩ := h2
  rw [← hw2]
  have HZS := hs
  clear hz hs hne hw2
  generalize hbd : w.heap.size + 1 = bd at *
  have HBD : Hid (w.heap.size + 1 = bd) := hbd
  have HS2 : Hid (w2.heap.size = w.heap.size + 2) := hs2
  have HR2 : Hid (TMem w2 w.heap.size (fun _ _ => 0)) := hR2
  have hD2' : TMem w2 bd (NM.tab0 0 0) := by rw [NM.tab0_zero]; exact hD2
  have HB2 : Hid (Below w.heap.size w w2) := hb2
  have HBL2 : Hid (w2.heap[w.heap.size]? = some (.cells Z0 29 (0, 0)) ∧ Z0.size = 576) := ⟨hbl2, HZS⟩
  clear hbd hs2 hR2 hD2 hb2 hbl2 HZS
  go_loopw [4] (fun iv wr => ∃ s : Nat, s ≤ 24 ∧ iv = .int .i64 s ∧ TMem wr bd (NM.tab0 s 0) ∧ Keeps (fun b => b = bd) w2 wr) (fun iv _ => 24 - (intOf iv).toNat)
  case atStart => exact ⟨0, by omega, rfl, hD2', Keeps.refl _ _⟩
  case round =>
    clear hD2'
    obtain ⟨s, hs, rfl, hT, hK⟩ := hrel
    have HT : Hid (TMem wr bd (NM.tab0 s 0)) := hT
    have HK : Hid (Keeps (fun b => b = bd) w2 wr) := hK
    clear hT hK
    by_cases hlt : s < 24
    · have s1 : (s : Int) < 24 := by omega
      go_wp2_with fail
      go_loopw [5] (fun jv wr' => ∃ t : Nat, t ≤ 24 ∧ jv = .int .i64 t ∧ TMem wr' bd (NM.tab0 s t) ∧ Keeps (fun b => b = bd) w2 wr') (fun jv _ => 24 - (intOf jv).toNat)
      case atStart => exact ⟨0, by omega, rfl, HT.out, HK.out⟩
      case round =>
        rename_i wr0 hwr0
        obtain ⟨t, ht, rfl, hT, hK⟩ := hrel
        by_cases htl : t < 24
        · have t1 : (t : Int) < 24 := by omega
          have ck := hT.c s t hlt htl
          have fk := hT.fz (s * 24 + t)
          have HT1 : Hid (TMem (wr.setCell ⟨bd, s * 24 + t, none⟩ (.int .i64 4611686018427387906)) bd (NM.tab0 s (t + 1))) := by
            show TMem _ _ _
            rw [← NM.tab0_step]
            exact hT.set hlt htl _
          have HK1 : Hid (Keeps (fun b => b = bd) w2 (wr.setCell ⟨bd, s * 24 + t, none⟩ (.int .i64 4611686018427387906))) := hK.setCell (.inl rfl) _
          clear hT hK
          go_wp2_with fail
          go_roundw
          case rel => exact ⟨t + 1, by omega, by go_num, HT1.out, HK1.out⟩
          case measure => simp [intOf]; omega
        · obtain rfl : t = 24 := by omega
          have ck := hT.c s s hlt hlt
          have fk := hT.fz (s * 24 + s)
          have HT1 : Hid (TMem (wr.setCell ⟨bd, s * 24 + s, none⟩ (.int .i64 0)) bd (NM.tab0 (s + 1) 0)) := (hT.set hlt hlt 0).congr (NM.tab0_row s)
          have HK1 : Hid (Keeps (fun b => b = bd) w2 (wr.setCell ⟨bd, s * 24 + s, none⟩ (.int .i64 0))) := hK.setCell (.inl rfl) _
          clear hT hK
          go_wp2_with fail
          go_roundw
          case rel => exact ⟨s + 1, by omega, by go_num, HT1.out, HK1.out⟩
          case measure => simp [intOf]; omega
    · obtain rfl : s = 24 := by omega
      have hA : NM.AT m 0 (NM.cut24 (NM.tab0 24 0)) := NM.AT.begin m
      have hT := HT.out.congr (D' := NM.cut24 (NM.tab0 24 0)) (fun a b ha hb => by unfold NM.cut24; rw [if_pos ⟨ha, hb⟩])
      have HT0 : Hid (NM.AT m 0 (NM.cut24 (NM.tab0 24 0)) ∧ TMem wr bd (NM.cut24 (NM.tab0 24 0))) := ⟨hA, hT⟩
      clear hA hT
      have hwr : Below w.heap.size w wr := HB2.out.trans (HK.out.below (fun b hb => by have := HBD.out; omega) HB2.out.size)
      have hid := HID.out wr hwr
      have HWR : Hid (Below w.heap.size w wr) := hwr
      clear hwr HID hlt hs
      go_wp2_with fail
      refine hid.mono ?_
      rintro e w1 ⟨r, rfl, ho, hb1⟩
      have hcl : (GM.iids m 64).length = GM.cnt m := GM.iids_len m 64
      obtain ⟨a1, cp1, rfl, -⟩ := ho.at
      have HO : Hid (Own .i64 3 w1 wr.heap.size (.slice a1 (GM.iids m 64).length cp1) (GM.iids m 64)) := ho
      have HBW : Hid (bd < wr.heap.size ∧ w.heap.size < bd) := ⟨HT0.out.2.lt, by have := HBD.out; omega⟩
      have HK1 : Hid (w1.heap[w.heap.size]? = some (.cells Z0 29 (0, 0)) ∧ RMem w1 q N most m ∧ Below w.heap.size w w1) := by
        have h1 := HBW.out
        have h2 := HK.out.size
        have h3 := HS2.out
        exact ⟨(hb1.block _ (by omega)).trans ((HK.out.block _ (by omega) (by omega)).trans HBL2.out.1), HG.out _ (below_on HWR.out hb1), below_on HWR.out hb1⟩
      have HT1 : Hid (TMem w1 bd (NM.cut24 (NM.tab0 24 0)) ∧ NM.AT m 0 (NM.cut24 (NM.tab0 24 0))) := ⟨HT0.out.2.on hb1, HT0.out.1⟩
      have HNT : Hid (∀ k, k < GM.cnt m → GM.nth m k < 64 ∧ GM.is m (GM.nth m k) = true ∧ (GM.iids m 64)[k]?.getD 0 = (GM.nth m k : Nat)) := fun k hk => ⟨(GM.nth_is hk).1, (GM.nth_is hk).2, GM.nth_iids hk⟩
      have HAD : Hid (∀ D, NM.AT m (GM.cnt m) D → NM.Fw m N 0 0 0 D) := fun D h => h.done hN hin hm.ok
      have HST : Hid (∀ k D, NM.AT m k D → k < GM.cnt m → ∀ t e : Nat, (GM.arc m (GM.nth m k)).tail = t → (GM.arc m (GM.nth m k)).head = e → e < 24 → (GM.arc m (GM.nth m k)).closed = false → (GM.arc m (GM.nth m k)).weight < D t e → NM.AT m (k + 1) (NM.set2 D t e (GM.arc m (GM.nth m k)).weight)) := fun k D h hk t e h1 h2 h3 h4 h5 => h.take hk hm.ok h1 h2 h3 h4 h5
      have HSK : Hid (∀ k D, NM.AT m k D → ((GM.arc m (GM.nth m k)).closed = false → ∀ a b : Nat, (GM.arc m (GM.nth m k)).tail = a → (GM.arc m (GM.nth m k)).head = b → D a b ≤ (GM.arc m (GM.nth m k)).weight) → NM.AT m (k + 1) D) := fun k D h h1 => h.skip h1
      have HVT : Hid (∀ i, GM.is m i = true → ∃ t e : Nat, (GM.arc m i).tail = t ∧ (GM.arc m i).head = e ∧ t < 24 ∧ e < 24) := fun i hi => by
        obtain ⟨v1, v2⟩ := hin.at hi
        have v1 := of_decide_eq_true v1
        have v2 := of_decide_eq_true v2
        exact ⟨(GM.arc m i).tail.toNat, (GM.arc m i).head.toNat, by omega, by omega, by omega, by omega⟩
      have HDN : Hid (∀ D, NM.Fw m N N 0 0 D → ∀ a b : Nat, a < N → b < N → NM.Dst m a b (D a b)) := fun D h a b ha hb => h.done (NM.into_of hin) ha hb
      clear hid ho hb1 HT0 HG HWR HK HR2 HT HB2 HS2 HBD hm hin
      rw [hcl]
      have HCL : Hid ((GM.iids m 64).length = GM.cnt m) := hcl
      rw [hcl] at HO
      have hc64 := GM.cnt_le m
      clear hcl
      generalize GM.iids m 64 = Z at *
      obtain ⟨C, hC⟩ : ∃ C, C = GM.cnt m := ⟨_, rfl⟩
      rw [← hC] at HNT HAD HST HCL HO hc64 ⊢
      clear hC
      go_wp2_with fail
      go_loopw [7] (fun iv wr' => ∃ (k : Nat) (D : Nat → Nat → Int), k ≤ C ∧ iv = .int .i64 k ∧ NM.AT m k D ∧ TMem wr' bd D ∧ Keeps (fun b => b = bd) w1 wr') (fun iv _ => C - (intOf iv).toNat)
      case atStart => exact ⟨0, _, Nat.zero_le _, rfl, HT1.out.2, HT1.out.1, Keeps.refl _ _⟩
      case round =>
        clear HT1
        rename_i wrA hwrA
        obtain ⟨k, D, hk, rfl, hA, hT, hK⟩ := hrel
        have HA : Hid (NM.AT m k D) := hA
        have HT : Hid (TMem wr bd D) := hT
        have HK : Hid (Keeps (fun b => b = bd) w1 wr) := hK
        have HGR : Hid (RMem wr q N most m) := HK1.out.2.1.kept hK (fun e => by have := HBW.out; have := HQL.out; omega)
        have HOR : Hid (RowAt .i64 wr a1 cp1 Z) := Own.rowAt (HO.out.kept hK HBW.out.1)
        clear hA hT hK
        by_cases hlt : k < C
        · obtain ⟨hn, his, hnz⟩ := HNT.out k hlt
          obtain ⟨b, o, rfl, hc⟩ := HOR.out.2.2.2 (by rw [HCL.out]; omega)
          have ck := hc k (by rw [HCL.out]; exact hlt)
          rw [hnz] at ck
          have H1 := HST.out k D HA.out hlt
          have H2 := HSK.out k D HA.out
          obtain ⟨t, e, ht, he, ht24, he24⟩ := HVT.out _ his
          generalize GM.nth m k = i at *
          obtain ⟨d0, d1, d2, d3⟩ := HGR.out.arc i hn
          generalize GM.arc m i = ar at *
          obtain ⟨t', h', x, c⟩ := ar
          dsimp only at d0 d1 d2 d3 H1 H2 ht he
          subst ht he
          have H1' : Hid (c = false → x < D t e → NM.AT m (k + 1) (NM.set2 D t e x)) := fun hc hx => H1 t e rfl rfl he24 hc hx
          have H2' : Hid ((c = false → D t e ≤ x) → NM.AT m (k + 1) D) := fun hc => H2 (fun h a b ha hb => by
            have ea : a = t := by omega
            have eb : b = e := by omega
            rw [ea, eb]
            exact hc h)
          have cd := HT.out.c t e ht24 he24
          have fd := HT.out.fz (t * 24 + e)
          have HTS : Hid (∀ W, Below wr.heap.size wr W → TMem W bd D) := fun W hW => HT.out.on hW
          have HKS : Hid (∀ W, Below wr.heap.size wr W → Keeps (fun b => b = bd) w1 W) := fun W hW => HK.out.trans (Below.keeps hW (fun _ => False)) (fun _ h => h.elim)
          have k1 : (k : Int) < (C : Int) := by omega
          have i64' : (i : Int) < 64 := by omega
          have t24 : (t : Int) < 24 := by omega
          have e24 : (e : Int) < 24 := by omega
          have hqb := HGR.out.lt
          have hbb := cell_lt ck
          dsimp only at hbb
          have HBL : Hid (q < wr.heap.size ∧ b < wr.heap.size ∧ bd < wr.heap.size) := ⟨hqb, hbb, HT.out.lt⟩
          have HT24 : Hid (t < 24 ∧ e < 24) := ⟨ht24, he24⟩
          clear hc hnz hn his hqb hbb H1 H2 ht24 he24
          go_upto_region 14 with fail
          go_cut [8] (fun s wx => ∃ g, s = .pointer (some ⟨g, 0, none⟩) ∧ ArcIn wx g 0 ⟨t, e, x, c⟩ ∧ Below wr.heap.size wr wx)
          case first =>
            have hba : Below wr.heap.size wr (wr.alloc (.cells #[.int .i64 0, .int .i64 0, .int .i64 0, .bool false] 33)) := (Below.refl _ _).alloc (Nat.le_refl _) _
            have ck' := (hba.cell (p := ⟨b, o + k, none⟩) HBL.out.2.1).trans ck
            have d0' := (hba.cell (p := ⟨q, _, none⟩) HBL.out.1).trans d0
            have d1' := (hba.cell (p := ⟨q, _, none⟩) HBL.out.1).trans d1
            have d2' := (hba.cell (p := ⟨q, _, none⟩) HBL.out.1).trans d2
            have d3' := (hba.cell (p := ⟨q, _, none⟩) HBL.out.1).trans d3
            clear hba cd fd
            go_region
            all_goals
              go_wp2_with fail
              go_meet
              exact ⟨wr.heap.size, rfl, arcIn_new wr t e x c, ((Below.refl _ _).alloc (Nat.le_refl _) _).drew⟩
          case rest =>
          obtain ⟨g, rfl, hing, hbc⟩ := hcut
          obtain ⟨a0, a1', a2, a3⟩ := hing
          simp only [Nat.zero_add] at a1' a2 a3
          dsimp only at a0 a1' a2 a3
          have cdc := (hbc.cell (p := ⟨bd, t * 24 + e, none⟩) HBL.out.2.2).trans cd
          have fdc := (HTS.out _ hbc).fz (t * 24 + e)
          have HBC : Hid (Below wr.heap.size wr wc) := hbc
          clear hbc d0 d1 d2 d3 ck cd fd
          cases c with
          | true =>
            have HE : Hid (NM.AT m (k + 1) D) := H2'.out (fun h => by cases h)
            go_upto_region 15 with fail
            go_quiet (fail)
            have hbq := below_drewN HBC.out nq
            have HE2 : Hid (TMem (wc.drewN nq) bd D ∧ Keeps (fun b => b = bd) w1 (wc.drewN nq)) := ⟨HTS.out _ hbq, HKS.out _ hbq⟩
            clear hbq
            go_wp2_with fail
            go_roundw
            case rel => exact ⟨k + 1, D, by omega, by go_num, HE.out, HE2.out.1, HE2.out.2⟩
            case measure => simp [intOf]; omega
          | false =>
            by_cases hx : x < D t e
            · have HE : Hid (NM.AT m (k + 1) (NM.set2 D t e x)) := H1'.out rfl hx
              have hxd : decide (x < D t e) = true := decide_eq_true hx
              go_upto_region 15 with fail
              go_quiet (fail)
              have hbq := below_drewN HBC.out nq
              have b0 : (wc.drewN nq).cell? ⟨g, 0, none⟩ = some (.int .i64 (t : Nat)) := a0
              have b1 : (wc.drewN nq).cell? ⟨g, 1, none⟩ = some (.int .i64 (e : Nat)) := a1'
              have b2 : (wc.drewN nq).cell? ⟨g, 2, none⟩ = some (.int .i64 x) := a2
              have b3 : (wc.drewN nq).cell? ⟨bd, t * 24 + e, none⟩ = some (.int .i64 (D t e)) := cdc
              have b4 : (wc.drewN nq).frozen? ⟨bd, t * 24 + e, none⟩ = false := fdc
              have HBQ : Hid (Below wr.heap.size wr (wc.drewN nq)) := hbq
              clear a0 a1' a2 a3 cdc fdc hbq HBC hxd
              go_wp2_with fail
              generalize wc.drewN nq = wq at *
              go_region
              all_goals
                go_wp2_with fail
                exact ⟨⟨k + 1, _, by omega, by go_num, HE.out, ((HTS.out _ HBQ.out).set HT24.out.1 HT24.out.2 x).on (Below.refl _ _).drew, ((HKS.out _ HBQ.out).setCell (.inl rfl) _).drew⟩, by simp [intOf]; omega⟩
            · have HE : Hid (NM.AT m (k + 1) D) := H2'.out (fun _ => by omega)
              have hxd : decide (x < D t e) = false := decide_eq_false hx
              go_upto_region 15 with fail
              go_quiet (fail)
              have hbq := below_drewN HBC.out nq
              have HE2 : Hid (TMem (wc.drewN nq) bd D ∧ Keeps (fun b => b = bd) w1 (wc.drewN nq)) := ⟨HTS.out _ hbq, HKS.out _ hbq⟩
              clear hbq
              go_wp2_with fail
              go_roundw
              case rel => exact ⟨k + 1, D, by omega, by go_num, HE.out, HE2.out.1, HE2.out.2⟩
              case measure => simp [intOf]; omega
        · obtain rfl : k = C := by omega
          have HF0 : Hid (NM.Fw m N 0 0 0 D) := HAD.out D HA.out
          clear HA HAD HST HSK HVT HNT HOR HO HCL hk hlt hc64
          go_wp2_with fail
          go_loopw [9] (fun kv wr' => ∃ (k : Nat) (D : Nat → Nat → Int), k ≤ N ∧ kv = .int .i64 k ∧ NM.Fw m N k 0 0 D ∧ TMem wr' bd D ∧ Keeps (fun b => b = bd) w1 wr') (fun kv _ => N - (intOf kv).toNat)
          case atStart => exact ⟨0, D, Nat.zero_le _, rfl, HF0.out, HT.out, HK.out⟩
          case round =>
            clear HF0 HT HK HGR
            rename_i wrB hwrB
            obtain ⟨kk, D4, hk4, rfl, hF4, hT4, hK4⟩ := hrel
            have HF4 : Hid (NM.Fw m N kk 0 0 D4) := hF4
            have HT4 : Hid (TMem wr bd D4) := hT4
            have HK4 : Hid (Keeps (fun b => b = bd) w1 wr) := hK4
            have c0 := (HK1.out.2.1.kept hK4 (fun e => by have := HBW.out; have := HQL.out; omega)).c0
            have hkn : (kk : Int) ≤ (N : Int) := by omega
            clear hF4 hT4 hK4
            by_cases hl4 : kk < N
            · have k4 : (kk : Int) < (N : Int) := by omega
              go_wp2_with fail
              go_loopw [10] (fun sv wr' => ∃ (s : Nat) (D : Nat → Nat → Int), s ≤ N ∧ sv = .int .i64 s ∧ NM.Fw m N kk s 0 D ∧ TMem wr' bd D ∧ Keeps (fun b => b = bd) w1 wr') (fun sv _ => N - (intOf sv).toNat)
              case atStart => exact ⟨0, D4, Nat.zero_le _, rfl, HF4.out, HT4.out, HK4.out⟩
              case round =>
                clear HF4 HT4 HK4 c0
                rename_i wrC hwrC
                obtain ⟨s, D5, hs5, rfl, hF5, hT5, hK5⟩ := hrel
                have HF5 : Hid (NM.Fw m N kk s 0 D5) := hF5
                have HT5 : Hid (TMem wr bd D5) := hT5
                have HK5 : Hid (Keeps (fun b => b = bd) w1 wr) := hK5
                have c0 := (HK1.out.2.1.kept hK5 (fun e => by have := HBW.out; have := HQL.out; omega)).c0
                clear hF5 hT5 hK5
                by_cases hl5 : s < N
                · have s4 : (s : Int) < (N : Int) := by omega
                  go_wp2_with fail
                  go_loopw [11] (fun tv wr' => ∃ (t : Nat) (D : Nat → Nat → Int), t ≤ N ∧ tv = .int .i64 t ∧ NM.Fw m N kk s t D ∧ TMem wr' bd D ∧ Keeps (fun b => b = bd) w1 wr') (fun tv _ => N - (intOf tv).toNat)
                  case atStart => exact ⟨0, D5, Nat.zero_le _, rfl, HF5.out, HT5.out, HK5.out⟩
                  case round =>
                    clear HF5 HT5 HK5 c0
                    rename_i wrD hwrD
                    obtain ⟨t, D6, ht6, rfl, hF6, hT6, hK6⟩ := hrel
                    have HF6 : Hid (NM.Fw m N kk s t D6) := hF6
                    have HT6 : Hid (TMem wr bd D6) := hT6
                    have HK6 : Hid (Keeps (fun b => b = bd) w1 wr) := hK6
                    have c0 := (HK1.out.2.1.kept hK6 (fun e => by have := HBW.out; have := HQL.out; omega)).c0
                    by_cases hl6 : t < N
                    · have t4 : (t : Int) < (N : Int) := by omega
                      have k24 : (kk : Int) < 24 := by omega
                      have s24 : (s : Int) < 24 := by omega
                      have t24 : (t : Int) < 24 := by omega
                      have csk := hT6.c s kk (by omega) (by omega)
                      have ckt := hT6.c kk t (by omega) (by omega)
                      have cst := hT6.c s t (by omega) (by omega)
                      have fst := hT6.fz (s * 24 + t)
                      clear hF6 hT6 hK6
                      go_upto_region 26 with fail
                      go_quiet ((go_at_call 23; exact Calls.quiet_of_same (two_any _ _ _)))
                      have dst : (wr.drewN nq).cell? ⟨bd, s * 24 + t, none⟩ = some (.int .i64 (D6 s t)) := cst
                      have gst : (wr.drewN nq).frozen? ⟨bd, s * 24 + t, none⟩ = false := fst
                      have HQ : Hid (TMem (wr.drewN nq) bd D6 ∧ Keeps (fun b => b = bd) w1 (wr.drewN nq)) := ⟨HT6.out.on (below_drewN (Below.refl _ _) nq), HK6.out.drewN⟩
                      clear c0 csk ckt cst fst
                      generalize wr.drewN nq = wq at *
                      by_cases hlt : DM.two (D6 s kk) (D6 kk t) < D6 s t
                      · have HE : Hid (NM.Fw m N kk s (t + 1) (NM.set2 D6 s t (DM.two (D6 s kk) (D6 kk t))) ∧ s < 24 ∧ t < 24) := ⟨HF6.out.put hl4 hl5 hl6 hlt, by omega, by omega⟩
                        generalize DM.two (D6 s kk) (D6 kk t) = dd at *
                        go_wp2_with fail
                        go_roundw
                        case rel => exact ⟨t + 1, _, by omega, by go_num, HE.out.1, HQ.out.1.set HE.out.2.1 HE.out.2.2 dd, HQ.out.2.setCell (.inl rfl) _⟩
                        case measure => simp [intOf]; omega
                      · have HE : Hid (NM.Fw m N kk s (t + 1) D6) := HF6.out.pass hl4 hl5 hl6 hlt
                        generalize DM.two (D6 s kk) (D6 kk t) = dd at *
                        go_wp2_with fail
                        go_roundw
                        case rel => exact ⟨t + 1, D6, by omega, by go_num, HE.out, HQ.out.1, HQ.out.2⟩
                        case measure => simp [intOf]; omega
                    · obtain rfl : t = N := by omega
                      have HE : Hid (NM.Fw m t kk (s + 1) 0 D6) := HF6.out.row
                      clear hF6 hT6 hK6
                      go_wp2_with fail
                      go_roundw
                      case rel => exact ⟨s + 1, D6, by omega, by go_num, HE.out, HT6.out, HK6.out⟩
                      case measure => simp [intOf]; omega
                · obtain rfl : s = N := by omega
                  have HE : Hid (NM.Fw m s (kk + 1) 0 0 D5) := HF5.out.phase
                  go_wp2_with fail
                  go_roundw
                  case rel => exact ⟨kk + 1, D5, by omega, by go_num, HE.out, HT5.out, HK5.out⟩
                  case measure => simp [intOf]; omega
            · obtain rfl : kk = N := by omega
              have HD : Hid (∀ a b : Nat, a < kk → b < kk → NM.Dst m a b (D4 a b)) := HDN.out D4 HF4.out
              have HLT := tabCells_len D4
              have HC : Hid (∀ j v, (tabCells D4)[j]? = some v → wr.cell? ((⟨bd, 0, none⟩ : Addr).add j) = some v) := HT4.out.cells
              have HO1 : Hid ((tabCells D4).toArray.all (·.oneCell') = true) := all_one (tabCells_one D4)
              have HBK : Hid (wr.heap[w.heap.size]? = some (.cells Z0 29 (0, 0))) := by
                have h1 := HBW.out.2
                exact (HK4.out.block _ (by have := (Array.getElem?_eq_some_iff.1 HK1.out.1).1; omega) (by omega)).trans HK1.out.1
              have HTR : Hid (TMem (wr.setRow w.heap.size (tabCells D4).toArray) w.heap.size D4) := tmem_row HBK.out D4
              have HLN : Hid ((tabCells D4).length = 576) := HLT
              have HBW2 : Hid (Below w.heap.size w (wr.setRow w.heap.size (tabCells D4).toArray)) := by
                have h1 : Below w.heap.size w wr := HK1.out.2.2.trans (HK4.out.below (fun b hb => by have := HBW.out.2; omega) HK1.out.2.2.size)
                exact h1.trans ((keeps_row wr w.heap.size _).below (fun b hb => by omega) h1.size)
              clear HLT
              generalize hTC : tabCells D4 = TC at *
              have HTC : Hid (tabCells D4 = TC) := hTC
              clear hTC
              go_wp2_with (first
                | (refine wpList_load_cells rfl 29 (.tmp 3) rfl bd rfl TC _ Try.underlying29 rfl (by rw [HLN.out]; exact infoT) HC.out ?_)
                | (refine wpList_store_row rfl 29 (.tmp 2) (.tmp 116) rfl w.heap.size TC.toArray rfl rfl 29 Z0 HBK.out (by rw [List.size_toArray, HLN.out]; exact infoT) (by rw [HBL2.out.2, List.size_toArray, HLN.out]) HO1.out ?_))
              refine all_out rfl (loadVar_cells 29 w.heap.size TC _ Try.underlying29 rfl (by rw [HLN.out]; exact infoT) (by have h9 := HTR.out.cells; rw [HTC.out] at h9; exact h9)) ?_
              exact ⟨D4, by rw [HTC.out], HD.out, HBW2.out⟩
end Go.Proofs.Ytmamligiopbefaa
