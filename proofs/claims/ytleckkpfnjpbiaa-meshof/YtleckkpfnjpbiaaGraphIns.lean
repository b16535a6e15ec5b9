/-
  The walk of graph's Insert.
-/
import Derived.Test.YtleckkpfnjpbiaaGraphLen
import Derived.Deep.RegionHeld3
import Derived.Deep.DeepCutAuto
namespace Go.Proofs.Ytleckkpfnjpbiaa
open Go.RowKit

theorem insCode_no {n most : Nat} {m : GM.M} {id : Int} {a : Arc} (h : (GM.place id && GM.vert n a.tail && GM.vert n a.head && GM.okW a.weight) = false) : GM.insCode n most m id a = 1 ∧ GM.ins n most m id a = m := by
  have h1 : GM.insCode n most m id a = 1 := by
    unfold GM.insCode
    rw [h]
    rfl
  refine ⟨h1, ?_⟩
  unfold GM.ins
  rw [h1, if_neg (by decide)]
theorem insCode_yes {n most i : Nat} {m : GM.M} {a : Arc} (h : (GM.place (i : Int) && GM.vert n a.tail && GM.vert n a.head && GM.okW a.weight) = true) : GM.insCode n most m i a = if GM.is m i then 4 else if GM.cnt m < most then 0 else 2 := by
  unfold GM.insCode
  rw [if_pos h, Int.toNat_natCast]

set_option maxHeartbeats 1000000 in
set_option maxRecDepth 100000 in
theorem insert_any {w : World} {p N most : Nat} {m : GM.M} (hg : GMem w p N most m) (hm : GM.Good most m) (id : Int) (a : Arc) :
    Calls Try.prog 52 #[.pointer (some ⟨p, 0, none⟩), .int .i64 id, arcV a] w fun e w' => e = .returned (.int .i64 (GM.insCode N most m id a)) ∧ GMem w' p N most (GM.ins N most m id a) ∧ Keeps (fun b => b = p) w w' := by
  obtain ⟨t, h, x, c⟩ := a
  have hb1 : Below w.heap.size w (w.alloc (.cells #[.int .i64 t, .int .i64 h, .int .i64 x, .bool c] 83)) := (Below.refl _ _).alloc (Nat.le_refl _) _
  have hg1 := hg.on hb1
  have hk1 : Keeps (fun b => b = p) w (w.alloc (.cells #[.int .i64 t, .int .i64 h, .int .i64 x, .bool c] 83)) := Below.keeps hb1 _
  obtain ⟨a0, a1, a2, a3⟩ := arcIn_new w t h x c
  simp only [Nat.zero_add] at a1 a2 a3
  have hne : w.heap.size ≠ p := by have := hg.lt; omega
  have cP := hasPlace_any (.pointer (some ⟨p, 0, none⟩)) id (w.alloc (.cells #[.int .i64 t, .int .i64 h, .int .i64 x, .bool c] 83))
  have cT := hasVertex_any hg1 t
  have cH := hasVertex_any hg1 h
  have cW := weight_any x (w.alloc (.cells #[.int .i64 t, .int .i64 h, .int .i64 x, .bool c] 83))
  cases hP : GM.place id with
  | false =>
    obtain ⟨e1, e2⟩ := insCode_no (n := N) (most := most) (m := m) (id := id) (a := ⟨t, h, x, c⟩) (by rw [hP]; rfl)
    rw [e1, e2]
    rw [hP] at cP
    have HR : Hid (GMem (w.alloc (.cells #[.int .i64 t, .int .i64 h, .int .i64 x, .bool c] 83)) p N most m ∧ Keeps (fun b => b = p) w (w.alloc (.cells #[.int .i64 t, .int .i64 h, .int .i64 x, .bool c] 83))) := ⟨hg1, hk1⟩
    clear cT cH cW e1 e2 hg1 hk1 hP
    unfold arcV
    go_enter Try.func52, Try.ntmps52
    go_wp2_with fail
    refine cP.mono ?_
    rintro e w9 ⟨rfl, hw9⟩
    rw [hw9]
    clear hw9 w9 cP
    go_wp2_with fail
    go_ret
    exact ⟨rfl, HR.out⟩
  | true =>
    obtain ⟨i, rfl, hi⟩ := GM.place_nat hP
    cases hT : GM.vert N t with
    | false =>
      obtain ⟨e1, e2⟩ := insCode_no (n := N) (most := most) (m := m) (id := i) (a := ⟨t, h, x, c⟩) (by simp [hT])
      rw [e1, e2]
      rw [hP] at cP
      rw [hT] at cT
      have HR : Hid (GMem (w.alloc (.cells #[.int .i64 t, .int .i64 h, .int .i64 x, .bool c] 83)) p N most m ∧ Keeps (fun b => b = p) w (w.alloc (.cells #[.int .i64 t, .int .i64 h, .int .i64 x, .bool c] 83))) := ⟨hg1, hk1⟩
      clear cH cW e1 e2 hg1 hk1 hP hT
      unfold arcV
      go_enter Try.func52, Try.ntmps52
      go_wp2_with fail
      refine cP.mono ?_
      rintro e w9 ⟨rfl, hw9⟩
      rw [hw9]
      clear hw9 w9 cP
      go_wp2_with fail
      refine cT.mono ?_
      rintro e w9 ⟨rfl, hw9⟩
      rw [hw9]
      clear hw9 w9 cT
      go_wp2_with fail
      go_ret
      exact ⟨rfl, HR.out⟩
    | true =>
    cases hH : GM.vert N h with
    | false =>
      obtain ⟨e1, e2⟩ := insCode_no (n := N) (most := most) (m := m) (id := i) (a := ⟨t, h, x, c⟩) (by simp [hH])
      rw [e1, e2]
      rw [hP] at cP
      rw [hT] at cT
      rw [hH] at cH
      have HR : Hid (GMem (w.alloc (.cells #[.int .i64 t, .int .i64 h, .int .i64 x, .bool c] 83)) p N most m ∧ Keeps (fun b => b = p) w (w.alloc (.cells #[.int .i64 t, .int .i64 h, .int .i64 x, .bool c] 83))) := ⟨hg1, hk1⟩
      clear cW e1 e2 hg1 hk1 hP hT hH
      unfold arcV
      go_enter Try.func52, Try.ntmps52
      go_wp2_with fail
      refine cP.mono ?_
      rintro e w9 ⟨rfl, hw9⟩
      rw [hw9]
      clear hw9 w9 cP
      go_wp2_with fail
      refine cT.mono ?_
      rintro e w9 ⟨rfl, hw9⟩
      rw [hw9]
      clear hw9 w9 cT
      go_wp2_with fail
      refine cH.mono ?_
      rintro e w9 ⟨rfl, hw9⟩
      rw [hw9]
      clear hw9 w9 cH
      go_wp2_with fail
      go_ret
      exact ⟨rfl, HR.out⟩
    | true =>
    cases hW : GM.okW x with
    | false =>
      obtain ⟨e1, e2⟩ := insCode_no (n := N) (most := most) (m := m) (id := i) (a := ⟨t, h, x, c⟩) (by simp [hW])
      rw [e1, e2]
      rw [hP] at cP
      rw [hT] at cT
      rw [hH] at cH
      rw [hW] at cW
      have HR : Hid (GMem (w.alloc (.cells #[.int .i64 t, .int .i64 h, .int .i64 x, .bool c] 83)) p N most m ∧ Keeps (fun b => b = p) w (w.alloc (.cells #[.int .i64 t, .int .i64 h, .int .i64 x, .bool c] 83))) := ⟨hg1, hk1⟩
      clear e1 e2 hg1 hk1 hP hT hH hW
      unfold arcV
      go_enter Try.func52, Try.ntmps52
      go_wp2_with fail
      refine cP.mono ?_
      rintro e w9 ⟨rfl, hw9⟩
      rw [hw9]
      clear hw9 w9 cP
      go_wp2_with fail
      refine cT.mono ?_
      rintro e w9 ⟨rfl, hw9⟩
      rw [hw9]
      clear hw9 w9 cT
      go_wp2_with fail
      refine cH.mono ?_
      rintro e w9 ⟨rfl, hw9⟩
      rw [hw9]
      clear hw9 w9 cH
      go_wp2_with fail
      refine cW.mono ?_
      rintro e w9 ⟨rfl, hw9⟩
      rw [hw9]
      clear hw9 w9 cW
      go_wp2_with fail
      go_ret
      exact ⟨rfl, HR.out⟩
    | true =>
    have e0 := insCode_yes (n := N) (most := most) (i := i) (m := m) (a := ⟨t, h, x, c⟩) (by simp [hP, hT, hH, hW])
    rw [hP] at cP
    rw [hT] at cT
    rw [hH] at cH
    rw [hW] at cW
    have har := arc_in hg1 hm i hi
    have HG1 : Hid (GMem (w.alloc (.cells #[.int .i64 t, .int .i64 h, .int .i64 x, .bool c] 83)) p N most m) := hg1
    have HK1 : Hid (Keeps (fun b => b = p) w (w.alloc (.cells #[.int .i64 t, .int .i64 h, .int .i64 x, .bool c] 83))) := hk1
    have HGD : Hid (GM.Good most m) := hm
    have HA : Hid (ArcIn (w.alloc (.cells #[.int .i64 t, .int .i64 h, .int .i64 x, .bool c] 83)) w.heap.size 0 ⟨t, h, x, c⟩) := arcIn_new w t h x c
    have hS1 : (w.alloc (.cells #[.int .i64 t, .int .i64 h, .int .i64 x, .bool c] 83)).heap.size = w.heap.size + 1 := by simp
    clear hP hT hH hW hg1 hk1 hm hg hb1
    unfold arcV at har ⊢
    generalize GM.arc m i = ar at *
    obtain ⟨t', h', x', c'⟩ := ar
    dsimp only at har ⊢
    go_enter Try.func52, Try.ntmps52
    go_wp2_with fail
    refine cP.mono ?_
    rintro e w9 ⟨rfl, hw9⟩
    rw [hw9]
    clear hw9 w9 cP
    go_wp2_with fail
    refine cT.mono ?_
    rintro e w9 ⟨rfl, hw9⟩
    rw [hw9]
    clear hw9 w9 cT
    go_wp2_with fail
    refine cH.mono ?_
    rintro e w9 ⟨rfl, hw9⟩
    rw [hw9]
    clear hw9 w9 cH
    go_wp2_with fail
    refine cW.mono ?_
    rintro e w9 ⟨rfl, hw9⟩
    rw [hw9]
    clear hw9 w9 cW
    go_wp2_with fail
    clear a0 a1 a2 a3
    generalize w.alloc (.cells #[.int .i64 t, .int .i64 h, .int .i64 x, .bool c] 83) = w1 at *
    refine har.mono ?_
    rintro e w2 ⟨rfl, hb2⟩
    have hg2 := HG1.out.on hb2
    have HB3 : Hid (Below w1.heap.size w1 (w2.alloc (.cells #[.int .i64 t', .int .i64 h', .int .i64 x', .bool c'] 83))) := hb2.alloc hb2.size _
    clear har
    cases hs : GM.is m i with
    | true =>
      rw [hs, if_pos rfl] at e0
      have HR : Hid (GMem (w2.alloc (.cells #[.int .i64 t', .int .i64 h', .int .i64 x', .bool c'] 83)) p N most (GM.ins N most m i ⟨t, h, x, c⟩) ∧ Keeps (fun b => b = p) w (w2.alloc (.cells #[.int .i64 t', .int .i64 h', .int .i64 x', .bool c'] 83))) := by
        refine ⟨?_, HK1.out.trans (Below.keeps HB3.out (fun b => b = p)) (fun _ h => .inl h)⟩
        unfold GM.ins
        rw [e0, if_neg (by decide)]
        exact HG1.out.on HB3.out
      have HE : Hid (GM.insCode N most m i ⟨t, h, x, c⟩ = 4) := e0
      clear hb2 hg2 e0 hs
      go_wp2_with fail
      go_ret
      exact ⟨ret_int HE.out.symm, HR.out⟩
    | false =>
      rw [hs, if_neg (by decide)] at e0
      have HG3 : Hid (GMem (w2.alloc (.cells #[.int .i64 t', .int .i64 h', .int .i64 x', .bool c'] 83)) p N most m) := HG1.out.on HB3.out
      clear hb2 hg2 hs
      go_wp2_with fail
      generalize w2.alloc (.cells #[.int .i64 t', .int .i64 h', .int .i64 x', .bool c'] 83) = w3 at *
      have hb3d : Below w3.heap.size w3 w3.drew := (Below.refl _ _).drew
      have hln := len_any HG3.out.drew HGD.out
      have c1 := HG3.out.c1
      have HA3 : Hid (ArcIn w3 w.heap.size 0 ⟨t, h, x, c⟩) := HA.out.same (fun j => HB3.out.cell (p := ⟨w.heap.size, j, none⟩) (by show w.heap.size < _; omega))
      have HK3 : Hid (Keeps (fun b => b = p) w w3) := HK1.out.trans (Below.keeps HB3.out (fun b => b = p)) (fun _ h => .inl h)
      have HC1 : Hid (∀ W, Below w3.heap.size w3 W → W.cell? ⟨p, 1, none⟩ = some (.int .i64 (most : Nat))) := fun W hW => (HG3.out.on hW).c1
      have hsz3 : w.heap.size < w3.heap.size := by have := HB3.out.size; omega
      have hfew := HGD.out.few
      have h64 := GM.cnt_le m
      clear HG1 HK1 HA HB3
      by_cases hcm : GM.cnt m = most
      · rw [if_neg (by omega)] at e0
        have HE : Hid (GM.insCode N most m i ⟨t, h, x, c⟩ = 2) := e0
        have HI : Hid (GM.ins N most m i ⟨t, h, x, c⟩ = m) := by
          show _ = _
          unfold GM.ins
          rw [e0, if_neg (by decide)]
        rw [hcm] at hln
        clear e0 hcm hfew h64 hne
        go_region_held3 (fun w' => w'.cell? ⟨p, 1, none⟩ = some (.int .i64 (most : Nat))) (go_keep) (first
          | (go_at_call 68; refine hln.mono ?_; rintro e w5 ⟨rfl, hb5⟩; have hb5' : Below w3.heap.size w3 w5 := below_of_drew hb5; have g5 := HC1.out w5 hb5'))
        all_goals
          have HR : Hid (GMem w5 p N most m ∧ Keeps (fun b => b = p) w w5) := ⟨HG3.out.on hb5', HK3.out.trans (Below.keeps hb5' (fun b => b = p)) (fun _ h => .inl h)⟩
          clear hb5 hb5' hln
          go_wp2_with fail
          go_ret
          rw [HI.out]
          exact ⟨ret_int HE.out.symm, HR.out⟩
      · rw [if_pos (by omega)] at e0
        have HE : Hid (GM.insCode N most m i ⟨t, h, x, c⟩ = 0) := e0
        have HI : Hid (GM.ins N most m i ⟨t, h, x, c⟩ = GM.upd m i (some ⟨t, h, x, c⟩)) := by
          show _ = _
          unfold GM.ins
          rw [e0, if_pos rfl, Int.toNat_natCast]
        have hcm' : ((GM.cnt m : Int) == (most : Int)) = false := by simp; omega
        have hcm2 : (GM.cnt m == most) = false := by simpa using hcm
        clear e0 hfew h64 hcm
        generalize GM.cnt m = C at *
        go_cut [46] (fun s wx => s = .bool false ∧ Below w3.heap.size w3 wx)
        case first =>
          go_region_held3 (fun w' => w'.cell? ⟨p, 1, none⟩ = some (.int .i64 (most : Nat))) (go_keep) (first
            | (go_at_call 68; refine hln.mono ?_; rintro e w5 ⟨rfl, hb5⟩; have hb5' : Below w3.heap.size w3 w5 := below_of_drew hb5; have g5 := HC1.out w5 hb5'))
          all_goals
            clear hln
            go_wp2_with fail
            go_meet
            exact ⟨by simp, hb5'⟩
        case rest =>
          obtain ⟨rfl, hb5⟩ := hcut
          have hg5 := HG3.out.on hb5
          obtain ⟨a0, a1, a2, a3⟩ := HA3.out.same (fun j => hb5.cell (p := ⟨w.heap.size, j, none⟩) hsz3)
          simp only [Nat.zero_add] at a1 a2 a3
          dsimp only at a0 a1 a2 a3
          obtain ⟨d0, d1, d2, d3⟩ := hg5.arc i hi
          have f0 := hg5.fz (2 + i * 4)
          have f1 := hg5.fz (2 + i * 4 + 1)
          have f2 := hg5.fz (2 + i * 4 + 2)
          have f3 := hg5.fz (2 + i * 4 + 3)
          have HR : Hid (GMem ((((wc.setCell ⟨p, 2 + i * 4, none⟩ (.int .i64 t)).setCell ⟨p, 2 + i * 4 + 1, none⟩ (.int .i64 h)).setCell ⟨p, 2 + i * 4 + 2, none⟩ (.int .i64 x)).setCell ⟨p, 2 + i * 4 + 3, none⟩ (.bool c)).drew p N most (GM.ins N most m i ⟨t, h, x, c⟩) ∧ Keeps (fun b => b = p) w ((((wc.setCell ⟨p, 2 + i * 4, none⟩ (.int .i64 t)).setCell ⟨p, 2 + i * 4 + 1, none⟩ (.int .i64 h)).setCell ⟨p, 2 + i * 4 + 2, none⟩ (.int .i64 x)).setCell ⟨p, 2 + i * 4 + 3, none⟩ (.bool c)).drew) := by
            have h1 := hg5.put hi (some ⟨t, h, x, c⟩)
            have h2 := arcSet_keeps wc p (2 + i * 4) ⟨t, h, x, c⟩
            have h3 := HK3.out.trans (Below.keeps hb5 (fun b => b = p)) (fun _ h => .inl h)
            show GMem _ _ _ _ _ ∧ _
            rw [HI.out]
            exact ⟨h1.drew, (h3.trans h2 (fun _ h => .inl h)).drew⟩
          have i64' : (i : Int) < 64 := by omega
          clear hb5 hg5 HG3 HC1 c1 hln hcm' hcm2
          go_wp2_with fail
          go_region
          all_goals
            go_wp2_with fail
            go_ret
            exact ⟨ret_int HE.out.symm, HR.out⟩
end Go.Proofs.Ytleckkpfnjpbiaa
