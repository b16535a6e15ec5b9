/-
  GraphRef2, GraphRef3.
-/
import Derived.Test.YtkcfepppnclniaaGreatDoorMmGraphOps
section
/-
  The walks of the reference's graph: its changes, and the law's DoRef.
-/
namespace Go.Proofs.YtkcfepppnclniaaGreatDoor
open Go.RowKit

set_option maxHeartbeats 1000000 in
theorem rlen_any {w : World} {q N most : Nat} {m : GM.M} (hg : RMem w q N most m) :
    Calls Tryz.prog 86 #[.pointer (some ⟨q, 0, none⟩)] w fun e w' => e = .returned (.int .i64 (GM.cnt m : Nat)) ∧ Below w.heap.size w w' := by
  have hc := rids_any hg
  have HL : Hid ((GM.iids m 64).length = GM.cnt m) := GM.iids_len m 64
  clear hg
  generalize GM.iids m 64 = L at *
  go_enter Tryz.func86, Tryz.ntmps86
  go_wp2_with fail
  refine hc.mono ?_
  rintro e w2 ⟨r, rfl, ho, hb⟩
  obtain ⟨a2, c2, rfl, -⟩ := ho.at
  rw [HL.out]
  have HB : Hid (Below w.heap.size w w2) := hb
  clear hc ho hb
  go_wp2_with fail
  go_ret
  exact ⟨rfl, HB.out⟩

set_option maxHeartbeats 1000000 in
set_option maxRecDepth 100000 in
theorem rinsert_any {w : World} {q N most : Nat} {m : GM.M} (hg : RMem w q N most m) (id : Int) (a : Arc) :
    Calls Tryz.prog 53 #[.pointer (some ⟨q, 0, none⟩), .int .i64 id, arcV a] w fun e w' => e = .returned (.int .i64 (GM.insCode N most m id a)) ∧ RMem w' q N most (GM.ins N most m id a) ∧ Keeps (fun b => b = q) w w' := by
  obtain ⟨t, h, x, c⟩ := a
  have hb1 : Below w.heap.size w (w.alloc (.cells #[.int .i64 t, .int .i64 h, .int .i64 x, .bool c] 35)) := (Below.refl _ _).alloc (Nat.le_refl _) _
  have hg1 := hg.on hb1
  have hk1 : Keeps (fun b => b = q) w (w.alloc (.cells #[.int .i64 t, .int .i64 h, .int .i64 x, .bool c] 35)) := Below.keeps hb1 _
  have HR0 : Hid (RMem (w.alloc (.cells #[.int .i64 t, .int .i64 h, .int .i64 x, .bool c] 35)) q N most m ∧ Keeps (fun b => b = q) w (w.alloc (.cells #[.int .i64 t, .int .i64 h, .int .i64 x, .bool c] 35))) := ⟨hg1, hk1⟩
  obtain ⟨a0, a1, a2, a3⟩ := arcIn_new w t h x c
  simp only [Nat.zero_add] at a1 a2 a3
  have cT := vertex_any hg1 t
  have cH := vertex_any hg1 h
  have cW := rweight_any x (w.alloc (.cells #[.int .i64 t, .int .i64 h, .int .i64 x, .bool c] 35))
  have ea : arcV ⟨t, h, x, c⟩ = .agg #[.int .i64 t, .int .i64 h, .int .i64 x, .bool c] := rfl
  rw [ea]
  clear ea hk1
  cases hP : GM.place id with
  | false =>
    obtain ⟨e1, e2⟩ := insCode_no (n := N) (most := most) (m := m) (id := id) (a := ⟨t, h, x, c⟩) (by rw [hP]; rfl)
    rw [e1, e2]
    have hnp : ¬ (0 ≤ id ∧ id < 64) := of_decide_eq_false hP
    clear cT cH cW e1 e2 hg1 hP hg hb1
    by_cases h1 : id < 0
    · clear hnp
      go_enter Tryz.func53, Tryz.ntmps53
      go_wp2_with fail
      go_ret
      exact ⟨rfl, HR0.out⟩
    · have h2 : 63 < id := by omega
      clear hnp
      go_enter Tryz.func53, Tryz.ntmps53
      go_wp2_with fail
      go_ret
      exact ⟨rfl, HR0.out⟩
  | true =>
    obtain ⟨i, rfl, hi⟩ := GM.place_nat hP
    have p0 : ¬ (i : Int) < 0 := by omega
    have p1 : ¬ 63 < (i : Int) := by omega
    have p2 : (i : Int) < 64 := by omega
    cases hT : GM.vert N t with
    | false =>
      obtain ⟨e1, e2⟩ := insCode_no (n := N) (most := most) (m := m) (id := i) (a := ⟨t, h, x, c⟩) (by simp [hT])
      rw [e1, e2]
      rw [hT] at cT
      clear cH cW e1 e2 hg1 hP hT hg hb1
      go_enter Tryz.func53, Tryz.ntmps53
      go_wp2_with fail
      refine cT.mono ?_
      rintro e w9 ⟨rfl, hw9⟩
      rw [hw9]
      clear hw9 w9 cT
      go_wp2_with fail
      go_ret
      exact ⟨rfl, HR0.out⟩
    | true =>
    cases hH : GM.vert N h with
    | false =>
      obtain ⟨e1, e2⟩ := insCode_no (n := N) (most := most) (m := m) (id := i) (a := ⟨t, h, x, c⟩) (by simp [hH])
      rw [e1, e2]
      rw [hT] at cT
      rw [hH] at cH
      clear cW e1 e2 hg1 hP hT hH hg hb1
      go_enter Tryz.func53, Tryz.ntmps53
      go_wp2_with fail
      refine cT.mono ?_
      rintro e w9 ⟨rfl, hw9⟩
      rw [hw9]
      clear hw9 w9 cT
      go_wp2_with fail
      refine cH.mono ?_
      rintro e w9 ⟨rfl, hw9⟩
      rw [hw9]
      clear hw9 w9 cH
      go_wp2_with fail
      go_ret
      exact ⟨rfl, HR0.out⟩
    | true =>
    cases hW : GM.okW x with
    | false =>
      obtain ⟨e1, e2⟩ := insCode_no (n := N) (most := most) (m := m) (id := i) (a := ⟨t, h, x, c⟩) (by simp [hW])
      rw [e1, e2]
      rw [hT] at cT
      rw [hH] at cH
      rw [hW] at cW
      clear e1 e2 hg1 hP hT hH hW hg hb1
      go_enter Tryz.func53, Tryz.ntmps53
      go_wp2_with fail
      refine cT.mono ?_
      rintro e w9 ⟨rfl, hw9⟩
      rw [hw9]
      clear hw9 w9 cT
      go_wp2_with fail
      refine cH.mono ?_
      rintro e w9 ⟨rfl, hw9⟩
      rw [hw9]
      clear hw9 w9 cH
      go_wp2_with fail
      refine cW.mono ?_
      rintro e w9 ⟨rfl, hw9⟩
      rw [hw9]
      clear hw9 w9 cW
      go_wp2_with fail
      go_ret
      exact ⟨rfl, HR0.out⟩
    | true =>
    have e0 := insCode_yes (n := N) (most := most) (i := i) (m := m) (a := ⟨t, h, x, c⟩) (by simp [hP, hT, hH, hW])
    rw [hT] at cT
    rw [hH] at cH
    rw [hW] at cW
    have ct := hg1.tk i hi
    have HA : Hid (ArcIn (w.alloc (.cells #[.int .i64 t, .int .i64 h, .int .i64 x, .bool c] 35)) w.heap.size 0 ⟨t, h, x, c⟩) := arcIn_new w t h x c
    have hS1 : w.heap.size < (w.alloc (.cells #[.int .i64 t, .int .i64 h, .int .i64 x, .bool c] 35)).heap.size := by simp
    have hql := hg.lt
    clear hP hT hH hW hg hb1
    cases hs : GM.is m i with
    | true =>
      rw [hs] at ct
      rw [hs, if_pos rfl] at e0
      have HI : Hid (GM.ins N most m i ⟨t, h, x, c⟩ = m) := by
        show _ = _
        unfold GM.ins
        rw [e0, if_neg (by decide)]
      rw [e0, HI.out]
      clear hg1 e0 hs HI
      go_enter Tryz.func53, Tryz.ntmps53
      go_wp2_with fail
      refine cT.mono ?_
      rintro e w9 ⟨rfl, hw9⟩
      rw [hw9]
      clear hw9 w9 cT
      go_wp2_with fail
      refine cH.mono ?_
      rintro e w9 ⟨rfl, hw9⟩
      rw [hw9]
      clear hw9 w9 cH
      go_wp2_with fail
      refine cW.mono ?_
      rintro e w9 ⟨rfl, hw9⟩
      rw [hw9]
      clear hw9 w9 cW
      go_wp2_with fail
      go_ret
      exact ⟨rfl, HR0.out⟩
    | false =>
      rw [hs] at ct
      rw [hs, if_neg (by decide)] at e0
      have hln := rlen_any hg1.drew
      have c1 := hg1.c1
      have h64 := GM.cnt_le m
      have HC1 : Hid (∀ W, Below (w.alloc (.cells #[.int .i64 t, .int .i64 h, .int .i64 x, .bool c] 35)).heap.size (w.alloc (.cells #[.int .i64 t, .int .i64 h, .int .i64 x, .bool c] 35)) W → W.cell? ⟨q, 1, none⟩ = some (.int .i64 (most : Nat))) := fun W hW => (hg1.on hW).c1
      clear hs
      by_cases hcm : GM.cnt m < most
      · rw [if_pos hcm] at e0
        have HI : Hid (GM.ins N most m i ⟨t, h, x, c⟩ = GM.upd m i (some ⟨t, h, x, c⟩)) := by
          show _ = _
          unfold GM.ins
          rw [e0, if_pos rfl, Int.toNat_natCast]
        rw [e0, HI.out]
        have hcm' : ¬ (most : Int) ≤ (GM.cnt m : Int) := by omega
        have hcm2 : ¬ most ≤ GM.cnt m := by omega
        clear hg1 e0 HI hcm
        generalize GM.cnt m = C at *
        go_enter Tryz.func53, Tryz.ntmps53
        go_wp2_with fail
        refine cT.mono ?_
        rintro e w9 ⟨rfl, hw9⟩
        rw [hw9]
        clear hw9 w9 cT
        go_wp2_with fail
        refine cH.mono ?_
        rintro e w9 ⟨rfl, hw9⟩
        rw [hw9]
        clear hw9 w9 cH
        go_wp2_with fail
        refine cW.mono ?_
        rintro e w9 ⟨rfl, hw9⟩
        rw [hw9]
        clear hw9 w9 cW
        go_upto_region 5 with fail
        clear a0 a1 a2 a3 ct
        generalize w.alloc (.cells #[.int .i64 t, .int .i64 h, .int .i64 x, .bool c] 35) = w1 at *
        go_cut [45] (fun s wx => s = .bool false ∧ Below w1.heap.size w1 wx)
        case first =>
          go_region_held3 (fun w' => w'.cell? ⟨q, 1, none⟩ = some (.int .i64 (most : Nat))) (go_keep) (first
            | (go_at_call 86; refine hln.mono ?_; rintro e w5 ⟨rfl, hb5⟩; have hb5' : Below w1.heap.size w1 w5 := below_of_drew hb5; have g5 := HC1.out w5 hb5'))
          all_goals
            clear hln
            go_wp2_with fail
            go_meet
            exact ⟨by simp, hb5'⟩
        case rest =>
          obtain ⟨rfl, hb5⟩ := hcut
          have hg5 := HR0.out.1.on hb5
          obtain ⟨a0, a1, a2, a3⟩ := HA.out.same (fun j => hb5.cell (p := ⟨w.heap.size, j, none⟩) hS1)
          simp only [Nat.zero_add] at a1 a2 a3
          dsimp only at a0 a1 a2 a3
          have ct := hg5.tk i hi
          have ft := hg5.fz (2 + i)
          obtain ⟨d0, d1, d2, d3⟩ := hg5.arc i hi
          have f0 := hg5.fz (66 + i * 4)
          have f1 := hg5.fz (66 + i * 4 + 1)
          have f2 := hg5.fz (66 + i * 4 + 2)
          have f3 := hg5.fz (66 + i * 4 + 3)
          have HR : Hid (RMem (((((wc.setCell ⟨q, 2 + i, none⟩ (.bool true)).setCell ⟨q, 66 + i * 4, none⟩ (.int .i64 t)).setCell ⟨q, 66 + i * 4 + 1, none⟩ (.int .i64 h)).setCell ⟨q, 66 + i * 4 + 2, none⟩ (.int .i64 x)).setCell ⟨q, 66 + i * 4 + 3, none⟩ (.bool c)).drew q N most (GM.upd m i (some ⟨t, h, x, c⟩)) ∧ Keeps (fun b => b = q) w (((((wc.setCell ⟨q, 2 + i, none⟩ (.bool true)).setCell ⟨q, 66 + i * 4, none⟩ (.int .i64 t)).setCell ⟨q, 66 + i * 4 + 1, none⟩ (.int .i64 h)).setCell ⟨q, 66 + i * 4 + 2, none⟩ (.int .i64 x)).setCell ⟨q, 66 + i * 4 + 3, none⟩ (.bool c)).drew) := by
            have h1 := hg5.mark hi true (some ⟨t, h, x, c⟩) rfl
            have h2 := (keeps_set wc q (2 + i) (.bool true)).trans (arcSet_keeps (wc.setCell ⟨q, 2 + i, none⟩ (.bool true)) q (66 + i * 4) ⟨t, h, x, c⟩) (fun _ h => .inl h)
            have h3 := HR0.out.2.trans (Below.keeps hb5 (fun b => b = q)) (fun _ h => .inl h)
            exact ⟨h1.drew, (h3.trans h2 (fun _ h => .inl h)).drew⟩
          have hql' : w.heap.size ≠ q := by omega
          clear hb5 hg5 HC1 c1 hln hcm'
          have ca0 : (wc.setCell ⟨q, 2 + i, none⟩ (.bool true)).cell? ⟨w.heap.size, 0, none⟩ = some (.int .i64 t) := (World.cell?_setCell_far _ _ _ _ (fun e => hql' e.symm)).trans a0
          have ca1 : (wc.setCell ⟨q, 2 + i, none⟩ (.bool true)).cell? ⟨w.heap.size, 1, none⟩ = some (.int .i64 h) := (World.cell?_setCell_far _ _ _ _ (fun e => hql' e.symm)).trans a1
          have ca2 : (wc.setCell ⟨q, 2 + i, none⟩ (.bool true)).cell? ⟨w.heap.size, 2, none⟩ = some (.int .i64 x) := (World.cell?_setCell_far _ _ _ _ (fun e => hql' e.symm)).trans a2
          have ca3 : (wc.setCell ⟨q, 2 + i, none⟩ (.bool true)).cell? ⟨w.heap.size, 3, none⟩ = some (.bool c) := (World.cell?_setCell_far _ _ _ _ (fun e => hql' e.symm)).trans a3
          have cd0 : (wc.setCell ⟨q, 2 + i, none⟩ (.bool true)).cell? ⟨q, 66 + i * 4, none⟩ = some (.int .i64 (GM.arc m i).tail) := (cell_other _ (by omega)).trans d0
          have cd1 : (wc.setCell ⟨q, 2 + i, none⟩ (.bool true)).cell? ⟨q, 66 + i * 4 + 1, none⟩ = some (.int .i64 (GM.arc m i).head) := (cell_other _ (by omega)).trans d1
          have cd2 : (wc.setCell ⟨q, 2 + i, none⟩ (.bool true)).cell? ⟨q, 66 + i * 4 + 2, none⟩ = some (.int .i64 (GM.arc m i).weight) := (cell_other _ (by omega)).trans d2
          have cd3 : (wc.setCell ⟨q, 2 + i, none⟩ (.bool true)).cell? ⟨q, 66 + i * 4 + 3, none⟩ = some (.bool (GM.arc m i).closed) := (cell_other _ (by omega)).trans d3
          have cf0 : (wc.setCell ⟨q, 2 + i, none⟩ (.bool true)).frozen? ⟨q, 66 + i * 4, none⟩ = false := by simpa using f0
          have cf1 : (wc.setCell ⟨q, 2 + i, none⟩ (.bool true)).frozen? ⟨q, 66 + i * 4 + 1, none⟩ = false := by simpa using f1
          have cf2 : (wc.setCell ⟨q, 2 + i, none⟩ (.bool true)).frozen? ⟨q, 66 + i * 4 + 2, none⟩ = false := by simpa using f2
          have cf3 : (wc.setCell ⟨q, 2 + i, none⟩ (.bool true)).frozen? ⟨q, 66 + i * 4 + 3, none⟩ = false := by simpa using f3
          clear a0 a1 a2 a3 d0 d1 d2 d3 f0 f1 f2 f3
          go_upto_region 8 with fail
          clear ct ft
          generalize wc.setCell ⟨q, 2 + i, none⟩ (.bool true) = w6 at *
          go_region
          all_goals
            go_wp2_with fail
            go_ret
            exact ⟨rfl, HR.out⟩
      · rw [if_neg hcm] at e0
        have HI : Hid (GM.ins N most m i ⟨t, h, x, c⟩ = m) := by
          show _ = _
          unfold GM.ins
          rw [e0, if_neg (by decide)]
        rw [e0, HI.out]
        have hcm' : (most : Int) ≤ (GM.cnt m : Int) := by omega
        have hcm2 : most ≤ GM.cnt m := by omega
        clear hg1 e0 HI hcm
        generalize GM.cnt m = C at *
        go_enter Tryz.func53, Tryz.ntmps53
        go_wp2_with fail
        refine cT.mono ?_
        rintro e w9 ⟨rfl, hw9⟩
        rw [hw9]
        clear hw9 w9 cT
        go_wp2_with fail
        refine cH.mono ?_
        rintro e w9 ⟨rfl, hw9⟩
        rw [hw9]
        clear hw9 w9 cH
        go_wp2_with fail
        refine cW.mono ?_
        rintro e w9 ⟨rfl, hw9⟩
        rw [hw9]
        clear hw9 w9 cW
        go_upto_region 5 with fail
        clear a0 a1 a2 a3 ct
        generalize w.alloc (.cells #[.int .i64 t, .int .i64 h, .int .i64 x, .bool c] 35) = w1 at *
        go_region_held3 (fun w' => w'.cell? ⟨q, 1, none⟩ = some (.int .i64 (most : Nat))) (go_keep) (first
          | (go_at_call 86; refine hln.mono ?_; rintro e w5 ⟨rfl, hb5⟩; have hb5' : Below w1.heap.size w1 w5 := below_of_drew hb5; have g5 := HC1.out w5 hb5'))
        all_goals
          have HR : Hid (RMem w5 q N most m ∧ Keeps (fun b => b = q) w w5) := ⟨HR0.out.1.on hb5', HR0.out.2.trans (Below.keeps hb5' (fun b => b = q)) (fun _ h => .inl h)⟩
          clear hb5 hb5' hln
          go_wp2_with fail
          go_ret
          exact ⟨rfl, HR.out⟩
end Go.Proofs.YtkcfepppnclniaaGreatDoor
end

section
/-
  The walks of the reference's graph: Delete, Turn, Weigh, and the law's DoRef.
-/
namespace Go.Proofs.YtkcfepppnclniaaGreatDoor
open Go.RowKit

set_option maxHeartbeats 1000000 in
theorem rdelete_any {w : World} {q N most : Nat} {m : GM.M} (hg : RMem w q N most m) (id : Int) :
    Calls Tryz.prog 54 #[.pointer (some ⟨q, 0, none⟩), .int .i64 id] w fun e w' => e = .returned (.int .i64 (GM.atCode m id)) ∧ RMem w' q N most (GM.del m id) ∧ Keeps (fun b => b = q) w w' := by
  have hc := code_any hg id
  by_cases h0 : GM.atCode m id = 0
  · obtain ⟨i, rfl, hi, hs⟩ := GM.atCode_zero h0
    have HD : Hid (GM.del m i = GM.upd m i none) := by
      show _ = _
      unfold GM.del
      rw [if_pos h0, Int.toNat_natCast]
    rw [HD.out]
    rw [h0] at hc ⊢
    have ct := hg.tk i hi
    have ft := hg.fz (2 + i)
    obtain ⟨d0, d1, d2, d3⟩ := hg.arc i hi
    have f0 := hg.fz (66 + i * 4)
    have f1 := hg.fz (66 + i * 4 + 1)
    have f2 := hg.fz (66 + i * 4 + 2)
    have f3 := hg.fz (66 + i * 4 + 3)
    have p2 : (i : Int) < 64 := by omega
    have HR : Hid (RMem (((((w.setCell ⟨q, 2 + i, none⟩ (.bool false)).setCell ⟨q, 66 + i * 4, none⟩ (.int .i64 0)).setCell ⟨q, 66 + i * 4 + 1, none⟩ (.int .i64 0)).setCell ⟨q, 66 + i * 4 + 2, none⟩ (.int .i64 0)).setCell ⟨q, 66 + i * 4 + 3, none⟩ (.bool false)) q N most (GM.upd m i none) ∧ Keeps (fun b => b = q) w (((((w.setCell ⟨q, 2 + i, none⟩ (.bool false)).setCell ⟨q, 66 + i * 4, none⟩ (.int .i64 0)).setCell ⟨q, 66 + i * 4 + 1, none⟩ (.int .i64 0)).setCell ⟨q, 66 + i * 4 + 2, none⟩ (.int .i64 0)).setCell ⟨q, 66 + i * 4 + 3, none⟩ (.bool false))) :=
      ⟨hg.mark hi false none rfl, (keeps_set w q (2 + i) (.bool false)).trans (arcSet_keeps (w.setCell ⟨q, 2 + i, none⟩ (.bool false)) q (66 + i * 4) noArc) (fun _ h => .inl h)⟩
    have cd0 : (w.setCell ⟨q, 2 + i, none⟩ (.bool false)).cell? ⟨q, 66 + i * 4, none⟩ = some (.int .i64 (GM.arc m i).tail) := (cell_other _ (by omega)).trans d0
    have cd1 : (w.setCell ⟨q, 2 + i, none⟩ (.bool false)).cell? ⟨q, 66 + i * 4 + 1, none⟩ = some (.int .i64 (GM.arc m i).head) := (cell_other _ (by omega)).trans d1
    have cd2 : (w.setCell ⟨q, 2 + i, none⟩ (.bool false)).cell? ⟨q, 66 + i * 4 + 2, none⟩ = some (.int .i64 (GM.arc m i).weight) := (cell_other _ (by omega)).trans d2
    have cd3 : (w.setCell ⟨q, 2 + i, none⟩ (.bool false)).cell? ⟨q, 66 + i * 4 + 3, none⟩ = some (.bool (GM.arc m i).closed) := (cell_other _ (by omega)).trans d3
    have cf0 : (w.setCell ⟨q, 2 + i, none⟩ (.bool false)).frozen? ⟨q, 66 + i * 4, none⟩ = false := by simpa using f0
    have cf1 : (w.setCell ⟨q, 2 + i, none⟩ (.bool false)).frozen? ⟨q, 66 + i * 4 + 1, none⟩ = false := by simpa using f1
    have cf2 : (w.setCell ⟨q, 2 + i, none⟩ (.bool false)).frozen? ⟨q, 66 + i * 4 + 2, none⟩ = false := by simpa using f2
    have cf3 : (w.setCell ⟨q, 2 + i, none⟩ (.bool false)).frozen? ⟨q, 66 + i * 4 + 3, none⟩ = false := by simpa using f3
    clear d0 d1 d2 d3 f0 f1 f2 f3 HD h0 hs hg
    go_enter Tryz.func54, Tryz.ntmps54
    go_wp2_with fail
    refine hc.mono ?_
    rintro e w9 ⟨rfl, hw9⟩
    rw [hw9]
    clear hw9 w9 hc
    go_upto_region 4 with fail
    clear ct ft
    generalize w.setCell ⟨q, 2 + i, none⟩ (.bool false) = w1 at *
    go_wp2_with fail
    go_ret
    exact ⟨rfl, HR.out⟩
  · have HD : Hid (GM.del m id = m) := by
      show _ = _
      unfold GM.del
      rw [if_neg h0]
    rw [HD.out]
    have h0' : (GM.atCode m id == 0) = false := beq_eq_false_iff_ne.2 h0
    have HR : Hid (RMem w q N most m) := hg
    clear hg HD
    generalize GM.atCode m id = k at *
    go_enter Tryz.func54, Tryz.ntmps54
    go_wp2_with fail
    refine hc.mono ?_
    rintro e w9 ⟨rfl, hw9⟩
    rw [hw9]
    clear hw9 w9 hc
    go_wp2_with fail
    go_ret
    exact ⟨rfl, HR.out, Keeps.refl _ _⟩
set_option maxHeartbeats 1000000 in
theorem rturn_any {w : World} {q N most : Nat} {m : GM.M} (hg : RMem w q N most m) (id : Int) (b : Bool) :
    Calls Tryz.prog 55 #[.pointer (some ⟨q, 0, none⟩), .int .i64 id, .bool b] w fun e w' => e = .returned (.int .i64 (GM.turnCode m id b)) ∧ RMem w' q N most (GM.turn m id b) ∧ Keeps (fun b => b = q) w w' := by
  have hc := code_any hg id
  by_cases h0 : GM.atCode m id = 0
  · obtain ⟨i, rfl, hi, hs⟩ := GM.atCode_zero h0
    have e0 : GM.turnCode m i b = if (GM.arc m i).closed = b then 5 else 0 := by
      unfold GM.turnCode
      rw [if_pos h0, Int.toNat_natCast]
    rw [h0] at hc
    obtain ⟨d0, d1, d2, d3⟩ := hg.arc i hi
    have f3 := hg.fz (66 + i * 4 + 3)
    have p2 : (i : Int) < 64 := by omega
    by_cases hb : (GM.arc m i).closed = b
    · rw [if_pos hb] at e0
      have HD : Hid (GM.turn m i b = m) := by
        show _ = _
        unfold GM.turn
        rw [e0, if_neg (by decide)]
      rw [HD.out, e0]
      have HR : Hid (RMem w q N most m) := hg
      rw [hb] at d3
      clear hg HD h0 hs e0 hb d0 d1 d2
      go_enter Tryz.func55, Tryz.ntmps55
      go_wp2_with fail
      refine hc.mono ?_
      rintro e w9 ⟨rfl, hw9⟩
      rw [hw9]
      clear hw9 w9 hc
      go_wp2_with fail
      go_ret
      exact ⟨rfl, HR.out, Keeps.refl _ _⟩
    · rw [if_neg hb] at e0
      have HD : Hid (GM.turn m i b = GM.upd m i (some (shutBy b (GM.arc m i)))) := by
        show _ = _
        unfold GM.turn
        rw [e0, if_pos rfl, Int.toNat_natCast]
        rfl
      rw [HD.out, e0]
      have HR : Hid (RMem (w.setCell ⟨q, 66 + i * 4 + 3, none⟩ (.bool b)) q N most (GM.upd m i (some (shutBy b (GM.arc m i)))) ∧ Keeps (fun b => b = q) w (w.setCell ⟨q, 66 + i * 4 + 3, none⟩ (.bool b))) :=
        ⟨hg.cell hi hs (r := 3) (by decide) _ (shutBy b (GM.arc m i)) rfl (fun s h1 h2 => by
          match s, h1, h2 with
          | 0, _, _ => rfl
          | 1, _, _ => rfl
          | 2, _, _ => rfl
          | s + 3, h1, h2 => exact absurd h1 (by omega)), keeps_set w q _ _⟩
      have hb' : ((GM.arc m i).closed == b) = false := beq_eq_false_iff_ne.2 hb
      clear hg HD h0 hs e0 d0 d1 d2
      generalize (GM.arc m i).closed = c at *
      go_enter Tryz.func55, Tryz.ntmps55
      go_wp2_with fail
      refine hc.mono ?_
      rintro e w9 ⟨rfl, hw9⟩
      rw [hw9]
      clear hw9 w9 hc
      go_wp2_with fail
      go_ret
      exact ⟨rfl, HR.out⟩
  · have e0 : GM.turnCode m id b = GM.atCode m id := by
      unfold GM.turnCode
      rw [if_neg h0]
    have HD : Hid (GM.turn m id b = m) := by
      show _ = _
      unfold GM.turn
      rw [e0, if_neg h0]
    rw [HD.out, e0]
    have h0' : (GM.atCode m id != 0) = true := by simpa using h0
    have HR : Hid (RMem w q N most m) := hg
    clear hg HD e0
    generalize GM.atCode m id = k at *
    go_enter Tryz.func55, Tryz.ntmps55
    go_wp2_with fail
    refine hc.mono ?_
    rintro e w9 ⟨rfl, hw9⟩
    rw [hw9]
    clear hw9 w9 hc
    go_wp2_with fail
    go_ret
    exact ⟨rfl, HR.out, Keeps.refl _ _⟩
set_option maxHeartbeats 1000000 in
theorem rweigh_any {w : World} {q N most : Nat} {m : GM.M} (hg : RMem w q N most m) (id y : Int) :
    Calls Tryz.prog 56 #[.pointer (some ⟨q, 0, none⟩), .int .i64 id, .int .i64 y] w fun e w' => e = .returned (.int .i64 (GM.weighCode m id y)) ∧ RMem w' q N most (GM.weigh m id y) ∧ Keeps (fun b => b = q) w w' := by
  have hw := rweight_any y w
  have hc := code_any hg id
  have HR0 : Hid (RMem w q N most m) := hg
  cases ho : GM.okW y with
  | false =>
    have e0 : GM.weighCode m id y = 1 := by
      unfold GM.weighCode
      rw [ho]
      rfl
    have HM : Hid (GM.weigh m id y = m) := by
      show _ = _
      unfold GM.weigh
      rw [e0, if_neg (by decide)]
    rw [e0, HM.out]
    rw [ho] at hw
    clear hc ho hg HM e0
    go_enter Tryz.func56, Tryz.ntmps56
    go_wp2_with fail
    refine hw.mono ?_
    rintro e w9 ⟨rfl, hw9⟩
    rw [hw9]
    clear hw9 w9 hw
    go_wp2_with fail
    go_ret
    exact ⟨rfl, HR0.out, Keeps.refl _ _⟩
  | true =>
    have e0 : GM.weighCode m id y = GM.atCode m id := by
      unfold GM.weighCode
      rw [ho, if_pos rfl]
    rw [ho] at hw
    by_cases h0 : GM.atCode m id = 0
    · obtain ⟨i, rfl, hi, hs⟩ := GM.atCode_zero h0
      have HM : Hid (GM.weigh m i y = GM.upd m i (some (weighed y (GM.arc m i)))) := by
        show _ = _
        unfold GM.weigh
        rw [e0, if_pos h0, Int.toNat_natCast]
        rfl
      rw [e0, HM.out]
      rw [h0] at hc ⊢
      obtain ⟨d0, d1, d2, d3⟩ := hg.arc i hi
      have f2 := hg.fz (66 + i * 4 + 2)
      have p2 : (i : Int) < 64 := by omega
      have HR : Hid (RMem (w.setCell ⟨q, 66 + i * 4 + 2, none⟩ (.int .i64 y)) q N most (GM.upd m i (some (weighed y (GM.arc m i)))) ∧ Keeps (fun b => b = q) w (w.setCell ⟨q, 66 + i * 4 + 2, none⟩ (.int .i64 y))) :=
        ⟨hg.cell hi hs (r := 2) (by decide) _ (weighed y (GM.arc m i)) rfl (fun s h1 h2 => by
          match s, h1, h2 with
          | 0, _, _ => rfl
          | 1, _, _ => rfl
          | 3, _, _ => rfl), keeps_set w q _ _⟩
      clear hg HM h0 hs e0 d0 d1 d3 ho HR0
      go_enter Tryz.func56, Tryz.ntmps56
      go_wp2_with fail
      refine hw.mono ?_
      rintro e w9 ⟨rfl, hw9⟩
      rw [hw9]
      clear hw9 w9 hw
      go_wp2_with fail
      refine hc.mono ?_
      rintro e w9 ⟨rfl, hw9⟩
      rw [hw9]
      clear hw9 w9 hc
      go_wp2_with fail
      go_ret
      exact ⟨rfl, HR.out⟩
    · have HM : Hid (GM.weigh m id y = m) := by
        show _ = _
        unfold GM.weigh
        rw [e0, if_neg h0]
      rw [e0, HM.out]
      have h0' : (GM.atCode m id == 0) = false := beq_eq_false_iff_ne.2 h0
      clear hg HM e0 ho
      generalize GM.atCode m id = k at *
      go_enter Tryz.func56, Tryz.ntmps56
      go_wp2_with fail
      refine hw.mono ?_
      rintro e w9 ⟨rfl, hw9⟩
      rw [hw9]
      clear hw9 w9 hw
      go_wp2_with fail
      refine hc.mono ?_
      rintro e w9 ⟨rfl, hw9⟩
      rw [hw9]
      clear hw9 w9 hc
      go_wp2_with fail
      go_ret
      exact ⟨rfl, HR0.out, Keeps.refl _ _⟩
set_option maxHeartbeats 1000000 in
theorem doref_any {w : World} {q N most : Nat} {m : GM.M} (hg : RMem w q N most m) (c : Chg) :
    Calls Tryz.prog 20 #[.pointer (some ⟨q, 0, none⟩), chgV c] w fun e w' => e = .returned (.int .i64 (GM.code N most m c)) ∧ RMem w' q N most (GM.next N most m c) ∧ Keeps (fun b => b = q) w w' := by
  obtain ⟨k, id, t, h, x, cl⟩ := c
  have hb1 : Below w.heap.size w (w.alloc (.cells #[.int .i64 k, .int .i64 id, .int .i64 t, .int .i64 h, .int .i64 x, .bool cl] 56)) := (Below.refl _ _).alloc (Nat.le_refl _) _
  have HK : Hid (Keeps (fun b => b = q) w (w.alloc (.cells #[.int .i64 k, .int .i64 id, .int .i64 t, .int .i64 h, .int .i64 x, .bool cl] 56))) := Below.keeps hb1 _
  have hg1 := hg.on hb1
  have e : chgV ⟨k, id, ⟨t, h, x, cl⟩⟩ = .agg #[.int .i64 k, .int .i64 id, .int .i64 t, .int .i64 h, .int .i64 x, .bool cl] := rfl
  rw [e]
  unfold GM.code GM.next
  dsimp only
  by_cases k0 : k = 0
  · subst k0
    simp only [if_true]
    have hc := rinsert_any hg1 id ⟨t, h, x, cl⟩
    have e2 : arcV ⟨t, h, x, cl⟩ = .agg #[.int .i64 t, .int .i64 h, .int .i64 x, .bool cl] := rfl
    rw [e2] at hc
    clear hg1 hb1 e e2 hg
    generalize GM.insCode N most m id ⟨t, h, x, cl⟩ = r at *
    generalize GM.ins N most m id ⟨t, h, x, cl⟩ = m2 at *
    go_enter Tryz.func20, Tryz.ntmps20
    go_wp2_with fail
    refine hc.mono ?_
    rintro e w2 ⟨rfl, h2, h3⟩
    have HR : Hid (RMem w2 q N most m2 ∧ Keeps (fun b => b = q) w w2) := ⟨h2, HK.out.trans h3 (fun _ h => .inl h)⟩
    clear hc h2 h3
    go_wp2_with fail
    go_ret
    exact ⟨rfl, HR.out⟩
  have k0' : (k == 0) = false := beq_eq_false_iff_ne.2 k0
  simp only [if_neg k0]
  by_cases k1 : k = 1
  · subst k1
    simp only [if_true]
    have hc := rdelete_any hg1 id
    clear hg1 hb1 e hg
    generalize GM.atCode m id = r at *
    generalize GM.del m id = m2 at *
    go_enter Tryz.func20, Tryz.ntmps20
    go_wp2_with fail
    refine hc.mono ?_
    rintro e w2 ⟨rfl, h2, h3⟩
    have HR : Hid (RMem w2 q N most m2 ∧ Keeps (fun b => b = q) w w2) := ⟨h2, HK.out.trans h3 (fun _ h => .inl h)⟩
    clear hc h2 h3
    go_wp2_with fail
    go_ret
    exact ⟨rfl, HR.out⟩
  have k1' : (k == 1) = false := beq_eq_false_iff_ne.2 k1
  simp only [if_neg k1]
  by_cases k2 : k = 2
  · subst k2
    simp only [if_true]
    have hc := rturn_any hg1 id true
    clear hg1 hb1 e hg
    generalize GM.turnCode m id true = r at *
    generalize GM.turn m id true = m2 at *
    go_enter Tryz.func20, Tryz.ntmps20
    go_wp2_with fail
    refine hc.mono ?_
    rintro e w2 ⟨rfl, h2, h3⟩
    have HR : Hid (RMem w2 q N most m2 ∧ Keeps (fun b => b = q) w w2) := ⟨h2, HK.out.trans h3 (fun _ h => .inl h)⟩
    clear hc h2 h3
    go_wp2_with fail
    go_ret
    exact ⟨rfl, HR.out⟩
  have k2' : (k == 2) = false := beq_eq_false_iff_ne.2 k2
  simp only [if_neg k2]
  by_cases k3 : k = 3
  · subst k3
    simp only [if_true]
    have hc := rturn_any hg1 id false
    clear hg1 hb1 e hg
    generalize GM.turnCode m id false = r at *
    generalize GM.turn m id false = m2 at *
    go_enter Tryz.func20, Tryz.ntmps20
    go_wp2_with fail
    refine hc.mono ?_
    rintro e w2 ⟨rfl, h2, h3⟩
    have HR : Hid (RMem w2 q N most m2 ∧ Keeps (fun b => b = q) w w2) := ⟨h2, HK.out.trans h3 (fun _ h => .inl h)⟩
    clear hc h2 h3
    go_wp2_with fail
    go_ret
    exact ⟨rfl, HR.out⟩
  have k3' : (k == 3) = false := beq_eq_false_iff_ne.2 k3
  simp only [if_neg k3]
  have hc := rweigh_any hg1 id x
  clear hg1 hb1 e hg k0 k1 k2 k3
  generalize GM.weighCode m id x = r at *
  generalize GM.weigh m id x = m2 at *
  go_enter Tryz.func20, Tryz.ntmps20
  go_wp2_with fail
  refine hc.mono ?_
  rintro e w2 ⟨rfl, h2, h3⟩
  have HR : Hid (RMem w2 q N most m2 ∧ Keeps (fun b => b = q) w w2) := ⟨h2, HK.out.trans h3 (fun _ h => .inl h)⟩
  clear hc h2 h3
  go_wp2_with fail
  go_ret
  exact ⟨rfl, HR.out⟩
end Go.Proofs.YtkcfepppnclniaaGreatDoor
end
