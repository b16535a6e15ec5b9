/-
  GraphIns, GraphChgD.
-/
import Derived.Test.YtkcfepppnclniaaGreatDoorMmRange3
import Derived.Test.YtkcfepppnclniaaGreatDoorMmGraphA
import Derived.Deep.RegionHeld3
import Derived.Deep.DeepCutAuto
section
/-
  The walk of graph's Insert.
-/
namespace Go.Proofs.YtkcfepppnclniaaGreatDoor
open Go.RowKit

theorem insCode_no {n most : Nat} {m : GM.M} {id : Int} {a : Arc} (h : (GM.place id && GM.vert n a.tail && GM.vert n a.head && GM.okW a.weight) = false) : GM.insCode n most m id a = 1 ∧ GM.ins n most m id a = m := by
  have h1 : GM.insCode n most m id a = 1 := by
    unfold GM.insCode
    rw [h]
    rfl
  refine ⟨h1, ?_⟩
  unfold GM.ins
  rw [h1, if_neg (by decide)]
theorem insCode_yes {n most i : Nat} {m : GM.M} {a : Arc} (h : (GM.place (i : Int) && GM.vert n a.tail && GM.vert n a.head && GM.okW a.weight) = true) : GM.insCode n most m i a = if GM.is m i then 4 else if GM.cnt m < most then 0 else 2 := by
  unfold GM.insCode
  rw [if_pos h, Int.toNat_natCast]

set_option maxHeartbeats 1000000 in
set_option maxRecDepth 100000 in
theorem insert_any {w : World} {p N most : Nat} {m : GM.M} (hg : GMem w p N most m) (hm : GM.Good most m) (id : Int) (a : Arc) :
    Calls Tryz.prog 12 #[.pointer (some ⟨p, 0, none⟩), .int .i64 id, arcV a] w fun e w' => e = .returned (.int .i64 (GM.insCode N most m id a)) ∧ GMem w' p N most (GM.ins N most m id a) ∧ Keeps (fun b => b = p) w w' := by
  obtain ⟨t, h, x, c⟩ := a
  have hb1 : Below w.heap.size w (w.alloc (.cells #[.int .i64 t, .int .i64 h, .int .i64 x, .bool c] 35)) := (Below.refl _ _).alloc (Nat.le_refl _) _
  have hg1 := hg.on hb1
  have hk1 : Keeps (fun b => b = p) w (w.alloc (.cells #[.int .i64 t, .int .i64 h, .int .i64 x, .bool c] 35)) := Below.keeps hb1 _
  obtain ⟨a0, a1, a2, a3⟩ := arcIn_new w t h x c
  simp only [Nat.zero_add] at a1 a2 a3
  have hne : w.heap.size ≠ p := by have := hg.lt; omega
  have cP := hasPlace_any (.pointer (some ⟨p, 0, none⟩)) id (w.alloc (.cells #[.int .i64 t, .int .i64 h, .int .i64 x, .bool c] 35))
  have cT := hasVertex_any hg1 t
  have cH := hasVertex_any hg1 h
  have cW := weight_any x (w.alloc (.cells #[.int .i64 t, .int .i64 h, .int .i64 x, .bool c] 35))
  cases hP : GM.place id with
  | false =>
    obtain ⟨e1, e2⟩ := insCode_no (n := N) (most := most) (m := m) (id := id) (a := ⟨t, h, x, c⟩) (by rw [hP]; rfl)
    rw [e1, e2]
    rw [hP] at cP
    have HR : Hid (GMem (w.alloc (.cells #[.int .i64 t, .int .i64 h, .int .i64 x, .bool c] 35)) p N most m ∧ Keeps (fun b => b = p) w (w.alloc (.cells #[.int .i64 t, .int .i64 h, .int .i64 x, .bool c] 35))) := ⟨hg1, hk1⟩
    clear cT cH cW e1 e2 hg1 hk1 hP
    unfold arcV
    go_enter Tryz.func12, Tryz.ntmps12
    go_wp2_with fail
    refine cP.mono ?_
    rintro e w9 ⟨rfl, hw9⟩
    rw [hw9]
    clear hw9 w9 cP
    go_wp2_with fail
    go_ret
    exact ⟨rfl, HR.out⟩
  | true =>
    obtain ⟨i, rfl, hi⟩ := GM.place_nat hP
    cases hT : GM.vert N t with
    | false =>
      obtain ⟨e1, e2⟩ := insCode_no (n := N) (most := most) (m := m) (id := i) (a := ⟨t, h, x, c⟩) (by simp [hT])
      rw [e1, e2]
      rw [hP] at cP
      rw [hT] at cT
      have HR : Hid (GMem (w.alloc (.cells #[.int .i64 t, .int .i64 h, .int .i64 x, .bool c] 35)) p N most m ∧ Keeps (fun b => b = p) w (w.alloc (.cells #[.int .i64 t, .int .i64 h, .int .i64 x, .bool c] 35))) := ⟨hg1, hk1⟩
      clear cH cW e1 e2 hg1 hk1 hP hT
      unfold arcV
      go_enter Tryz.func12, Tryz.ntmps12
      go_wp2_with fail
      refine cP.mono ?_
      rintro e w9 ⟨rfl, hw9⟩
      rw [hw9]
      clear hw9 w9 cP
      go_wp2_with fail
      refine cT.mono ?_
      rintro e w9 ⟨rfl, hw9⟩
      rw [hw9]
      clear hw9 w9 cT
      go_wp2_with fail
      go_ret
      exact ⟨rfl, HR.out⟩
    | true =>
    cases hH : GM.vert N h with
    | false =>
      obtain ⟨e1, e2⟩ := insCode_no (n := N) (most := most) (m := m) (id := i) (a := ⟨t, h, x, c⟩) (by simp [hH])
      rw [e1, e2]
      rw [hP] at cP
      rw [hT] at cT
      rw [hH] at cH
      have HR : Hid (GMem (w.alloc (.cells #[.int .i64 t, .int .i64 h, .int .i64 x, .bool c] 35)) p N most m ∧ Keeps (fun b => b = p) w (w.alloc (.cells #[.int .i64 t, .int .i64 h, .int .i64 x, .bool c] 35))) := ⟨hg1, hk1⟩
      clear cW e1 e2 hg1 hk1 hP hT hH
      unfold arcV
      go_enter Tryz.func12, Tryz.ntmps12
      go_wp2_with fail
      refine cP.mono ?_
      rintro e w9 ⟨rfl, hw9⟩
      rw [hw9]
      clear hw9 w9 cP
      go_wp2_with fail
      refine cT.mono ?_
      rintro e w9 ⟨rfl, hw9⟩
      rw [hw9]
      clear hw9 w9 cT
      go_wp2_with fail
      refine cH.mono ?_
      rintro e w9 ⟨rfl, hw9⟩
      rw [hw9]
      clear hw9 w9 cH
      go_wp2_with fail
      go_ret
      exact ⟨rfl, HR.out⟩
    | true =>
    cases hW : GM.okW x with
    | false =>
      obtain ⟨e1, e2⟩ := insCode_no (n := N) (most := most) (m := m) (id := i) (a := ⟨t, h, x, c⟩) (by simp [hW])
      rw [e1, e2]
      rw [hP] at cP
      rw [hT] at cT
      rw [hH] at cH
      rw [hW] at cW
      have HR : Hid (GMem (w.alloc (.cells #[.int .i64 t, .int .i64 h, .int .i64 x, .bool c] 35)) p N most m ∧ Keeps (fun b => b = p) w (w.alloc (.cells #[.int .i64 t, .int .i64 h, .int .i64 x, .bool c] 35))) := ⟨hg1, hk1⟩
      clear e1 e2 hg1 hk1 hP hT hH hW
      unfold arcV
      go_enter Tryz.func12, Tryz.ntmps12
      go_wp2_with fail
      refine cP.mono ?_
      rintro e w9 ⟨rfl, hw9⟩
      rw [hw9]
      clear hw9 w9 cP
      go_wp2_with fail
      refine cT.mono ?_
      rintro e w9 ⟨rfl, hw9⟩
      rw [hw9]
      clear hw9 w9 cT
      go_wp2_with fail
      refine cH.mono ?_
      rintro e w9 ⟨rfl, hw9⟩
      rw [hw9]
      clear hw9 w9 cH
      go_wp2_with fail
      refine cW.mono ?_
      rintro e w9 ⟨rfl, hw9⟩
      rw [hw9]
      clear hw9 w9 cW
      go_wp2_with fail
      go_ret
      exact ⟨rfl, HR.out⟩
    | true =>
    have e0 := insCode_yes (n := N) (most := most) (i := i) (m := m) (a := ⟨t, h, x, c⟩) (by simp [hP, hT, hH, hW])
    rw [hP] at cP
    rw [hT] at cT
    rw [hH] at cH
    rw [hW] at cW
    have har := arc_in hg1 hm i hi
    have HG1 : Hid (GMem (w.alloc (.cells #[.int .i64 t, .int .i64 h, .int .i64 x, .bool c] 35)) p N most m) := hg1
    have HK1 : Hid (Keeps (fun b => b = p) w (w.alloc (.cells #[.int .i64 t, .int .i64 h, .int .i64 x, .bool c] 35))) := hk1
    have HGD : Hid (GM.Good most m) := hm
    have HA : Hid (ArcIn (w.alloc (.cells #[.int .i64 t, .int .i64 h, .int .i64 x, .bool c] 35)) w.heap.size 0 ⟨t, h, x, c⟩) := arcIn_new w t h x c
    have hS1 : (w.alloc (.cells #[.int .i64 t, .int .i64 h, .int .i64 x, .bool c] 35)).heap.size = w.heap.size + 1 := by simp
    clear hP hT hH hW hg1 hk1 hm hg hb1
    unfold arcV at har ⊢
    generalize GM.arc m i = ar at *
    obtain ⟨t', h', x', c'⟩ := ar
    dsimp only at har ⊢
    go_enter Tryz.func12, Tryz.ntmps12
    go_wp2_with fail
    refine cP.mono ?_
    rintro e w9 ⟨rfl, hw9⟩
    rw [hw9]
    clear hw9 w9 cP
    go_wp2_with fail
    refine cT.mono ?_
    rintro e w9 ⟨rfl, hw9⟩
    rw [hw9]
    clear hw9 w9 cT
    go_wp2_with fail
    refine cH.mono ?_
    rintro e w9 ⟨rfl, hw9⟩
    rw [hw9]
    clear hw9 w9 cH
    go_wp2_with fail
    refine cW.mono ?_
    rintro e w9 ⟨rfl, hw9⟩
    rw [hw9]
    clear hw9 w9 cW
    go_wp2_with fail
    clear a0 a1 a2 a3
    generalize w.alloc (.cells #[.int .i64 t, .int .i64 h, .int .i64 x, .bool c] 35) = w1 at *
    refine har.mono ?_
    rintro e w2 ⟨rfl, hb2⟩
    have hg2 := HG1.out.on hb2
    have HB3 : Hid (Below w1.heap.size w1 (w2.alloc (.cells #[.int .i64 t', .int .i64 h', .int .i64 x', .bool c'] 35))) := hb2.alloc hb2.size _
    clear har
    cases hs : GM.is m i with
    | true =>
      rw [hs, if_pos rfl] at e0
      have HR : Hid (GMem (w2.alloc (.cells #[.int .i64 t', .int .i64 h', .int .i64 x', .bool c'] 35)) p N most (GM.ins N most m i ⟨t, h, x, c⟩) ∧ Keeps (fun b => b = p) w (w2.alloc (.cells #[.int .i64 t', .int .i64 h', .int .i64 x', .bool c'] 35))) := by
        refine ⟨?_, HK1.out.trans (Below.keeps HB3.out (fun b => b = p)) (fun _ h => .inl h)⟩
        unfold GM.ins
        rw [e0, if_neg (by decide)]
        exact HG1.out.on HB3.out
      have HE : Hid (GM.insCode N most m i ⟨t, h, x, c⟩ = 4) := e0
      clear hb2 hg2 e0 hs
      go_wp2_with fail
      go_ret
      exact ⟨ret_int HE.out.symm, HR.out⟩
    | false =>
      rw [hs, if_neg (by decide)] at e0
      have HG3 : Hid (GMem (w2.alloc (.cells #[.int .i64 t', .int .i64 h', .int .i64 x', .bool c'] 35)) p N most m) := HG1.out.on HB3.out
      clear hb2 hg2 hs
      go_wp2_with fail
      generalize w2.alloc (.cells #[.int .i64 t', .int .i64 h', .int .i64 x', .bool c'] 35) = w3 at *
      have hb3d : Below w3.heap.size w3 w3.drew := (Below.refl _ _).drew
      have hln := len_any HG3.out.drew HGD.out
      have c1 := HG3.out.c1
      have HA3 : Hid (ArcIn w3 w.heap.size 0 ⟨t, h, x, c⟩) := HA.out.same (fun j => HB3.out.cell (p := ⟨w.heap.size, j, none⟩) (by show w.heap.size < _; omega))
      have HK3 : Hid (Keeps (fun b => b = p) w w3) := HK1.out.trans (Below.keeps HB3.out (fun b => b = p)) (fun _ h => .inl h)
      have HC1 : Hid (∀ W, Below w3.heap.size w3 W → W.cell? ⟨p, 1, none⟩ = some (.int .i64 (most : Nat))) := fun W hW => (HG3.out.on hW).c1
      have hsz3 : w.heap.size < w3.heap.size := by have := HB3.out.size; omega
      have hfew := HGD.out.few
      have h64 := GM.cnt_le m
      clear HG1 HK1 HA HB3
      by_cases hcm : GM.cnt m = most
      · rw [if_neg (by omega)] at e0
        have HE : Hid (GM.insCode N most m i ⟨t, h, x, c⟩ = 2) := e0
        have HI : Hid (GM.ins N most m i ⟨t, h, x, c⟩ = m) := by
          show _ = _
          unfold GM.ins
          rw [e0, if_neg (by decide)]
        rw [hcm] at hln
        clear e0 hcm hfew h64 hne
        go_region_held3 (fun w' => w'.cell? ⟨p, 1, none⟩ = some (.int .i64 (most : Nat))) (go_keep) (first
          | (go_at_call 42; refine hln.mono ?_; rintro e w5 ⟨rfl, hb5⟩; have hb5' : Below w3.heap.size w3 w5 := below_of_drew hb5; have g5 := HC1.out w5 hb5'))
        all_goals
          have HR : Hid (GMem w5 p N most m ∧ Keeps (fun b => b = p) w w5) := ⟨HG3.out.on hb5', HK3.out.trans (Below.keeps hb5' (fun b => b = p)) (fun _ h => .inl h)⟩
          clear hb5 hb5' hln
          go_wp2_with fail
          go_ret
          rw [HI.out]
          exact ⟨ret_int HE.out.symm, HR.out⟩
      · rw [if_pos (by omega)] at e0
        have HE : Hid (GM.insCode N most m i ⟨t, h, x, c⟩ = 0) := e0
        have HI : Hid (GM.ins N most m i ⟨t, h, x, c⟩ = GM.upd m i (some ⟨t, h, x, c⟩)) := by
          show _ = _
          unfold GM.ins
          rw [e0, if_pos rfl, Int.toNat_natCast]
        have hcm' : ((GM.cnt m : Int) == (most : Int)) = false := by simp; omega
        have hcm2 : (GM.cnt m == most) = false := by simpa using hcm
        clear e0 hfew h64 hcm
        generalize GM.cnt m = C at *
        go_cut [46] (fun s wx => s = .bool false ∧ Below w3.heap.size w3 wx)
        case first =>
          go_region_held3 (fun w' => w'.cell? ⟨p, 1, none⟩ = some (.int .i64 (most : Nat))) (go_keep) (first
            | (go_at_call 42; refine hln.mono ?_; rintro e w5 ⟨rfl, hb5⟩; have hb5' : Below w3.heap.size w3 w5 := below_of_drew hb5; have g5 := HC1.out w5 hb5'))
          all_goals
            clear hln
            go_wp2_with fail
            go_meet
            exact ⟨by simp, hb5'⟩
        case rest =>
          obtain ⟨rfl, hb5⟩ := hcut
          have hg5 := HG3.out.on hb5
          obtain ⟨a0, a1, a2, a3⟩ := HA3.out.same (fun j => hb5.cell (p := ⟨w.heap.size, j, none⟩) hsz3)
          simp only [Nat.zero_add] at a1 a2 a3
          dsimp only at a0 a1 a2 a3
          obtain ⟨d0, d1, d2, d3⟩ := hg5.arc i hi
          have f0 := hg5.fz (2 + i * 4)
          have f1 := hg5.fz (2 + i * 4 + 1)
          have f2 := hg5.fz (2 + i * 4 + 2)
          have f3 := hg5.fz (2 + i * 4 + 3)
          have HR : Hid (GMem ((((wc.setCell ⟨p, 2 + i * 4, none⟩ (.int .i64 t)).setCell ⟨p, 2 + i * 4 + 1, none⟩ (.int .i64 h)).setCell ⟨p, 2 + i * 4 + 2, none⟩ (.int .i64 x)).setCell ⟨p, 2 + i * 4 + 3, none⟩ (.bool c)).drew p N most (GM.ins N most m i ⟨t, h, x, c⟩) ∧ Keeps (fun b => b = p) w ((((wc.setCell ⟨p, 2 + i * 4, none⟩ (.int .i64 t)).setCell ⟨p, 2 + i * 4 + 1, none⟩ (.int .i64 h)).setCell ⟨p, 2 + i * 4 + 2, none⟩ (.int .i64 x)).setCell ⟨p, 2 + i * 4 + 3, none⟩ (.bool c)).drew) := by
            have h1 := hg5.put hi (some ⟨t, h, x, c⟩)
            have h2 := arcSet_keeps wc p (2 + i * 4) ⟨t, h, x, c⟩
            have h3 := HK3.out.trans (Below.keeps hb5 (fun b => b = p)) (fun _ h => .inl h)
            show GMem _ _ _ _ _ ∧ _
            rw [HI.out]
            exact ⟨h1.drew, (h3.trans h2 (fun _ h => .inl h)).drew⟩
          have i64' : (i : Int) < 64 := by omega
          clear hb5 hg5 HG3 HC1 c1 hln hcm' hcm2
          go_wp2_with fail
          go_region
          all_goals
            go_wp2_with fail
            go_ret
            exact ⟨ret_int HE.out.symm, HR.out⟩
end Go.Proofs.YtkcfepppnclniaaGreatDoor
end

section
/-
  The walk of graph's change, where what an arc becomes is told by Delete$1.
-/
namespace Go.Proofs.YtkcfepppnclniaaGreatDoor
open Go.RowKit

set_option maxHeartbeats 1000000 in
set_option maxRecDepth 100000 in
/-- f: what an arc becomes, and the code; y: what lies there then. -/
theorem change_d {w : World} {p N most : Nat} {m : GM.M} (hg : GMem w p N most m) (hm : GM.Good most m) (id : Int) (f : Arc → Arc × Int) (y : Option Arc) (hy : y.getD noArc = (f (GM.arc m id.toNat)).1)
    (hcl : ∀ W a, Below w.heap.size w W → Calls Tryz.prog 81 #[arcV a] W fun e w' => e = .returned (.tuple #[arcV (f a).1, .int .i64 (f a).2]) ∧ Below W.heap.size W w') :
    Calls Tryz.prog 80 #[.pointer (some ⟨p, 0, none⟩), .int .i64 id, .func (.func 81) #[] #[]] w fun e w' =>
      e = .returned (.int .i64 (if GM.atCode m id = 0 then (f (GM.arc m id.toNat)).2 else GM.atCode m id)) ∧ GMem w' p N most (if GM.atCode m id = 0 ∧ (f (GM.arc m id.toNat)).2 = 0 then GM.upd m id.toNat y else m) ∧ Keeps (fun b => b = p) w w' := by
  have cP := hasPlace_any (.pointer (some ⟨p, 0, none⟩)) id w
  cases hP : GM.place id with
  | false =>
    have hc : GM.atCode m id = 1 := by
      unfold GM.atCode
      rw [hP]
      rfl
    rw [hc]
    rw [if_neg (by decide), if_neg (by intro h; exact absurd h.1 (by decide))]
    rw [hP] at cP
    have HR : Hid (GMem w p N most m) := hg
    clear hcl hy hg hc hP
    go_enter Tryz.func80, Tryz.ntmps80
    go_wp2_with fail
    refine cP.mono ?_
    rintro e w9 ⟨rfl, hw9⟩
    rw [hw9]
    clear hw9 w9 cP
    go_wp2_with fail
    go_ret
    exact ⟨rfl, HR.out, Keeps.refl _ _⟩
  | true =>
    obtain ⟨i, rfl, hi⟩ := GM.place_nat hP
    rw [hP] at cP
    rw [Int.toNat_natCast] at hy ⊢
    have hc : GM.atCode m i = if GM.is m i then 0 else 3 := by
      unfold GM.atCode
      rw [hP, if_pos rfl, Int.toNat_natCast]
    have har := arc_in hg hm i hi
    have HG : Hid (GMem w p N most m) := hg
    have hpl := hg.lt
    cases hs : GM.is m i with
    | false =>
      rw [hs] at har hc
      rw [hc]
      rw [if_neg (by decide), if_neg (by decide), if_neg (by intro h; exact absurd h.1 (by decide))]
      clear hcl hy hg hc hP hs
      generalize GM.arc m i = ar at *
      obtain ⟨t, h, x, c⟩ := ar
      unfold arcV at har
      dsimp only at har
      go_enter Tryz.func80, Tryz.ntmps80
      go_wp2_with fail
      refine cP.mono ?_
      rintro e w9 ⟨rfl, hw9⟩
      rw [hw9]
      clear hw9 w9 cP
      go_wp2_with fail
      refine har.mono ?_
      rintro e w2 ⟨rfl, hb2⟩
      have HB3 : Hid (Below w.heap.size w (w2.alloc (.cells #[.int .i64 t, .int .i64 h, .int .i64 x, .bool c] 35))) := hb2.alloc hb2.size _
      clear har hb2
      go_wp2_with fail
      go_ret
      exact ⟨rfl, HG.out.on HB3.out, Below.keeps HB3.out _⟩
    | true =>
      rw [hs, if_pos rfl] at hc
      rw [hs] at har
      rw [hc, if_pos rfl]
      simp only [true_and]
      have HCL : Hid (∀ W a, Below w.heap.size w W → Calls Tryz.prog 81 #[arcV a] W fun e w' => e = .returned (.tuple #[arcV (f a).1, .int .i64 (f a).2]) ∧ Below W.heap.size W w') := hcl
      clear hcl hg hc hP hs
      generalize GM.arc m i = ar at *
      obtain ⟨t, h, x, c⟩ := ar
      unfold arcV at har HCL
      dsimp only at har
      obtain ⟨k, hk⟩ : ∃ k, k = (f ⟨t, h, x, c⟩).2 := ⟨_, rfl⟩
      obtain ⟨a2, ha2⟩ : ∃ a2, a2 = (f ⟨t, h, x, c⟩).1 := ⟨_, rfl⟩
      rw [← hk]
      rw [← ha2] at hy
      have HC2 : Hid (∀ W, Below w.heap.size w W → Calls Tryz.prog 81 #[.agg #[.int .i64 t, .int .i64 h, .int .i64 x, .bool c]] W fun e w' => e = .returned (.tuple #[.agg #[.int .i64 a2.tail, .int .i64 a2.head, .int .i64 a2.weight, .bool a2.closed], .int .i64 k]) ∧ Below W.heap.size W w') := fun W hW => by
        have := HCL.out W ⟨t, h, x, c⟩ hW
        rw [hk, ha2]
        exact this
      clear HCL hk ha2
      obtain ⟨t2, h2, x2, c2⟩ := a2
      dsimp only at HC2
      have HY : Hid (y.getD noArc = ⟨t2, h2, x2, c2⟩) := hy
      clear hy
      go_enter Tryz.func80, Tryz.ntmps80
      go_wp2_with fail
      refine cP.mono ?_
      rintro e w9 ⟨rfl, hw9⟩
      rw [hw9]
      clear hw9 w9 cP
      go_wp2_with fail
      refine har.mono ?_
      rintro e w2 ⟨rfl, hb2⟩
      have hb3 : Below w.heap.size w (w2.alloc (.cells #[.int .i64 t, .int .i64 h, .int .i64 x, .bool c] 35)) := hb2.alloc hb2.size _
      have hA3 := arcIn_new w2 t h x c
      have hs2 := hb2.size
      have hsz : w2.heap.size < (w2.alloc (.cells #[.int .i64 t, .int .i64 h, .int .i64 x, .bool c] 35)).heap.size := by simp
      have hf3 : ∀ j, (w2.alloc (.cells #[.int .i64 t, .int .i64 h, .int .i64 x, .bool c] 35)).frozen? ⟨w2.heap.size, j, none⟩ = false := fun j => by simp
      have HF3 : Hid (∀ j, (w2.alloc (.cells #[.int .i64 t, .int .i64 h, .int .i64 x, .bool c] 35)).frozen? ⟨w2.heap.size, j, none⟩ = false) := hf3
      clear har hb2 hf3
      go_wp2_with fail
      generalize w2.alloc (.cells #[.int .i64 t, .int .i64 h, .int .i64 x, .bool c] 35) = w3 at *
      refine (HC2.out w3 hb3).mono ?_
      rintro e w4 ⟨rfl, hb4⟩
      have hA4 : ArcIn w4 w2.heap.size 0 ⟨t, h, x, c⟩ := hA3.same (fun j => hb4.cell (p := ⟨w2.heap.size, j, none⟩) hsz)
      have hf4 : ∀ j, w4.frozen? ⟨w2.heap.size, j, none⟩ = false := fun j => (hb4.frozen (p := ⟨w2.heap.size, j, none⟩) hsz).trans (HF3.out j)
      have hb4' : Below w.heap.size w w4 := hb3.trans (hb4.mono hb3.size)
      have e0 := hf4 0
      have e1 := hf4 1
      have e2 := hf4 2
      have e3 := hf4 3
      obtain ⟨a0, a1, a2, a3⟩ := hA4
      have hin := arcSet_in (w := w4) (b := w2.heap.size) (o := 0) (a0 := ⟨t, h, x, c⟩) ⟨a0, a1, a2, a3⟩ ⟨t2, h2, x2, c2⟩
      have hk5 := arcSet_keeps w4 w2.heap.size 0 ⟨t2, h2, x2, c2⟩
      have hb5 : Below w.heap.size w (arcSet w4 w2.heap.size 0 ⟨t2, h2, x2, c2⟩) := hb4'.trans (hk5.below (fun b hb => by omega) hb4'.size)
      unfold arcSet at hin hb5
      simp only [Nat.zero_add] at a1 a2 a3 hin hb5
      dsimp only at a0 a1 a2 a3
      have HIN : Hid (ArcIn ((((w4.setCell ⟨w2.heap.size, 0, none⟩ (.int .i64 t2)).setCell ⟨w2.heap.size, 1, none⟩ (.int .i64 h2)).setCell ⟨w2.heap.size, 2, none⟩ (.int .i64 x2)).setCell ⟨w2.heap.size, 3, none⟩ (.bool c2)) w2.heap.size 0 ⟨t2, h2, x2, c2⟩) := hin
      have HB5 : Hid (Below w.heap.size w ((((w4.setCell ⟨w2.heap.size, 0, none⟩ (.int .i64 t2)).setCell ⟨w2.heap.size, 1, none⟩ (.int .i64 h2)).setCell ⟨w2.heap.size, 2, none⟩ (.int .i64 x2)).setCell ⟨w2.heap.size, 3, none⟩ (.bool c2))) := hb5
      clear hA3 hf4 hb4 hb4' hk5 hin hb5 hb3 hsz HF3 HC2 hs2
      by_cases hk0 : k = 0
      · subst hk0
        go_upto_region 8 with fail
        clear a0 a1 a2 a3 e0 e1 e2 e3
        generalize (((w4.setCell ⟨w2.heap.size, 0, none⟩ (.int .i64 t2)).setCell ⟨w2.heap.size, 1, none⟩ (.int .i64 h2)).setCell ⟨w2.heap.size, 2, none⟩ (.int .i64 x2)).setCell ⟨w2.heap.size, 3, none⟩ (.bool c2) = w5 at *
        have hg5 := HG.out.on HB5.out
        obtain ⟨a0, a1, a2, a3⟩ := HIN.out
        simp only [Nat.zero_add] at a1 a2 a3
        dsimp only at a0 a1 a2 a3
        obtain ⟨d0, d1, d2, d3⟩ := hg5.arc i hi
        have f0 := hg5.fz (2 + i * 4)
        have f1 := hg5.fz (2 + i * 4 + 1)
        have f2 := hg5.fz (2 + i * 4 + 2)
        have f3 := hg5.fz (2 + i * 4 + 3)
        have HR : Hid (GMem ((((w5.setCell ⟨p, 2 + i * 4, none⟩ (.int .i64 t2)).setCell ⟨p, 2 + i * 4 + 1, none⟩ (.int .i64 h2)).setCell ⟨p, 2 + i * 4 + 2, none⟩ (.int .i64 x2)).setCell ⟨p, 2 + i * 4 + 3, none⟩ (.bool c2)).drew p N most (GM.upd m i y) ∧ Keeps (fun b => b = p) w ((((w5.setCell ⟨p, 2 + i * 4, none⟩ (.int .i64 t2)).setCell ⟨p, 2 + i * 4 + 1, none⟩ (.int .i64 h2)).setCell ⟨p, 2 + i * 4 + 2, none⟩ (.int .i64 x2)).setCell ⟨p, 2 + i * 4 + 3, none⟩ (.bool c2)).drew) := by
          have h1 := hg5.put hi y
          rw [HY.out] at h1
          have h2 := arcSet_keeps w5 p (2 + i * 4) ⟨t2, h2, x2, c2⟩
          exact ⟨h1.drew, ((Below.keeps HB5.out (fun b => b = p)).trans h2 (fun _ h => .inl h)).drew⟩
        have i64' : (i : Int) < 64 := by omega
        clear hg5 HG HY
        go_region
        all_goals
          go_wp2_with fail
          go_ret
          first
            | exact ⟨rfl, HR.out⟩
            | (rw [if_pos rfl]; exact ⟨rfl, HR.out⟩)
      · have HK0 : Hid (¬ k = 0) := hk0
        have hk0' : (k == 0) = false := beq_eq_false_iff_ne.2 hk0
        go_wp2_with fail
        all_goals
          go_ret
          first
            | exact ⟨rfl, HG.out.on HB5.out, Below.keeps HB5.out _⟩
            | (rw [if_neg HK0.out]; exact ⟨rfl, HG.out.on HB5.out, Below.keeps HB5.out _⟩)
end Go.Proofs.YtkcfepppnclniaaGreatDoor
end
