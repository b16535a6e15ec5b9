/-
  MeshCon, WitSum.
-/
import Derived.Test.YtkcfepppnclniaaGreatDoorMmGraphIds
import Derived.Test.YtkcfepppnclniaaGreatDoorMmMeshDet
import Derived.Test.YtkcfepppnclniaaGreatDoorMmMeshPut
import Derived.Test.YtkcfepppnclniaaGreatDoorMmWitRef
section
/-
  The walks of Contract, the document's and the program's.
-/
namespace Go.Proofs.YtkcfepppnclniaaGreatDoor
open Go.RowKit

namespace XM
/-- What is there behind the first k detours. -/
def stage (D : Nat → Nat → Int) (l : List Det) (k : Nat) : (Nat → Nat → Int) × Nat := appAll D (l.take k)
theorem stage_mesh {N : Nat} {D : Nat → Nat → Int} {l : List Det} (h : Mesh N D) (hf : Fit N l) (k : Nat) : Mesh N (stage D l k).1 := foldl_mesh _ _ h (fun d hd => hf d (List.mem_of_mem_take hd))
/-- How many steps become shorter. -/
def conN (N : Nat) (D : Nat → Nat → Int) (v : Nat) : Nat := (appAll D (dets N D v N)).2
end XM

/-- A slice of detours as it lies, where block p alone may have been turned. -/
theorem OwnL.held {w w1 wr : World} {p : Nat} (hp : p < w.heap.size) {v : Value} {mid : Int} {ds : List XM.Det} (h : OwnL w1 w.heap.size v mid ds) (hk : Keeps (fun b => b = p) w1 wr) : OwnL wr w.heap.size v mid ds := h.kept hk (fun g hg e => by have := (h.block g hg).1; omega)
set_option maxHeartbeats 4000000 in
theorem rcon_any {w : World} {p N : Nat} {D : Nat → Nat → Int} (hg : XMem w p N D) (hm : XM.Mesh N D) (hN : N ≤ 24) (v : Nat) (hv : v < N) :
    Calls Tryz.prog 36 #[.pointer (some ⟨p, 0, none⟩), .int .i64 v] w fun e w' => e = .returned (.int .i64 (XM.conN N D v : Nat)) ∧ XMem w' p N (XM.con D v) ∧ Keeps (fun b => b = p) w w' := by
  have hdet := rdet_any hg hm hN v
  have HF : Hid (XM.Fit N (XM.dets N D v N)) := XM.dets_fit hm N (Nat.le_refl _)
  have hpl := hg.lt
  have HG : Hid (XMem w p N D) := hg
  have hll : (XM.dets N D v N).length ≤ 600 := by
    have h1 := XM.dets_len (N := N) (D := D) (v := v) N
    have h2 : N * N ≤ 24 * 24 := Nat.mul_le_mul hN hN
    omega
  have HFIN : Hid (XM.leave (XM.stage D (XM.dets N D v N) (XM.dets N D v N).length).1 v = XM.con D v ∧ (XM.stage D (XM.dets N D v N) (XM.dets N D v N).length).2 = XM.conN N D v) := by
    unfold XM.stage
    rw [List.take_length]
    exact ⟨XM.leave_con hm, rfl⟩
  have HST : Hid (∀ k (hk : k < (XM.dets N D v N).length), XM.stage D (XM.dets N D v N) (k + 1) = XM.app (XM.stage D (XM.dets N D v N) k) (XM.dets N D v N)[k]) := fun k hk => XM.appAll_take _ _ hk
  have HMS : Hid (∀ k, XM.Mesh N (XM.stage D (XM.dets N D v N) k).1) := fun k => XM.stage_mesh hm HF.out k
  have HZ : Hid (XM.stage D (XM.dets N D v N) 0 = (D, 0)) := by unfold XM.stage; rfl
  have HLE : Hid (∀ k, (XM.stage D (XM.dets N D v N) k).2 ≤ 600) := fun k => by
    have := XM.appAll_le D ((XM.dets N D v N).take k) (D, 0)
    have h2 : ((XM.dets N D v N).take k).length ≤ (XM.dets N D v N).length := by rw [List.length_take]; omega
    unfold XM.stage XM.appAll
    show _ ≤ _
    omega
  have v24 : (v : Int) < 24 := by omega
  have HV : Hid (v < 24) := by show _ < _; omega
  clear hg hm hv
  generalize XM.dets N D v N = L at *
  generalize XM.con D v = DF at *
  generalize XM.conN N D v = NF at *
  go_enter Tryz.func36, Tryz.ntmps36
  go_wp2_with fail
  refine hdet.mono ?_
  rintro e w1 ⟨r, rfl, ho, hb⟩
  obtain ⟨ao, cap, rfl, hcp, hcl⟩ := ho.at
  have HX1 : Hid (XMem w1 p N (XM.stage D L 0).1) := by
    show XMem _ _ _ _
    rw [HZ.out]
    exact HG.out.on hb
  have HO : Hid (OwnL w1 w.heap.size (.slice ao L.length cap) v L) := ho
  have HB : Hid (Below w.heap.size w w1) := hb
  obtain ⟨hcp1, hcp2⟩ := hcp
  have hLC : (L.length : Int) ≤ (cap : Int) := by omega
  clear hdet hb hcl ho hcp1 hcp2
  obtain ⟨C, hC⟩ : ∃ C, C = L.length := ⟨_, rfl⟩
  have HCL : Hid (C = L.length) := hC
  rw [← hC] at hll HO hLC ⊢
  clear hC
  go_wp2_with fail
  go_loopw [5, 7] (fun nv iv wr => ∃ k : Nat, k ≤ C ∧ iv = .int .i64 k ∧ nv = .int .i64 ((XM.stage D L k).2 : Nat) ∧ XMem wr p N (XM.stage D L k).1 ∧ Keeps (fun b => b = p) w1 wr) (fun _ iv _ => C - (intOf iv).toNat)
  case atStart => exact ⟨0, Nat.zero_le _, rfl, by rw [HZ.out]; rfl, HX1.out, Keeps.refl _ _⟩
  case round =>
    obtain ⟨k, hk, rfl, rfl, hX, hK⟩ := hrel
    have HX : Hid (XMem wr p N (XM.stage D L k).1) := hX
    have HK : Hid (Keeps (fun b => b = p) w1 wr) := hK
    by_cases hlt : k < C
    · have hkl : k < L.length := by rw [← HCL.out]; exact hlt
      have hon : OwnL wr w.heap.size (.slice ao C cap) v L := OwnL.held hpl HO.out hK
      obtain ⟨ao', cap', he, -, hcc⟩ := hon.at
      rw [← HCL.out] at he
      cases he
      obtain ⟨b, rfl, hbl, hcc⟩ := hcc (by omega)
      have hci := hcc k hkl
      have hfit := HF.out L[k] (List.getElem_mem hkl)
      have HS1 : Hid (XM.stage D L (k + 1) = XM.app (XM.stage D L k) L[k]) := HST.out k hkl
      rw [List.getElem?_eq_getElem hkl, Option.getD_some] at hci
      have hbp : b ≠ p := by have := (hon.block b rfl).1; omega
      have HN2 : Hid ((XM.stage D L k).2 ≤ 600) := HLE.out k
      have hAP : ¬ L[k].x < (XM.stage D L k).1 L[k].u L[k].w → XM.app (XM.stage D L k) L[k] = XM.stage D L k := XM.app_no
      have hAY : L[k].x < (XM.stage D L k).1 L[k].u L[k].w → XM.app (XM.stage D L k) L[k] = (NM.set2 (XM.stage D L k).1 L[k].u L[k].w L[k].x, (XM.stage D L k).2 + 1) := fun h => if_pos h
      obtain ⟨h1, h2, h3, h4, h5⟩ := hci
      obtain ⟨f1, f2, f3, f4, f5⟩ := hfit
      have k1 : (k : Int) < (C : Int) := by omega
      clear hon hcc hX hK
      generalize L[k] = d at *
      obtain ⟨du, dw, dx⟩ := d
      dsimp only at h1 h2 h3 f1 f2 f3 f4 f5 hAP hAY
      have hcd := HX.out.c du dw (by omega) (by omega)
      have hfd := HX.out.fz (1 + du * 24 + dw)
      have u24 : (du : Int) < 24 := by omega
      have w24 : (dw : Int) < 24 := by omega
      have HUW : Hid (du < 24 ∧ dw < 24) := ⟨by omega, by omega⟩
      clear h4 h5 f1 f2 f3 f4 f5
      generalize hT : XM.stage D L k = T at *
      obtain ⟨T1, T2⟩ := T
      dsimp only at hcd hAP hAY
      have hn2 : T2 ≤ 600 := HN2.out
      clear hT HN2
      by_cases hx : dx < T1 du dw
      · have hxd : decide (dx < T1 du dw) = true := decide_eq_true hx
        have HE : Hid (XM.stage D L (k + 1) = (NM.set2 T1 du dw dx, T2 + 1)) := HS1.out.trans (hAY hx)
        clear hAP hAY HS1
        go_upto_region 6 with fail
        go_quiet (fail)
        have HQ : Hid (XMem (wr.drewN nq) p N T1 ∧ Keeps (fun b => b = p) w1 (wr.drewN nq)) := ⟨HX.out.on (below_drewN (Below.refl _ _) nq), HK.out.drewN⟩
        have g1 : (wr.drewN nq).cell? ⟨b, k * 5, none⟩ = some (.int .i64 (du : Nat)) := h1
        have g2 : (wr.drewN nq).cell? ⟨b, k * 5 + 1, none⟩ = some (.int .i64 (dw : Nat)) := h2
        have g3 : (wr.drewN nq).cell? ⟨b, k * 5 + 2, none⟩ = some (.int .i64 dx) := h3
        have g4 : (wr.drewN nq).cell? ⟨p, 1 + du * 24 + dw, none⟩ = some (.int .i64 (T1 du dw)) := hcd
        have g5 : (wr.drewN nq).frozen? ⟨p, 1 + du * 24 + dw, none⟩ = false := hfd
        clear h1 h2 h3 hcd hfd HX HK hxd
        generalize wr.drewN nq = wq at *
        go_wp2_with fail
        go_region
        all_goals
          go_wp2_with fail
          exact ⟨⟨k + 1, by omega, by go_num, by rw [HE.out]; go_num, by rw [HE.out]; exact (HQ.out.1.set HUW.out.1 HUW.out.2 dx).drew, (HQ.out.2.setCell (.inl rfl) _).drew⟩, by simp [intOf]; omega⟩
      · have hxd : decide (dx < T1 du dw) = false := decide_eq_false hx
        have HE : Hid (XM.stage D L (k + 1) = (T1, T2)) := HS1.out.trans (hAP hx)
        clear hAP hAY HS1
        go_upto_region 6 with fail
        go_quiet (fail)
        have HQ : Hid (XMem (wr.drewN nq) p N T1 ∧ Keeps (fun b => b = p) w1 (wr.drewN nq)) := ⟨HX.out.on (below_drewN (Below.refl _ _) nq), HK.out.drewN⟩
        clear h1 h2 h3 hcd hfd HX HK hxd
        generalize wr.drewN nq = wq at *
        go_wp2_with fail
        go_roundw
        case rel => exact ⟨k + 1, by omega, by go_num, by rw [HE.out], by rw [HE.out]; exact HQ.out.1, HQ.out.2⟩
        case measure => simp [intOf]; omega
    · obtain rfl : k = C := by omega
      have HX2 : Hid (XMem wr p N (XM.leaveTo (XM.stage D L k).1 v 0)) := by
        show XMem _ _ _ _
        rw [XM.leaveTo_zero]
        exact hX
      have HFN : Hid (XM.leave (XM.stage D L k).1 v = DF ∧ (XM.stage D L k).2 = NF) := by
        have := HFIN.out
        rw [← HCL.out] at this
        exact this
      clear hX hK hlt hk HX HX1 HST HMS HLE HF HFIN HZ HCL HO
      generalize XM.stage D L k = T at *
      obtain ⟨T1, T2⟩ := T
      have HFN : Hid (XM.leave T1 v = DF ∧ T2 = NF) := HFN.out
      have HX2 : Hid (XMem wr p N (XM.leaveTo T1 v 0)) := HX2.out
      go_wp2_with fail
      go_loopw [8] (fun iv wr' => ∃ j : Nat, j ≤ 24 ∧ iv = .int .i64 j ∧ XMem wr' p N (XM.leaveTo T1 v j) ∧ Keeps (fun b => b = p) w1 wr') (fun iv _ => 24 - (intOf iv).toNat)
      case atStart => exact ⟨0, by omega, rfl, HX2.out, HK.out⟩
      case round =>
        clear HX2 HK
        rename_i wr0 hwr0
        obtain ⟨j, hj, rfl, hX, hK⟩ := hrel
        by_cases hjl : j < 24
        · have j24 : (j : Int) < 24 := by omega
          have c1 := hX.c j v hjl HV.out
          have f1 := hX.fz (1 + j * 24 + v)
          have hX' := hX.set hjl HV.out 4611686018427387906
          have c2 := hX'.c v j HV.out hjl
          have f2 := hX'.fz (1 + v * 24 + j)
          have H1 : Hid (XMem ((wr.setCell ⟨p, 1 + j * 24 + v, none⟩ (.int .i64 4611686018427387906)).setCell ⟨p, 1 + v * 24 + j, none⟩ (.int .i64 4611686018427387906)) p N (XM.leaveTo T1 v (j + 1))) := by
            have := hX'.set HV.out hjl 4611686018427387906
            rw [XM.leaveTo_step'] at this
            exact this
          have HK1 : Hid (Keeps (fun b => b = p) w1 ((wr.setCell ⟨p, 1 + j * 24 + v, none⟩ (.int .i64 4611686018427387906)).setCell ⟨p, 1 + v * 24 + j, none⟩ (.int .i64 4611686018427387906))) := (hK.setCell (.inl rfl) _).setCell (.inl rfl) _
          generalize NM.set2 (XM.leaveTo T1 v j) j v 4611686018427387906 v j = y2 at c2
          clear hX hK hX'
          go_wp2_with fail
          go_roundw
          case rel => exact ⟨j + 1, by omega, by go_num, H1.out, HK1.out⟩
          case measure => simp [intOf]; omega
        · obtain rfl : j = 24 := by omega
          have HX : Hid (XMem wr p N DF) := by
            show XMem _ _ _ _
            rw [← HFN.out.1]
            exact hX.congr (fun s t hs ht => XM.leaveTo_all T1 v HV.out s t hs ht)
          have HK : Hid (Keeps (fun b => b = p) w wr) := (Below.keeps HB.out _).trans hK (fun b hb => .inl hb)
          clear hX hK hjl hj
          go_wp2_with fail
          go_ret
          exact ⟨ret_int (by rw [HFN.out.2]), HX.out, HK.out⟩
theorem lessB_any {a b : Int} (ha : 0 ≤ a ∧ a ≤ 4611686018427387906) (hb : 0 ≤ b ∧ b ≤ 4611686018427387906) (W : World) :
    Calls Tryz.prog 66 #[.int .i64 a, .int .i64 b] W fun e w' => e = .returned (.bool (decide (a < b))) ∧ w' = W := by
  have := less_any a b W
  rwa [show GM.norm a = a from DM.norm_of ha.1 ha.2, show GM.norm b = b from DM.norm_of hb.1 hb.2] at this
set_option maxHeartbeats 4000000 in
theorem xcon_ok {w : World} {p N : Nat} {D : Nat → Nat → Int} (hg : XMem w p N D) (hm : XM.Mesh N D) (hN : N ≤ 24) (v : Nat) (hv : v < N) :
    Calls Tryz.prog 30 #[.pointer (some ⟨p, 0, none⟩), .int .i64 v] w fun e w' => e = .returned (.tuple #[.int .i64 (XM.conN N D v : Nat), .int .i64 0]) ∧ XMem w' p N (XM.con D v) ∧ Keeps (fun b => b = p) w w' := by
  have hdet := det_any hg hm hN v
  have hvx := xhasVertex_any hg v
  rw [show GM.vert N (v : Int) = true from decide_eq_true (by omega)] at hvx
  have HF : Hid (XM.Fit N (XM.dets N D v N)) := XM.dets_fit hm N (Nat.le_refl _)
  have hpl := hg.lt
  have HG : Hid (XMem w p N D) := hg
  have hll : (XM.dets N D v N).length ≤ 600 := by
    have h1 := XM.dets_len (N := N) (D := D) (v := v) N
    have h2 : N * N ≤ 24 * 24 := Nat.mul_le_mul hN hN
    omega
  have HFIN : Hid (XM.leave (XM.stage D (XM.dets N D v N) (XM.dets N D v N).length).1 v = XM.con D v ∧ (XM.stage D (XM.dets N D v N) (XM.dets N D v N).length).2 = XM.conN N D v) := by
    unfold XM.stage
    rw [List.take_length]
    exact ⟨XM.leave_con hm, rfl⟩
  have HST : Hid (∀ k (hk : k < (XM.dets N D v N).length), XM.stage D (XM.dets N D v N) (k + 1) = XM.app (XM.stage D (XM.dets N D v N) k) (XM.dets N D v N)[k]) := fun k hk => XM.appAll_take _ _ hk
  have HMS : Hid (∀ k, XM.Mesh N (XM.stage D (XM.dets N D v N) k).1) := fun k => XM.stage_mesh hm HF.out k
  have HZ : Hid (XM.stage D (XM.dets N D v N) 0 = (D, 0)) := by unfold XM.stage; rfl
  have HLE : Hid (∀ k, (XM.stage D (XM.dets N D v N) k).2 ≤ 600) := fun k => by
    have := XM.appAll_le D ((XM.dets N D v N).take k) (D, 0)
    have h2 : ((XM.dets N D v N).take k).length ≤ (XM.dets N D v N).length := by rw [List.length_take]; omega
    unfold XM.stage XM.appAll
    show _ ≤ _
    omega
  have HV : Hid (v < 24) := by show _ < _; omega
  clear hg hm hv
  generalize XM.dets N D v N = L at *
  generalize XM.con D v = DF at *
  generalize XM.conN N D v = NF at *
  go_enter Tryz.func30, Tryz.ntmps30
  go_wp2_with fail
  refine hvx.mono ?_
  rintro e w9 ⟨rfl, hw9⟩
  rw [hw9]
  clear hvx hw9 w9
  go_wp2_with fail
  refine hdet.mono ?_
  rintro e w1 ⟨r, rfl, ho, hb⟩
  obtain ⟨ao, cap, rfl, hcp, hcl⟩ := ho.at
  have HX1 : Hid (XMem w1 p N (XM.stage D L 0).1) := by
    show XMem _ _ _ _
    rw [HZ.out]
    exact HG.out.on hb
  have HO : Hid (OwnL w1 w.heap.size (.slice ao L.length cap) v L) := ho
  have HB : Hid (Below w.heap.size w w1) := hb
  obtain ⟨hcp1, hcp2⟩ := hcp
  have hLC : (L.length : Int) ≤ (cap : Int) := by omega
  have hpw : p < w1.heap.size := Nat.lt_of_lt_of_le hpl hb.size
  clear hdet hb hcl ho hcp1 hcp2
  obtain ⟨C, hC⟩ : ∃ C, C = L.length := ⟨_, rfl⟩
  have HCL : Hid (C = L.length) := hC
  rw [← hC] at hll HO hLC ⊢
  clear hC
  go_wp2_with fail
  go_loopw [6, 17] (fun nv iv wr => ∃ k : Nat, k ≤ C ∧ iv = .int .i64 k ∧ nv = .int .i64 ((XM.stage D L k).2 : Nat) ∧ XMem wr p N (XM.stage D L k).1 ∧ Keeps (fun b => b = p) w1 wr) (fun _ iv _ => C - (intOf iv).toNat)
  case atStart => exact ⟨0, Nat.zero_le _, rfl, by rw [HZ.out]; rfl, HX1.out, Keeps.refl _ _⟩
  case round =>
    obtain ⟨k, hk, rfl, rfl, hX, hK⟩ := hrel
    have HK : Hid (Keeps (fun b => b = p) w1 wr) := hK
    by_cases hlt : k < C
    · have hkl : k < L.length := by rw [← HCL.out]; exact hlt
      have hon : OwnL wr w.heap.size (.slice ao C cap) v L := OwnL.held hpl HO.out hK
      obtain ⟨ao', cap', he, -, hcc⟩ := hon.at
      rw [← HCL.out] at he
      cases he
      obtain ⟨b, rfl, hbl, hcc⟩ := hcc (by omega)
      have hci := hcc k hkl
      have hfit := HF.out L[k] (List.getElem_mem hkl)
      have HS1 : Hid (XM.stage D L (k + 1) = XM.app (XM.stage D L k) L[k]) := HST.out k hkl
      rw [List.getElem?_eq_getElem hkl, Option.getD_some] at hci
      have hms := HMS.out k
      have HN2 : Hid ((XM.stage D L k).2 ≤ 600) := HLE.out k
      have hAP : ¬ L[k].x < (XM.stage D L k).1 L[k].u L[k].w → XM.app (XM.stage D L k) L[k] = XM.stage D L k := XM.app_no
      have hAY : L[k].x < (XM.stage D L k).1 L[k].u L[k].w → (XM.app (XM.stage D L k) L[k]).1 = XM.put N (XM.stage D L k).1 (L[k].u : Nat) (L[k].w : Nat) L[k].x ∧ (XM.app (XM.stage D L k) L[k]).2 = (XM.stage D L k).2 + 1 := fun h => XM.app_put hfit h
      obtain ⟨h1, h2, h3, h4, h5⟩ := hci
      obtain ⟨f1, f2, f3, f4, f5⟩ := hfit
      have k1 : (k : Int) < (C : Int) := by omega
      clear hon hcc hK
      generalize L[k] = d at *
      obtain ⟨du, dw, dx⟩ := d
      dsimp only at h1 h2 h3 f1 f2 f3 f4 f5 hAP hAY
      generalize hT : XM.stage D L k = T at *
      obtain ⟨T1, T2⟩ := T
      dsimp only at hAP hAY
      have hX : XMem wr p N T1 := hX
      have hms : XM.Mesh N T1 := hms
      have hn2 : T2 ≤ 600 := HN2.out
      clear hT HN2
      go_upto_region 7 with fail
      have hba : Below wr.heap.size wr (wr.alloc (.cells #[.int .i64 (du : Nat), .int .i64 (dw : Nat), .int .i64 dx, .int .i64 (-1), .int .i64 (v : Nat)] 94)) := (Below.refl _ _).alloc (Nat.le_refl _) _
      have e1 : (wr.alloc (.cells #[.int .i64 (du : Nat), .int .i64 (dw : Nat), .int .i64 dx, .int .i64 (-1), .int .i64 (v : Nat)] 94)).cell? ⟨wr.heap.size, 0, none⟩ = some (.int .i64 (du : Nat)) := by simp
      have e2 : (wr.alloc (.cells #[.int .i64 (du : Nat), .int .i64 (dw : Nat), .int .i64 dx, .int .i64 (-1), .int .i64 (v : Nat)] 94)).cell? ⟨wr.heap.size, 1, none⟩ = some (.int .i64 (dw : Nat)) := by simp
      have e3 : (wr.alloc (.cells #[.int .i64 (du : Nat), .int .i64 (dw : Nat), .int .i64 dx, .int .i64 (-1), .int .i64 (v : Nat)] 94)).cell? ⟨wr.heap.size, 2, none⟩ = some (.int .i64 dx) := by simp
      have HKA : Hid (Keeps (fun b => b = p) w1 (wr.alloc (.cells #[.int .i64 (du : Nat), .int .i64 (dw : Nat), .int .i64 dx, .int .i64 (-1), .int .i64 (v : Nat)] 94))) := HK.out.alloc _
      have hXA := hX.on hba
      generalize wr.alloc (.cells #[.int .i64 (du : Nat), .int .i64 (dw : Nat), .int .i64 dx, .int .i64 (-1), .int .i64 (v : Nat)] 94) = wa at *
      have hat := fun W (hW : XMem W p N T1) => xat_any hW hN (du : Nat) (dw : Nat)
      rw [XM.atE_nat hms] at hat
      have hls := fun W => lessB_any (a := dx) (b := T1 du dw) ⟨by omega, by omega⟩ (hms.ok.bd du dw) W
      have HXA : Hid (XMem wa p N T1) := hXA
      have HAT : Hid (∀ W, XMem W p N T1 → Calls Tryz.prog 64 #[.pointer (some ⟨p, 0, none⟩), .int .i64 (du : Nat), .int .i64 (dw : Nat)] W fun e w' => e = .returned (.int .i64 (T1 du dw)) ∧ w' = W) := hat
      have HLS : Hid (∀ W, Calls Tryz.prog 66 #[.int .i64 dx, .int .i64 (T1 du dw)] W fun e w' => e = .returned (.bool (decide (dx < T1 du dw))) ∧ w' = W) := hls
      have HPT : Hid (∀ W, XMem W p N T1 → Calls Tryz.prog 14 #[.pointer (some ⟨p, 0, none⟩), .int .i64 (du : Nat), .int .i64 (dw : Nat), .int .i64 dx] W fun e w' => e = .returned (.int .i64 (XM.putCode N (du : Nat) (dw : Nat) dx)) ∧ XMem w' p N (XM.put N T1 (du : Nat) (dw : Nat) dx) ∧ XM.Mesh N (XM.put N T1 (du : Nat) (dw : Nat) dx) ∧ Keeps (fun b => b = p) W w') := fun W hW => xput_any hW hms hN _ _ _
      clear hX hXA hat hls hms hba h1 h2 h3 h4 h5 f1 f2 f3 f4 f5
      by_cases hx : dx < T1 du dw
      · have HE : Hid ((XM.stage D L (k + 1)).1 = XM.put N T1 (du : Nat) (dw : Nat) dx ∧ (XM.stage D L (k + 1)).2 = T2 + 1) := by rw [HS1.out]; exact hAY hx
        rw [decide_eq_true hx] at HLS
        clear hAP hAY HS1 hx
        go_quiet (first | (go_at_call 64; exact Calls.quiet_of_same (HAT.out _ (HXA.out.on (below_drewN (Below.refl _ _) _)))) | (go_at_call 66; exact Calls.quiet_of_same (HLS.out _)))
        have HQ : Hid (XMem (wa.drewN nq) p N T1 ∧ Keeps (fun b => b = p) w1 (wa.drewN nq)) := ⟨HXA.out.on (below_drewN (Below.refl _ _) nq), HKA.out.drewN⟩
        have g1 : (wa.drewN nq).cell? ⟨wr.heap.size, 0, none⟩ = some (.int .i64 (du : Nat)) := e1
        have g2 : (wa.drewN nq).cell? ⟨wr.heap.size, 1, none⟩ = some (.int .i64 (dw : Nat)) := e2
        have g3 : (wa.drewN nq).cell? ⟨wr.heap.size, 2, none⟩ = some (.int .i64 dx) := e3
        clear e1 e2 e3 HXA HKA HAT HLS
        generalize wa.drewN nq = wq at *
        have hpt := HPT.out wq HQ.out.1
        go_wp2_with fail
        refine hpt.mono ?_
        rintro e w3 ⟨rfl, hX3, -, hK3⟩
        have HQ3 : Hid (XMem w3 p N (XM.put N T1 (du : Nat) (dw : Nat) dx) ∧ Keeps (fun b => b = p) w1 w3) := ⟨hX3, HQ.out.2.trans hK3 (fun b hb => .inl hb)⟩
        clear hpt hX3 hK3 HPT g1 g2 g3
        go_wp2_with fail
        go_roundw
        case rel => exact ⟨k + 1, by omega, by go_num, by rw [HE.out.2]; go_num, by rw [HE.out.1]; exact HQ3.out.1, HQ3.out.2⟩
        case measure => simp [intOf]; omega
      · have HE : Hid (XM.stage D L (k + 1) = (T1, T2)) := HS1.out.trans (hAP hx)
        rw [decide_eq_false hx] at HLS
        clear hAP hAY HS1 hx
        go_quiet (first | (go_at_call 64; exact Calls.quiet_of_same (HAT.out _ (HXA.out.on (below_drewN (Below.refl _ _) _)))) | (go_at_call 66; exact Calls.quiet_of_same (HLS.out _)))
        have HQ : Hid (XMem (wa.drewN nq) p N T1 ∧ Keeps (fun b => b = p) w1 (wa.drewN nq)) := ⟨HXA.out.on (below_drewN (Below.refl _ _) nq), HKA.out.drewN⟩
        clear e1 e2 e3 HXA HKA HAT HLS HPT
        generalize wa.drewN nq = wq at *
        go_wp2_with fail
        go_roundw
        case rel => exact ⟨k + 1, by omega, by go_num, by rw [HE.out], by rw [HE.out]; exact HQ.out.1, HQ.out.2⟩
        case measure => simp [intOf]; omega
    · obtain rfl : k = C := by omega
      have HFN : Hid (XM.leave (XM.stage D L k).1 v = DF ∧ (XM.stage D L k).2 = NF) := by
        have := HFIN.out
        rw [← HCL.out] at this
        exact this
      have hle := leave_any hX v HV.out
      rw [HFN.out.1] at hle
      clear hX hK hlt hk HX1 HST HMS HLE HF HFIN HZ HCL HO
      go_wp2_with fail
      refine hle.mono ?_
      rintro e w3 ⟨⟨r, rfl⟩, hX3, hK3⟩
      have H3 : Hid (XMem w3 p N DF ∧ Keeps (fun b => b = p) w w3) := ⟨hX3, ((Below.keeps HB.out _).trans HK.out (fun b hb => .inl hb)).trans hK3 (fun b hb => .inl hb)⟩
      clear hle hX3 hK3
      go_wp2_with fail
      go_ret2
      exact ⟨by simp [HFN.out.2], H3.out.1, H3.out.2⟩
set_option maxHeartbeats 400000 in
theorem xcon_no {w : World} {p N : Nat} {D : Nat → Nat → Int} (hg : XMem w p N D) (v : Int) (hv : GM.vert N v = false) :
    Calls Tryz.prog 30 #[.pointer (some ⟨p, 0, none⟩), .int .i64 v] w fun e w' => e = .returned (.tuple #[.int .i64 0, .int .i64 1]) ∧ w' = w := by
  have hvx := xhasVertex_any hg v
  rw [hv] at hvx
  clear hg hv
  go_enter Tryz.func30, Tryz.ntmps30
  go_wp2_with fail
  refine hvx.mono ?_
  rintro e w' ⟨rfl, rfl⟩
  clear hvx
  go_wp2_with fail
  go_ret2
  exact ⟨rfl, rfl⟩
end Go.Proofs.YtkcfepppnclniaaGreatDoor
end

section
/-
  The walks of layer 13's document: the least sum, and three unlike vertices.
-/
namespace Go.Proofs.YtkcfepppnclniaaGreatDoor
open Go.RowKit
theorem below_on' {b : Nat} {w w0 W : World} (h : Below b w w0) (h' : Below w0.heap.size w0 W) (hb : b < w0.heap.size) : Below b w W := h.trans (h'.mono (Nat.le_of_lt hb))
set_option maxHeartbeats 1000000 in
/-- The least sum of how far it is to a settled one, and the step from that. -/
theorem rsum_any {w : World} {p N : Nat} {D : Nat → Nat → Int} (hg : XMem w p N D) (hm : XM.Mesh N D) (hN : N ≤ 24) (L : List (Nat × Int)) (sv dv tv : Value) (hs : Row .i64 w sv (WM.vsL L)) (hd : Row .i64 w dv (WM.dsL L)) (v : Nat) :
    Calls Tryz.prog 119 #[.pointer (some ⟨p, 0, none⟩), .agg #[sv, dv, tv], .int .i64 v] w fun e w' => e = .returned (.int .i64 (WM.sum D L v)) ∧ Below w.heap.size w w' := by
  obtain ⟨a, cap, rfl, hat⟩ := hs
  obtain ⟨a2, cap2, rfl, hat2⟩ := hd
  have HA : Hid (RowAt .i64 w a cap (WM.vsL L)) := hat
  have HB : Hid (RowAt .i64 w a2 cap2 (WM.dsL L)) := hat2
  have h1 := hat.1
  have h2 := hat.2.1
  have h12 := hat2.1
  have h22 := hat2.2.1
  rw [WM.vsL_len] at h1 ⊢
  rw [WM.dsL_len] at h12 ⊢
  have hml : L.length ≤ 9223372036854775807 := by unfold maxLen at h2; omega
  have HAT : Hid (∀ W, Below w.heap.size w W → ∀ a b : Nat, Calls Tryz.prog 71 #[.pointer (some ⟨p, 0, none⟩), .int .i64 a, .int .i64 b] W fun e w' => e = .returned (.int .i64 (D a b)) ∧ w' = W) := fun W hW a b => by
    have := rat_any (hg.on hW) hm hN (a : Int) (b : Int)
    rwa [XM.atE_nat hm a b] at this
  obtain ⟨n, hn⟩ : ∃ n, n = L.length := ⟨_, rfl⟩
  have HST : Hid (∀ k : Nat, k < n → ∃ (u : Nat) (d : Int), (WM.vsL L)[k]?.getD 0 = (u : Int) ∧ (WM.dsL L)[k]?.getD 0 = d ∧ WM.sum D (L.take (k + 1)) v = WM.low (WM.sum D (L.take k) v) (DM.two d (D u v))) := fun k h => by
    have hk : k < L.length := by omega
    refine ⟨L[k].1, L[k].2, ?_, ?_, WM.sum_take D L v k hk⟩
    · unfold WM.vsL
      rw [List.getElem?_map, List.getElem?_eq_getElem hk]
      rfl
    · unfold WM.dsL
      rw [List.getElem?_map, List.getElem?_eq_getElem hk]
      rfl
  have HEND : Hid (L.take n = L) := by
    show _ = _
    rw [hn, List.take_length]
  rw [← hn] at h1 h12 hml ⊢
  have HLV : Hid ((WM.vsL L).length = n) := by
    show _ = _
    rw [WM.vsL_len, hn]
  have HLD : Hid ((WM.dsL L).length = n) := by
    show _ = _
    rw [WM.dsL_len, hn]
  have hw0 : ∃ w0, w0 = w.alloc (.cells #[.slice a n cap, .slice a2 n cap2, tv] 139) ∧ Below w.heap.size w w0 ∧ w0.cell? ⟨w.heap.size, 0, none⟩ = some (.slice a n cap) ∧ w0.cell? ⟨w.heap.size, 1, none⟩ = some (.slice a2 n cap2) ∧ w.heap.size < w0.heap.size := ⟨_, rfl, (Below.refl _ _).alloc (Nat.le_refl _) _, by unfold World.cell?; rw [heap_alloc_new]; rfl, by unfold World.cell?; rw [heap_alloc_new]; rfl, by simp⟩
  obtain ⟨LS, hLS⟩ : ∃ LS : Nat → List (Nat × Int), LS = fun k => L.take k := ⟨_, rfl⟩
  have HS0 : Hid (WM.sum D (LS 0) v = 4611686018427387906) := by
    show _ = _
    rw [hLS]
    rfl
  have HSN : Hid (WM.sum D (LS n) v = WM.sum D L v) := by
    show _ = _
    rw [hLS]
    show WM.sum D (L.take n) v = _
    rw [HEND.out]
  have HST2 : Hid (∀ k : Nat, k < n → ∃ (u : Nat) (d : Int), (WM.vsL L)[k]?.getD 0 = (u : Int) ∧ (WM.dsL L)[k]?.getD 0 = d ∧ WM.sum D (LS (k + 1)) v = WM.low (WM.sum D (LS k) v) (DM.two d (D u v))) := by
    rw [hLS]
    exact HST.out
  clear hat hat2 hg hm hn HST HEND hLS
  generalize WM.sum D L v = SL at *
  generalize hSS : (fun k => WM.sum D (LS k) v) = SS at *
  have HSS : Hid (∀ k, WM.sum D (LS k) v = SS k) := fun k => by rw [← hSS]
  clear hSS
  go_enter Tryz.func119, Tryz.ntmps119
  go_wp2_with fail
  obtain ⟨w0, hw0, hb0, c00, c01, hs0⟩ := hw0
  rw [← hw0]
  clear hw0
  generalize hbb : w.heap.size = b0 at *
  have HBB : Hid (w.heap.size = b0) := hbb
  have HB0 : Hid (Below b0 w w0) := hb0
  have HC0 : Hid (∀ W, Below w0.heap.size w0 W → W.cell? ⟨b0, 0, none⟩ = some (.slice a n cap)) := fun W hW => by rw [hW.cell (p := ⟨b0, 0, none⟩) hs0]; exact c00
  have HC1 : Hid (∀ W, Below w0.heap.size w0 W → W.cell? ⟨b0, 1, none⟩ = some (.slice a2 n cap2)) := fun W hW => by rw [hW.cell (p := ⟨b0, 1, none⟩) hs0]; exact c01
  have HS0L : Hid (b0 < w0.heap.size) := hs0
  clear hbb hb0 c00 c01 hs0
  go_loopw [7, 8] (fun lv iv wr => ∃ k : Nat, k ≤ n ∧ iv = .int .i64 k ∧ lv = .int .i64 (SS k) ∧ Below w0.heap.size w0 wr) (fun _ iv _ => n - (intOf iv).toNat)
  case atStart => exact ⟨0, Nat.zero_le _, rfl, by rw [← HSS.out, HS0.out], Below.refl _ _⟩
  case round =>
    obtain ⟨k, hk, rfl, rfl, hB⟩ := hrel
    have HB2 : Hid (Below w0.heap.size w0 wr) := hB
    have HBb : Hid (Below b0 w wr) := below_on' HB0.out hB HS0L.out
    have HBw : Hid (Below w.heap.size w wr) := by
      rw [HBB.out]
      exact HBb.out
    have d0 := HC0.out wr hB
    have d1 := HC1.out wr hB
    by_cases hlt : k < n
    · obtain ⟨b, o, rfl, hc⟩ := (HA.out.below HBw.out).2.2.2 (by rw [HLV.out]; omega)
      obtain ⟨b2, o2, rfl, hc2⟩ := (HB.out.below HBw.out).2.2.2 (by rw [HLD.out]; omega)
      have hck := hc k (by rw [HLV.out]; exact hlt)
      have hck2 := hc2 k (by rw [HLD.out]; exact hlt)
      obtain ⟨u, d, e1, e2, e3⟩ := HST2.out k hlt
      rw [e1] at hck
      rw [e2] at hck2
      rw [HSS.out, HSS.out] at e3
      have HE : Hid (SS (k + 1) = WM.low (SS k) (DM.two d (D u v))) := e3
      have hi0 : (0 : Int) ≤ (k : Int) := by omega
      have hi1 : (k : Int) < (n : Int) := by omega
      clear hc hc2 e1 e2 e3 HST2 hB
      have HATD : Hid (∀ q, Calls Tryz.prog 71 #[.pointer (some ⟨p, 0, none⟩), .int .i64 u, .int .i64 v] (wr.drewN q) fun e w' => e = .returned (.int .i64 (D u v)) ∧ w' = wr.drewN q) := fun q => HAT.out (wr.drewN q) (below_drewN HBb.out q) u v
      go_wp2_with fail
      go_quiet ((first
        | (go_at_call 93; exact Calls.quiet_of_same (two_any _ _ _))
        | (go_at_call 71; exact Calls.quiet_of_same (HATD.out _))))
      have HW : Hid (Below w0.heap.size w0 (wr.drewN nq)) := below_drewN HB2.out nq
      clear d0 d1
      generalize wr.drewN nq = wq at *
      have HL : Hid (WM.low (SS k) (DM.two d (D u v)) = if DM.two d (D u v) < SS k then DM.two d (D u v) else SS k) := rfl
      generalize DM.two d (D u v) = x at *
      by_cases hx : x < SS k
      · have HE2 : Hid (SS (k + 1) = x) := by
          show _ = _
          rw [HE.out, HL.out, if_pos hx]
        go_wp2_with fail
        go_roundw
        case rel => exact ⟨k + 1, by omega, by go_num, by rw [HE2.out], HW.out⟩
        case measure => simp [intOf]; omega
      · have HE2 : Hid (SS (k + 1) = SS k) := by
          show _ = _
          rw [HE.out, HL.out, if_neg hx]
        go_wp2_with fail
        go_roundw
        case rel => exact ⟨k + 1, by omega, by go_num, by rw [HE2.out], HW.out⟩
        case measure => simp [intOf]; omega
    · obtain rfl : k = n := by omega
      have HE : Hid (SS k = SL) := (HSS.out k).symm.trans HSN.out
      clear hB
      go_wp2_with fail
      go_ret
      exact ⟨ret_int HE.out, by rw [HBB.out]; exact HBb.out⟩
end Go.Proofs.YtkcfepppnclniaaGreatDoor
end
