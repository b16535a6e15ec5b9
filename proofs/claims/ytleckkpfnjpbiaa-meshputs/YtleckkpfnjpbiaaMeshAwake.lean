/-
  The walk of awake: a mesh of three, put, gone round, contracted.
-/
import Derived.Test.YtleckkpfnjpbiaaMeshCon
import Derived.Test.YtleckkpfnjpbiaaInts
import Derived.Deep.DeepCutAuto
namespace Go.Proofs.Ytleckkpfnjpbiaa
open Go.RowKit

namespace XM
def aw : Nat → Nat → Int := put 3 (put 3 (put 3 (put 3 empty 0 1 2) 1 2 3) 0 2 9) 1 1 9
theorem aw_det : (dets 3 aw 1 3).map (fun d => (d.u, d.w, d.x)) = [(0, 2, 5)] := by decide +kernel
theorem aw_n : conN 3 aw 1 = 1 := by decide +kernel
theorem aw_at : atE 3 (con aw 1) 0 2 = 5 ∧ atE 3 (con aw 1) 0 1 = 4611686018427387906 ∧ atE 3 (con aw 1) 0 3 = 4611686018427387906 := by decide +kernel
theorem aw_mesh : Mesh 3 aw := put_mesh (put_mesh (put_mesh (put_mesh (Mesh.empty 3) _ _ _) _ _ _) _ _ _) _ _ _
end XM
set_option maxHeartbeats 2000000 in
set_option maxRecDepth 100000 in
theorem awakeX_any (w : World) :
    Calls Try.prog 7 #[] w fun e w' => e = .returned (.bool true) ∧ Below w.heap.size w w' := by
  have hn1 := xnew_ok 3 (by decide) (by decide) w
  have HN2 : Hid (∀ W, Calls Try.prog 8 #[.int .i64 25] W fun e w' => e = .returned (.tuple #[.pointer none, .int .i64 1]) ∧ w' = W) := fun W => xnew_no 25 (by decide) W
  have HP : Hid (∀ W p D, XMem W p 3 D → XM.Mesh 3 D → ∀ u v x : Int, Calls Try.prog 10 #[.pointer (some ⟨p, 0, none⟩), .int .i64 u, .int .i64 v, .int .i64 x] W fun e w' => e = .returned (.int .i64 (XM.putCode 3 u v x)) ∧ XMem w' p 3 (XM.put 3 D u v x) ∧ XM.Mesh 3 (XM.put 3 D u v x) ∧ Keeps (fun b => b = p) W w') := fun W p D hX hm u v x => xput_any hX hm (by decide) u v x
  have HD : Hid (∀ W p, XMem W p 3 XM.aw → Calls Try.prog 15 #[.pointer (some ⟨p, 0, none⟩), .int .i64 1] W fun e w' => ∃ r, e = .returned r ∧ OwnL w' W.heap.size r 1 (XM.dets 3 XM.aw 1 3) ∧ Below W.heap.size W w') := fun W p hX => det_any hX XM.aw_mesh (by decide) 1
  have HC : Hid (∀ W p, XMem W p 3 XM.aw → Calls Try.prog 23 #[.pointer (some ⟨p, 0, none⟩), .int .i64 1] W fun e w' => e = .returned (.tuple #[.int .i64 1, .int .i64 0]) ∧ XMem w' p 3 (XM.con XM.aw 1) ∧ Keeps (fun b => b = p) W w') := fun W p hX => by
    have := xcon_ok hX XM.aw_mesh (by decide) 1 (by decide)
    rw [XM.aw_n] at this
    exact this
  have HA : Hid (∀ W p, XMem W p 3 (XM.con XM.aw 1) → ∀ u v : Int, Calls Try.prog 26 #[.pointer (some ⟨p, 0, none⟩), .int .i64 u, .int .i64 v] W fun e w' => e = .returned (.int .i64 (XM.atE 3 (XM.con XM.aw 1) u v)) ∧ w' = W) := fun W p hX u v => xat_any hX (by decide) u v
  have HE : Hid (XM.put 3 (XM.put 3 (XM.put 3 (XM.put 3 XM.empty 0 1 2) 1 2 3) 0 2 9) 1 1 9 = XM.aw) := rfl
  have HDT : Hid ((XM.dets 3 XM.aw 1 3).map (fun d => (d.u, d.w, d.x)) = [(0, 2, 5)]) := XM.aw_det
  have HAT : Hid (XM.atE 3 (XM.con XM.aw 1) 0 2 = 5 ∧ XM.atE 3 (XM.con XM.aw 1) 0 1 = 4611686018427387906 ∧ XM.atE 3 (XM.con XM.aw 1) 0 3 = 4611686018427387906) := XM.aw_at
  generalize XM.aw = AW at *
  go_enter Try.func7, Try.ntmps7
  go_wp2_with fail
  refine hn1.mono ?_
  rintro e w1 ⟨p, rfl, hp, hX1, hb1⟩
  have hpw : w.heap.size ≤ p := by omega
  have H1 : Hid (XMem w1 p 3 XM.empty ∧ Below w.heap.size w w1) := ⟨hX1, hb1⟩
  clear hn1 hX1 hb1 hp
  go_wp2_with fail
  refine (HN2.out w1).mono ?_
  rintro e w9 ⟨rfl, hw9⟩
  rw [hw9]
  clear hw9 w9
  go_wp2_with fail
  refine (HP.out w1 p _ H1.out.1 (XM.Mesh.empty 3) 0 1 2).mono ?_
  rintro e w2 ⟨rfl, hX2, hm2, hk2⟩
  have H2 : Hid (XMem w2 p 3 (XM.put 3 XM.empty 0 1 2) ∧ XM.Mesh 3 (XM.put 3 XM.empty 0 1 2) ∧ Below w.heap.size w w2) := ⟨hX2, hm2, H1.out.2.trans (hk2.below (fun b hb => by omega) H1.out.2.size)⟩
  clear hX2 hm2 hk2
  generalize XM.put 3 XM.empty 0 1 2 = D2 at *
  generalize XM.putCode 3 0 1 2 = k2 at *
  go_wp2_with fail
  refine (HP.out w2 p _ H2.out.1 H2.out.2.1 1 2 3).mono ?_
  rintro e w3 ⟨rfl, hX3, hm3, hk3⟩
  have H3 : Hid (XMem w3 p 3 (XM.put 3 D2 1 2 3) ∧ XM.Mesh 3 (XM.put 3 D2 1 2 3) ∧ Below w.heap.size w w3) := ⟨hX3, hm3, H2.out.2.2.trans (hk3.below (fun b hb => by omega) H2.out.2.2.size)⟩
  clear hX3 hm3 hk3
  generalize XM.put 3 D2 1 2 3 = D3 at *
  generalize XM.putCode 3 1 2 3 = k3 at *
  go_wp2_with fail
  refine (HP.out w3 p _ H3.out.1 H3.out.2.1 0 2 9).mono ?_
  rintro e w4 ⟨rfl, hX4, hm4, hk4⟩
  have H4 : Hid (XMem w4 p 3 (XM.put 3 D3 0 2 9) ∧ XM.Mesh 3 (XM.put 3 D3 0 2 9) ∧ Below w.heap.size w w4) := ⟨hX4, hm4, H3.out.2.2.trans (hk4.below (fun b hb => by omega) H3.out.2.2.size)⟩
  clear hX4 hm4 hk4
  generalize XM.put 3 D3 0 2 9 = D4 at *
  rw [show XM.putCode 3 0 2 9 = 0 from rfl]
  go_wp2_with fail
  refine (HP.out w4 p _ H4.out.1 H4.out.2.1 1 1 9).mono ?_
  rintro e w5 ⟨rfl, hX5, -, hk5⟩
  rw [HE.out] at hX5
  have H5 : Hid (XMem w5 p 3 AW ∧ Below w.heap.size w w5) := ⟨hX5, H4.out.2.2.trans (hk5.below (fun b hb => by omega) H4.out.2.2.size)⟩
  clear hX5 hk5
  rw [show XM.putCode 3 1 1 9 = 1 from rfl]
  go_wp2_with fail
  refine (HD.out w5 p H5.out.1).mono ?_
  rintro e w6 ⟨r, rfl, ho, hb6⟩
  have hdl : (XM.dets 3 AW 1 3).length = 1 := by
    have := congrArg List.length HDT.out
    simpa using this
  obtain ⟨d, hd⟩ := List.length_eq_one_iff.1 hdl
  obtain ⟨ao, cap, rfl, ⟨hcp, -⟩, hcc⟩ := ho.at
  rw [hdl] at ho hcp hcc
  simp only [hdl]
  obtain ⟨b, rfl, hbl, hcc⟩ := hcc (by decide)
  have hci := hcc 0 (by decide)
  have hbp : b ≠ p := by
    have h1 := (ho.block b rfl).1
    have h2 := H5.out.1.lt
    omega
  have hdx : d.x = 5 := by
    have := HDT.out
    rw [hd] at this
    simp at this
    exact this.2.2
  rw [hd] at hci
  simp only [List.getElem?_cons_zero, Option.getD_some, Nat.zero_mul] at hci
  obtain ⟨x0, x1, x2, x3, x4⟩ := hci
  rw [hdx] at x2
  have H6 : Hid (XMem w6 p 3 AW ∧ Below w.heap.size w w6) := ⟨H5.out.1.on hb6, below_on H5.out.2 hb6⟩
  have hcpI : (1 : Int) ≤ (cap : Int) := by omega
  clear ho hb6 hcc hd hdx hbl hdl x0 x1 x3
  go_wp2_with fail
  refine (HC.out w6 p H6.out.1).mono ?_
  rintro e w7 ⟨rfl, hX7, hk7⟩
  have y2 := hk7.cell x2 (by exact hbp)
  have y4 := hk7.cell x4 (by exact hbp)
  have H7 : Hid (XMem w7 p 3 (XM.con AW 1) ∧ Below w.heap.size w w7) := ⟨hX7, H6.out.2.trans (hk7.below (fun b hb => by omega) H6.out.2.size)⟩
  have h02 := HA.out w7 p hX7 0 2
  have h01 := HA.out w7 p hX7 0 1
  have h03 := HA.out w7 p hX7 0 3
  rw [HAT.out.1] at h02
  rw [HAT.out.2.1] at h01
  rw [HAT.out.2.2] at h03
  clear hX7 hk7 x2 x4 HAT HA HC HD HP HE HDT H6 H5 H4 H3 H2 H1 HN2
  go_wp2_with fail
  refine h02.mono ?_
  rintro e w8 ⟨rfl, hw8⟩
  rw [hw8]
  clear hw8 w8 h02
  go_wp2_with fail
  refine h01.mono ?_
  rintro e w8 ⟨rfl, hw8⟩
  rw [hw8]
  clear hw8 w8 h01
  go_wp2_with fail
  refine h03.mono ?_
  rintro e w8 ⟨rfl, hw8⟩
  rw [hw8]
  clear hw8 w8 h03
  go_wp2_with fail
  go_ret
  exact ⟨rfl, H7.out.2⟩
end Go.Proofs.Ytleckkpfnjpbiaa
