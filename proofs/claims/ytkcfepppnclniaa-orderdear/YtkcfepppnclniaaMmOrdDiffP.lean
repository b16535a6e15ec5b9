/-
  OrdDiffP, WitAwake, OrdAwake, OrdDiff.
-/
import Derived.Test.YtkcfepppnclniaaMmWitSpare
import Derived.Test.YtkcfepppnclniaaMmBitsPop
import Derived.Test.YtkcfepppnclniaaMmMeshPut
import Derived.Test.YtkcfepppnclniaaMmWitSpareP
import Derived.Deep.DeepCutAuto
section
/-
  The program's Difference, over its Need.
-/
namespace Go.Proofs.Ytkcfepppnclniaa
open Go.RowKit
set_option maxHeartbeats 400000 in
theorem diff_no (HN : NeedNo) : DiffNo := by
  intro w p N D hg hN v hv k
  have hc := HN hg hN v hv k
  clear hg hv HN
  go_enter Try.func9, Try.ntmps9
  go_wp2_with fail
  refine hc.mono ?_
  rintro e w1 ⟨rfl, hb⟩
  clear hc
  go_wp2_with fail
  go_ret2
  exact ⟨rfl, hb⟩
set_option maxHeartbeats 1000000 in
theorem diff_ok (HN : NeedIs) : DiffIs := by
  intro w p N D hg hm hN v hv k
  have hc := HN hg hm hN v hv k
  have HG : Hid (∀ W, Below w.heap.size w W → XMem W p N D) := fun W hW => hg.on hW
  have HO : Hid (∀ W, Below w.heap.size w W → Calls Try.prog 22 #[.pointer (some ⟨p, 0, none⟩), .int .i64 v] W fun e w' => e = .returned (iterV W.heap.size) ∧ Reads 39 p N D (v : Nat) W.heap.size w' ∧ Below W.heap.size W w') := fun W hW => (outX_any p v W).mono fun e w' ⟨he, hw⟩ => by
    have := iterW_reads (HG.out W hW) 39 (v : Nat)
    exact ⟨he, by rw [hw]; exact this.1, by rw [hw]; exact this.2.1⟩
  have HI : Hid (∀ W, Below w.heap.size w W → Calls Try.prog 23 #[.pointer (some ⟨p, 0, none⟩), .int .i64 v] W fun e w' => e = .returned (iterV W.heap.size) ∧ Reads 40 p N D (v : Nat) W.heap.size w' ∧ Below W.heap.size W w') := fun W hW => (inX_any p v W).mono fun e w' ⟨he, hw⟩ => by
    have := iterW_reads (HG.out W hW) 40 (v : Nat)
    exact ⟨he, by rw [hw]; exact this.1, by rw [hw]; exact this.2.1⟩
  have HEO : Hid (∀ W B, Reads 39 p N D (v : Nat) B W → Calls Try.prog 21 #[iterV B] W fun e w' => e = .returned (.int .u64 (OM.tips (XM.steps N D v false N) : Nat)) ∧ Below W.heap.size W w') := fun W B h => endsO_any hN h
  have HEI : Hid (∀ W B, Reads 40 p N D (v : Nat) B W → Calls Try.prog 21 #[iterV B] W fun e w' => e = .returned (.int .u64 (OM.tips (XM.steps N D v true N) : Nat)) ∧ Below W.heap.size W w') := fun W B h => endsI_any hN h
  have HLO : Hid (∀ W, Calls Try.prog 24 #[.int .u64 (OM.tips (XM.steps N D v false N) : Nat)] W fun e w' => e = .returned (.int .i64 (OM.edges N D v false : Nat)) ∧ w' = W) := fun W => by
    have := len_any14 (OM.tips (XM.steps N D v false N)) (OM.tips_lt _) W
    rwa [OM.tips_len hN] at this
  have HLI : Hid (∀ W, Calls Try.prog 24 #[.int .u64 (OM.tips (XM.steps N D v true N) : Nat)] W fun e w' => e = .returned (.int .i64 (OM.edges N D v true : Nat)) ∧ w' = W) := fun W => by
    have := len_any14 (OM.tips (XM.steps N D v true N)) (OM.tips_lt _) W
    rwa [OM.tips_len hN] at this
  have hd : OM.diff N D v k.toNat = (OM.need N D v k.toNat : Int) - (OM.edges N D v false : Nat) - (OM.edges N D v true : Nat) := rfl
  have hnb : OM.need N D v k.toNat ≤ 600 := by
    have h1 := XM.dets_len (N := N) (D := D) (v := v) N
    have h2 : N * N ≤ 24 * 24 := Nat.mul_le_mul hN hN
    have h3 : OM.need N D v k.toNat ≤ (XM.dets N D v N).length := List.length_filter_le _ _
    omega
  have he1 : OM.edges N D v false ≤ 24 := Nat.le_trans (XM.steps_len N) hN
  have he2 : OM.edges N D v true ≤ 24 := Nat.le_trans (XM.steps_len N) hN
  rw [hd]
  clear hd hm HN hg HG
  generalize OM.need N D v k.toNat = nd at *
  generalize OM.edges N D v false = e1 at *
  generalize OM.edges N D v true = e2 at *
  generalize OM.tips (XM.steps N D v false N) = t1 at *
  generalize OM.tips (XM.steps N D v true N) = t2 at *
  go_enter Try.func9, Try.ntmps9
  go_wp2_with fail
  refine hc.mono ?_
  rintro e w1 ⟨rfl, hb⟩
  have HB1 : Hid (Below w.heap.size w w1) := hb
  clear hc hb
  go_wp2_with fail
  refine (HO.out w1 HB1.out).mono ?_
  rintro e w2 ⟨rfl, hr2, hb2⟩
  have HB2 : Hid (Below w.heap.size w w2) := below_on HB1.out hb2
  have hE := HEO.out w2 _ hr2
  clear HO HEO hr2 hb2 HB1
  go_wp2_with fail
  refine hE.mono ?_
  rintro e w3 ⟨rfl, hb3⟩
  have HB3 : Hid (Below w.heap.size w w3) := below_on HB2.out hb3
  clear hE hb3 HB2
  go_wp2_with fail
  refine (HI.out w3 HB3.out).mono ?_
  rintro e w4 ⟨rfl, hr4, hb4⟩
  have HB4 : Hid (Below w.heap.size w w4) := below_on HB3.out hb4
  have hE := HEI.out w4 _ hr4
  clear HI HEI hr4 hb4 HB3
  go_wp2_with fail
  refine hE.mono ?_
  rintro e w5 ⟨rfl, hb5⟩
  have HB5 : Hid (Below w.heap.size w w5) := below_on HB4.out hb5
  clear hE hb5 HB4
  go_wp2_with fail
  refine (HLO.out w5).mono ?_
  rintro e w6 ⟨rfl, hw6⟩
  rw [hw6]
  clear hw6 w6 HLO
  go_wp2_with fail
  refine (HLI.out w5).mono ?_
  rintro e w6 ⟨rfl, hw6⟩
  rw [hw6]
  clear hw6 w6 HLI
  go_wp2_with fail
  go_ret2
  exact ⟨rfl, HB5.out⟩
end Go.Proofs.Ytkcfepppnclniaa
end

section
/-
  The walk of layer 13's law's awake: a mesh of three, a search, two detours.
-/
namespace Go.Proofs.Ytkcfepppnclniaa
open Go.RowKit

namespace WM
def aw0 : Nat → Nat → Int := XM.put 3 (XM.put 3 (XM.put 3 XM.empty 0 1 2) 1 2 3) 0 2 9
def aw1 : Nat → Nat → Int := XM.put 3 aw0 0 2 5
theorem aw0_at : aw0 0 1 = 2 ∧ aw0 1 2 = 3 ∧ aw0 0 2 = 9 := by decide +kernel
theorem aw1_at : aw1 0 1 = 2 ∧ aw1 1 2 = 3 ∧ aw1 0 2 = 5 := by decide +kernel
theorem aw0_mesh : XM.Mesh 3 aw0 := XM.put_mesh (XM.put_mesh (XM.put_mesh (XM.Mesh.empty 3) _ _ _) _ _ _) _ _ _
theorem aw1_mesh : XM.Mesh 3 aw1 := XM.put_mesh aw0_mesh _ _ _
theorem out2 (v : Nat) : outOf 2 v = decide (v = 1) := outOf_two (show 1 < 64 by decide) v
/-- The first one is settled first. -/
theorem aw_first {D : Nat → Nat → Int} : Next 3 D 0 (outOf 2) [] 0 0 :=
  ⟨⟨by decide, by rw [out2]; rfl, rfl⟩, rfl, by decide, fun w _ => (key_bd D 0 [] w).1, fun _ _ _ => Nat.zero_le _⟩
theorem aw_key {D : Nat → Nat → Int} (h : 0 ≤ D 0 2 ∧ D 0 2 ≤ 4611686018427387904) : key D 0 [(0, 0)] 2 = D 0 2 := by
  rw [key_ne _ (by simp), show [((0 : Nat), (0 : Int))] = [] ++ [(0, 0)] from rfl, sum_snoc, sum_nil]
  show low _ (DM.two 0 (D 0 2)) = _
  rw [NM.zero_two h.1 (by omega)]
  exact if_pos (by omega)
theorem aw_rest {v : Nat} (h : Free 3 (outOf 2) [(0, 0)] v) : v = 2 := by
  obtain ⟨h1, h2, h3⟩ := h
  rw [out2] at h2
  have h4 : v ≠ 1 := of_decide_eq_false h2
  have h5 : v ≠ 0 := fun e => by
    rw [e] at h3
    cases h3
  omega
theorem aw_got0 : Got 3 aw0 0 (outOf 2) 5 9 [(0, 0)] := by
  refine ⟨.snoc .nil aw_first (by decide), by decide, .inr (fun v d hn => ?_)⟩
  have e := aw_rest hn.free
  have h1 := hn.is
  rw [e, aw_key (by rw [aw0_at.2.2]; decide), aw0_at.2.2] at h1
  omega
theorem aw_got1 : Got 3 aw1 0 (outOf 2) 5 9 [(0, 0), (2, 5)] := by
  have hk := aw_key (D := aw1) (by rw [aw1_at.2.2]; decide)
  rw [aw1_at.2.2] at hk
  have hn : Next 3 aw1 0 (outOf 2) [(0, 0)] 2 5 := ⟨⟨by decide, by rw [out2]; rfl, rfl⟩, hk, by decide, fun w hw => by rw [aw_rest hw, hk]; exact Int.le_refl _, fun w hw _ => by rw [aw_rest hw]; exact Nat.le_refl _⟩
  refine ⟨.snoc (.snoc .nil aw_first (by decide)) hn (by decide), by decide, .inr (fun v d h => ?_)⟩
  exfalso
  obtain ⟨f1, f2, f3⟩ := h.free
  have h3 : has ([(0, 0)] ++ [((2 : Nat), (5 : Int))]) v = false := f3
  rw [has_snoc, Bool.or_eq_false_iff] at h3
  have e := aw_rest ⟨f1, f2, h3.1⟩
  rw [e] at h3
  exact absurd h3.2 (by decide)
theorem five_bits : ∀ i, i < 64 → Nat.testBit 5 i = decide (i = 0 ∨ i = 2) := by decide +kernel
theorem aw_touched {T : Nat} (h : TT 3 aw0 (outOf 2) [(0, 0)] T) : T = 5 := by
  refine BM.ext (by have := h.1; omega) (by decide) (fun i hi => ?_)
  rw [five_bits i hi, Bool.eq_iff_iff, ← has_bit hi, h.2 i, decide_eq_true_iff]
  unfold Tch
  rw [has_iff, out2]
  constructor
  · rintro ⟨h1, ⟨x, hx, e⟩ | ⟨h2, x, hx, h3⟩⟩
    · rw [List.mem_singleton.1 hx] at e
      exact .inl e.symm
    · have h4 : i ≠ 1 := of_decide_eq_false h2
      rw [List.mem_singleton.1 hx] at h3
      by_cases e : i = 0
      · rw [e] at h3
        have := aw0_mesh.ok.self 0
        simp only at h3
        omega
      · omega
  · rintro (rfl | rfl)
    · exact ⟨by decide, .inl ⟨(0, 0), by simp, rfl⟩⟩
    · refine ⟨by decide, .inr ⟨by decide, (0, 0), by simp, ?_⟩⟩
      show aw0 0 2 < _
      rw [aw0_at.2.2]
      decide
end WM
end Go.Proofs.Ytkcfepppnclniaa
end

section
/-
  The walk of layer 14's law's awake: a mesh of three, three needs, a difference.
-/
namespace Go.Proofs.Ytkcfepppnclniaa
open Go.RowKit
namespace OM
theorem aw_dets0 : XM.dets 3 WM.aw0 ((1 : Nat) : Int) 3 = [⟨0, 2, 5⟩] := by kernel_rfl
theorem aw_dets1 : XM.dets 3 WM.aw1 ((1 : Nat) : Int) 3 = [⟨0, 2, 5⟩] := by kernel_rfl
theorem aw_sp0 : spares 3 WM.aw0 0 1 2 9 = false := by
  unfold spares
  rw [← outOf_fun (v := 1) (by decide), show DM.two (WM.aw0 0 1) (WM.aw0 1 2) = 5 by rw [WM.aw0_at.1, WM.aw0_at.2.1]; decide, show (2 : Nat) ^ 1 = 2 from rfl, got_eq WM.aw_got0]
  decide
theorem aw_sp1 : spares 3 WM.aw1 0 1 2 9 = true := by
  unfold spares
  rw [← outOf_fun (v := 1) (by decide), show DM.two (WM.aw1 0 1) (WM.aw1 1 2) = 5 by rw [WM.aw1_at.1, WM.aw1_at.2.1]; decide, show (2 : Nat) ^ 1 = 2 from rfl, got_eq WM.aw_got1]
  decide
theorem aw_need0 : need 3 WM.aw0 1 9 = 1 := by
  unfold need
  rw [aw_dets0, List.filter_cons, List.filter_nil]
  dsimp only
  rw [aw_sp0]
  rfl
theorem aw_need1 : need 3 WM.aw1 1 9 = 0 := by
  unfold need
  rw [aw_dets1, List.filter_cons, List.filter_nil]
  dsimp only
  rw [aw_sp1]
  rfl
theorem aw_diff0 : diff 3 WM.aw0 1 9 = -1 := by
  unfold diff
  rw [aw_need0, show edges 3 WM.aw0 1 false = 1 by kernel_rfl, show edges 3 WM.aw0 1 true = 1 by kernel_rfl]
  decide
end OM
set_option maxHeartbeats 2000000 in
set_option maxRecDepth 100000 in
theorem awake14_is (HND : NeedIs) (HNN : NeedNo) (HDI : DiffIs) : AwakeIs := by
  intro w
  have hn1 := xnew_ok 3 (by decide) (by decide) w
  have HP : Hid (∀ W p D, XMem W p 3 D → XM.Mesh 3 D → ∀ u v x : Int, Calls Try.prog 16 #[.pointer (some ⟨p, 0, none⟩), .int .i64 u, .int .i64 v, .int .i64 x] W fun e w' => e = .returned (.int .i64 (XM.putCode 3 u v x)) ∧ XMem w' p 3 (XM.put 3 D u v x) ∧ XM.Mesh 3 (XM.put 3 D u v x) ∧ Keeps (fun b => b = p) W w') := fun W p D hX hm u v x => xput_any hX hm (by decide) u v x
  have HN0 : Hid (∀ W p, XMem W p 3 WM.aw0 → Calls Try.prog 8 #[.pointer (some ⟨p, 0, none⟩), .int .i64 1, .int .i64 9] W fun e w' => e = .returned (.tuple #[.int .i64 1, .int .i64 0]) ∧ Below W.heap.size W w') := fun W p hX => by
    have := HND hX WM.aw0_mesh (by decide) 1 (by decide) 9
    rwa [show (9 : Int).toNat = 9 from rfl, OM.aw_need0] at this
  have HN1 : Hid (∀ W p, XMem W p 3 WM.aw1 → Calls Try.prog 8 #[.pointer (some ⟨p, 0, none⟩), .int .i64 1, .int .i64 9] W fun e w' => e = .returned (.tuple #[.int .i64 0, .int .i64 0]) ∧ Below W.heap.size W w') := fun W p hX => by
    have := HND hX WM.aw1_mesh (by decide) 1 (by decide) 9
    rwa [show (9 : Int).toNat = 9 from rfl, OM.aw_need1] at this
  have HNB : Hid (∀ W p, XMem W p 3 WM.aw1 → Calls Try.prog 8 #[.pointer (some ⟨p, 0, none⟩), .int .i64 3, .int .i64 9] W fun e w' => e = .returned (.tuple #[.int .i64 0, .int .i64 1]) ∧ Below W.heap.size W w') := fun W p hX =>
    HNN hX (by decide) 3 (by decide) 9
  have HD0 : Hid (∀ W p, XMem W p 3 WM.aw0 → Calls Try.prog 9 #[.pointer (some ⟨p, 0, none⟩), .int .i64 1, .int .i64 9] W fun e w' => e = .returned (.tuple #[.int .i64 (-1), .int .i64 0]) ∧ Below W.heap.size W w') := fun W p hX => by
    have := HDI hX WM.aw0_mesh (by decide) 1 (by decide) 9
    rwa [show (9 : Int).toNat = 9 from rfl, OM.aw_diff0] at this
  have HE0 : Hid (XM.put 3 (XM.put 3 (XM.put 3 XM.empty 0 1 2) 1 2 3) 0 2 9 = WM.aw0) := rfl
  have HE1 : Hid (XM.put 3 WM.aw0 0 2 5 = WM.aw1) := rfl
  have HM0 : Hid (XM.Mesh 3 WM.aw0) := WM.aw0_mesh
  clear HND HNN HDI
  generalize WM.aw1 = A1 at *
  generalize WM.aw0 = A0 at *
  go_enter Try.func6, Try.ntmps6
  go_wp2_with fail
  refine hn1.mono ?_
  rintro e w1 ⟨p, rfl, hp, hX1, hb1⟩
  have hpw : w.heap.size ≤ p := by omega
  have H1 : Hid (XMem w1 p 3 XM.empty ∧ Below w.heap.size w w1) := ⟨hX1, hb1⟩
  clear hn1 hX1 hb1 hp
  go_wp2_with fail
  refine (HP.out w1 p _ H1.out.1 (XM.Mesh.empty 3) 0 1 2).mono ?_
  rintro e w2 ⟨rfl, hX2, hm2, hk2⟩
  have H2 : Hid (XMem w2 p 3 (XM.put 3 XM.empty 0 1 2) ∧ XM.Mesh 3 (XM.put 3 XM.empty 0 1 2) ∧ Below w.heap.size w w2) := ⟨hX2, hm2, H1.out.2.trans (hk2.below (fun b hb => by omega) H1.out.2.size)⟩
  clear hX2 hm2 hk2
  generalize XM.put 3 XM.empty 0 1 2 = D2 at *
  generalize XM.putCode 3 0 1 2 = k2 at *
  go_wp2_with fail
  refine (HP.out w2 p _ H2.out.1 H2.out.2.1 1 2 3).mono ?_
  rintro e w3 ⟨rfl, hX3, hm3, hk3⟩
  have H3 : Hid (XMem w3 p 3 (XM.put 3 D2 1 2 3) ∧ XM.Mesh 3 (XM.put 3 D2 1 2 3) ∧ Below w.heap.size w w3) := ⟨hX3, hm3, H2.out.2.2.trans (hk3.below (fun b hb => by omega) H2.out.2.2.size)⟩
  clear hX3 hm3 hk3
  generalize XM.put 3 D2 1 2 3 = D3 at *
  generalize XM.putCode 3 1 2 3 = k3 at *
  go_wp2_with fail
  refine (HP.out w3 p _ H3.out.1 H3.out.2.1 0 2 9).mono ?_
  rintro e w4 ⟨rfl, hX4, -, hk4⟩
  rw [HE0.out] at hX4
  have H4 : Hid (XMem w4 p 3 A0 ∧ Below w.heap.size w w4) := ⟨hX4, H3.out.2.2.trans (hk4.below (fun b hb => by omega) H3.out.2.2.size)⟩
  clear hX4 hk4
  generalize XM.putCode 3 0 2 9 = k4 at *
  go_wp2_with fail
  refine (HN0.out w4 p H4.out.1).mono ?_
  rintro e w5 ⟨rfl, hb5⟩
  have H5 : Hid (XMem w5 p 3 A0 ∧ Below w.heap.size w w5) := ⟨H4.out.1.on hb5, below_on H4.out.2 hb5⟩
  clear hb5 H4 HN0
  go_wp2_with fail
  refine (HD0.out w5 p H5.out.1).mono ?_
  rintro e w6 ⟨rfl, hb6⟩
  have H6 : Hid (XMem w6 p 3 A0 ∧ Below w.heap.size w w6) := ⟨H5.out.1.on hb6, below_on H5.out.2 hb6⟩
  clear hb6 H5 HD0
  go_wp2_with fail
  refine (HP.out w6 p A0 H6.out.1 HM0.out 0 2 5).mono ?_
  rintro e w7 ⟨rfl, hX7, -, hk7⟩
  rw [HE1.out] at hX7
  have H7 : Hid (XMem w7 p 3 A1 ∧ Below w.heap.size w w7) := ⟨hX7, H6.out.2.trans (hk7.below (fun b hb => by omega) H6.out.2.size)⟩
  clear hX7 hk7 H6
  generalize XM.putCode 3 0 2 5 = k5 at *
  go_wp2_with fail
  refine (HN1.out w7 p H7.out.1).mono ?_
  rintro e w8 ⟨rfl, hb8⟩
  have H8 : Hid (XMem w8 p 3 A1 ∧ Below w.heap.size w w8) := ⟨H7.out.1.on hb8, below_on H7.out.2 hb8⟩
  clear hb8 H7 HN1
  go_wp2_with fail
  refine (HNB.out w8 p H8.out.1).mono ?_
  rintro e w9 ⟨rfl, hb9⟩
  have HE : Hid (Below w.heap.size w w9) := below_on H8.out.2 hb9
  clear hb9 H8 HNB
  go_wp2_with fail
  go_ret
  exact ⟨rfl, HE.out⟩
end Go.Proofs.Ytkcfepppnclniaa
end

section
/-
  The walk of the document's Difference (layer 14); when two vertices have an edge.
-/
namespace Go.Proofs.Ytkcfepppnclniaa
open Go.RowKit
theorem OM.need_le {N : Nat} {D : Nat → Nat → Int} (hN : N ≤ 24) (v k : Nat) : OM.need N D v k ≤ 600 := by
  have h0 := OM.needTo_le N D v k (XM.dets N D (v : Int) N).length
  rw [OM.needTo_all] at h0
  have h1 := XM.dets_len (N := N) (D := D) (v := (v : Int)) N
  have h2 : N * N ≤ 24 * 24 := Nat.mul_le_mul hN hN
  omega
theorem OM.diff_bd {N : Nat} {D : Nat → Nat → Int} (hN : N ≤ 24) (v k : Nat) : -48 ≤ OM.diff N D v k ∧ OM.diff N D v k ≤ 600 := by
  have h1 := OM.need_le (D := D) hN v k
  have e : ∀ back, OM.edges N D v back ≤ 24 := fun back => by
    have := XM.steps_len (N := N) (D := D) (v := (v : Int)) (back := back) N
    unfold OM.edges
    omega
  have e1 := e false
  have e2 := e true
  unfold OM.diff
  omega
set_option maxHeartbeats 400000 in
/-- The document's Difference. -/
theorem rdiff_any {w : World} {p N : Nat} {D : Nat → Nat → Int} (hg : XMem w p N D) (hm : XM.Mesh N D) (hN : N ≤ 24) (v : Nat) (hv : v < N) (k : Int) :
    Calls Try.prog 12 #[.pointer (some ⟨p, 0, none⟩), .int .i64 v, .int .i64 k] w fun e w' => e = .returned (.int .i64 (OM.diff N D v k.toNat)) ∧ Below w.heap.size w w' := by
  have h1 := rneed_any hg hm hN v hv k
  have HS : Hid (∀ W, Below w.heap.size w W → ∀ back, Calls Try.prog 14 #[.pointer (some ⟨p, 0, none⟩), .int .i64 v, .bool back] W fun e w' => ∃ ao cap, e = .returned (.slice ao (OM.edges N D v back) cap) ∧ Below w.heap.size w w') := fun W hW back => by
    refine (rsteps_any (hg.on hW) hm hN (v : Int) back).mono ?_
    rintro e w' ⟨r, rfl, h2, h3⟩
    obtain ⟨ao, cap, rfl, -⟩ := h2.at
    rw [firsts_len]
    exact ⟨ao, cap, rfl, hW.trans (h3.mono hW.size)⟩
  have hn := OM.need_le (D := D) hN v k.toNat
  have he : ∀ back, OM.edges N D v back ≤ 24 := fun back => by
    have := XM.steps_len (N := N) (D := D) (v := (v : Int)) (back := back) N
    unfold OM.edges
    omega
  have e1 := he false
  have e2 := he true
  have HD : Hid (OM.diff N D v k.toNat = (OM.need N D v k.toNat : Int) - (OM.edges N D v false : Nat) - (OM.edges N D v true : Nat)) := rfl
  clear hg hm he
  generalize OM.diff N D v k.toNat = R at *
  generalize OM.need N D v k.toNat = a at *
  have HF : Hid (∀ W, Below w.heap.size w W → Calls Try.prog 14 #[.pointer (some ⟨p, 0, none⟩), .int .i64 v, .bool false] W fun e w' => ∃ ao cap, e = .returned (.slice ao (OM.edges N D v false) cap) ∧ Below w.heap.size w w') := fun W hW => HS.out W hW false
  have HT : Hid (∀ W, Below w.heap.size w W → Calls Try.prog 14 #[.pointer (some ⟨p, 0, none⟩), .int .i64 v, .bool true] W fun e w' => ∃ ao cap, e = .returned (.slice ao (OM.edges N D v true) cap) ∧ Below w.heap.size w w') := fun W hW => HS.out W hW true
  generalize OM.edges N D v false = b at *
  generalize OM.edges N D v true = c at *
  clear HS
  go_enter Try.func12, Try.ntmps12
  go_wp2_with fail
  refine h1.mono ?_
  rintro e w1 ⟨rfl, hb1⟩
  have hs1 := HF.out w1 hb1
  clear h1 hb1
  go_wp2_with fail
  refine hs1.mono ?_
  rintro e w2 ⟨a1, c1, rfl, hb2⟩
  have hs2 := HT.out w2 hb2
  clear hs1 hb2
  go_wp2_with fail
  refine hs2.mono ?_
  rintro e w3 ⟨a2, c2, rfl, hb3⟩
  have HB : Hid (Below w.heap.size w w3) := hb3
  clear hs2 hb3 HF HT
  go_wp2_with fail
  go_ret
  exact ⟨ret_int (by rw [HD.out]), HB.out⟩
/-- A vertex is among those that steps lead to, or from. -/
theorem steps_mem {N : Nat} {D : Nat → Nat → Int} {v : Int} {back : Bool} (x : Nat) : ∀ k, (x : Int) ∈ firsts (XM.steps N D v back k) ↔ x < k ∧ XM.dirE N D v back (x : Nat) ≠ 4611686018427387906
  | 0 => by simp [XM.steps, firsts]
  | k + 1 => by
    have ih := steps_mem (N := N) (D := D) (v := v) (back := back) x k
    by_cases e : XM.dirE N D v back (k : Nat) = 4611686018427387906
    · rw [XM.steps_skip e, ih]
      constructor
      · rintro ⟨h1, h2⟩; exact ⟨by omega, h2⟩
      · rintro ⟨h1, h2⟩
        refine ⟨?_, h2⟩
        have : x ≠ k := fun h => h2 (h ▸ e)
        omega
    · rw [XM.steps_take e, firsts_snoc, List.mem_append, ih, List.mem_singleton]
      constructor
      · rintro (⟨h1, h2⟩ | h)
        · exact ⟨by omega, h2⟩
        · have : x = k := by exact_mod_cast h
          exact ⟨by omega, this ▸ e⟩
      · rintro ⟨h1, h2⟩
        by_cases hx : x = k
        · exact .inr (by rw [hx])
        · exact .inl ⟨by omega, h2⟩
theorem edge_mem {N : Nat} {D : Nat → Nat → Int} (hm : XM.Mesh N D) {b x : Nat} (hx : x < N) : OM.edge D b x = (decide ((x : Int) ∈ firsts (XM.steps N D (b : Int) false N)) || decide ((x : Int) ∈ firsts (XM.steps N D (b : Int) true N))) := by
  have h1 := (hm.ok.bd b x).2
  have h2 := (hm.ok.bd x b).2
  have e1 : XM.dirE N D (b : Int) false (x : Nat) = D b x := by show XM.atE N D b x = _; rw [XM.atE_nat hm]
  have e2 : XM.dirE N D (b : Int) true (x : Nat) = D x b := by show XM.atE N D x b = _; rw [XM.atE_nat hm]
  have g1 : decide ((x : Int) ∈ firsts (XM.steps N D (b : Int) false N)) = decide (D b x < 4611686018427387906) := by
    rw [decide_eq_decide, steps_mem, e1]; omega
  have g2 : decide ((x : Int) ∈ firsts (XM.steps N D (b : Int) true N)) = decide (D x b < 4611686018427387906) := by
    rw [decide_eq_decide, steps_mem, e2]; omega
  rw [g1, g2]
  rfl
end Go.Proofs.Ytkcfepppnclniaa
end
