/-
  The walk of layer 13's law's awake: a mesh of three, a search, two detours.
-/
import Derived.Test.YtmkpcidgiobpeaaMmSpareds
import Derived.Test.YtmkpcidgiobpeaaMmMeshPut
import Derived.Test.YtmkpcidgiobpeaaMmMeshLeave
import Derived.Deep.DeepCutAuto
namespace Go.Proofs.Ytmkpcidgiobpeaa
open Go.RowKit

namespace WM
def aw0 : Nat → Nat → Int := XM.put 3 (XM.put 3 (XM.put 3 XM.empty 0 1 2) 1 2 3) 0 2 9
def aw1 : Nat → Nat → Int := XM.put 3 aw0 0 2 5
theorem aw0_at : aw0 0 1 = 2 ∧ aw0 1 2 = 3 ∧ aw0 0 2 = 9 := by decide +kernel
theorem aw1_at : aw1 0 1 = 2 ∧ aw1 1 2 = 3 ∧ aw1 0 2 = 5 := by decide +kernel
theorem aw0_mesh : XM.Mesh 3 aw0 := XM.put_mesh (XM.put_mesh (XM.put_mesh (XM.Mesh.empty 3) _ _ _) _ _ _) _ _ _
theorem aw1_mesh : XM.Mesh 3 aw1 := XM.put_mesh aw0_mesh _ _ _
theorem out2 (v : Nat) : outOf 2 v = decide (v = 1) := outOf_two (show 1 < 64 by decide) v
/-- The first one is settled first. -/
theorem aw_first {D : Nat → Nat → Int} : Next 3 D 0 (outOf 2) [] 0 0 :=
  ⟨⟨by decide, by rw [out2]; rfl, rfl⟩, rfl, by decide, fun w _ => (key_bd D 0 [] w).1, fun _ _ _ => Nat.zero_le _⟩
theorem aw_key {D : Nat → Nat → Int} (h : 0 ≤ D 0 2 ∧ D 0 2 ≤ 4611686018427387904) : key D 0 [(0, 0)] 2 = D 0 2 := by
  rw [key_ne _ (by simp), show [((0 : Nat), (0 : Int))] = [] ++ [(0, 0)] from rfl, sum_snoc, sum_nil]
  show low _ (DM.two 0 (D 0 2)) = _
  rw [NM.zero_two h.1 (by omega)]
  exact if_pos (by omega)
theorem aw_rest {v : Nat} (h : Free 3 (outOf 2) [(0, 0)] v) : v = 2 := by
  obtain ⟨h1, h2, h3⟩ := h
  rw [out2] at h2
  have h4 : v ≠ 1 := of_decide_eq_false h2
  have h5 : v ≠ 0 := fun e => by
    rw [e] at h3
    cases h3
  omega
theorem aw_got0 : Got 3 aw0 0 (outOf 2) 5 9 [(0, 0)] := by
  refine ⟨.snoc .nil aw_first (by decide), by decide, .inr (fun v d hn => ?_)⟩
  have e := aw_rest hn.free
  have h1 := hn.is
  rw [e, aw_key (by rw [aw0_at.2.2]; decide), aw0_at.2.2] at h1
  omega
theorem aw_got1 : Got 3 aw1 0 (outOf 2) 5 9 [(0, 0), (2, 5)] := by
  have hk := aw_key (D := aw1) (by rw [aw1_at.2.2]; decide)
  rw [aw1_at.2.2] at hk
  have hn : Next 3 aw1 0 (outOf 2) [(0, 0)] 2 5 := ⟨⟨by decide, by rw [out2]; rfl, rfl⟩, hk, by decide, fun w hw => by rw [aw_rest hw, hk]; exact Int.le_refl _, fun w hw _ => by rw [aw_rest hw]; exact Nat.le_refl _⟩
  refine ⟨.snoc (.snoc .nil aw_first (by decide)) hn (by decide), by decide, .inr (fun v d h => ?_)⟩
  exfalso
  obtain ⟨f1, f2, f3⟩ := h.free
  have h3 : has ([(0, 0)] ++ [((2 : Nat), (5 : Int))]) v = false := f3
  rw [has_snoc, Bool.or_eq_false_iff] at h3
  have e := aw_rest ⟨f1, f2, h3.1⟩
  rw [e] at h3
  exact absurd h3.2 (by decide)
theorem five_bits : ∀ i, i < 64 → Nat.testBit 5 i = decide (i = 0 ∨ i = 2) := by decide +kernel
theorem aw_touched {T : Nat} (h : TT 3 aw0 (outOf 2) [(0, 0)] T) : T = 5 := by
  refine BM.ext (by have := h.1; omega) (by decide) (fun i hi => ?_)
  rw [five_bits i hi, Bool.eq_iff_iff, ← has_bit hi, h.2 i, decide_eq_true_iff]
  unfold Tch
  rw [has_iff, out2]
  constructor
  · rintro ⟨h1, ⟨x, hx, e⟩ | ⟨h2, x, hx, h3⟩⟩
    · rw [List.mem_singleton.1 hx] at e
      exact .inl e.symm
    · have h4 : i ≠ 1 := of_decide_eq_false h2
      rw [List.mem_singleton.1 hx] at h3
      by_cases e : i = 0
      · rw [e] at h3
        have := aw0_mesh.ok.self 0
        simp only at h3
        omega
      · omega
  · rintro (rfl | rfl)
    · exact ⟨by decide, .inl ⟨(0, 0), by simp, rfl⟩⟩
    · refine ⟨by decide, .inr ⟨by decide, (0, 0), by simp, ?_⟩⟩
      show aw0 0 2 < _
      rw [aw0_at.2.2]
      decide
end WM
set_option maxHeartbeats 2000000 in
set_option maxRecDepth 100000 in
theorem awake13_any (w : World) :
    Calls Try.prog 8 #[] w fun e w' => e = .returned (.bool true) ∧ Below w.heap.size w w' := by
  have hn1 := xnew_ok 3 (by decide) (by decide) w
  have HP : Hid (∀ W p D, XMem W p 3 D → XM.Mesh 3 D → ∀ u v x : Int, Calls Try.prog 23 #[.pointer (some ⟨p, 0, none⟩), .int .i64 u, .int .i64 v, .int .i64 x] W fun e w' => e = .returned (.int .i64 (XM.putCode 3 u v x)) ∧ XMem w' p 3 (XM.put 3 D u v x) ∧ XM.Mesh 3 (XM.put 3 D u v x) ∧ Keeps (fun b => b = p) W w') := fun W p D hX hm u v x => xput_any hX hm (by decide) u v x
  have HOF : Hid (∀ W : World, Calls Try.prog 24 #[.slice (some ⟨W.heap.size, 0, none⟩) 1 1] (W.alloc (.cells #[.int .i64 1] 3)) fun e w' => e = .returned (.int .u64 2) ∧ w' = W.alloc (.cells #[.int .i64 1] 3)) := fun W => of13_any _ [1] (W.alloc (.cells #[.int .i64 1] 3)) ⟨some ⟨W.heap.size, 0, none⟩, 1, rfl, rowAt_lit1 .i64 W 1 3⟩
  have HF : Hid (∀ W p, XMem W p 3 WM.aw0 → Calls Try.prog 10 #[.pointer (some ⟨p, 0, none⟩), .int .i64 0, .int .u64 2, .int .i64 5, .int .i64 9] W fun e w' => ∃ a1 n1 c1 a2 n2 c2, e = .returned (.tuple #[.agg #[.slice a1 n1 c1, .slice a2 n2 c2, .int .u64 5], .int .i64 0]) ∧ Own .i64 3 w' W.heap.size (.slice a1 n1 c1) [0] ∧ Below W.heap.size W w') := fun W p hX => by
    refine (find_ok (O := 2) (s := 0) hX WM.aw0_mesh (by decide) (by decide) (by decide) (by decide) 5 9).mono ?_
    rintro e w' ⟨sv, dv, T, rfl, L, h1, h2, h3, h4, h5⟩
    obtain ⟨a1, n1, c1, rfl⟩ : ∃ a n c, sv = .slice a n c := by obtain ⟨a, c, e, -⟩ := h3.row; exact ⟨_, _, _, e⟩
    obtain ⟨a2, n2, c2, rfl⟩ : ∃ a n c, dv = .slice a n c := by obtain ⟨a, c, e, -⟩ := h4.row; exact ⟨_, _, _, e⟩
    have e1 : L = [(0, 0)] := h1.one WM.aw_got0
    subst e1
    rw [WM.aw_touched h2]
    exact ⟨_, _, _, _, _, _, rfl, h3, h5⟩
  have HS0 : Hid (∀ W p, XMem W p 3 WM.aw0 → Calls Try.prog 15 #[.pointer (some ⟨p, 0, none⟩), .int .i64 0, .int .i64 1, .int .i64 2, .int .i64 9] W fun e w' => e = .returned (.tuple #[.bool false, .int .i64 0]) ∧ Below W.heap.size W w') := fun W p hX => by
    refine (spared_ok (u := 0) (v := 1) (x := 2) hX WM.aw0_mesh (by decide) (by decide) (by decide) (by decide) (by decide) (by decide) (by decide) 9).mono ?_
    rintro e w' ⟨a, rfl, h1, h2⟩
    have h3 := h1 [(0, 0)] (by rw [WM.aw0_at.1, WM.aw0_at.2.1]; exact WM.aw_got0)
    rw [h3]
    exact ⟨rfl, h2⟩
  have HS1 : Hid (∀ W p, XMem W p 3 WM.aw1 → Calls Try.prog 15 #[.pointer (some ⟨p, 0, none⟩), .int .i64 0, .int .i64 1, .int .i64 2, .int .i64 9] W fun e w' => e = .returned (.tuple #[.bool true, .int .i64 0]) ∧ Below W.heap.size W w') := fun W p hX => by
    refine (spared_ok (u := 0) (v := 1) (x := 2) hX WM.aw1_mesh (by decide) (by decide) (by decide) (by decide) (by decide) (by decide) (by decide) 9).mono ?_
    rintro e w' ⟨a, rfl, h1, h2⟩
    have h3 := h1 [(0, 0), (2, 5)] (by rw [WM.aw1_at.1, WM.aw1_at.2.1]; exact WM.aw_got1)
    rw [h3]
    exact ⟨rfl, h2⟩
  have HE0 : Hid (XM.put 3 (XM.put 3 (XM.put 3 XM.empty 0 1 2) 1 2 3) 0 2 9 = WM.aw0) := rfl
  have HE1 : Hid (XM.put 3 WM.aw0 0 2 5 = WM.aw1) := rfl
  have HM0 : Hid (XM.Mesh 3 WM.aw0) := WM.aw0_mesh
  generalize WM.aw1 = A1 at *
  generalize WM.aw0 = A0 at *
  go_enter Try.func8, Try.ntmps8
  go_wp2_with fail
  refine hn1.mono ?_
  rintro e w1 ⟨p, rfl, hp, hX1, hb1⟩
  have hpw : w.heap.size ≤ p := by omega
  have H1 : Hid (XMem w1 p 3 XM.empty ∧ Below w.heap.size w w1) := ⟨hX1, hb1⟩
  clear hn1 hX1 hb1 hp
  go_wp2_with fail
  refine (HP.out w1 p _ H1.out.1 (XM.Mesh.empty 3) 0 1 2).mono ?_
  rintro e w2 ⟨rfl, hX2, hm2, hk2⟩
  have H2 : Hid (XMem w2 p 3 (XM.put 3 XM.empty 0 1 2) ∧ XM.Mesh 3 (XM.put 3 XM.empty 0 1 2) ∧ Below w.heap.size w w2) := ⟨hX2, hm2, H1.out.2.trans (hk2.below (fun b hb => by omega) H1.out.2.size)⟩
  clear hX2 hm2 hk2
  generalize XM.put 3 XM.empty 0 1 2 = D2 at *
  generalize XM.putCode 3 0 1 2 = k2 at *
  go_wp2_with fail
  refine (HP.out w2 p _ H2.out.1 H2.out.2.1 1 2 3).mono ?_
  rintro e w3 ⟨rfl, hX3, hm3, hk3⟩
  have H3 : Hid (XMem w3 p 3 (XM.put 3 D2 1 2 3) ∧ XM.Mesh 3 (XM.put 3 D2 1 2 3) ∧ Below w.heap.size w w3) := ⟨hX3, hm3, H2.out.2.2.trans (hk3.below (fun b hb => by omega) H2.out.2.2.size)⟩
  clear hX3 hm3 hk3
  generalize XM.put 3 D2 1 2 3 = D3 at *
  generalize XM.putCode 3 1 2 3 = k3 at *
  go_wp2_with fail
  refine (HP.out w3 p _ H3.out.1 H3.out.2.1 0 2 9).mono ?_
  rintro e w4 ⟨rfl, hX4, -, hk4⟩
  rw [HE0.out] at hX4
  have H4 : Hid (XMem w4 p 3 A0 ∧ Below w.heap.size w w4) := ⟨hX4, H3.out.2.2.trans (hk4.below (fun b hb => by omega) H3.out.2.2.size)⟩
  clear hX4 hk4
  generalize XM.putCode 3 0 2 9 = k4 at *
  go_wp2_with fail
  refine (HOF.out w4).mono ?_
  rintro e w9 ⟨rfl, hw9⟩
  rw [hw9]
  clear hw9 w9
  have hb5 : Below w4.heap.size w4 (w4.alloc (.cells #[.int .i64 1] 3)) := (Below.refl _ _).alloc (Nat.le_refl _) _
  have H5 : Hid (XMem (w4.alloc (.cells #[.int .i64 1] 3)) p 3 A0 ∧ Below w.heap.size w (w4.alloc (.cells #[.int .i64 1] 3))) := ⟨H4.out.1.on hb5, below_on H4.out.2 hb5⟩
  clear hb5
  generalize w4.alloc (.cells #[.int .i64 1] 3) = W5 at *
  go_wp2_with fail
  refine (HF.out W5 p H5.out.1).mono ?_
  rintro e w6 ⟨a1, n1, c1, a2, n2, c2, rfl, hr6, hb6⟩
  obtain ⟨W7, hW7⟩ : ∃ W7, W7 = w6.alloc (.cells #[.slice a1 n1 c1, .slice a2 n2 c2, .int .u64 5] 32) := ⟨_, rfl⟩
  have hb7 : Below w6.heap.size w6 W7 := by rw [hW7]; exact (Below.refl _ _).alloc (Nat.le_refl _) _
  have c70 : W7.cell? ⟨w6.heap.size, 0, none⟩ = some (.slice a1 n1 c1) := by rw [hW7]; simp
  have c72 : W7.cell? ⟨w6.heap.size, 2, none⟩ = some (.int .u64 5) := by rw [hW7]; simp
  have hs7 : W7.heap.size = w6.heap.size + 1 := by rw [hW7]; simp
  have H7 : Hid (XMem W7 p 3 A0 ∧ Below w.heap.size w W7 ∧ Own .i64 3 W7 W5.heap.size (.slice a1 n1 c1) [0] ∧ W7.cell? ⟨w6.heap.size, 0, none⟩ = some (.slice a1 n1 c1) ∧ W7.cell? ⟨w6.heap.size, 2, none⟩ = some (.int .u64 5) ∧ w6.heap.size < W7.heap.size ∧ p < w6.heap.size ∧ p < W5.heap.size) := ⟨(H5.out.1.on hb6).on hb7, below_on (below_on H5.out.2 hb6) hb7, hr6.below hb7, c70, c72, by omega, (H5.out.1.on hb6).lt, H5.out.1.lt⟩
  clear hr6 hb6 hb7 c70 c72 hs7
  go_upto_region 8 with fail
  rw [← hW7]
  clear hW7
  generalize w6.heap.size = f at *
  go_wp2_with fail
  refine (HS0.out W7 p H7.out.1).mono ?_
  rintro e w8 ⟨rfl, hb8⟩
  have H8 : Hid (XMem w8 p 3 A0 ∧ Below w.heap.size w w8 ∧ Own .i64 3 w8 W5.heap.size (.slice a1 n1 c1) [0] ∧ w8.cell? ⟨f, 0, none⟩ = some (.slice a1 n1 c1) ∧ w8.cell? ⟨f, 2, none⟩ = some (.int .u64 5) ∧ f < w8.heap.size ∧ p < f ∧ p < W5.heap.size) := by
    obtain ⟨q1, q2, q3, q4, q5, q6, q7, q8⟩ := H7.out
    have := hb8.size
    exact ⟨q1.on hb8, below_on q2 hb8, q3.below hb8, (hb8.cell (p := ⟨f, 0, none⟩) q6).trans q4, (hb8.cell (p := ⟨f, 2, none⟩) q6).trans q5, by omega, q7, q8⟩
  clear hb8 H7
  go_wp2_with fail
  refine (HP.out w8 p A0 H8.out.1 HM0.out 0 2 5).mono ?_
  rintro e w9 ⟨rfl, hX9, -, hk9⟩
  rw [HE1.out] at hX9
  have H9 : Hid (XMem w9 p 3 A1 ∧ Below w.heap.size w w9 ∧ Row .i64 w9 (.slice a1 n1 c1) [0] ∧ w9.cell? ⟨f, 0, none⟩ = some (.slice a1 n1 c1) ∧ w9.cell? ⟨f, 2, none⟩ = some (.int .u64 5) ∧ f < w9.heap.size) := by
    obtain ⟨q1, q2, q3, q4, q5, q6, q7, q8⟩ := H8.out
    have := hk9.size
    exact ⟨hX9, q2.trans (hk9.below (fun b hb => by omega) q2.size), Own.row (hk9.row q3 (fun g hg e => by have := Own.block q3 g hg; omega)), hk9.cell q4 (by show ¬ f = p; omega), hk9.cell q5 (by show ¬ f = p; omega), by omega⟩
  clear hX9 hk9 H8
  generalize XM.putCode 3 0 2 5 = k5 at *
  go_wp2_with fail
  refine (HS1.out w9 p H9.out.1).mono ?_
  rintro e w10 ⟨rfl, hb10⟩
  obtain ⟨W11, hW11⟩ : ∃ W11, W11 = w10.alloc (.cells #[.int .i64 0] 3) := ⟨_, rfl⟩
  have hb11 : Below w10.heap.size w10 W11 := by rw [hW11]; exact (Below.refl _ _).alloc (Nat.le_refl _) _
  have hrl : Row .i64 W11 (.slice (some ⟨w10.heap.size, 0, none⟩) 1 1) [0] := by rw [hW11]; exact ⟨some ⟨w10.heap.size, 0, none⟩, 1, rfl, rowAt_lit1 .i64 w10 0 3⟩
  have H11 : Hid (Below w.heap.size w W11) := below_on (below_on H9.out.2.1 hb10) hb11
  obtain ⟨q1, q2, q3, q4, q5, q6⟩ := H9.out
  have hin := ints_any _ _ [0] [0] W11 ((q3.below hb10).below hb11) hrl
  rw [decide_eq_true rfl] at hin
  have c0 : w10.cell? ⟨f, 0, none⟩ = some (.slice a1 n1 c1) := (hb10.cell (p := ⟨f, 0, none⟩) q6).trans q4
  have c2 : W11.cell? ⟨f, 2, none⟩ = some (.int .u64 5) := (hb11.cell (p := ⟨f, 2, none⟩) (by have := hb10.size; show f < _; omega)).trans ((hb10.cell (p := ⟨f, 2, none⟩) q6).trans q5)
  clear q1 q2 q3 q4 q5 q6 hb10 hb11 hrl H9
  have HC2 : Hid (∀ A, Below W11.heap.size W11 A → A.cell? ⟨f, 2, none⟩ = some (.int .u64 5)) := fun A hA => (hA.cell (p := ⟨f, 2, none⟩) (cell_lt c2)).trans c2
  clear c2
  go_upto_region 11 with fail
  go_wp2_with fail
  rw [← hW11]
  clear hW11
  refine hin.mono ?_
  rintro e w12 ⟨rfl, hb12⟩
  have c2 := HC2.out w12 hb12
  have HE : Hid (Below w.heap.size w w12) := below_on H11.out hb12
  clear hin hb12 HC2 H11
  go_wp2_with fail
  go_ret
  exact ⟨rfl, HE.out⟩
end Go.Proofs.Ytmkpcidgiobpeaa
