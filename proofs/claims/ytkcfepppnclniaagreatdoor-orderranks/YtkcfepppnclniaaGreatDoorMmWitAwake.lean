/-
  WitAwake, OrdAwake, OrdLeastM, OrdMem.
-/
import Derived.Test.YtkcfepppnclniaaGreatDoorMmWitSpareP
import Derived.Test.YtkcfepppnclniaaGreatDoorMmMeshPut
import Derived.Test.YtkcfepppnclniaaGreatDoorMmWitSpared
import Derived.Test.YtkcfepppnclniaaGreatDoorMmWitMath
import Derived.Test.YtkcfepppnclniaaGreatDoorMmOrdMath
import Derived.Test.YtkcfepppnclniaaGreatDoorMmMeshMem
import Derived.Test.YtkcfepppnclniaaGreatDoorMmBase
import Derived.Deep.DeepCutAuto
section
/-
  The walk of layer 13's law's awake: a mesh of three, a search, two detours.
-/
namespace Go.Proofs.YtkcfepppnclniaaGreatDoor
open Go.RowKit

namespace WM
def aw0 : Nat → Nat → Int := XM.put 3 (XM.put 3 (XM.put 3 XM.empty 0 1 2) 1 2 3) 0 2 9
def aw1 : Nat → Nat → Int := XM.put 3 aw0 0 2 5
theorem aw0_at : aw0 0 1 = 2 ∧ aw0 1 2 = 3 ∧ aw0 0 2 = 9 := by decide +kernel
theorem aw1_at : aw1 0 1 = 2 ∧ aw1 1 2 = 3 ∧ aw1 0 2 = 5 := by decide +kernel
theorem aw0_mesh : XM.Mesh 3 aw0 := XM.put_mesh (XM.put_mesh (XM.put_mesh (XM.Mesh.empty 3) _ _ _) _ _ _) _ _ _
theorem aw1_mesh : XM.Mesh 3 aw1 := XM.put_mesh aw0_mesh _ _ _
theorem out2 (v : Nat) : outOf 2 v = decide (v = 1) := outOf_two (show 1 < 64 by decide) v
/-- The first one is settled first. -/
theorem aw_first {D : Nat → Nat → Int} : Next 3 D 0 (outOf 2) [] 0 0 :=
  ⟨⟨by decide, by rw [out2]; rfl, rfl⟩, rfl, by decide, fun w _ => (key_bd D 0 [] w).1, fun _ _ _ => Nat.zero_le _⟩
theorem aw_key {D : Nat → Nat → Int} (h : 0 ≤ D 0 2 ∧ D 0 2 ≤ 4611686018427387904) : key D 0 [(0, 0)] 2 = D 0 2 := by
  rw [key_ne _ (by simp), show [((0 : Nat), (0 : Int))] = [] ++ [(0, 0)] from rfl, sum_snoc, sum_nil]
  show low _ (DM.two 0 (D 0 2)) = _
  rw [NM.zero_two h.1 (by omega)]
  exact if_pos (by omega)
theorem aw_rest {v : Nat} (h : Free 3 (outOf 2) [(0, 0)] v) : v = 2 := by
  obtain ⟨h1, h2, h3⟩ := h
  rw [out2] at h2
  have h4 : v ≠ 1 := of_decide_eq_false h2
  have h5 : v ≠ 0 := fun e => by
    rw [e] at h3
    cases h3
  omega
theorem aw_got0 : Got 3 aw0 0 (outOf 2) 5 9 [(0, 0)] := by
  refine ⟨.snoc .nil aw_first (by decide), by decide, .inr (fun v d hn => ?_)⟩
  have e := aw_rest hn.free
  have h1 := hn.is
  rw [e, aw_key (by rw [aw0_at.2.2]; decide), aw0_at.2.2] at h1
  omega
theorem aw_got1 : Got 3 aw1 0 (outOf 2) 5 9 [(0, 0), (2, 5)] := by
  have hk := aw_key (D := aw1) (by rw [aw1_at.2.2]; decide)
  rw [aw1_at.2.2] at hk
  have hn : Next 3 aw1 0 (outOf 2) [(0, 0)] 2 5 := ⟨⟨by decide, by rw [out2]; rfl, rfl⟩, hk, by decide, fun w hw => by rw [aw_rest hw, hk]; exact Int.le_refl _, fun w hw _ => by rw [aw_rest hw]; exact Nat.le_refl _⟩
  refine ⟨.snoc (.snoc .nil aw_first (by decide)) hn (by decide), by decide, .inr (fun v d h => ?_)⟩
  exfalso
  obtain ⟨f1, f2, f3⟩ := h.free
  have h3 : has ([(0, 0)] ++ [((2 : Nat), (5 : Int))]) v = false := f3
  rw [has_snoc, Bool.or_eq_false_iff] at h3
  have e := aw_rest ⟨f1, f2, h3.1⟩
  rw [e] at h3
  exact absurd h3.2 (by decide)
theorem five_bits : ∀ i, i < 64 → Nat.testBit 5 i = decide (i = 0 ∨ i = 2) := by decide +kernel
theorem aw_touched {T : Nat} (h : TT 3 aw0 (outOf 2) [(0, 0)] T) : T = 5 := by
  refine BM.ext (by have := h.1; omega) (by decide) (fun i hi => ?_)
  rw [five_bits i hi, Bool.eq_iff_iff, ← has_bit hi, h.2 i, decide_eq_true_iff]
  unfold Tch
  rw [has_iff, out2]
  constructor
  · rintro ⟨h1, ⟨x, hx, e⟩ | ⟨h2, x, hx, h3⟩⟩
    · rw [List.mem_singleton.1 hx] at e
      exact .inl e.symm
    · have h4 : i ≠ 1 := of_decide_eq_false h2
      rw [List.mem_singleton.1 hx] at h3
      by_cases e : i = 0
      · rw [e] at h3
        have := aw0_mesh.ok.self 0
        simp only at h3
        omega
      · omega
  · rintro (rfl | rfl)
    · exact ⟨by decide, .inl ⟨(0, 0), by simp, rfl⟩⟩
    · refine ⟨by decide, .inr ⟨by decide, (0, 0), by simp, ?_⟩⟩
      show aw0 0 2 < _
      rw [aw0_at.2.2]
      decide
end WM
end Go.Proofs.YtkcfepppnclniaaGreatDoor
end

section
/-
  The walk of layer 14's law's awake: a mesh of three, three needs, a difference.
-/
namespace Go.Proofs.YtkcfepppnclniaaGreatDoor
open Go.RowKit
namespace OM
theorem aw_dets0 : XM.dets 3 WM.aw0 ((1 : Nat) : Int) 3 = [⟨0, 2, 5⟩] := by kernel_rfl
theorem aw_dets1 : XM.dets 3 WM.aw1 ((1 : Nat) : Int) 3 = [⟨0, 2, 5⟩] := by kernel_rfl
theorem aw_sp0 : spares 3 WM.aw0 0 1 2 9 = false := by
  unfold spares
  rw [← outOf_fun (v := 1) (by decide), show DM.two (WM.aw0 0 1) (WM.aw0 1 2) = 5 by rw [WM.aw0_at.1, WM.aw0_at.2.1]; decide, show (2 : Nat) ^ 1 = 2 from rfl, got_eq WM.aw_got0]
  decide
theorem aw_sp1 : spares 3 WM.aw1 0 1 2 9 = true := by
  unfold spares
  rw [← outOf_fun (v := 1) (by decide), show DM.two (WM.aw1 0 1) (WM.aw1 1 2) = 5 by rw [WM.aw1_at.1, WM.aw1_at.2.1]; decide, show (2 : Nat) ^ 1 = 2 from rfl, got_eq WM.aw_got1]
  decide
theorem aw_need0 : need 3 WM.aw0 1 9 = 1 := by
  unfold need
  rw [aw_dets0, List.filter_cons, List.filter_nil]
  dsimp only
  rw [aw_sp0]
  rfl
theorem aw_need1 : need 3 WM.aw1 1 9 = 0 := by
  unfold need
  rw [aw_dets1, List.filter_cons, List.filter_nil]
  dsimp only
  rw [aw_sp1]
  rfl
theorem aw_diff0 : diff 3 WM.aw0 1 9 = -1 := by
  unfold diff
  rw [aw_need0, show edges 3 WM.aw0 1 false = 1 by kernel_rfl, show edges 3 WM.aw0 1 true = 1 by kernel_rfl]
  decide
end OM
set_option maxHeartbeats 2000000 in
set_option maxRecDepth 100000 in
theorem awake14_is (HND : NeedIs) (HNN : NeedNo) (HDI : DiffIs) : AwakeIs := by
  intro w
  have hn1 := xnew_ok 3 (by decide) (by decide) w
  have HP : Hid (∀ W p D, XMem W p 3 D → XM.Mesh 3 D → ∀ u v x : Int, Calls Tryz.prog 14 #[.pointer (some ⟨p, 0, none⟩), .int .i64 u, .int .i64 v, .int .i64 x] W fun e w' => e = .returned (.int .i64 (XM.putCode 3 u v x)) ∧ XMem w' p 3 (XM.put 3 D u v x) ∧ XM.Mesh 3 (XM.put 3 D u v x) ∧ Keeps (fun b => b = p) W w') := fun W p D hX hm u v x => xput_any hX hm (by decide) u v x
  have HN0 : Hid (∀ W p, XMem W p 3 WM.aw0 → Calls Tryz.prog 15 #[.pointer (some ⟨p, 0, none⟩), .int .i64 1, .int .i64 9] W fun e w' => e = .returned (.tuple #[.int .i64 1, .int .i64 0]) ∧ Below W.heap.size W w') := fun W p hX => by
    have := HND hX WM.aw0_mesh (by decide) 1 (by decide) 9
    rwa [show (9 : Int).toNat = 9 from rfl, OM.aw_need0] at this
  have HN1 : Hid (∀ W p, XMem W p 3 WM.aw1 → Calls Tryz.prog 15 #[.pointer (some ⟨p, 0, none⟩), .int .i64 1, .int .i64 9] W fun e w' => e = .returned (.tuple #[.int .i64 0, .int .i64 0]) ∧ Below W.heap.size W w') := fun W p hX => by
    have := HND hX WM.aw1_mesh (by decide) 1 (by decide) 9
    rwa [show (9 : Int).toNat = 9 from rfl, OM.aw_need1] at this
  have HNB : Hid (∀ W p, XMem W p 3 WM.aw1 → Calls Tryz.prog 15 #[.pointer (some ⟨p, 0, none⟩), .int .i64 3, .int .i64 9] W fun e w' => e = .returned (.tuple #[.int .i64 0, .int .i64 1]) ∧ Below W.heap.size W w') := fun W p hX =>
    HNN hX (by decide) 3 (by decide) 9
  have HD0 : Hid (∀ W p, XMem W p 3 WM.aw0 → Calls Tryz.prog 16 #[.pointer (some ⟨p, 0, none⟩), .int .i64 1, .int .i64 9] W fun e w' => e = .returned (.tuple #[.int .i64 (-1), .int .i64 0]) ∧ Below W.heap.size W w') := fun W p hX => by
    have := HDI hX WM.aw0_mesh (by decide) 1 (by decide) 9
    rwa [show (9 : Int).toNat = 9 from rfl, OM.aw_diff0] at this
  have HE0 : Hid (XM.put 3 (XM.put 3 (XM.put 3 XM.empty 0 1 2) 1 2 3) 0 2 9 = WM.aw0) := rfl
  have HE1 : Hid (XM.put 3 WM.aw0 0 2 5 = WM.aw1) := rfl
  have HM0 : Hid (XM.Mesh 3 WM.aw0) := WM.aw0_mesh
  clear HND HNN HDI
  generalize WM.aw1 = A1 at *
  generalize WM.aw0 = A0 at *
  go_enter Tryz.func5, Tryz.ntmps5
  go_wp2_with fail
  refine hn1.mono ?_
  rintro e w1 ⟨p, rfl, hp, hX1, hb1⟩
  have hpw : w.heap.size ≤ p := by omega
  have H1 : Hid (XMem w1 p 3 XM.empty ∧ Below w.heap.size w w1) := ⟨hX1, hb1⟩
  clear hn1 hX1 hb1 hp
  go_wp2_with fail
  refine (HP.out w1 p _ H1.out.1 (XM.Mesh.empty 3) 0 1 2).mono ?_
  rintro e w2 ⟨rfl, hX2, hm2, hk2⟩
  have H2 : Hid (XMem w2 p 3 (XM.put 3 XM.empty 0 1 2) ∧ XM.Mesh 3 (XM.put 3 XM.empty 0 1 2) ∧ Below w.heap.size w w2) := ⟨hX2, hm2, H1.out.2.trans (hk2.below (fun b hb => by omega) H1.out.2.size)⟩
  clear hX2 hm2 hk2
  generalize XM.put 3 XM.empty 0 1 2 = D2 at *
  generalize XM.putCode 3 0 1 2 = k2 at *
  go_wp2_with fail
  refine (HP.out w2 p _ H2.out.1 H2.out.2.1 1 2 3).mono ?_
  rintro e w3 ⟨rfl, hX3, hm3, hk3⟩
  have H3 : Hid (XMem w3 p 3 (XM.put 3 D2 1 2 3) ∧ XM.Mesh 3 (XM.put 3 D2 1 2 3) ∧ Below w.heap.size w w3) := ⟨hX3, hm3, H2.out.2.2.trans (hk3.below (fun b hb => by omega) H2.out.2.2.size)⟩
  clear hX3 hm3 hk3
  generalize XM.put 3 D2 1 2 3 = D3 at *
  generalize XM.putCode 3 1 2 3 = k3 at *
  go_wp2_with fail
  refine (HP.out w3 p _ H3.out.1 H3.out.2.1 0 2 9).mono ?_
  rintro e w4 ⟨rfl, hX4, -, hk4⟩
  rw [HE0.out] at hX4
  have H4 : Hid (XMem w4 p 3 A0 ∧ Below w.heap.size w w4) := ⟨hX4, H3.out.2.2.trans (hk4.below (fun b hb => by omega) H3.out.2.2.size)⟩
  clear hX4 hk4
  generalize XM.putCode 3 0 2 9 = k4 at *
  go_wp2_with fail
  refine (HN0.out w4 p H4.out.1).mono ?_
  rintro e w5 ⟨rfl, hb5⟩
  have H5 : Hid (XMem w5 p 3 A0 ∧ Below w.heap.size w w5) := ⟨H4.out.1.on hb5, below_on H4.out.2 hb5⟩
  clear hb5 H4 HN0
  go_wp2_with fail
  refine (HD0.out w5 p H5.out.1).mono ?_
  rintro e w6 ⟨rfl, hb6⟩
  have H6 : Hid (XMem w6 p 3 A0 ∧ Below w.heap.size w w6) := ⟨H5.out.1.on hb6, below_on H5.out.2 hb6⟩
  clear hb6 H5 HD0
  go_wp2_with fail
  refine (HP.out w6 p A0 H6.out.1 HM0.out 0 2 5).mono ?_
  rintro e w7 ⟨rfl, hX7, -, hk7⟩
  rw [HE1.out] at hX7
  have H7 : Hid (XMem w7 p 3 A1 ∧ Below w.heap.size w w7) := ⟨hX7, H6.out.2.trans (hk7.below (fun b hb => by omega) H6.out.2.size)⟩
  clear hX7 hk7 H6
  generalize XM.putCode 3 0 2 5 = k5 at *
  go_wp2_with fail
  refine (HN1.out w7 p H7.out.1).mono ?_
  rintro e w8 ⟨rfl, hb8⟩
  have H8 : Hid (XMem w8 p 3 A1 ∧ Below w.heap.size w w8) := ⟨H7.out.1.on hb8, below_on H7.out.2 hb8⟩
  clear hb8 H7 HN1
  go_wp2_with fail
  refine (HNB.out w8 p H8.out.1).mono ?_
  rintro e w9 ⟨rfl, hb9⟩
  have HE : Hid (Below w.heap.size w w9) := below_on H8.out.2 hb9
  clear hb9 H8 HNB
  go_wp2_with fail
  go_ret
  exact ⟨rfl, HE.out⟩
end Go.Proofs.YtkcfepppnclniaaGreatDoor
end

section
/-
  The first one of those that cost least, over a list. Nothing of the program.
-/
namespace Go.Proofs.YtkcfepppnclniaaGreatDoor
namespace OM
/-- One vertex more is looked at. -/
def pick (c : Nat → Int) (a : Int × Int) (x : Nat) : Int × Int := if a.1 < 0 ∨ c x < a.2 then ((x : Int), c x) else a
def lscan (c : Nat → Int) (l : List Nat) : Int × Int := l.foldl (pick c) (-1, 0)
theorem lscan_nil (c : Nat → Int) : lscan c [] = (-1, 0) := rfl
theorem lscan_snoc (c : Nat → Int) (l : List Nat) (x : Nat) : lscan c (l ++ [x]) = pick c (lscan c l) x := by
  unfold lscan
  rw [List.foldl_append]
  rfl
theorem lscan_scan (left : Nat → Bool) (c : Nat → Int) : ∀ k, lscan c ((List.range k).filter left) = scan left c k
  | 0 => rfl
  | k + 1 => by
    have ih := lscan_scan left c k
    rw [List.range_succ, List.filter_append]
    by_cases h : left k = true
    · rw [show [k].filter left = [k] by simp [h], lscan_snoc, ih]
      unfold pick
      show _ = (if left k = true ∧ _ then _ else _)
      by_cases h2 : (scan left c k).1 < 0 ∨ c k < (scan left c k).2
      · rw [if_pos h2, if_pos ⟨h, h2⟩]
      · rw [if_neg h2, if_neg (fun e => h2 e.2)]
    · rw [show [k].filter left = [] by simp [h], List.append_nil, ih]
      show _ = (if left k = true ∧ _ then _ else _)
      rw [if_neg (fun e => h e.1)]
theorem scan_cut {left : Nat → Bool} {c : Nat → Int} {N : Nat} (h : ∀ v, N ≤ v → left v = false) : ∀ j, scan left c (N + j) = scan left c N
  | 0 => rfl
  | j + 1 => by
    show (if left (N + j) = true ∧ _ then _ else _) = _
    rw [if_neg (fun e => by rw [h (N + j) (by omega)] at e; cases e.1)]
    exact scan_cut h j
/-- A set that has just those that are left. -/
def SL (S : Nat) (left : Nat → Bool) : Prop := S < 18446744073709551616 ∧ ∀ i, i < 64 → S.testBit i = left i
theorem SL.lst {S : Nat} {left : Nat → Bool} (h : SL S left) : BM.lst S = (List.range 64).filter left := by
  unfold BM.lst
  exact List.filter_congr fun i hi => h.2 i (List.mem_range.1 hi)
theorem SL.scan {S : Nat} {left : Nat → Bool} (h : SL S left) (c : Nat → Int) {N : Nat} (hN : N ≤ 24) (hl : ∀ v, N ≤ v → left v = false) : lscan c (BM.lst S) = OM.scan left c N := by
  rw [h.lst, lscan_scan, show 64 = N + (64 - N) by omega, scan_cut hl]
theorem SL.take {S : Nat} {left : Nat → Bool} (h : SL S left) (b : Nat) : SL (BM.less S (BM.only (b : Int))) (fun v => if v = b then false else left v) := by
  refine ⟨BM.less_lt _ _, fun i hi => ?_⟩
  rw [BM.without_bit _ _ hi, h.2 i hi]
  dsimp only
  by_cases e : i = b
  · subst e
    simp
  · rw [if_neg e, decide_eq_false (by omega)]
    simp
theorem SL.all {N : Nat} (hN : N ≤ 24) : SL (BM.below (N : Int)) (fun v => decide (v < N)) := by
  refine ⟨BM.below_lt _, fun i _ => ?_⟩
  rw [BM.below_bit]
  unfold BM.cut
  rw [show min (max (N : Int) 0).toNat 64 = N by omega]
/-- None but vertices is left. -/
theorem run_left_lt (N : Nat) (D : Nat → Nat → Int) (k : Nat) : ∀ r v, N ≤ v → (run N D k r).left v = false
  | 0, v, h => decide_eq_false (by omega)
  | r + 1, v, h => by
    have ih := run_left_lt N D k r v h
    show (if v = best N D k r then false else (run N D k r).left v) = false
    split
    · rfl
    · exact ih
/-- The vertices beside one: the set of them. -/
theorem beside_bit {N : Nat} {D : Nat → Nat → Int} (hm : XM.Mesh N D) (_hN : N ≤ 24) (b : Nat) {i : Nat} (hi : i < 64) : (tips (XM.steps N D (b : Int) false N) ||| tips (XM.steps N D (b : Int) true N)).testBit i = (decide (i < N) && edge D b i) := by
  rw [Nat.testBit_or, tips_bit N hi, tips_bit N hi]
  have e1 : XM.dirE N D (b : Int) false (i : Nat) = D b i := by show XM.atE N D b i = _; rw [XM.atE_nat hm]
  have e2 : XM.dirE N D (b : Int) true (i : Nat) = D i b := by show XM.atE N D i b = _; rw [XM.atE_nat hm]
  have h1 := (hm.ok.bd b i).2
  have h2 := (hm.ok.bd i b).2
  rw [e1, e2]
  unfold edge
  rw [← Bool.and_or_distrib_left]
  congr 2
  · exact decide_eq_decide.2 (by omega)
  · exact decide_eq_decide.2 (by omega)
theorem beside_mem {N : Nat} {D : Nat → Nat → Int} (hm : XM.Mesh N D) (hN : N ≤ 24) (b : Nat) {i : Nat} : i ∈ BM.lst (tips (XM.steps N D (b : Int) false N) ||| tips (XM.steps N D (b : Int) true N)) ↔ i < N ∧ edge D b i = true := by
  rw [BM.mem_lst]
  constructor
  · rintro ⟨h1, h2⟩
    rw [beside_bit hm hN b h1, Bool.and_eq_true, decide_eq_true_iff] at h2
    exact h2
  · rintro ⟨h1, h2⟩
    refine ⟨by omega, ?_⟩
    rw [beside_bit hm hN b (by omega), h2, decide_eq_true h1]
    rfl
/-- The numbers of a set are unlike. -/
theorem lst_nodup (s : Nat) : (BM.lst s).Nodup := List.Pairwise.filter _ List.nodup_range
end OM
end Go.Proofs.YtkcfepppnclniaaGreatDoor
end

section
/-
  What the order by cost (layer 14) keeps in memory: a mesh, a row of ranks, one of who is left, one of how many are gone beside each.
-/
namespace Go.Proofs.YtkcfepppnclniaaGreatDoor
open Go.RowKit
/-- N values, by their places. -/
def rowF (N : Nat) (f : Nat → Value) : List Value := (List.range N).map f
theorem rowF_len (N : Nat) (f : Nat → Value) : (rowF N f).length = N := by simp [rowF]
theorem rowF_get {N : Nat} (f : Nat → Value) {i : Nat} (h : i < N) : (rowF N f)[i]? = some (f i) := by simp [rowF, h]
theorem rowF_set {N : Nat} (f : Nat → Value) (i : Nat) (x : Value) : (rowF N f).set i x = rowF N (fun j => if j = i then x else f j) := by
  apply List.ext_getElem?
  intro j
  rw [List.getElem?_set]
  by_cases hj : j < N
  · by_cases e : i = j
    · subst e
      rw [if_pos rfl, if_pos (by rw [rowF_len]; exact hj), rowF_get _ hj, if_pos rfl]
    · rw [if_neg e, rowF_get _ hj, rowF_get _ hj, if_neg (fun h => e h.symm)]
  · have e1 : (rowF N f)[j]? = none := List.getElem?_eq_none (by rw [rowF_len]; omega)
    have e2 : (rowF N (fun j => if j = i then x else f j))[j]? = none := List.getElem?_eq_none (by rw [rowF_len]; omega)
    rw [e1, e2]
    split
    · rw [if_neg (by rw [rowF_len]; omega)]
    · rfl
theorem rowF_congr {N : Nat} {f g : Nat → Value} (h : ∀ i, i < N → f i = g i) : rowF N f = rowF N g := by
  unfold rowF
  exact List.map_congr_left fun i hi => h i (List.mem_range.1 hi)
theorem rowF_const (N : Nat) (x : Value) : List.replicate N x = rowF N (fun _ => x) := by
  unfold rowF
  apply List.ext_getElem <;> simp
/-- A row of N in block b. -/
def RowIn (w : World) (B : Nat) (e : TypeId) (b N : Nat) (f : Nat → Value) : Prop := w.ownsRow B e 1 (.slice (some ⟨b, 0, none⟩) N N) N (rowF N f)
section
variable {w w' : World} {B b N : Nat} {e : TypeId} {f : Nat → Value}
theorem RowIn.cell (h : RowIn w B e b N f) {i : Nat} (hi : i < N) : w.cell? ⟨b, i, none⟩ = some (f i) := by
  have := World.ownsRow.cellAt h i (by omega)
  rw [this, rowF_get _ hi]
theorem RowIn.fz (h : RowIn w B e b N f) (i : Nat) : w.frozen? ⟨b, i, none⟩ = false := World.ownsRow.frozenAt h i
theorem RowIn.lt (h : RowIn w B e b N f) : B ≤ b ∧ b < w.heap.size := World.ownsRow.lt h b rfl
theorem RowIn.on (h : RowIn w B e b N f) (hb : Below w.heap.size w w') : RowIn w' B e b N f := (Below.keeps hb (fun _ => False)).row h (fun _ _ h => h)
theorem RowIn.kept {F : Nat → Prop} (h : RowIn w B e b N f) (hk : Keeps F w w') (hF : ¬ F b) : RowIn w' B e b N f := hk.row h (fun g hg => by
  have : b = g := by simpa [Value.ownBlock] using hg
  rwa [← this])
theorem RowIn.set (h : RowIn w B e b N f) (i : Nat) (x : Value) : RowIn (w.setCell ⟨b, i, none⟩ x) B e b N (fun j => if j = i then x else f j) := by
  have := (World.ownsRow.stored h i x).1
  rwa [rowF_set] at this
theorem RowIn.congr {g : Nat → Value} (h : RowIn w B e b N f) (hf : ∀ i, i < N → f i = g i) : RowIn w B e b N g := by
  unfold RowIn at *
  rwa [← rowF_congr hf]
theorem RowIn.new (w : World) (B N : Nat) (e : TypeId) (z : Value) (hB : B ≤ w.heap.size) (hN : N ≤ 24) : RowIn (w.alloc (.cells (madeCells #[z] N) e)) B e w.heap.size N (fun _ => z) := by
  have h := World.ownsRow_lit (base := B) (e := e) (size := 1) w (madeCells #[z] N) N hB (by unfold maxLen; omega) (by rw [size_madeCells]; omega)
  rw [toList_madeCells_one, rowF_const] at h
  exact h
end
/-- The whole of it: the mesh in p, the ranks in b1, who is left in b2, how many are gone in b3. -/
structure RK (B p b1 b2 b3 N : Nat) (s : OM.RS) (w : World) : Prop where
  x : XMem w p N s.D
  rk : RowIn w B 3 b1 N (fun v => .int .i64 (s.rank v))
  lf : RowIn w B 4 b2 N (fun v => .bool (s.left v))
  gn : RowIn w B 3 b3 N (fun v => .int .i64 (s.gone v))
  pl : B ≤ p
  n12 : b1 ≠ b2
  n13 : b1 ≠ b3
  n23 : b2 ≠ b3
  p1 : p ≠ b1
  p2 : p ≠ b2
  p3 : p ≠ b3
section
variable {w w' : World} {B p b1 b2 b3 N : Nat} {s : OM.RS}
theorem RK.on (h : RK B p b1 b2 b3 N s w) (hb : Below w.heap.size w w') : RK B p b1 b2 b3 N s w' :=
  ⟨h.x.on hb, h.rk.on hb, h.lf.on hb, h.gn.on hb, h.pl, h.n12, h.n13, h.n23, h.p1, h.p2, h.p3⟩
theorem RK.con (h : RK B p b1 b2 b3 N s w) (hk : Keeps (fun b => b = p) w w') {D : Nat → Nat → Int} (hx : XMem w' p N D) : RK B p b1 b2 b3 N ⟨D, s.left, s.gone, s.rank⟩ w' :=
  ⟨hx, h.rk.kept hk (Ne.symm h.p1), h.lf.kept hk (Ne.symm h.p2), h.gn.kept hk (Ne.symm h.p3), h.pl, h.n12, h.n13, h.n23, h.p1, h.p2, h.p3⟩
theorem RK.rank (h : RK B p b1 b2 b3 N s w) (v : Nat) (r : Int) : RK B p b1 b2 b3 N ⟨s.D, s.left, s.gone, fun j => if j = v then r else s.rank j⟩ (w.setCell ⟨b1, v, none⟩ (.int .i64 r)) := by
  have hk := keeps_set w b1 v (.int .i64 r)
  exact ⟨h.x.kept hk h.p1, (h.rk.set v _).congr (fun i _ => by dsimp only; split <;> rfl), h.lf.kept hk (Ne.symm h.n12), h.gn.kept hk (Ne.symm h.n13), h.pl, h.n12, h.n13, h.n23, h.p1, h.p2, h.p3⟩
theorem RK.take (h : RK B p b1 b2 b3 N s w) (v : Nat) (r : Bool) : RK B p b1 b2 b3 N ⟨s.D, fun j => if j = v then r else s.left j, s.gone, s.rank⟩ (w.setCell ⟨b2, v, none⟩ (.bool r)) := by
  have hk := keeps_set w b2 v (.bool r)
  exact ⟨h.x.kept hk h.p2, h.rk.kept hk h.n12, (h.lf.set v _).congr (fun i _ => by dsimp only; split <;> rfl), h.gn.kept hk (Ne.symm h.n23), h.pl, h.n12, h.n13, h.n23, h.p1, h.p2, h.p3⟩
theorem RK.more (h : RK B p b1 b2 b3 N s w) (v : Nat) (r : Int) : RK B p b1 b2 b3 N ⟨s.D, s.left, fun j => if j = v then r else s.gone j, s.rank⟩ (w.setCell ⟨b3, v, none⟩ (.int .i64 r)) := by
  have hk := keeps_set w b3 v (.int .i64 r)
  exact ⟨h.x.kept hk h.p3, h.rk.kept hk h.n13, h.lf.kept hk h.n23, (h.gn.set v _).congr (fun i _ => by dsimp only; split <;> rfl), h.pl, h.n12, h.n13, h.n23, h.p1, h.p2, h.p3⟩
theorem RK.congr {t : OM.RS} (h : RK B p b1 b2 b3 N s w) (hD : s.D = t.D) (hl : ∀ v, v < N → s.left v = t.left v) (hg : ∀ v, v < N → s.gone v = t.gone v) (hr : ∀ v, v < N → s.rank v = t.rank v) : RK B p b1 b2 b3 N t w :=
  ⟨hD ▸ h.x, h.rk.congr (fun v hv => by rw [hr v hv]), h.lf.congr (fun v hv => by rw [hl v hv]), h.gn.congr (fun v hv => by rw [hg v hv]), h.pl, h.n12, h.n13, h.n23, h.p1, h.p2, h.p3⟩
theorem RK.lts (h : RK B p b1 b2 b3 N s w) : p < w.heap.size ∧ b1 < w.heap.size ∧ b2 < w.heap.size ∧ b3 < w.heap.size ∧ B ≤ b1 ∧ B ≤ b2 ∧ B ≤ b3 :=
  ⟨h.x.lt, h.rk.lt.2, h.lf.lt.2, h.gn.lt.2, h.rk.lt.1, h.lf.lt.1, h.gn.lt.1⟩
/-- The ranks, as a list. -/
theorem RK.own (h : RK B p b1 b2 b3 N s w) : Own .i64 3 w B (.slice (some ⟨b1, 0, none⟩) N N) ((List.range N).map s.rank) := by
  have h1 := h.rk
  unfold RowIn rowF at h1
  unfold Own
  rw [List.length_map, List.length_range, List.map_map]
  exact h1
end
/-- What changes blocks of the order's alone leaves what lies below. -/
theorem below_kept {w0 w w' : World} {B p : Nat} (h : Below B w0 w) (hk : Keeps (fun b => b = p) w w') (hp : B ≤ p) (hB : B ≤ w.heap.size) : Below B w0 w' := h.trans (hk.below (fun _ e => e ▸ hp) hB)
namespace OM
/-- How far the numbers go. -/
theorem run_gone (N : Nat) (D : Nat → Nat → Int) (k : Nat) : ∀ r v, 0 ≤ (run N D k r).gone v ∧ (run N D k r).gone v ≤ r
  | 0, v => by show (0 : Int) ≤ 0 ∧ (0 : Int) ≤ _; omega
  | r + 1, v => by
    have := run_gone N D k r v
    have e : (run N D k (r + 1)).gone v = if edge (run N D k r).D (best N D k r) v = true then (run N D k r).gone v + 1 else (run N D k r).gone v := rfl
    rw [e]
    split <;> omega
theorem scan_bd {left : Nat → Bool} {c : Nat → Int} {lo hi : Int} (h0 : lo ≤ 0 ∧ 0 ≤ hi) (h : ∀ v, lo ≤ c v ∧ c v ≤ hi) : ∀ j, lo ≤ (scan left c j).2 ∧ (scan left c j).2 ≤ hi
  | 0 => h0
  | j + 1 => by
    unfold scan
    split
    · exact h j
    · exact scan_bd h0 h j
/-- The state while the neighbours of the vertex taken are gone through. -/
def mid (s : RS) (b r j : Nat) : RS := ⟨s.D, fun v => if v = b then false else s.left v, fun v => if v < j ∧ edge s.D b v = true then s.gone v + 1 else s.gone v, fun v => if v = b then (r : Int) else s.rank v⟩
theorem mid_at (s : RS) (b r x : Nat) : (mid s b r x).gone x = s.gone x := if_neg (fun h => Nat.lt_irrefl _ h.1)
theorem mid_yes {s : RS} {b r x : Nat} (h : edge s.D b x = true) (v : Nat) : (if v = x then s.gone x + 1 else (mid s b r x).gone v) = (mid s b r (x + 1)).gone v := by
  unfold mid
  dsimp only
  by_cases e : v = x
  · rw [if_pos e, e, if_pos ⟨by omega, h⟩]
  · rw [if_neg e]
    by_cases e2 : v < x ∧ edge s.D b v = true
    · rw [if_pos e2, if_pos ⟨by omega, e2.2⟩]
    · rw [if_neg e2, if_neg (fun h2 => e2 ⟨by omega, h2.2⟩)]
theorem mid_no {s : RS} {b r x : Nat} (h : edge s.D b x = false) (v : Nat) : (mid s b r x).gone v = (mid s b r (x + 1)).gone v := by
  unfold mid
  dsimp only
  by_cases e2 : v < x ∧ edge s.D b v = true
  · rw [if_pos e2, if_pos ⟨by omega, e2.2⟩]
  · rw [if_neg e2, if_neg (fun h2 => by
      by_cases e : v = x
      · rw [e, h] at h2
        cases h2.2
      · exact e2 ⟨by omega, h2.2⟩)]
end OM
end Go.Proofs.YtkcfepppnclniaaGreatDoor
end
