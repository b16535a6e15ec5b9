/-
  WitSpareP, OrdNeedP, OrdSet.
-/
import Derived.Test.YtkcfepppnclniaaGreatDoorMmWitFindN
import Derived.Test.YtkcfepppnclniaaGreatDoorMmWitSpared
import Derived.Test.YtkcfepppnclniaaGreatDoorMmMeshDet
import Derived.Test.YtkcfepppnclniaaGreatDoorMmMeshDefs
import Derived.Test.YtkcfepppnclniaaGreatDoorMmBitsMath
import Derived.Deep.RegionHeld3
section
/-
  The walk of the program's Spared, of three unlike vertices (layer 13).
-/
namespace Go.Proofs.YtkcfepppnclniaaGreatDoor
open Go.RowKit Go.Shelf
attribute [local go_sem] Oper.semAt_some

set_option maxRecDepth 100000 in
set_option maxHeartbeats 2000000 in
theorem spared_ok {W : World} {mp N u v x : Nat} {D : Nat → Nat → Int} (hx : XMem W mp N D) (hmm : XM.Mesh N D) (hN : N ≤ 24) (hu : u < N) (hv : v < N) (hw : x < N) (e1 : u ≠ v) (e2 : v ≠ x) (e3 : u ≠ x) (settles : Int) :
    Calls Tryz.prog 47 #[.pointer (some ⟨mp, 0, none⟩), .int .i64 (u : Nat), .int .i64 (v : Nat), .int .i64 (x : Nat), .int .i64 settles] W fun e w' => spAns N D u v x settles.toNat W e w' := by
  obtain ⟨W1, hW1, hs1, hsq1⟩ := sqc_new W hx x
  have hmp := hx.lt
  have hvu := wvertex_any hsq1.x (u : Int)
  have hvv := wvertex_any hsq1.x (v : Int)
  have hvw := wvertex_any hsq1.x (x : Int)
  rw [show GM.vert N (u : Int) = true from by unfold GM.vert; simp [hu]] at hvu
  rw [show GM.vert N (v : Int) = true from by unfold GM.vert; simp [hv]] at hvv
  rw [show GM.vert N (x : Int) = true from by unfold GM.vert; simp [hw]] at hvw
  have e1' : ((u : Int) == (v : Int)) = false := by simp; omega
  have e2' : ((v : Int) == (x : Int)) = false := by simp; omega
  have e3' : ((u : Int) == (x : Int)) = false := by simp; omega
  have c0 := hsq1.b0.cell
  have c0d : W1.drew.cell? ⟨W.heap.size, 0, none⟩ = some (.int .i64 (x : Nat)) := c0
  have c1 := hsq1.b1.cell
  have c2 := hsq1.b2.cell
  obtain ⟨G, hG⟩ : ∃ G : Int → Int → Int, G = XM.atE N D := ⟨_, rfl⟩
  have HD : Hid (G u v = D u v ∧ G v x = D v x) := by rw [hG]; exact ⟨XM.atE_nat hmm u v, XM.atE_nat hmm v x⟩
  have HA : Hid (∀ A, Below W1.heap.size W1 A → ∀ a b : Int, Calls Tryz.prog 64 #[.pointer (some ⟨mp, 0, none⟩), .int .i64 a, .int .i64 b] A fun e w' => e = .returned (.int .i64 (G a b)) ∧ w' = A) := fun A hA a b => by
    rw [hG]
    exact xat_any (hsq1.x.on hA) hN a b
  clear hG
  have HADD : Hid (∀ (A : World) (n : Nat) (a b : Int), A.cell? ⟨n, 0, none⟩ = some (.int .i64 a) → A.cell? ⟨n, 1, none⟩ = some (.int .i64 b) → Calls Tryz.prog 74 #[.slice (some ⟨n, 0, none⟩) 2 2] A fun e w' => e = .returned (.int .i64 (DM.two a b)) ∧ w' = A) := fun A n a b h0 h1 => wadd_cells h0 h1
  have HSQ : Hid (SQC W mp N D x false 0 W1 ∧ W1.heap.size = W.heap.size + 3) := ⟨hsq1, hs1⟩
  have HC0 : Hid (∀ A, Below W1.heap.size W1 A → A.cell? ⟨W.heap.size, 0, none⟩ = some (.int .i64 (x : Nat))) := fun A hA => by
    have h : Boxed A W.heap.size 3 (.int .i64 (x : Nat)) := (hA.block _ (by omega)).trans hsq1.b0
    exact h.cell
  clear hx hsq1 hs1
  refine (callsIn_wide (n := 14)).1 ?_
  refine callsIn_of_wp_marks Tryz.func47 rfl trivial ?_ rfl
  simp only [Tryz.ntmps47, List.size_toArray, List.length_cons, List.length_nil, Nat.reduceAdd, Nat.reduceSub, Array.replicate_succ, Array.replicate_zero, List.push_toArray, List.append_toArray, List.nil_append, List.cons_append]
  refine wpIn_wide.2 ?_
  go_upto_region 1 with fail
  rw [← hW1]
  clear hW1
  go_wp2_with fail
  refine hvu.mono ?_
  rintro e w2 ⟨rfl, hw2⟩
  rw [hw2]
  clear hvu hw2 w2
  go_wp2_with fail
  refine hvv.mono ?_
  rintro e w2 ⟨rfl, hw2⟩
  rw [hw2]
  clear hvv hw2 w2
  go_wp2_with fail
  refine hvw.mono ?_
  rintro e w2 ⟨rfl, hw2⟩
  rw [hw2]
  clear hvw hw2 w2
  go_upto_region 4 with (go_region_held3 (fun w' => w'.cell? ⟨W.heap.size, 0, none⟩ = some (.int .i64 (x : Nat))) (first | go_keep | exact HC0.out _ ((Below.refl _ _).alloc (Nat.le_refl _) _).drew | exact HC0.out _ ((Below.refl _ _).drew.alloc (Nat.le_refl _) _)) (first
    | (go_at_call 64; refine (HA.out _ (Below.refl _ _).drew _ _).mono ?_; rintro e w8 ⟨rfl, hw8⟩; rw [hw8]; clear hw8 w8)
    | (go_at_call 74; refine (HADD.out _ _ _ _ (by simp; rfl) (by simp; rfl)).mono ?_; rintro e w8 ⟨rfl, hw8⟩; rw [hw8]; clear hw8 w8)))
  have HS2 : Hid (SQC W mp N D x false 0 (W1.alloc (.cells #[.int .i64 (G u v), .int .i64 (G v x)] 3)).drew) := HSQ.out.1.below (((Below.refl _ _).alloc (by rw [HSQ.out.2]; exact Nat.le_refl _) _).drew) hmp
  clear HA HADD HC0 c0 c0d c1 c2 HSQ e1' e2' e3'
  obtain ⟨s1, hs1⟩ : ∃ s1, s1 = W1.heap.size := ⟨_, rfl⟩
  rw [← hs1]
  clear hs1
  generalize (W1.alloc (.cells #[.int .i64 (G u v), .int .i64 (G v x)] 3)).drew = W2 at *
  have hYb := DM.two_bd (G u v) (G v x)
  have HYN : Hid (DM.norm (DM.two (G u v) (G v x)) = DM.two (D u v) (D v x)) := by
    show _ = _
    rw [DM.norm_of hYb.1 hYb.2, HD.out.1, HD.out.2]
  clear HD hYb
  generalize DM.two (G u v) (G v x) = Y at *
  generalize G u v = g1 at *
  generalize G v x = g2 at *
  obtain ⟨O, hO⟩ : ∃ O, O = 2 ^ v := ⟨_, rfl⟩
  have hO64 : O < 18446744073709551616 := by have := pow_small (show v ≤ 24 by omega); omega
  have HO : Hid (O = 2 ^ v) := hO
  have HOU : Hid (WM.outOf O u = false) := by
    show _ = _
    rw [hO, WM.outOf_two (show v < 64 by omega)]
    exact decide_eq_false e1
  have hof := of13_any _ [(v : Int)] (W2.alloc (.cells #[.int .i64 (v : Nat)] 3)) ⟨some ⟨W2.heap.size, 0, none⟩, 1, rfl, rowAt_lit1 .i64 W2 (v : Int) 3⟩
  rw [WM.ofL_one (show v < 64 by omega), ← hO] at hof
  have hsq3 : SQC W mp N D x false 0 (W2.alloc (.cells #[.int .i64 (v : Nat)] 3)) := HS2.out.below ((Below.refl _ _).alloc HS2.out.sz _) hmp
  have hnew := newSearch_any hsq3.x hN O
  have HS3 : Hid (SQC W mp N D x false 0 (W2.alloc (.cells #[.int .i64 (v : Nat)] 3))) := hsq3
  clear hO hsq3 HS2
  go_wp2_with fail
  refine hof.mono ?_
  rintro e w3 ⟨rfl, hw3⟩
  rw [hw3]
  clear hof hw3 w3
  obtain ⟨s2, hs2⟩ : ∃ s2, s2 = W2.heap.size := ⟨_, rfl⟩
  rw [← hs2]
  clear hs2
  generalize W2.alloc (.cells #[.int .i64 (v : Nat)] 3) = W3 at *
  go_wp2_with fail
  refine hnew.mono ?_
  rintro e w4 ⟨z, rfl, hwd, hb4⟩
  obtain ⟨hq5, hz5, hs5⟩ := sp_new (u := u) hmp HS3.out hwd hb4 Y settles
  have hset := settled_any z.q u Y settles w4
  have HZ : Hid (SQC W mp N D x false 0 (setW z.q u Y settles w4) ∧ Z0 W3.heap.size z mp N O u Y settles w4.heap.size (fun b => W3.heap.size ≤ b ∧ b < w4.heap.size + 4) (setW z.q u Y settles w4) ∧ (setW z.q u Y settles w4).heap.size = w4.heap.size + 4 ∧ W.heap.size + 3 ≤ W3.heap.size ∧ W3.heap.size ≤ w4.heap.size) := ⟨hq5, hz5, hs5, HS3.out.sz, hb4.size⟩
  clear hnew hwd hb4 hq5 hz5 hs5 HS3
  go_wp2_with fail
  refine hset.mono ?_
  rintro e w5 ⟨rfl, hw5⟩
  rw [hw5]
  clear hw5 w5 hset
  generalize setW z.q u Y settles w4 = W5 at *
  unfold setF
  generalize w4.heap.size = c at *
  generalize W3.heap.size = B at *
  go_wp2_with fail
  have hgo := settled_goes 13 (by decide) B z mp N O D u Y settles c HZ.out.2.2.2.2 (by have := HZ.out.2.2.2.1; omega) hmm hO64 hu HOU.out
  rw [HYN.out] at hgo
  refine (wpIn_wide (n := 14)).1 (range_goesS (by decide) (gf := 100) (lb := #[.pointer (some ⟨c, 0, none⟩), .pointer (some ⟨c + 1, 0, none⟩), .pointer (some ⟨c + 1 + 1 + 1, 0, none⟩), .pointer (some ⟨c + 1 + 1, 0, none⟩)]) rfl (enters_of Tryz.func100 (by kernel_rfl) rfl) hgo (fun _ => rfl)
    (fun X A A' h hr => h.rest hr) (fun L X A A' h hr => h.rest hr)
    (fun pre X A => SQC W mp N D x false 0 A ∧ (∀ b, b < W.heap.size + 3 → ¬ X b) ∧ WM.has pre x = false)
    (fun cd pre X A => cd = .ret ∧ SQC W mp N D x true 0 A ∧ (∀ b, b < W.heap.size + 3 → ¬ X b) ∧ WM.has pre x = true)
    (fun pre X X' A A' h hk hX => by
      obtain ⟨k1, k2⟩ := lowX h.2.1 h.1.sz hk hX
      exact ⟨h.1.below k1 hmp, k2, h.2.2⟩)
    (fun cd pre X X' A A' h hk hX => by
      obtain ⟨k1, k2⟩ := lowX h.2.2.1 h.2.1.sz hk hX
      exact ⟨h.1, h.2.1.below k1 hmp, k2, h.2.2.2⟩)
    (fun pre X A h => h.1.x)
    (fun b => B ≤ b ∧ b < c + 4) (fun b hb => by have := HZ.out.2.2.1; omega) ⟨HZ.out.1, fun b hb hx => by have := HZ.out.2.2.2.1; omega, rfl⟩ HZ.out.2.1
    (fun y => { tmps := #[.pointer (some ⟨mp, 0, none⟩), .int .i64 (u : Nat), .int .i64 (v : Nat), .int .i64 (x : Nat), .int .i64 settles, undef, undef, undef, .pointer (some ⟨W.heap.size, 0, none⟩), undef, .pointer (some ⟨W.heap.size + 1, 0, none⟩), .pointer (some ⟨W.heap.size + 1 + 1, 0, none⟩), .int .i64 Y, .int .i64 (y.1 : Nat), .pointer (some ⟨mp, 0, none⟩), .int .i64 (u : Nat), .bool true, .bool false, .bool false, .pointer (some ⟨mp, 0, none⟩), .int .i64 (v : Nat), .bool true, .bool false, .bool false, .bool false, .pointer (some ⟨mp, 0, none⟩), .int .i64 (x : Nat), .bool true, .bool false, .bool false, .bool false, .int .i64 (u : Nat), .int .i64 (v : Nat), .bool false, .bool false, .bool false, .int .i64 (v : Nat), .int .i64 (x : Nat), .bool false, .bool false, .bool false, .int .i64 (u : Nat), .int .i64 (x : Nat), .bool false, .bool false, .pointer (some ⟨mp, 0, none⟩), .int .i64 (u : Nat), .int .i64 (v : Nat), .int .i64 g1, .pointer (some ⟨mp, 0, none⟩), .int .i64 (v : Nat), .int .i64 (x : Nat), .int .i64 g2, .slice (some ⟨s1, 0, none⟩) 2 2, .int .i64 Y, .pointer (some ⟨mp, 0, none⟩), .int .i64 (v : Nat), .slice (some ⟨s2, 0, none⟩) 1 1, .int .u64 (O : Nat), .pointer (some ⟨z.q, 0, none⟩), .int .i64 (u : Nat), .int .i64 Y, .int .i64 settles, .func (.func 100) #[] #[.pointer (some ⟨c, 0, none⟩), .pointer (some ⟨c + 1, 0, none⟩), .pointer (some ⟨c + 1 + 1 + 1, 0, none⟩), .pointer (some ⟨c + 1 + 1, 0, none⟩)], .int .i64 (y.1 : Nat), undef, undef, undef], defers := [] })
    ?assign ?body ?done ?stop)
  case assign =>
    rintro l ⟨y, d⟩ A K hK
    simp only [setV]
    gi_wp2
    exact hK
  case body =>
    rintro l pre ⟨y, d⟩ X A ⟨hSQ, hX, hno⟩ hZ hA hXb hn0 hn1
    have c0 := hSQ.b0.cell
    have c1 := hSQ.b1.cell
    have f1 := hSQ.b1.frozen
    have c2 := hSQ.b2.cell
    have f2 := hSQ.b2.frozen
    by_cases hyx : y = x
    · have hyx' : ((y : Int) == (x : Int)) = true := by simp [hyx]
      have HE : Hid (Rest (fun b => X b ∨ b = W5.heap.size ∨ b = W5.heap.size + 1) A ((A.setCell ⟨W.heap.size + 1, 0, none⟩ (.bool true)).setCell ⟨W.heap.size + 1 + 1, 0, none⟩ (.int .i64 0)) ∧ SQC W mp N D x true 0 ((A.setCell ⟨W.heap.size + 1, 0, none⟩ (.bool true)).setCell ⟨W.heap.size + 1 + 1, 0, none⟩ (.int .i64 0)) ∧ (∀ b, b < W.heap.size + 3 → ¬ (X b ∨ b = W5.heap.size ∨ b = W5.heap.size + 1)) ∧ WM.has (pre ++ [(y, d)]) x = true) :=
        ⟨((Keeps.refl _ A).setCell (p := ⟨W.heap.size + 1, 0, none⟩) (.inl (fun h => hX (W.heap.size + 1) (by omega) h)) _).setCell (p := ⟨W.heap.size + 1 + 1, 0, none⟩) (.inl (fun h => hX (W.heap.size + 1 + 1) (by omega) h)) _, hSQ.put hmp true 0, hX, by rw [WM.has_snoc]; simp [hyx]⟩
      clear hSQ hX hno hZ hA hXb hn0 hn1 hgo HZ hyx
      gi_wp2_with fail
      exact ⟨HE.out.1, rfl, HE.out.2⟩
    · have hyx' : ((y : Int) == (x : Int)) = false := by simp; omega
      have HE : Hid (SQC W mp N D x false 0 A ∧ (∀ b, b < W.heap.size + 3 → ¬ (X b ∨ b = W5.heap.size ∨ b = W5.heap.size + 1)) ∧ WM.has (pre ++ [(y, d)]) x = false) := ⟨hSQ, hX, by rw [WM.has_snoc, hno]; simp [hyx]⟩
      clear hSQ hX hno hZ hA hXb hn0 hn1 hgo HZ hyx c1 f1 c2 f2
      gi_wp2_with fail
      exact ⟨Keeps.refl _ _, HE.out⟩
  case done =>
    rintro L X A hgot ⟨hSQ, hX, hno⟩ hZ hK
    have HE : Hid (SQC W mp N D x false 0 ((A.setCell ⟨W.heap.size + 1, 0, none⟩ (.bool false)).setCell ⟨W.heap.size + 1 + 1, 0, none⟩ (.int .i64 0)) ∧ ((A.setCell ⟨W.heap.size + 1, 0, none⟩ (.bool false)).setCell ⟨W.heap.size + 1 + 1, 0, none⟩ (.int .i64 0)).heap[W5.heap.size]? = some (.deferred (some [])) ∧ W.heap.size + 3 ≤ W5.heap.size) := by
      have h1 := HZ.out.2.2.1
      have h2 := HZ.out.2.2.2
      refine ⟨hSQ.put hmp false 0, ?_, by omega⟩
      rw [Below.heap_setCell _ _ _ _ (by show W5.heap.size ≠ W.heap.size + 1 + 1; omega), Below.heap_setCell _ _ _ _ (by show W5.heap.size ≠ W.heap.size + 1; omega)]
      exact hK
    have HQ : Hid (∀ M, WM.Got N D u (WM.outOf (2 ^ v)) (DM.two (D u v) (D v x)) settles.toNat M → false = WM.has M x) := fun M hM => by
      rw [HO.out] at hgot
      rw [← hgot.one hM, hno]
    have c1 := hSQ.b1.cell
    have f1 := hSQ.b1.frozen
    have c2 := hSQ.b2.cell
    have f2 := hSQ.b2.frozen
    clear hgot hSQ hX hno hZ hK hgo HZ hmm
    go_wp2_with fail
    exact spared_out rfl rfl HE.out.1 HQ.out HE.out.2.1 HE.out.2.2
  case stop =>
    rintro cd pre X A ⟨rfl, hSQ, hX, hyes⟩ ⟨k, hm, T, F, hwd, hnt, htt, hsq, hlen, hF⟩ hK
    have HQ : ∀ M, WM.Got N D u (WM.outOf (2 ^ v)) (DM.two (D u v) (D v x)) settles.toNat M → true = WM.has M x := fun M hM => by
      rw [HO.out] at hsq
      rw [WM.has_pre (hsq.in_got hlen hM) hyes]
    have hE : W.heap.size + 3 ≤ W5.heap.size := by have h1 := HZ.out.2.2.1; have h2 := HZ.out.2.2.2; omega
    clear hgo HZ hwd hnt htt hsq hlen hF
    gi_wp2
    exact spared_out rfl rfl hSQ HQ hK hE
end Go.Proofs.YtkcfepppnclniaaGreatDoor
end

section
/-
  The program's Need.
-/
namespace Go.Proofs.YtkcfepppnclniaaGreatDoor
open Go.RowKit
set_option maxHeartbeats 400000 in
theorem ordVertex_any {w : World} {p N : Nat} {D : Nat → Nat → Int} (hg : XMem w p N D) (v : Int) :
    Calls Tryz.prog 45 #[.pointer (some ⟨p, 0, none⟩), .int .i64 v] w fun e w' => e = .returned (.bool (GM.vert N v)) ∧ w' = w := by
  have hv := xvertices_any hg
  clear hg
  by_cases h : 0 ≤ v
  · have e : GM.vert N v = decide (v < N) := by unfold GM.vert; simp [h]
    rw [e]
    clear e
    go_enter Tryz.func45, Tryz.ntmps45
    go_wp2_with fail
    refine hv.mono ?_
    rintro e w1 ⟨rfl, hw1⟩
    rw [hw1]
    clear hw1 w1 hv
    go_wp2_with fail
    go_ret
    exact ⟨rfl, rfl⟩
  · have e : GM.vert N v = false := by unfold GM.vert; simp [h]
    rw [e]
    clear e hv
    go_enter Tryz.func45, Tryz.ntmps45
    go_wp2_with fail
    go_ret
    exact ⟨rfl, rfl⟩
set_option maxHeartbeats 400000 in
theorem need_no : NeedNo := by
  intro w p N D hg hN v hv k
  have hvx := ordVertex_any hg v
  rw [hv] at hvx
  clear hg hv
  go_enter Tryz.func15, Tryz.ntmps15
  go_wp2_with fail
  refine hvx.mono ?_
  rintro e w1 ⟨rfl, hw1⟩
  rw [hw1]
  clear hw1 w1 hvx
  go_wp2_with fail
  go_ret2
  exact ⟨rfl, Below.refl _ _⟩
/-- Spared of a detour: as the document's. -/
theorem spares_any {w : World} {p N : Nat} {D : Nat → Nat → Int} (hg : XMem w p N D) (hm : XM.Mesh N D) (hN : N ≤ 24) (v : Nat) (hv : v < N) (k : Int) (d : XM.Det) (hd : d ∈ XM.dets N D (v : Int) N) :
    Calls Tryz.prog 47 #[.pointer (some ⟨p, 0, none⟩), .int .i64 (d.u : Nat), .int .i64 v, .int .i64 (d.w : Nat), .int .i64 k] w fun e w' => e = .returned (.tuple #[.bool (OM.spares N D d.u v d.w k.toNat), .int .i64 0]) ∧ Below w.heap.size w w' := by
  have hf := XM.dets_fit hm N (Nat.le_refl _) _ hd
  have he := XM.dets_ends hm N _ hd
  refine (spared_ok hg hm hN hf.1 hv hf.2.1 he.1 (fun h => he.2 h.symm) hf.2.2.1 k).mono ?_
  rintro e w' ⟨a, rfl, ha, hb⟩
  refine ⟨?_, hb⟩
  have hG := OM.got_spec N D d.u (fun y => decide (y = v)) (DM.two (D d.u v) (D v d.w)) k.toNat
  rw [← OM.outOf_fun (show v < 64 by omega)] at hG
  have := ha _ hG
  rw [this]
  unfold OM.spares
  rw [OM.outOf_fun (show v < 64 by omega)]
set_option maxHeartbeats 4000000 in
set_option maxRecDepth 100000 in
theorem need_ok : NeedIs := by
  intro w p N D hg hm hN v hv k
  have hdet := det_any hg hm hN v
  have hvx := ordVertex_any hg v
  rw [show GM.vert N (v : Int) = true from decide_eq_true (by omega)] at hvx
  have hll : (XM.dets N D v N).length ≤ 600 := by
    have h1 := XM.dets_len (N := N) (D := D) (v := v) N
    have h2 : N * N ≤ 24 * 24 := Nat.mul_le_mul hN hN
    omega
  have HSP : Hid (∀ W, Below w.heap.size w W → ∀ i (hi : i < (XM.dets N D v N).length), Calls Tryz.prog 47 #[.pointer (some ⟨p, 0, none⟩), .int .i64 ((XM.dets N D v N)[i].u : Nat), .int .i64 v, .int .i64 ((XM.dets N D v N)[i].w : Nat), .int .i64 k] W fun e w' => e = .returned (.tuple #[.bool (OM.spares N D (XM.dets N D v N)[i].u v (XM.dets N D v N)[i].w k.toNat), .int .i64 0]) ∧ Below W.heap.size W w') := fun W hW i hi =>
    spares_any (hg.on hW) hm hN v hv k _ (List.getElem_mem hi)
  have HZ : Hid (OM.needTo N D v k.toNat 0 = 0) := OM.needTo_zero N D v k.toNat
  have HA : Hid (OM.needTo N D v k.toNat (XM.dets N D v N).length = OM.need N D v k.toNat) := OM.needTo_all N D v k.toNat
  have HST : Hid (∀ j (hj : j < (XM.dets N D v N).length), OM.needTo N D v k.toNat (j + 1) = OM.needTo N D v k.toNat j + (if OM.spares N D ((XM.dets N D v N)[j]).u v ((XM.dets N D v N)[j]).w k.toNat = true then 0 else 1)) := fun j hj => OM.needTo_step N D v k.toNat j hj
  have HLE : Hid (∀ j, OM.needTo N D v k.toNat j ≤ j) := fun j => OM.needTo_le N D v k.toNat j
  clear hg hm
  generalize XM.dets N D v N = L at *
  generalize OM.need N D v k.toNat = R at *
  generalize hG : OM.needTo N D v k.toNat = G at *
  clear hG
  generalize hS : (fun u x => OM.spares N D u v x k.toNat) = S at *
  have HS : Hid (∀ u x, OM.spares N D u v x k.toNat = S u x) := fun u x => by rw [← hS]
  clear hS
  go_enter Tryz.func15, Tryz.ntmps15
  go_wp2_with fail
  refine hvx.mono ?_
  rintro e w0 ⟨rfl, hw0⟩
  rw [hw0]
  clear hw0 w0 hvx
  go_wp2_with fail
  refine hdet.mono ?_
  rintro e w1 ⟨r, rfl, ho, hb⟩
  obtain ⟨ao, cap, rfl, hcp, hcl⟩ := ho.at
  have HB : Hid (Below w.heap.size w w1) := hb
  obtain ⟨hcp1, hcp2⟩ := hcp
  have hLC : (L.length : Int) ≤ (cap : Int) := by omega
  have HCL : Hid (0 < L.length → ∃ b, ao = some ⟨b, 0, none⟩ ∧ b < w1.heap.size ∧ ∀ i, i < L.length → DetIn w1 b (i * 5) v (L[i]?.getD noDet)) := hcl
  clear hdet hb hcl ho hcp1 hcp2
  obtain ⟨C, hC⟩ : ∃ C, C = L.length := ⟨_, rfl⟩
  have HC : Hid (C = L.length) := hC
  rw [← hC] at hll hLC ⊢
  clear hC
  go_wp2_with fail
  go_loopw [8, 21] (fun nv iv wr => ∃ j : Nat, j ≤ C ∧ iv = .int .i64 j ∧ nv = .int .i64 (G j : Nat) ∧ Below w1.heap.size w1 wr) (fun _ iv _ => C - (intOf iv).toNat)
  case atStart => exact ⟨0, Nat.zero_le _, rfl, by rw [HZ.out]; rfl, Below.refl _ _⟩
  case round =>
    obtain ⟨j, hj, rfl, rfl, hbr⟩ := hrel
    have HBR : Hid (Below w1.heap.size w1 wr) := hbr
    have HGL : Hid (G j ≤ j) := HLE.out j
    by_cases hlt : j < C
    · have hjl : j < L.length := by rw [← HC.out]; exact hlt
      obtain ⟨b, rfl, hbl, hcc⟩ := HCL.out (by omega)
      have hci := hcc j hjl
      rw [List.getElem?_eq_getElem hjl, Option.getD_some] at hci
      have hst := HST.out j hjl
      have hsp := fun W hW => HSP.out W hW j hjl
      generalize L[j] = d at *
      obtain ⟨du, dw, dx⟩ := d
      dsimp only at hst hsp
      rw [HS.out] at hst
      have hsp2 : ∀ W, Below w.heap.size w W → Calls Tryz.prog 47 #[.pointer (some ⟨p, 0, none⟩), .int .i64 (du : Nat), .int .i64 v, .int .i64 (dw : Nat), .int .i64 k] W fun e w' => e = .returned (.tuple #[.bool (S du dw), .int .i64 0]) ∧ Below W.heap.size W w' := fun W hW => by
        have := hsp W hW
        rwa [HS.out] at this
      have HSPJ : Hid (∀ W, Below w.heap.size w W → Calls Tryz.prog 47 #[.pointer (some ⟨p, 0, none⟩), .int .i64 (du : Nat), .int .i64 v, .int .i64 (dw : Nat), .int .i64 k] W fun e w' => e = .returned (.tuple #[.bool (S du dw), .int .i64 0]) ∧ Below W.heap.size W w') := hsp2
      have HDI : Hid (DetIn wr b (j * 5) v ⟨du, dw, dx⟩) := hci.on hbr
      obtain ⟨c0, c1, c2, c3, c4⟩ := HDI.out
      dsimp only at c0 c1 c2 c3 c4
      have hBW1 : w.heap.size ≤ w1.heap.size := HB.out.size
      have HBW : Hid (Below w.heap.size w wr) := HB.out.trans (HBR.out.mono HB.out.size)
      have hBW2 : w1.heap.size ≤ wr.heap.size := HBR.out.size
      have k1 : (j : Int) < (C : Int) := by omega
      have k0 : (0 : Int) ≤ (j : Int) := by omega
      generalize hgj : G j = gj at *
      have hgl : gj ≤ j := HGL.out
      clear hcc hci hsp hsp2 hbr HCL HST HSP HA HLE hgj
      cases hs : S du dw with
      | true =>
        have HE : Hid (G (j + 1) = gj) := by rw [hst, hs]; rfl
        rw [hs] at HSPJ
        clear hst hs
        go_wp2_with fail
        refine (HSPJ.out _ (HBW.out.alloc HBW.out.size _)).mono ?_
        rintro e w4 ⟨rfl, hb4⟩
        have HB4 : Hid (Below w1.heap.size w1 w4) := (HBR.out.alloc HBR.out.size _).trans (hb4.mono (HBR.out.alloc HBR.out.size _).size)
        clear hb4 c0 c1 c2 c3 c4
        go_wp2_with fail
        go_roundw
        case rel => exact ⟨j + 1, by omega, by go_num, by rw [HE.out], HB4.out⟩
        case measure => simp [intOf]; omega
      | false =>
        have HE : Hid (G (j + 1) = gj + 1) := by rw [hst, hs]; rfl
        rw [hs] at HSPJ
        clear hst hs
        go_wp2_with fail
        refine (HSPJ.out _ (HBW.out.alloc HBW.out.size _)).mono ?_
        rintro e w4 ⟨rfl, hb4⟩
        have HB4 : Hid (Below w1.heap.size w1 w4) := (HBR.out.alloc HBR.out.size _).trans (hb4.mono (HBR.out.alloc HBR.out.size _).size)
        clear hb4 c0 c1 c2 c3 c4
        go_wp2_with fail
        go_roundw
        case rel => exact ⟨j + 1, by omega, by go_num, by rw [HE.out]; go_num, HB4.out⟩
        case measure => simp [intOf]; omega
    · obtain rfl : j = C := by omega
      have HE : Hid (G j = R) := by rw [HC.out]; exact HA.out
      clear hlt hbr
      go_wp2_with fail
      go_ret2
      exact ⟨by rw [HE.out]; rfl, HB.out.trans (HBR.out.mono HB.out.size)⟩
end Go.Proofs.YtkcfepppnclniaaGreatDoor
end

section
/-
  The set of the vertices at the other ends of a vertex's steps. Nothing of the program.
-/
namespace Go.Proofs.YtkcfepppnclniaaGreatDoor
namespace OM
/-- The set of the vertices of some steps. -/
def tips (l : List (Nat × Int)) : Nat := BM.setOf (l.map (fun x => (x.1 : Int)))
theorem tips_nil : tips [] = 0 := rfl
theorem tips_snoc (l : List (Nat × Int)) (x : Nat × Int) : tips (l ++ [x]) = tips l ||| BM.only (x.1 : Int) := by
  unfold tips
  rw [List.map_append, List.map_cons, List.map_nil, BM.setOf_snoc]
theorem tips_lt (l : List (Nat × Int)) : tips l < 18446744073709551616 := BM.setOf_lt _
/-- Which vertices are in it. -/
theorem tips_bit {N : Nat} {D : Nat → Nat → Int} {v : Int} {back : Bool} : ∀ (k : Nat) {i : Nat}, i < 64 → (tips (XM.steps N D v back k)).testBit i = (decide (i < k) && decide (XM.dirE N D v back (i : Nat) ≠ 4611686018427387906))
  | 0, i, _ => by
    show Nat.testBit 0 i = _
    simp
  | k + 1, i, hi => by
    have ih := tips_bit (N := N) (D := D) (v := v) (back := back) k hi
    by_cases h : XM.dirE N D v back (k : Nat) = 4611686018427387906
    · rw [XM.steps_skip h, ih]
      by_cases e : i = k
      · subst e
        simp [h]
      · have : decide (i < k + 1) = decide (i < k) := decide_eq_decide.2 (by omega)
        rw [this]
    · rw [XM.steps_take h, tips_snoc, BM.with_bit _ _ hi, ih]
      by_cases e : i = k
      · subst e
        simp [h]
      · have e1 : decide (i < k + 1) = decide (i < k) := decide_eq_decide.2 (by omega)
        have e2 : decide ((i : Int) = (k : Int)) = false := decide_eq_false (by omega)
        dsimp only
        rw [e1, e2, Bool.or_false]
/-- How many they are. -/
theorem tips_lst {N : Nat} {D : Nat → Nat → Int} {v : Int} {back : Bool} : ∀ (k : Nat), k ≤ 64 → (List.range k).filter (fun i => (tips (XM.steps N D v back N)).testBit i) = (List.range k).filter (fun i => decide (i < N) && decide (XM.dirE N D v back (i : Nat) ≠ 4611686018427387906)) := fun _ hk =>
  List.filter_congr fun _ hi => tips_bit N (Nat.lt_of_lt_of_le (List.mem_range.1 hi) hk)
theorem steps_filter {N : Nat} {D : Nat → Nat → Int} {v : Int} {back : Bool} : ∀ k, (XM.steps N D v back k).length = ((List.range k).filter (fun i => decide (XM.dirE N D v back (i : Nat) ≠ 4611686018427387906))).length
  | 0 => rfl
  | k + 1 => by
    have ih := steps_filter (N := N) (D := D) (v := v) (back := back) k
    rw [List.range_succ, List.filter_append, List.length_append, ← ih]
    by_cases h : XM.dirE N D v back (k : Nat) = 4611686018427387906
    · rw [XM.steps_skip h]; simp [h]
    · rw [XM.steps_take h]; simp [h]
theorem range_cut (q : Nat → Bool) (N : Nat) : ∀ k, N ≤ k → (List.range k).filter (fun i => decide (i < N) && q i) = (List.range N).filter q
  | 0, h => by
    obtain rfl : N = 0 := by omega
    rfl
  | k + 1, h => by
    by_cases e : N = k + 1
    · subst e
      exact List.filter_congr fun i hi => by simp [List.mem_range.1 hi]
    · rw [List.range_succ, List.filter_append, range_cut q N k (by omega)]
      have : decide (k < N) = false := decide_eq_false (by omega)
      simp [this]
theorem tips_len {N : Nat} {D : Nat → Nat → Int} {v : Int} {back : Bool} (hN : N ≤ 24) : (BM.lst (tips (XM.steps N D v back N))).length = (XM.steps N D v back N).length := by
  unfold BM.lst
  rw [tips_lst 64 (Nat.le_refl _), range_cut _ N 64 (by omega), steps_filter]
end OM
end Go.Proofs.YtkcfepppnclniaaGreatDoor
end
