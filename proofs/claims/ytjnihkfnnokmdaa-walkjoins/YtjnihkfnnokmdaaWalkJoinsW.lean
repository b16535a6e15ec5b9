/-
  The walk of the law WalkJoins.
-/
import Derived.Test.YtjnihkfnnokmdaaWalkLed
import Derived.Test.YtjnihkfnnokmdaaWalkLaw
namespace Go.Proofs.Ytjnihkfnnokmdaa
open Go.RowKit

set_option maxHeartbeats 4000000 in
set_option maxRecDepth 100000 in
theorem joins_walk (n : Int) (v : Value) (xs : List Chg) (f : Int) (va : Value) (ys : List Int) (vb : Value) (zs : List Int) (w : World) (hn0 : 0 ≤ n) (hn1 : n ≤ 255) (hch : Chgs w v xs) (hf0 : 0 ≤ f) (hf1 : f ≤ 255) (hra : Row .u8 w va ys) (hza : ∀ z ∈ ys, 0 ≤ z ∧ z ≤ 255) (hrb : Row .u8 w vb zs) (hzb : ∀ z ∈ zs, 0 ≤ z ∧ z ≤ 255) :
    Calls Try.prog 5 #[.int .u8 n, v, .int .u8 f, va, vb] w fun e w' => e = .returned (.bool true) ∧ Below w.heap.size w w' := by
  obtain ⟨i0, hi, hz0, hz1, hz2⟩ := info_parts info3
  have haw := awake_any w
  have HMD : Hid (∀ W, Below w.heap.size w W → Calls Try.prog 9 #[.int .u8 n, v] W fun e w' => ∃ p q, e = .returned (.tuple #[.pointer (some ⟨p, 0, none⟩), .pointer (some ⟨q, 0, none⟩)]) ∧ ∃ N, (1 ≤ N ∧ N ≤ 24) ∧ Both w' W.heap.size p q N 64 (GM.made N xs (min xs.length 150)) ∧ Below W.heap.size W w') := fun W hW => made_any n v xs W hn0 hn1 (hch.on hW)
  have HRA : Hid (∀ W, Below w.heap.size w W → Row .u8 W va ys) := fun W hW => hra.below hW
  have HRB : Hid (∀ W, Below w.heap.size w W → Row .u8 W vb zs) := fun W hW => hrb.below hW
  have HZA : Hid (∀ z ∈ ys, 0 ≤ z ∧ z ≤ 255) := hza
  have HZB : Hid (∀ z ∈ zs, 0 ≤ z ∧ z ≤ 255) := hzb
  have HIN : Hid (∀ N, WK.Inn N (GM.made N xs (min xs.length 150))) := fun N => WK.Inn.made N xs _
  obtain ⟨c, rfl⟩ : ∃ c : Nat, f = c := ⟨f.toNat, by omega⟩
  have hc255 : c < 256 := by omega
  clear hn0 hn1 hza hzb hf0 hf1
  obtain ⟨ao, cap, rfl, -, -⟩ := hch
  obtain ⟨aa, capa, rfl, hata⟩ := hra
  obtain ⟨ab, capb, rfl, hatb⟩ := hrb
  have hma : ys.length ≤ 9223372036854775807 := by have := hata.1; have := hata.2.1; unfold maxLen at this; omega
  have hmb : zs.length ≤ 9223372036854775807 := by have := hatb.1; have := hatb.2.1; unfold maxLen at this; omega
  clear hata hatb
  generalize xs.length = L at *
  obtain ⟨A, hA⟩ : ∃ A, A = ys.length := ⟨_, rfl⟩
  obtain ⟨B, hB⟩ : ∃ B, B = zs.length := ⟨_, rfl⟩
  have HA : Hid (A = ys.length) := hA
  have HB : Hid (B = zs.length) := hB
  rw [← hA] at hma HRA ⊢
  rw [← hB] at hmb HRB ⊢
  clear hA hB
  go_enter Try.func5, Try.ntmps5
  go_wp2_with fail
  refine haw.mono ?_
  rintro e w1 ⟨rfl, hb1⟩
  clear haw
  go_wp2_with fail
  refine (HMD.out w1 hb1).mono ?_
  rintro e w2 ⟨p, q, rfl, N, hN, ho2, hb2⟩
  have hb2' := below_on hb1 hb2
  have HIN2 : Hid (WK.Inn N (GM.made N xs (min L 150))) := HIN.out N
  generalize GM.made N xs (min L 150) = m at *
  clear HMD hb1 hb2 HIN
  by_cases ha : 100 < A
  · go_wp2_with fail
    go_ret
    exact ⟨rfl, hb2'⟩
  by_cases hb : 100 < B
  · go_wp2_with fail
    go_ret
    exact ⟨rfl, hb2'⟩
  have HG : Hid (∀ W, Below w2.heap.size w2 W → GMem W p N 64 m) := fun W hW => ho2.g.on hW
  have HR : Hid (∀ W, Below w2.heap.size w2 W → RMem W q N 64 m) := fun W hW => ho2.r.on hW
  have HC : Hid (∀ W, Below w2.heap.size w2 W → W.cell? ⟨q, 0, none⟩ = some (.int .i64 (N : Nat))) := fun W hW => (ho2.r.on hW).c0
  have hok := ho2.ok
  clear ho2
  have hrem : (c : Int).tmod (N : Int) = ((c % N : Nat) : Int) := rfl
  have hne : ¬ (N : Int) = 0 := by omega
  have hs : c % N < N := Nat.mod_lt _ (by omega)
  have hs64 : c % N < 256 := by omega
  generalize c % N = s at *
  have hu : GM.vert N (s : Int) = true := decide_eq_true (by omega)
  have HU : Hid (GM.vert N (s : Int) = true) := hu
  clear hu
  have hl1 := led_any (HR.out w2 (Below.refl _ _)) (s : Int) (HRA.out w2 hb2') HZA.out (by rw [← HA.out]; omega)
  rw [← HA.out] at hl1
  have cN := HC.out w2 (Below.refl _ _)
  go_wp2_with fail
  refine hl1.mono ?_
  rintro e w3 ⟨r3, ids, en, rfl, ho3, hn3, he3, hb3⟩
  have hb3' := below_on hb2' hb3
  have hl2 := led_any (HR.out w3 hb3) en (HRB.out w3 hb3') HZB.out (by rw [← HB.out]; omega)
  rw [← HB.out] at hl2
  have H3 : Hid (∀ W, Below w3.heap.size w3 W → Row .i64 W r3 ids) := fun W hW => (ho3.below hW).row
  have HE3 : Hid (WK.ends (s : Int) (WK.list m ids) = some en) := he3
  have HN3 : Hid (ids.length ≤ A) := hn3
  obtain ⟨a3, k3, rfl, -⟩ := ho3.at
  clear hl1 cN ho3 he3 hn3
  obtain ⟨I, hI⟩ : ∃ I, I = ids.length := ⟨_, rfl⟩
  have HI : Hid (I = ids.length) := hI
  rw [← hI] at H3 HN3 ⊢
  clear hI
  go_wp2_with fail
  refine hl2.mono ?_
  rintro e w4 ⟨r4, jds, fn, rfl, ho4, hn4, he4, hb4⟩
  have hb4' := below_on hb3' hb4
  have hb24 := below_on hb3 hb4
  have H4 : Hid (∀ W, Below w4.heap.size w4 W → Row .i64 W r4 jds) := fun W hW => (ho4.below hW).row
  have H3' : Hid (∀ W, Below w4.heap.size w4 W → Row .i64 W (.slice a3 I k3) ids) := fun W hW => H3.out W (below_on hb4 hW)
  have HE4 : Hid (WK.ends en (WK.list m jds) = some fn) := he4
  have HN4 : Hid (jds.length ≤ B) := hn4
  obtain ⟨a4, k4, rfl, -⟩ := ho4.at
  clear hl2 ho4 he4 hn4 hb3 hb3' hb4 H3
  obtain ⟨J, hJ⟩ : ∃ J, J = jds.length := ⟨_, rfl⟩
  have HJ : Hid (J = jds.length) := hJ
  rw [← hJ] at H4 HN4 ⊢
  clear hJ
  have hn3 := HN3.out
  have hn4 := HN4.out
  have hbn : Below w4.heap.size w4 (w4.alloc (.cells #[] 3)) := (Below.refl _ _).alloc (Nat.le_refl _) _
  have hat3 : RowAt .i64 (w4.alloc (.cells #[] 3)) a3 k3 ids := by
    obtain ⟨x1, x2, e, h⟩ := H3'.out _ hbn
    injection e with e1 e2 e3
    subst e1 e3
    exact h
  have H3A : Hid (RowAt .i64 (w4.alloc (.cells #[] 3)) a3 k3 ids) := hat3
  have HBN : Hid (Below w4.heap.size w4 (w4.alloc (.cells #[] 3))) := hbn
  clear hbn hat3
  go_wp2_with (at_builtin; refine wpList_append_row _ rfl _ _ 23 rfl .i64 w4.heap.size 3 i0 8 Try.underlying23 hi hz0 hz1 hz2 _ [] rfl (Own.lit .i64 3 w4 w4.heap.size (Nat.le_refl _) [] _ 0 rfl rfl (by decide)) a3 I k3 ids rfl HI.out H3A.out (by rw [← HI.out]; unfold maxLen; simp; omega) (by rw [← HI.out]; simp; omega) (by simp) ?_)
  intro v5 w5 hown5 hgrow5 _
  have hb5 : Below w4.heap.size w4 w5 := HBN.out.grown hgrow5 (by simp) (fun g hg => by cases hg; exact Nat.le_refl _)
  have HO5 : Hid (Own .i64 3 w5 w4.heap.size v5 ids) := by show Own _ _ _ _ _ _; simpa using hown5
  have hat4 : RowAt .i64 w5 a4 k4 jds := by
    obtain ⟨x1, x2, e, h⟩ := H4.out _ hb5
    injection e with e1 e2 e3
    subst e1 e3
    exact h
  have H4A : Hid (RowAt .i64 w5 a4 k4 jds) := hat4
  have HB5 : Hid (Below w4.heap.size w4 w5) := hb5
  clear hown5 hgrow5 hb5 hat4 H3A HBN
  go_wp2_with (at_builtin; refine wpList_append_row _ rfl _ _ 23 rfl .i64 w4.heap.size 3 i0 8 Try.underlying23 hi hz0 hz1 hz2 _ ids rfl HO5.out a4 J k4 jds rfl HJ.out H4A.out (by rw [← HI.out, ← HJ.out]; unfold maxLen; omega) (by rw [← HI.out, ← HJ.out]; omega) HB5.out.size ?_)
  intro v6 w6 hown6 hgrow6 _
  have hb6 : Below w4.heap.size w4 w6 := HB5.out.grown hgrow6 HB5.out.size (fun g hg => HO5.out.block g hg)
  have H6 : Hid (∀ W, Below w6.heap.size w6 W → Row .i64 W v6 (ids ++ jds)) := fun W hW => (hown6.below hW).row
  obtain ⟨a6, k6, rfl, -⟩ := hown6.at
  have H36 : Hid (∀ W, Below w6.heap.size w6 W → Row .i64 W (.slice a3 I k3) ids) := fun W hW => H3'.out W (below_on hb6 hW)
  have H46 : Hid (∀ W, Below w6.heap.size w6 W → Row .i64 W (.slice a4 J k4) jds) := fun W hW => H4.out W (below_on hb6 hW)
  have hb6' := below_on hb4' hb6
  have hb26 := below_on hb24 hb6
  clear hown6 hgrow6 hb6 HO5 H4A HB5 H3' H4 hb4' hb24
  obtain ⟨hj1, hj2⟩ := WK.joins HE3.out HE4.out
  have hve : GM.vert N en = true := HIN2.out.ends HU.out HE3.out
  have hvf : GM.vert N fn = true := HIN2.out.ends hve HE4.out
  have hk1 : WK.ccode N (s : Int) en (WK.list m ids) = 0 := WK.ccode_walk HU.out hve HE3.out
  have hk2 : WK.ccode N (s : Int) fn (WK.list m (ids ++ jds)) = 0 := WK.ccode_walk HU.out hvf hj1
  have HJ2 : Hid (WK.wsum (WK.list m (ids ++ jds)) = DM.two (WK.wsum (WK.list m ids)) (WK.wsum (WK.list m jds))) := hj2
  have HK2 : Hid (WK.ccode N (s : Int) fn (WK.list m (ids ++ jds)) = 0) := hk2
  clear hj1 hj2 hve hvf HE3 HE4 HIN2 hk2
  have hc1 := check_any (HG.out w6 hb26) hok (s : Int) en (H36.out w6 (Below.refl _ _))
  rw [hk1] at hc1
  clear hk1
  have cN := HC.out w6 hb26
  generalize (ids ++ jds).length = IJ at *
  go_wp2_with fail
  refine hc1.mono ?_
  rintro e w7 ⟨rfl, hb7⟩
  have hb7' := below_on hb6' hb7
  have hb27 := below_on hb26 hb7
  have hc2 := check_any (HG.out w7 hb27) hok (s : Int) fn (H6.out w7 hb7)
  rw [HK2.out] at hc2
  clear hc1 cN HK2
  have cN := HC.out w7 hb27
  go_wp2_with fail
  refine hc2.mono ?_
  rintro e w8 ⟨rfl, hb8⟩
  have hb8' := below_on hb7' hb8
  have hb28 := below_on hb27 hb8
  have hb68 := below_on hb7 hb8
  have hc3 := sum_any (HG.out w8 hb28) hok (H6.out w8 hb68)
  clear hc2 cN hb7 hb8 hb27 hb7'
  rw [HJ2.out] at hc3
  have HS1 : Hid (∀ W, Below w6.heap.size w6 W → Below w2.heap.size w2 W → Calls Try.prog 12 #[.pointer (some ⟨p, 0, none⟩), .slice a3 I k3] W fun e w' => e = .returned (.int .i64 (WK.wsum (WK.list m ids))) ∧ Below W.heap.size W w') := fun W h6 h2 => sum_any (HG.out W h2) hok (H36.out W h6)
  have HS2 : Hid (∀ W, Below w6.heap.size w6 W → Below w2.heap.size w2 W → Calls Try.prog 12 #[.pointer (some ⟨p, 0, none⟩), .slice a4 J k4] W fun e w' => e = .returned (.int .i64 (WK.wsum (WK.list m jds))) ∧ Below W.heap.size W w') := fun W h6 h2 => sum_any (HG.out W h2) hok (H46.out W h6)
  clear HJ2 H36 H46 H6
  generalize WK.wsum (WK.list m ids) = S1 at *
  generalize WK.wsum (WK.list m jds) = S2 at *
  go_wp2_with fail
  refine hc3.mono ?_
  rintro e w9 ⟨rfl, hb9⟩
  have hb9' := below_on hb8' hb9
  have hb29 := below_on hb28 hb9
  have hb69 := below_on hb68 hb9
  clear hc3 hb9 hb8' hb28 hb68
  go_wp2_with fail
  refine (HS1.out w9 hb69 hb29).mono ?_
  rintro e w10 ⟨rfl, hb10⟩
  have hb10' := below_on hb9' hb10
  have hb210 := below_on hb29 hb10
  have hb610 := below_on hb69 hb10
  clear HS1 hb10 hb9' hb29 hb69
  go_wp2_with fail
  refine (HS2.out w10 hb610 hb210).mono ?_
  rintro e w11 ⟨rfl, hb11⟩
  have hb11' := below_on hb10' hb11
  clear HS2 hb11 hb10' hb210 hb610
  go_wp2_with fail
  refine (two_any S1 S2 w11).mono ?_
  rintro e w12 ⟨rfl, rfl⟩
  go_wp2_with fail
  go_ret
  exact ⟨rfl, hb11'⟩
end Go.Proofs.Ytjnihkfnnokmdaa
