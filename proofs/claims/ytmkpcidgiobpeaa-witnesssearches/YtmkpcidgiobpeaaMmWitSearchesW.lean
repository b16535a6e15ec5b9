/-
  The walk of the law WitnessSearches.
-/
import Derived.Test.YtmkpcidgiobpeaaMmWitAwake
import Derived.Test.YtmkpcidgiobpeaaMmMeshMade
import Derived.Test.YtmkpcidgiobpeaaMmWitSame
import Derived.Test.YtmkpcidgiobpeaaMmWitSearch
namespace Go.Proofs.Ytmkpcidgiobpeaa
open Go.RowKit

set_option maxHeartbeats 2000000 in
set_option maxRecDepth 100000 in
theorem searches_walk (n : Int) (v : Value) (xs : List Stp) (fr o mo k : Int) (w : World) (hn0 : 0 ≤ n) (hn1 : n ≤ 255) (hch : Stps w v xs) (ho0 : 0 ≤ o) (ho1 : o ≤ 18446744073709551615) :
    Calls Try.prog 3 #[.int .u8 n, v, .int .i64 fr, .int .u64 o, .int .i64 mo, .int .i64 k] w fun e w' => e = .returned (.bool true) ∧ Below w.heap.size w w' := by
  have haw := awake13_any w
  have HMD : Hid (∀ W, Below w.heap.size w W → Calls Try.prog 9 #[.int .u8 n, v] W fun e w' => ∃ p q, e = .returned (.tuple #[.pointer (some ⟨p, 0, none⟩), .pointer (some ⟨q, 0, none⟩)]) ∧ ∃ N, (1 ≤ N ∧ N ≤ 24) ∧ St W W.heap.size p q N (XM.made N xs (min xs.length 400)) (XM.made N xs (min xs.length 400)) w') := fun W hW => madeX_any n v xs W hn0 hn1 (hch.on hW)
  have HMM : Hid (∀ N, XM.Mesh N (XM.made N xs (min xs.length 400))) := fun N => XM.made_mesh N xs _
  obtain ⟨O, rfl⟩ : ∃ O : Nat, o = O := ⟨o.toNat, by omega⟩
  have hO : O < 18446744073709551616 := by omega
  clear hn0 hn1 ho0 ho1
  obtain ⟨ao, cap, rfl, -, -⟩ := hch
  generalize xs.length = L at *
  go_enter Try.func3, Try.ntmps3
  go_wp2_with fail
  refine haw.mono ?_
  rintro e w1 ⟨rfl, hb1⟩
  clear haw
  go_wp2_with fail
  refine (HMD.out w1 hb1).mono ?_
  rintro e w2 ⟨p, q, rfl, N, ⟨hN1, hN2⟩, hS2⟩
  have hMD := HMM.out N
  generalize XM.made N xs (min L 400) = D at *
  have HW2 : Hid (Below w.heap.size w w2) := hb1.trans (hS2.bel.mono hb1.size)
  have HS2 : Hid (St w1 w1.heap.size p q N D D w2 ∧ XM.Mesh N D ∧ N ≤ 24) := ⟨hS2, hMD, hN2⟩
  have HVR : Hid (∀ W, Below w2.heap.size w2 W → Calls Try.prog 11 #[.pointer (some ⟨q, 0, none⟩), .int .i64 fr] W fun e w' => e = .returned (.bool (GM.vert N fr)) ∧ w' = W) := fun W hW => xvertex_any (hS2.xq.on hW) fr
  have HHR : Hid (∀ W, Calls Try.prog 12 #[.int .u64 (O : Nat), .int .i64 fr] W fun e w' => e = .returned (.bool (BM.has O fr)) ∧ w' = W) := fun W => rhas3_any O fr hO W
  clear HMD HMM hb1 hS2 hMD hN1 hN2
  cases hv : GM.vert N fr with
  | false =>
    have hf := find_no HS2.out.1.xp hO fr (.inl hv) mo k
    rw [hv] at HVR
    clear HHR hv HS2 hO
    go_wp2_with fail
    refine hf.mono ?_
    rintro e w3 ⟨rfl, hb3⟩
    obtain ⟨W4, hW4⟩ : ∃ W4, W4 = w3.alloc (.cells #[.slice none 0 0, .slice none 0 0, .int .u64 0] 32) := ⟨_, rfl⟩
    have HB4 : Hid (Below w2.heap.size w2 W4) := by rw [hW4]; exact hb3.alloc hb3.size _
    have c0 : W4.cell? ⟨w3.heap.size, 0, none⟩ = some (.slice none 0 0) := by rw [hW4]; simp
    have c1 : W4.cell? ⟨w3.heap.size, 1, none⟩ = some (.slice none 0 0) := by rw [hW4]; simp
    have c2 : W4.cell? ⟨w3.heap.size, 2, none⟩ = some (.int .u64 0) := by rw [hW4]; simp
    clear hf hb3
    go_upto_region 7 with fail
    rw [← hW4]
    clear hW4
    generalize w3.heap.size = f at *
    go_wp2_with fail
    refine (HVR.out W4 HB4.out).mono ?_
    rintro e w5 ⟨rfl, hw5⟩
    rw [hw5]
    clear hw5 w5 HVR
    go_wp2_with fail
    go_ret
    exact ⟨rfl, below_on HW2.out HB4.out⟩
  | true =>
  cases hh : BM.has O fr with
  | true =>
    have hf := find_no HS2.out.1.xp hO fr (.inr hh) mo k
    rw [hv] at HVR
    rw [hh] at HHR
    clear hv hh HS2 hO
    go_wp2_with fail
    refine hf.mono ?_
    rintro e w3 ⟨rfl, hb3⟩
    obtain ⟨W4, hW4⟩ : ∃ W4, W4 = w3.alloc (.cells #[.slice none 0 0, .slice none 0 0, .int .u64 0] 32) := ⟨_, rfl⟩
    have HB4 : Hid (Below w2.heap.size w2 W4) := by rw [hW4]; exact hb3.alloc hb3.size _
    have c0 : W4.cell? ⟨w3.heap.size, 0, none⟩ = some (.slice none 0 0) := by rw [hW4]; simp
    have c1 : W4.cell? ⟨w3.heap.size, 1, none⟩ = some (.slice none 0 0) := by rw [hW4]; simp
    have c2 : W4.cell? ⟨w3.heap.size, 2, none⟩ = some (.int .u64 0) := by rw [hW4]; simp
    clear hf hb3
    go_upto_region 7 with fail
    rw [← hW4]
    clear hW4
    generalize w3.heap.size = f at *
    go_wp2_with fail
    refine (HVR.out W4 HB4.out).mono ?_
    rintro e w5 ⟨rfl, hw5⟩
    rw [hw5]
    clear hw5 w5 HVR
    go_wp2_with fail
    refine (HHR.out W4).mono ?_
    rintro e w5 ⟨rfl, hw5⟩
    rw [hw5]
    clear hw5 w5 HHR
    go_wp2_with fail
    go_ret
    exact ⟨rfl, below_on HW2.out HB4.out⟩
  | false =>
    obtain ⟨s, rfl, hs⟩ := XM.vert_nat hv
    have hf := find_ok HS2.out.1.xp HS2.out.2.1 HS2.out.2.2 hs hO hh mo k
    have HRS : Hid (∀ W, Below w2.heap.size w2 W → Calls Try.prog 14 #[.pointer (some ⟨q, 0, none⟩), .int .i64 (s : Nat), .int .u64 (O : Nat), .int .i64 mo, .int .i64 k] W fun e w' => ∃ a1 n1 c1 a2 n2 c2 g, e = .returned (.agg #[.slice a1 n1 c1, .slice a2 n2 c2, .slice (some ⟨g, 0, none⟩) N N]) ∧ ∃ L bs, WM.Got N D s (WM.outOf O) (DM.norm mo) k.toNat L ∧ Row .i64 w' (.slice a1 n1 c1) (WM.vsL L) ∧ Row .i64 w' (.slice a2 n2 c2) (WM.dsL L) ∧ w'.ownsRow W.heap.size 4 1 (.slice (some ⟨g, 0, none⟩) N N) N ((bs : List Bool).map Value.bool) ∧ (∀ v : Nat, v < N → (bs[v]?.getD false = true ↔ WM.Tch N D (WM.outOf O) L v)) ∧ Below W.heap.size W w') := fun W hW => by
      refine (rsearch_any (HS2.out.1.xq.on hW) HS2.out.2.1 HS2.out.2.2 s O hs hO hh mo k).mono ?_
      rintro e w' ⟨sv, dv, tv, L, bs, rfl, h1, h2, h3, ⟨g, rfl, h4⟩, h5, h6⟩
      obtain ⟨a1, n1, c1, rfl⟩ : ∃ a n c, sv = .slice a n c := by obtain ⟨a, c, e, -⟩ := h2; exact ⟨_, _, _, e⟩
      obtain ⟨a2, n2, c2, rfl⟩ : ∃ a n c, dv = .slice a n c := by obtain ⟨a, c, e, -⟩ := h3; exact ⟨_, _, _, e⟩
      exact ⟨_, _, _, _, _, _, g, rfl, L, bs, h1, h2, h3, h4, h5, h6⟩
    rw [hv] at HVR
    rw [hh] at HHR
    have HN24 : Hid (N ≤ 24) := HS2.out.2.2
    clear hv hh HS2 hO hs
    go_wp2_with fail
    refine hf.mono ?_
    rintro e w3 ⟨sv, dv, T, rfl, M, hG, hT, hsv, hdv, hb3⟩
    obtain ⟨a1, n1, k1, rfl⟩ : ∃ a n c, sv = .slice a n c := by obtain ⟨a, c, e, -⟩ := hsv.row; exact ⟨_, _, _, e⟩
    obtain ⟨a2, n2, k2, rfl⟩ : ∃ a n c, dv = .slice a n c := by obtain ⟨a, c, e, -⟩ := hdv.row; exact ⟨_, _, _, e⟩
    obtain ⟨W4, hW4⟩ : ∃ W4, W4 = w3.alloc (.cells #[.slice a1 n1 k1, .slice a2 n2 k2, .int .u64 (T : Nat)] 32) := ⟨_, rfl⟩
    have hb4 : Below w3.heap.size w3 W4 := by rw [hW4]; exact (Below.refl _ _).alloc (Nat.le_refl _) _
    have c0 : W4.cell? ⟨w3.heap.size, 0, none⟩ = some (.slice a1 n1 k1) := by rw [hW4]; simp
    have c1 : W4.cell? ⟨w3.heap.size, 1, none⟩ = some (.slice a2 n2 k2) := by rw [hW4]; simp
    have c2 : W4.cell? ⟨w3.heap.size, 2, none⟩ = some (.int .u64 (T : Nat)) := by rw [hW4]; simp
    have HC : Hid (∀ A, Below W4.heap.size W4 A → A.cell? ⟨w3.heap.size, 0, none⟩ = some (.slice a1 n1 k1) ∧ A.cell? ⟨w3.heap.size, 1, none⟩ = some (.slice a2 n2 k2) ∧ A.cell? ⟨w3.heap.size, 2, none⟩ = some (.int .u64 (T : Nat))) := fun A hA => ⟨(hA.cell (p := ⟨w3.heap.size, 0, none⟩) (cell_lt c0)).trans c0, (hA.cell (p := ⟨w3.heap.size, 1, none⟩) (cell_lt c1)).trans c1, (hA.cell (p := ⟨w3.heap.size, 2, none⟩) (cell_lt c2)).trans c2⟩
    have H4 : Hid (Below w2.heap.size w2 W4 ∧ WM.Got N D s (WM.outOf O) (DM.norm mo) k.toNat M ∧ WM.TT N D (WM.outOf O) M T ∧ Row .i64 W4 (.slice a1 n1 k1) (WM.vsL M) ∧ Row .i64 W4 (.slice a2 n2 k2) (WM.dsL M)) := ⟨below_on hb3 hb4, hG, hT, hsv.row.below hb4, hdv.row.below hb4⟩
    clear hf hb3 hb4 hsv hdv hG hT
    go_upto_region 7 with fail
    rw [← hW4]
    clear hW4
    generalize w3.heap.size = f at *
    go_wp2_with fail
    refine (HVR.out W4 H4.out.1).mono ?_
    rintro e w5 ⟨rfl, hw5⟩
    rw [hw5]
    clear hw5 w5 HVR
    go_wp2_with fail
    refine (HHR.out W4).mono ?_
    rintro e w5 ⟨rfl, hw5⟩
    rw [hw5]
    clear hw5 w5 HHR
    have HSM : Hid (∀ (w6 : World) (b1 b2 : Option Addr) (m1 l1 m2 l2 g : Nat), Below W4.heap.size W4 w6 → (∃ L bs, WM.Got N D s (WM.outOf O) (DM.norm mo) k.toNat L ∧ Row .i64 w6 (.slice b1 m1 l1) (WM.vsL L) ∧ Row .i64 w6 (.slice b2 m2 l2) (WM.dsL L) ∧ w6.ownsRow W4.heap.size 4 1 (.slice (some ⟨g, 0, none⟩) N N) N ((bs : List Bool).map Value.bool) ∧ (∀ v : Nat, v < N → (bs[v]?.getD false = true ↔ WM.Tch N D (WM.outOf O) L v))) →
        Calls Try.prog 13 #[.agg #[.slice a1 n1 k1, .slice a2 n2 k2, .int .u64 (T : Nat)], .agg #[.slice b1 m1 l1, .slice b2 m2 l2, .slice (some ⟨g, 0, none⟩) N N]] w6 fun e w' => e = .returned (.bool true) ∧ Below w6.heap.size w6 w') := by
      rintro w6 b1 b2 m1 l1 m2 l2 g hb6 ⟨L2, bs, q1, q2, q3, q4, q5⟩
      obtain ⟨-, h1, h2, h3, h4⟩ := H4.out
      have e := q1.one h1
      subst e
      have hbl : bs.length = N := by have := q4.1; simpa using this
      refine same13_any (h3.below hb6) (h4.below hb6) q2 q3 q4 hbl HN24.out h2.1 (fun v hv => ?_)
      rw [Bool.eq_iff_iff, h2.2 v, q5 v hv]
    go_upto_region 9 with fail
    obtain ⟨c0d, c1d, c2d⟩ := HC.out W4.drew (Below.refl _ W4).drew
    go_region_held3 (fun W => W.cell? ⟨f, 0, none⟩ = some (.slice a1 n1 k1) ∧ W.cell? ⟨f, 1, none⟩ = some (.slice a2 n2 k2) ∧ W.cell? ⟨f, 2, none⟩ = some (.int .u64 (T : Nat))) (first | exact HC.out _ H7.out | exact HC.out _ H6.out.1 | go_keep) (first
      | (go_at_call 13; refine (HSM.out _ _ _ _ _ _ _ _ H6.out.1 H6.out.2).mono ?_; rintro e w7 ⟨rfl, hb7⟩; have H7 : Hid (Below W4.heap.size W4 w7) := below_on H6.out.1 hb7; clear hb7)
      | (go_at_call 14; refine (HRS.out _ H4.out.1.drew).mono ?_; rintro e w6 ⟨b1, m1, l1, b2, m2, l2, g, rfl, L2, bs, q1, q2, q3, q4, q5, q6⟩; have H6 : Hid (Below W4.heap.size W4 w6 ∧ (∃ L bs, WM.Got N D s (WM.outOf O) (DM.norm mo) k.toNat L ∧ Row .i64 w6 (.slice b1 m1 l1) (WM.vsL L) ∧ Row .i64 w6 (.slice b2 m2 l2) (WM.dsL L) ∧ w6.ownsRow W4.heap.size 4 1 (.slice (some ⟨g, 0, none⟩) N N) N ((bs : List Bool).map Value.bool) ∧ (∀ v : Nat, v < N → (bs[v]?.getD false = true ↔ WM.Tch N D (WM.outOf O) L v)))) := ⟨below_of_drew q6, L2, bs, q1, q2, q3, q4, q5⟩; clear q1 q2 q3 q4 q5 q6; obtain ⟨g61, g62, g63⟩ := HC.out _ H6.out.1))
    all_goals (go_wp2_with fail; go_ret)
    all_goals exact ⟨rfl, below_on HW2.out (below_on H4.out.1 H7.out)⟩
end Go.Proofs.Ytmkpcidgiobpeaa
