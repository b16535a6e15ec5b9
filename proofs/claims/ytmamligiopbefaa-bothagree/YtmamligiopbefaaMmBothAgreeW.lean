/-
  The walk of the law BothAgree.
-/
import Derived.Test.YtmamligiopbefaaMmBothPath
import Derived.Test.YtmamligiopbefaaMmPaths
namespace Go.Proofs.Ytmamligiopbefaa
open Go.RowKit

set_option maxHeartbeats 1000000 in
set_option maxRecDepth 100000 in
theorem agree_walk (n : Int) (v : Value) (xs : List Chg) (s t : Int) (w : World) (hn0 : 0 ≤ n) (hn1 : n ≤ 255) (hch : Chgs w v xs) :
    Calls Try.prog 5 #[.int .u8 n, v, .int .i64 s, .int .i64 t] w fun e w' => e = .returned (.bool true) ∧ Below w.heap.size w w' := by
  have haw := awake11_any w
  have HMD : Hid (∀ W, Below w.heap.size w W → Calls Try.prog 7 #[.int .u8 n, v] W fun e w' => ∃ p q, e = .returned (.tuple #[.pointer (some ⟨p, 0, none⟩), .pointer (some ⟨q, 0, none⟩)]) ∧ ∃ N, (1 ≤ N ∧ N ≤ 24) ∧ Both w' W.heap.size p q N 64 (GM.made N xs (min xs.length 150)) ∧ Below W.heap.size W w') := fun W hW => made_any n v xs W hn0 hn1 (hch.on hW)
  have HIN : Hid (∀ N, WK.Inn N (GM.made N xs (min xs.length 150))) := fun N => WK.Inn.made N xs _
  clear hn0 hn1
  obtain ⟨ao, cap, rfl, -, -⟩ := hch
  generalize xs.length = L at *
  go_enter Try.func5, Try.ntmps5
  go_wp2_with fail
  refine haw.mono ?_
  rintro e w1 ⟨rfl, hb1⟩
  clear haw
  go_wp2_with fail
  refine (HMD.out w1 hb1).mono ?_
  rintro e w2 ⟨p, q, rfl, N, hN, ho2, hb2⟩
  have B2 : Hid (Below w.heap.size w w2) := below_on hb1 hb2
  have HIN2 : Hid (WK.Inn N (GM.made N xs (min L 150))) := HIN.out N
  generalize GM.made N xs (min L 150) = m at *
  clear HMD hb1 hb2 HIN
  have hok := ho2.ok
  by_cases hv : GM.vert N s = true ∧ GM.vert N t = true
  case neg =>
    have h3 := bpath_no ho2.g s t hv
    have HNO : Hid (∀ W, Below w2.heap.size w2 W → Calls Try.prog 9 #[.pointer (some ⟨p, 0, none⟩), .int .i64 s, .int .i64 t] W fun e w' => e = .returned (.tuple #[.int .i64 0, .int .i64 1]) ∧ w' = W) := fun W hW => bdist_no (ho2.on hW).g s t hv
    cases h1 : GM.vert N s with
    | false =>
      have h4 := path_noS ho2.g s t h1
      have h5 := HNO.out w2 (Below.refl _ _)
      have h6 := from_no ho2.g s h1
      have v1 := vertex_any ho2.r s
      rw [h1] at v1
      clear ho2 hok HIN2 hv h1 HNO
      go_wp2_with fail
      refine h3.mono ?_
      rintro e w3 ⟨rfl, hw3⟩
      rw [hw3]
      clear h3 hw3 w3
      go_wp2_with fail
      refine h4.mono ?_
      rintro e w3 ⟨rfl, hw3⟩
      rw [hw3]
      clear h4 hw3 w3
      go_wp2_with fail
      refine h5.mono ?_
      rintro e w3 ⟨rfl, hw3⟩
      rw [hw3]
      clear h5 hw3 w3
      go_wp2_with fail
      refine h6.mono ?_
      rintro e w3 ⟨rfl, hw3⟩
      rw [hw3]
      clear h6 hw3 w3
      go_wp2_with fail
      refine v1.mono ?_
      rintro e w3 ⟨rfl, hw3⟩
      rw [hw3]
      clear v1 hw3 w3
      go_wp2_with fail
      go_ret
      exact ⟨rfl, B2.out⟩
    | true =>
      have h2 : GM.vert N t = false := by
        cases e : GM.vert N t with
        | false => rfl
        | true => exact absurd ⟨h1, e⟩ hv
      have hsb := of_decide_eq_true h1
      obtain ⟨a, rfl⟩ : ∃ a : Nat, s = a := ⟨s.toNat, by omega⟩
      have haN : a < N := by omega
      have h4 := path_noT ho2.g hok hN.2 HIN2.out a haN t h2
      have HFR : Hid (∀ W, Below w2.heap.size w2 W → Calls Try.prog 15 #[.pointer (some ⟨p, 0, none⟩), .int .i64 a] W fun e w' => ∃ fb, e = .returned (.tuple #[.slice (some ⟨fb, 0, none⟩) N N, .int .i64 0]) ∧ Below W.heap.size W w') := fun W hW => by
        refine (from_any (ho2.on hW).g hok hN.2 HIN2.out a haN).mono ?_
        rintro e w' ⟨fb, rfl, -, hb⟩
        exact ⟨fb, rfl, hb⟩
      have HV : Hid (∀ W, Below w2.heap.size w2 W → Calls Try.prog 11 #[.pointer (some ⟨q, 0, none⟩), .int .i64 a] W (fun e w' => e = .returned (.bool true) ∧ w' = W) ∧ Calls Try.prog 11 #[.pointer (some ⟨q, 0, none⟩), .int .i64 t] W (fun e w' => e = .returned (.bool false) ∧ w' = W)) := fun W hW => by
        have r1 := vertex_any (ho2.on hW).r (a : Int)
        have r2 := vertex_any (ho2.on hW).r t
        rw [h1] at r1
        rw [h2] at r2
        exact ⟨r1, r2⟩
      clear ho2 hok HIN2 hv h1 h2 hsb haN
      go_wp2_with fail
      refine h3.mono ?_
      rintro e w3 ⟨rfl, hw3⟩
      rw [hw3]
      clear h3 hw3 w3
      go_wp2_with fail
      refine h4.mono ?_
      rintro e w4 ⟨rfl, b4⟩
      have B4 : Hid (Below w2.heap.size w2 w4) := b4
      have h5 := HNO.out w4 b4
      have h6 := HFR.out w4 b4
      clear h4 b4 HNO HFR
      go_wp2_with fail
      refine h5.mono ?_
      rintro e w3 ⟨rfl, hw3⟩
      rw [hw3]
      clear h5 hw3 w3
      go_wp2_with fail
      refine h6.mono ?_
      rintro e w5 ⟨fb, rfl, b5⟩
      have B5 : Hid (Below w2.heap.size w2 w5) := below_on B4.out b5
      obtain ⟨v1, v2⟩ := HV.out w5 B5.out
      clear h6 b5 HV B4
      go_wp2_with fail
      refine v1.mono ?_
      rintro e w3 ⟨rfl, hw3⟩
      rw [hw3]
      clear v1 hw3 w3
      go_wp2_with fail
      refine v2.mono ?_
      rintro e w3 ⟨rfl, hw3⟩
      rw [hw3]
      clear v2 hw3 w3
      go_wp2_with fail
      go_ret
      exact ⟨rfl, below_on B2.out B5.out⟩
  obtain ⟨hs, ht⟩ := hv
  have hsb := of_decide_eq_true hs
  have htb := of_decide_eq_true ht
  obtain ⟨a, rfl⟩ : ∃ a : Nat, s = a := ⟨s.toNat, by omega⟩
  obtain ⟨b, rfl⟩ : ∃ b : Nat, t = b := ⟨t.toNat, by omega⟩
  have haN : a < N := by omega
  have hbN : b < N := by omega
  have hb1 : (b : Int) < (N : Int) := by omega
  have hb0 : (0 : Int) ≤ (b : Int) := by omega
  have h3 : Calls Try.prog 10 #[.pointer (some ⟨p, 0, none⟩), .int .i64 a, .int .i64 b] w2 fun e w' => ∃ r d c, e = .returned (.tuple #[r, .int .i64 d, .int .i64 c]) ∧ Below w2.heap.size w2 w' ∧ ((NM.dist m a b = 4611686018427387906 ∧ d = 0 ∧ c = 3) ∨ (NM.dist m a b = 4611686018427387905 ∧ d = 0 ∧ c = 9) ∨ (NM.dist m a b ≤ 4611686018427387904 ∧ d = NM.dist m a b ∧ c = 0)) := by
    refine (bpath_any ho2.g hok hN.2 HIN2.out a b haN hbN).mono ?_
    rintro e w' ⟨r, d, c, rfl, hb, h⟩
    refine ⟨r, d, c, rfl, hb, ?_⟩
    rcases h with ⟨q1, -, q2, q3⟩ | ⟨q1, -, q2, q3⟩ | ⟨q1, -, q2, q3⟩
    · exact .inl ⟨q1, q2, q3⟩
    · exact .inr (.inl ⟨q1, q2, q3⟩)
    · exact .inr (.inr ⟨q1, q2, q3⟩)
  have HNP : Hid (∀ W, Below w2.heap.size w2 W → Calls Try.prog 14 #[.pointer (some ⟨p, 0, none⟩), .int .i64 a, .int .i64 b] W fun e w' => ∃ r d c, e = .returned (.tuple #[r, .int .i64 d, .int .i64 c]) ∧ Below W.heap.size W w' ∧ ((NM.dist m a b = 4611686018427387906 ∧ d = 0 ∧ c = 3) ∨ (NM.dist m a b = 4611686018427387905 ∧ d = 0 ∧ c = 9) ∨ (NM.dist m a b ≤ 4611686018427387904 ∧ d = NM.dist m a b ∧ c = 0))) := fun W hW => by
    refine (path_any (ho2.on hW).g hok hN.2 HIN2.out a b haN hbN).mono ?_
    rintro e w' ⟨r, d, c, rfl, hb, h⟩
    refine ⟨r, d, c, rfl, hb, ?_⟩
    rcases h with ⟨q1, -, q2, q3⟩ | ⟨q1, -, q2, q3⟩ | ⟨q1, -, q2, q3⟩
    · exact .inl ⟨q1, q2, q3⟩
    · exact .inr (.inl ⟨q1, q2, q3⟩)
    · exact .inr (.inr ⟨q1, q2, q3⟩)
  have HD : Hid (∀ W, Below w2.heap.size w2 W → Calls Try.prog 9 #[.pointer (some ⟨p, 0, none⟩), .int .i64 a, .int .i64 b] W fun e w' => e = .returned (.tuple #[.int .i64 (NM.dist m a b), .int .i64 0]) ∧ Below W.heap.size W w') := fun W hW => bdist_any (ho2.on hW).g hok hN.2 HIN2.out a b haN hbN
  have HFR : Hid (∀ W, Below w2.heap.size w2 W → Calls Try.prog 15 #[.pointer (some ⟨p, 0, none⟩), .int .i64 a] W fun e w' => ∃ fb, e = .returned (.tuple #[.slice (some ⟨fb, 0, none⟩) N N, .int .i64 0]) ∧ w'.cell? ⟨fb, b, none⟩ = some (.int .i64 (NM.dist m a b)) ∧ Below W.heap.size W w') := fun W hW => by
    refine (from_any (ho2.on hW).g hok hN.2 HIN2.out a haN).mono ?_
    rintro e w' ⟨fb, rfl, ho, hb⟩
    have := (ho.cell (NM.rowFrom_len m N a).symm b hbN).1
    rw [NM.rowFrom_at m a hbN] at this
    exact ⟨fb, rfl, this, hb⟩
  clear ho2 hok HIN2 hs ht hsb htb haN hbN
  go_wp2_with fail
  refine h3.mono ?_
  rintro e w3 ⟨r1, d1, c1, rfl, b3, hc1⟩
  have B3 : Hid (Below w2.heap.size w2 w3) := b3
  have HC1 : Hid ((NM.dist m a b = 4611686018427387906 ∧ d1 = 0 ∧ c1 = 3) ∨ (NM.dist m a b = 4611686018427387905 ∧ d1 = 0 ∧ c1 = 9) ∨ (NM.dist m a b ≤ 4611686018427387904 ∧ d1 = NM.dist m a b ∧ c1 = 0)) := hc1
  have h4 := HNP.out w3 b3
  clear h3 b3 hc1 HNP
  go_wp2_with fail
  refine h4.mono ?_
  rintro e w4 ⟨r2, d2, c2, rfl, b4, hc2⟩
  have B4 : Hid (Below w2.heap.size w2 w4) := below_on B3.out b4
  have hsame : d1 = d2 ∧ c1 = c2 := by
    rcases HC1.out with ⟨e1, e2, e3⟩ | ⟨e1, e2, e3⟩ | ⟨e1, e2, e3⟩ <;> rcases hc2 with ⟨f1, f2, f3⟩ | ⟨f1, f2, f3⟩ | ⟨f1, f2, f3⟩ <;> omega
  obtain ⟨rfl, rfl⟩ := hsame
  have h5 := HD.out w4 B4.out
  clear h4 b4 hc2 HC1 HD B3
  generalize NM.dist m (a : Int) (b : Int) = x at *
  go_wp2_with fail
  refine h5.mono ?_
  rintro e w5 ⟨rfl, b5⟩
  have B5 : Hid (Below w2.heap.size w2 w5) := below_on B4.out b5
  have h6 := HFR.out w5 B5.out
  clear h5 b5 B4 HFR
  go_wp2_with fail
  refine h6.mono ?_
  rintro e w6 ⟨fb, rfl, cx, b6⟩
  have BZ : Hid (Below w.heap.size w w6) := below_on B2.out (below_on B5.out b6)
  clear h6 b6 B5 B2
  go_wp2_with fail
  go_ret
  exact ⟨rfl, BZ.out⟩
end Go.Proofs.Ytmamligiopbefaa
