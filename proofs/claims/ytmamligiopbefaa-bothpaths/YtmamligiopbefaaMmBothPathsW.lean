/-
  The walk of the law BothPaths.
-/
import Derived.Test.YtmamligiopbefaaMmBothLawP
namespace Go.Proofs.Ytmamligiopbefaa
open Go.RowKit

set_option maxHeartbeats 1000000 in
set_option maxRecDepth 100000 in
theorem bpaths_walk (n : Int) (v : Value) (xs : List Chg) (s t : Int) (w : World) (hn0 : 0 ≤ n) (hn1 : n ≤ 255) (hch : Chgs w v xs) :
    Calls Try.prog 4 #[.int .u8 n, v, .int .i64 s, .int .i64 t] w fun e w' => e = .returned (.bool true) ∧ Below w.heap.size w w' := by
  have haw := awake11_any w
  have HMD : Hid (∀ W, Below w.heap.size w W → Calls Try.prog 7 #[.int .u8 n, v] W fun e w' => ∃ p q, e = .returned (.tuple #[.pointer (some ⟨p, 0, none⟩), .pointer (some ⟨q, 0, none⟩)]) ∧ ∃ N, (1 ≤ N ∧ N ≤ 24) ∧ Both w' W.heap.size p q N 64 (GM.made N xs (min xs.length 150)) ∧ Below W.heap.size W w') := fun W hW => made_any n v xs W hn0 hn1 (hch.on hW)
  have HIN : Hid (∀ N, WK.Inn N (GM.made N xs (min xs.length 150))) := fun N => WK.Inn.made N xs _
  clear hn0 hn1
  obtain ⟨ao, cap, rfl, -, -⟩ := hch
  generalize xs.length = L at *
  go_enter Try.func4, Try.ntmps4
  go_wp2_with fail
  refine haw.mono ?_
  rintro e w1 ⟨rfl, hb1⟩
  clear haw
  go_wp2_with fail
  refine (HMD.out w1 hb1).mono ?_
  rintro e w2 ⟨p, q, rfl, N, hN, ho2, hb2⟩
  have B2 : Hid (Below w.heap.size w w2) := below_on hb1 hb2
  have HIN2 : Hid (WK.Inn N (GM.made N xs (min L 150))) := HIN.out N
  generalize GM.made N xs (min L 150) = m at *
  clear HMD hb1 hb2 HIN
  have hok := ho2.ok
  have HR : Hid (∀ W, Below w2.heap.size w2 W → RMem W q N 64 m) := fun W hW => (ho2.on hW).r
  by_cases hv : GM.vert N s = true ∧ GM.vert N t = true
  case neg =>
    have h3 := bpath_no ho2.g s t hv
    have h4 := bdist_no ho2.g s t hv
    have v1 := vertex_any ho2.r s
    have v2 := vertex_any ho2.r t
    have h7 := lpath_no ho2.r s t hv
    clear ho2 hok HIN2 HR
    go_wp2_with fail
    refine h3.mono ?_
    rintro e w3 ⟨rfl, hw3⟩
    rw [hw3]
    clear h3 hw3 w3
    go_wp2_with fail
    refine h4.mono ?_
    rintro e w3 ⟨rfl, hw3⟩
    rw [hw3]
    clear h4 hw3 w3
    cases h1 : GM.vert N s with
    | false =>
      rw [h1] at v1
      clear hv h1 v2
      go_wp2_with fail
      refine v1.mono ?_
      rintro e w3 ⟨rfl, hw3⟩
      rw [hw3]
      clear v1 hw3 w3
      go_wp2_with fail
      refine h7.mono ?_
      rintro e w3 ⟨rfl, hw3⟩
      rw [hw3]
      clear h7 hw3 w3
      go_wp2_with fail
      go_ret
      exact ⟨rfl, B2.out⟩
    | true =>
      have h2 : GM.vert N t = false := by
        cases e : GM.vert N t with
        | false => rfl
        | true => exact absurd ⟨h1, e⟩ hv
      rw [h1] at v1
      rw [h2] at v2
      clear hv h1 h2
      go_wp2_with fail
      refine v1.mono ?_
      rintro e w3 ⟨rfl, hw3⟩
      rw [hw3]
      clear v1 hw3 w3
      go_wp2_with fail
      refine v2.mono ?_
      rintro e w3 ⟨rfl, hw3⟩
      rw [hw3]
      clear v2 hw3 w3
      go_wp2_with fail
      refine h7.mono ?_
      rintro e w3 ⟨rfl, hw3⟩
      rw [hw3]
      clear h7 hw3 w3
      go_wp2_with fail
      go_ret
      exact ⟨rfl, B2.out⟩
  obtain ⟨hs, ht⟩ := hv
  have hsb := of_decide_eq_true hs
  have htb := of_decide_eq_true ht
  obtain ⟨a, rfl⟩ : ∃ a : Nat, s = a := ⟨s.toNat, by omega⟩
  obtain ⟨b, rfl⟩ : ∃ b : Nat, t = b := ⟨t.toNat, by omega⟩
  have haN : a < N := by omega
  have hbN : b < N := by omega
  have hb1 : (b : Int) < (N : Int) := by omega
  have h3 := bpath_any ho2.g hok hN.2 HIN2.out a b haN hbN
  have HD : Hid (∀ W, Below w2.heap.size w2 W → Calls Try.prog 9 #[.pointer (some ⟨p, 0, none⟩), .int .i64 a, .int .i64 b] W fun e w' => e = .returned (.tuple #[.int .i64 (NM.dist m a b), .int .i64 0]) ∧ Below W.heap.size W w') := fun W hW => bdist_any (ho2.on hW).g hok hN.2 HIN2.out a b haN hbN
  have HV1 : Hid (∀ W, Below w2.heap.size w2 W → Calls Try.prog 11 #[.pointer (some ⟨q, 0, none⟩), .int .i64 a] W fun e w' => e = .returned (.bool true) ∧ w' = W) := fun W hW => by
    have := vertex_any (ho2.on hW).r (a : Int)
    rwa [hs] at this
  have HV2 : Hid (∀ W, Below w2.heap.size w2 W → Calls Try.prog 11 #[.pointer (some ⟨q, 0, none⟩), .int .i64 b] W fun e w' => e = .returned (.bool true) ∧ w' = W) := fun W hW => by
    have := vertex_any (ho2.on hW).r (b : Int)
    rwa [ht] at this
  have HRF : Hid (∀ W, Below w2.heap.size w2 W → Calls Try.prog 13 #[.pointer (some ⟨q, 0, none⟩), .int .i64 a] W fun e w' => ∃ ga go gc, e = .returned (.slice (some ⟨ga, go, none⟩) N gc) ∧ N ≤ gc ∧ w'.cell? ⟨ga, go + b, none⟩ = some (.int .i64 (NM.dist m a b)) ∧ Below W.heap.size W w') := fun W hW => rfrom_cell (HR.out W hW) hok hN.2 HIN2.out a b haN hbN
  have HLP : Hid (∀ W r d c, Below w2.heap.size w2 W → Told m a b W r d c → Calls Try.prog 12 #[.pointer (some ⟨q, 0, none⟩), .int .i64 a, .int .i64 b, r, .int .i64 d, .int .i64 c] W fun e w' => e = .returned (.bool true) ∧ Below W.heap.size W w') := fun W r d c hW ht => lpath_ok (HR.out W hW) hok hN.2 HIN2.out a b haN hbN r d c ht
  clear ho2 hok HIN2 hs ht hsb htb haN hbN HR
  go_wp2_with fail
  refine h3.mono ?_
  rintro e w3 ⟨r, d, c, rfl, b3, hcase⟩
  have B3 : Hid (Below w2.heap.size w2 w3) := b3
  have HT : Hid (∀ W, Below w3.heap.size w3 W → Told m a b W r d c) := fun W hW => by
    rcases hcase with h | h | ⟨h1, ⟨T, h2, h3, h4, h5⟩, h6, h7⟩
    · exact .inl h
    · exact .inr (.inl h)
    · exact .inr (.inr ⟨h1, ⟨T, h2.row.below hW, h3, h4, h5⟩, h6, h7⟩)
  have h4 := HD.out w3 b3
  clear h3 b3 hcase HD
  go_wp2_with fail
  refine h4.mono ?_
  rintro e w4 ⟨rfl, b4⟩
  have B4 : Hid (Below w3.heap.size w3 w4) := b4
  have v1 := HV1.out w4 (below_on B3.out b4)
  have v2 := HV2.out w4 (below_on B3.out b4)
  have h6 := HRF.out w4 (below_on B3.out b4)
  clear h4 b4 HV1 HV2 HRF
  go_wp2_with fail
  refine v1.mono ?_
  rintro e w5 ⟨rfl, hw5⟩
  rw [hw5]
  clear v1 hw5 w5
  go_wp2_with fail
  refine v2.mono ?_
  rintro e w5 ⟨rfl, hw5⟩
  rw [hw5]
  clear v2 hw5 w5
  go_wp2_with fail
  refine h6.mono ?_
  rintro e w6 ⟨ga, go, gc, rfl, hgc, cg, b6⟩
  have B6 : Hid (Below w3.heap.size w3 w6) := below_on B4.out b6
  have h7 := HLP.out w6 r d c (below_on B3.out B6.out) (HT.out w6 B6.out)
  clear h6 b6 B4 HLP HT
  go_wp2_with fail
  refine h7.mono ?_
  rintro e w7 ⟨rfl, b7⟩
  have BZ : Hid (Below w.heap.size w w7) := below_on B2.out (below_on B3.out (below_on B6.out b7))
  clear h7 b7 B6 B3 B2
  go_wp2_with fail
  go_ret
  exact ⟨rfl, BZ.out⟩
end Go.Proofs.Ytmamligiopbefaa
