/-
  The walk of the law NearTells.
-/
import Derived.Test.YtlgcmdmongccaaaMmPaths
import Derived.Test.YtlgcmdmongccaaaMmRefN
namespace Go.Proofs.Ytlgcmdmongccaaa
open Go.RowKit

set_option maxHeartbeats 4000000 in
set_option maxRecDepth 100000 in
theorem tells_walk (n : Int) (v : Value) (xs : List Chg) (s : Int) (w : World) (hn0 : 0 ≤ n) (hn1 : n ≤ 255) (hch : Chgs w v xs) :
    Calls Try.prog 3 #[.int .u8 n, v, .int .i64 s] w fun e w' => e = .returned (.bool true) ∧ Below w.heap.size w w' := by
  have haw := awake_any w
  have HMD : Hid (∀ W, Below w.heap.size w W → Calls Try.prog 8 #[.int .u8 n, v] W fun e w' => ∃ p q, e = .returned (.tuple #[.pointer (some ⟨p, 0, none⟩), .pointer (some ⟨q, 0, none⟩)]) ∧ ∃ N, (1 ≤ N ∧ N ≤ 24) ∧ Both w' W.heap.size p q N 64 (GM.made N xs (min xs.length 150)) ∧ Below W.heap.size W w') := fun W hW => made_any n v xs W hn0 hn1 (hch.on hW)
  have HIN : Hid (∀ N, WK.Inn N (GM.made N xs (min xs.length 150))) := fun N => WK.Inn.made N xs _
  clear hn0 hn1
  obtain ⟨ao, cap, rfl, -, -⟩ := hch
  generalize xs.length = L at *
  go_enter Try.func3, Try.ntmps3
  go_wp2_with fail
  refine haw.mono ?_
  rintro e w1 ⟨rfl, hb1⟩
  clear haw
  go_wp2_with fail
  refine (HMD.out w1 hb1).mono ?_
  rintro e w2 ⟨p, q, rfl, N, hN, ho2, hb2⟩
  have hb2' := below_on hb1 hb2
  have HIN2 : Hid (WK.Inn N (GM.made N xs (min L 150))) := HIN.out N
  generalize GM.made N xs (min L 150) = m at *
  clear HMD hb1 hb2 HIN
  have hok := ho2.ok
  by_cases hs : GM.vert N s = true
  · have hsb := of_decide_eq_true hs
    obtain ⟨a, rfl⟩ : ∃ a : Nat, s = a := ⟨s.toNat, by omega⟩
    have haN : a < N := by omega
    have HF : Hid (∀ W, Below w2.heap.size w2 W → Calls Try.prog 9 #[.pointer (some ⟨p, 0, none⟩), .int .i64 a] W fun e w' => ∃ fb, e = .returned (.tuple #[.slice (some ⟨fb, 0, none⟩) N N, .int .i64 0]) ∧ Own .i64 3 w' W.heap.size (.slice (some ⟨fb, 0, none⟩) N N) (NM.rowFrom m N a) ∧ Below W.heap.size W w') := fun W hW => from_any (ho2.on hW).g hok hN.2 HIN2.out a haN
    have HT : Hid (∀ W, Below w2.heap.size w2 W → Calls Try.prog 10 #[.pointer (some ⟨p, 0, none⟩), .int .i64 a] W fun e w' => ∃ fb, e = .returned (.tuple #[.slice (some ⟨fb, 0, none⟩) N N, .int .i64 0]) ∧ Own .i64 3 w' W.heap.size (.slice (some ⟨fb, 0, none⟩) N N) (NM.rowTo m N a) ∧ Below W.heap.size W w') := fun W hW => to_any (ho2.on hW).g hok hN.2 HIN2.out a haN
    have HE : Hid (∀ W, Below w2.heap.size w2 W → Calls Try.prog 11 #[.pointer (some ⟨p, 0, none⟩), .int .i64 a] W fun e w' => ∃ fb, e = .returned (.tuple #[.slice (some ⟨fb, 0, none⟩) N N, .int .i64 0]) ∧ Own .i64 3 w' W.heap.size (.slice (some ⟨fb, 0, none⟩) N N) (NM.rowTree m N a) ∧ Below W.heap.size W w') := fun W hW => treeF_any (ho2.on hW).g hok hN.2 HIN2.out a haN
    have HV : Hid (∀ W, Below w2.heap.size w2 W → Calls Try.prog 12 #[.pointer (some ⟨q, 0, none⟩), .int .i64 a] W fun e w' => e = .returned (.bool true) ∧ w' = W) := fun W hW => by
      have := vertex_any (ho2.on hW).r (a : Int)
      rwa [hs] at this
    have HRF : Hid (∀ W, Below w2.heap.size w2 W → Calls Try.prog 14 #[.pointer (some ⟨q, 0, none⟩), .int .i64 a] W fun e w' => ∃ r, e = .returned r ∧ Own .i64 3 w' W.heap.size r (NM.rowFrom m N a) ∧ Below W.heap.size W w') := fun W hW => rfrom_any (ho2.on hW).r hok hN.2 HIN2.out a haN
    have HRT : Hid (∀ W, Below w2.heap.size w2 W → Calls Try.prog 15 #[.pointer (some ⟨q, 0, none⟩), .int .i64 a] W fun e w' => ∃ r, e = .returned r ∧ Own .i64 3 w' W.heap.size r (NM.rowTo m N a) ∧ Below W.heap.size W w') := fun W hW => rto_any (ho2.on hW).r hok hN.2 HIN2.out a haN
    have HRE : Hid (∀ W, Below w2.heap.size w2 W → Calls Try.prog 16 #[.pointer (some ⟨q, 0, none⟩), .int .i64 a] W fun e w' => ∃ r, e = .returned r ∧ Own .i64 3 w' W.heap.size r (NM.rowTree m N a) ∧ Below W.heap.size W w') := fun W hW => rtree_any (ho2.on hW).r hok hN.2 HIN2.out a haN
    clear ho2 hok HIN2 hs hsb haN
    generalize NM.rowFrom m N a = RF at *
    generalize NM.rowTo m N a = RT at *
    generalize NM.rowTree m N a = RE at *
    have h3 := HF.out w2 (Below.refl _ _)
    go_wp2_with fail
    refine h3.mono ?_
    rintro e w3 ⟨f1, rfl, o3, b3⟩
    have HA : Hid (∀ W, Below w3.heap.size w3 W → Row .i64 W (.slice (some ⟨f1, 0, none⟩) N N) RF) := fun W hW => o3.row.below hW
    have h4 := HT.out w3 b3
    clear h3 HF o3 HT
    go_wp2_with fail
    refine h4.mono ?_
    rintro e w4 ⟨f2, rfl, o4, b4⟩
    have HB : Hid (∀ W, Below w4.heap.size w4 W → Row .i64 W (.slice (some ⟨f2, 0, none⟩) N N) RT) := fun W hW => o4.row.below hW
    have b4' := below_on b3 b4
    have h5 := HE.out w4 b4'
    clear h4 o4 HE
    go_wp2_with fail
    refine h5.mono ?_
    rintro e w5 ⟨f3, rfl, o5, b5⟩
    have HC : Hid (∀ W, Below w5.heap.size w5 W → Row .i64 W (.slice (some ⟨f3, 0, none⟩) N N) RE) := fun W hW => o5.row.below hW
    have b5' := below_on b4' b5
    have hv5 := HV.out w5 b5'
    have hr5 := HRF.out w5 b5'
    have HA5 : Hid (∀ W, Below w5.heap.size w5 W → Row .i64 W (.slice (some ⟨f1, 0, none⟩) N N) RF) := fun W hW => HA.out W (below_on b4 (below_on b5 hW))
    have HB5 : Hid (∀ W, Below w5.heap.size w5 W → Row .i64 W (.slice (some ⟨f2, 0, none⟩) N N) RT) := fun W hW => HB.out W (below_on b5 hW)
    have B5 : Hid (Below w2.heap.size w2 w5) := b5'
    have B2 : Hid (Below w.heap.size w w2) := hb2'
    clear h5 o5 HV HRF HA HB b3 b4 b4' b5 b5' hb2'
    go_wp2_with fail
    refine hv5.mono ?_
    rintro e w5b ⟨rfl, rfl⟩
    clear hv5
    go_wp2_with fail
    refine hr5.mono ?_
    rintro e w6 ⟨r6, rfl, o6, b6⟩
    have i6 := ints_any _ r6 RF RF w6 (HA5.out w6 b6) o6.row
    rw [decide_eq_true (rfl : RF = RF)] at i6
    have B6 : Hid (Below w5b.heap.size w5b w6) := b6
    clear hr5 o6 b6 HA5
    go_wp2_with fail
    refine i6.mono ?_
    rintro e w7 ⟨rfl, b7⟩
    have B7 : Hid (Below w5b.heap.size w5b w7) := below_on B6.out b7
    have hr7 := HRT.out w7 (below_on B5.out B7.out)
    clear i6 b7 B6 HRT
    go_wp2_with fail
    refine hr7.mono ?_
    rintro e w8 ⟨r8, rfl, o8, b8⟩
    have B8 : Hid (Below w5b.heap.size w5b w8) := below_on B7.out b8
    have i8 := ints_any _ r8 RT RT w8 (HB5.out w8 B8.out) o8.row
    rw [decide_eq_true (rfl : RT = RT)] at i8
    clear hr7 o8 b8 HB5 B7
    go_wp2_with fail
    refine i8.mono ?_
    rintro e w9 ⟨rfl, b9⟩
    have B9 : Hid (Below w5b.heap.size w5b w9) := below_on B8.out b9
    have hr9 := HRE.out w9 (below_on B5.out B9.out)
    clear i8 b9 B8 HRE
    go_wp2_with fail
    refine hr9.mono ?_
    rintro e w10 ⟨r10, rfl, o10, b10⟩
    have B10 : Hid (Below w5b.heap.size w5b w10) := below_on B9.out b10
    have i10 := ints_any _ r10 RE RE w10 (HC.out w10 B10.out) o10.row
    rw [decide_eq_true (rfl : RE = RE)] at i10
    clear hr9 o10 b10 HC B9
    go_wp2_with fail
    refine i10.mono ?_
    rintro e w11 ⟨rfl, b11⟩
    have B11 : Hid (Below w.heap.size w w11) := below_on B2.out (below_on B5.out (below_on B10.out b11))
    clear i10 b11 B10 B5 B2
    go_wp2_with fail
    go_ret
    exact ⟨rfl, B11.out⟩
  · have hs' : GM.vert N s = false := by simpa using hs
    have h3 := from_no ho2.g s hs'
    have h4 := to_no ho2.g s hs'
    have h5 := treeF_no ho2.g s hs'
    have h6 := vertex_any ho2.r s
    rw [hs'] at h6
    clear ho2 hok HIN2 hs hs'
    go_wp2_with fail
    refine h3.mono ?_
    rintro e w3 ⟨rfl, rfl⟩
    clear h3
    go_wp2_with fail
    refine h4.mono ?_
    rintro e w4 ⟨rfl, rfl⟩
    clear h4
    go_wp2_with fail
    refine h5.mono ?_
    rintro e w5 ⟨rfl, rfl⟩
    clear h5
    go_wp2_with fail
    refine h6.mono ?_
    rintro e w6 ⟨rfl, rfl⟩
    clear h6
    go_wp2_with fail
    go_ret
    exact ⟨rfl, hb2'⟩
end Go.Proofs.Ytlgcmdmongccaaa
