/-
  The walk of the law BothDists.
-/
import Derived.Test.YtmamligiopbefaaMmBothPath
namespace Go.Proofs.Ytmamligiopbefaa
open Go.RowKit

set_option maxHeartbeats 2000000 in
set_option maxRecDepth 100000 in
theorem dists_walk (n : Int) (v : Value) (xs : List Chg) (w : World) (hn0 : 0 ≤ n) (hn1 : n ≤ 255) (hch : Chgs w v xs) :
    Calls Try.prog 3 #[.int .u8 n, v] w fun e w' => e = .returned (.bool true) ∧ Below w.heap.size w w' := by
  have haw := awake11_any w
  have HMD : Hid (∀ W, Below w.heap.size w W → Calls Try.prog 7 #[.int .u8 n, v] W fun e w' => ∃ p q, e = .returned (.tuple #[.pointer (some ⟨p, 0, none⟩), .pointer (some ⟨q, 0, none⟩)]) ∧ ∃ N, (1 ≤ N ∧ N ≤ 24) ∧ Both w' W.heap.size p q N 64 (GM.made N xs (min xs.length 150)) ∧ Below W.heap.size W w') := fun W hW => made_any n v xs W hn0 hn1 (hch.on hW)
  have HIN : Hid (∀ N, WK.Inn N (GM.made N xs (min xs.length 150))) := fun N => WK.Inn.made N xs _
  clear hn0 hn1
  obtain ⟨ao, cap, rfl, -, -⟩ := hch
  generalize xs.length = L at *
  go_enter Try.func3, Try.ntmps3
  go_wp2_with fail
  refine haw.mono ?_
  rintro e w1 ⟨rfl, hb1⟩
  clear haw
  go_wp2_with fail
  refine (HMD.out w1 hb1).mono ?_
  rintro e w2 ⟨p, q, rfl, N, hN, ho2, hb2⟩
  have B2 : Hid (Below w.heap.size w w2) := below_on hb1 hb2
  have HIN2 : Hid (WK.Inn N (GM.made N xs (min L 150))) := HIN.out N
  generalize GM.made N xs (min L 150) = m at *
  clear HMD hb1 hb2 HIN
  have hok := ho2.ok
  have HF : Hid (∀ W, Below w2.heap.size w2 W → ∀ a b : Nat, a < N → b < N → Calls Try.prog 9 #[.pointer (some ⟨p, 0, none⟩), .int .i64 a, .int .i64 b] W fun e w' => e = .returned (.tuple #[.int .i64 (NM.dist m a b), .int .i64 0]) ∧ Below W.heap.size W w') := fun W hW a b ha hb => bdist_any (ho2.on hW).g hok hN.2 HIN2.out a b ha hb
  have HC : Hid (∀ W, Below w2.heap.size w2 W → W.cell? ⟨q, 0, none⟩ = some (.int .i64 (N : Nat))) := fun W hW => (ho2.on hW).r.c0
  have hall := all_any10 ho2.r hok hN.2 HIN2.out
  clear ho2 hok HIN2
  go_wp2_with fail
  refine hall.mono ?_
  rintro e w3 ⟨D, rfl, hD, hb3⟩
  have hz := zeroT
  have hsz := zT_size
  have hne := zT_ne
  have hLT := tabCells_len D
  have hO1 : (tabCells D).toArray.all (·.oneCell') = true := all_one (tabCells_one D)
  have HT : Hid (TMem (w3.alloc (.cells (tabCells D).toArray 29)) w3.heap.size D) := tmem_new _ _ _
  have HD : Hid (∀ a b : Nat, a < N → b < N → D a b = NM.dist m a b) := hD
  have HB3 : Hid (Below w2.heap.size w2 w3) := hb3
  clear hall hD hb3
  generalize hTC : tabCells D = TC at *
  generalize zT = Z0 at *
  have HZ : Hid (Z0.size = 576) := hsz
  have HL : Hid (TC.length = 576) := hLT
  have HO1 : Hid (TC.toArray.all (·.oneCell') = true) := hO1
  clear hTC hLT hO1
  go_wp2_with (first
    | (simp only)
    | (refine wpList_store_row rfl 29 (.tmp 7) (.tmp 23) rfl w3.heap.size TC.toArray rfl rfl 29 Z0 (heap_alloc_last w3 _) (by rw [List.size_toArray, HL.out]; exact infoT) (by rw [HZ.out, List.size_toArray, HL.out]) HO1.out ?_; rw [World.setRow_alloc_new]))
  have HB4 : Hid (Below w2.heap.size w2 (w3.alloc (.cells TC.toArray 29))) := HB3.out.alloc HB3.out.size _
  have HT4 : Hid (TMem (w3.alloc (.cells TC.toArray 29)) w3.heap.size D) := HT.out
  clear hz hsz hne HT HZ HL HO1 HB3
  generalize w3.alloc (.cells TC.toArray 29) = w4 at *
  generalize w3.heap.size = bd at *
  have n24 : (N : Int) ≤ 24 := by omega
  go_loopw [8] (fun iv wr => ∃ k : Nat, k ≤ N ∧ iv = .int .i64 k ∧ Below w4.heap.size w4 wr) (fun iv _ => N - (intOf iv).toNat)
  case atStart => exact ⟨0, Nat.zero_le _, rfl, Below.refl _ _⟩
  case round =>
    obtain ⟨k, hk, rfl, hbr⟩ := hrel
    have HBR : Hid (Below w4.heap.size w4 wr) := hbr
    have cNr := HC.out wr (below_on HB4.out hbr)
    clear hbr
    by_cases hlt : k < N
    · have k1 : (k : Int) < (N : Int) := by omega
      go_wp2_with fail
      go_loopw [9] (fun iv wx => ∃ j : Nat, j ≤ N ∧ iv = .int .i64 j ∧ Below w4.heap.size w4 wx) (fun iv _ => N - (intOf iv).toNat)
      case atStart => exact ⟨0, Nat.zero_le _, rfl, HBR.out⟩
      case round =>
        rename_i wrA hwrA
        clear HBR cNr
        obtain ⟨j, hj, rfl, hbx⟩ := hrel
        have HBX : Hid (Below w4.heap.size w4 wr) := hbx
        have cNx := HC.out wr (below_on HB4.out hbx)
        clear hbx
        by_cases hlj : j < N
        · have j1 : (j : Int) < (N : Int) := by omega
          have k24 : (k : Int) < 24 := by omega
          have j24 : (j : Int) < 24 := by omega
          have h5 := HF.out wr (below_on HB4.out HBX.out) k j hlt hlj
          go_wp2_with fail
          refine h5.mono ?_
          rintro e w5 ⟨rfl, b5⟩
          have B5 : Hid (Below w4.heap.size w4 w5) := below_on HBX.out b5
          have cT := (HT4.out.on B5.out).c k j (by omega) (by omega)
          rw [HD.out k j hlt hlj] at cT
          clear h5 b5 HBX cNx
          generalize NM.dist m (k : Int) (j : Int) = d at *
          go_wp2_with fail
          go_roundw
          case rel => exact ⟨j + 1, by omega, by go_num, B5.out⟩
          case measure => simp [intOf]; omega
        · go_wp2_with fail
          go_roundw
          case rel => exact ⟨k + 1, by omega, by go_num, HBX.out⟩
          case measure => simp [intOf]; omega
    · have HBZ : Hid (Below w.heap.size w wr) := below_on B2.out (below_on HB4.out HBR.out)
      go_wp2_with fail
      go_ret
      exact ⟨rfl, HBZ.out⟩
end Go.Proofs.Ytmamligiopbefaa
