/-
  The walk of the law NearThird.
-/
import Derived.Test.YtlgcmdmongccaaaMmPaths
import Derived.Deep.DeepCutAuto
import Derived.BigQuiet
namespace Go.Proofs.Ytlgcmdmongccaaa
open Go.RowKit

namespace NM
theorem third (m : GM.M) (u v b : Int) : dist m u b ≤ DM.two (dist m u v) (dist m v b) := (dist_dst m u b).third (dist_dst m u v) (dist_dst m v b)
theorem dist_self (m : GM.M) (u : Int) : dist m u u = 0 := dist_eq (Dst.self u)
end NM
set_option maxHeartbeats 4000000 in
set_option maxRecDepth 100000 in
theorem third_walk (n : Int) (v : Value) (xs : List Chg) (f : Int) (w : World) (hn0 : 0 ≤ n) (hn1 : n ≤ 255) (hch : Chgs w v xs) (hf0 : 0 ≤ f) (hf1 : f ≤ 255) :
    Calls Try.prog 5 #[.int .u8 n, v, .int .u8 f] w fun e w' => e = .returned (.bool true) ∧ Below w.heap.size w w' := by
  have haw := awake_any w
  have HMD : Hid (∀ W, Below w.heap.size w W → Calls Try.prog 8 #[.int .u8 n, v] W fun e w' => ∃ p q, e = .returned (.tuple #[.pointer (some ⟨p, 0, none⟩), .pointer (some ⟨q, 0, none⟩)]) ∧ ∃ N, (1 ≤ N ∧ N ≤ 24) ∧ Both w' W.heap.size p q N 64 (GM.made N xs (min xs.length 150)) ∧ Below W.heap.size W w') := fun W hW => made_any n v xs W hn0 hn1 (hch.on hW)
  have HIN : Hid (∀ N, WK.Inn N (GM.made N xs (min xs.length 150))) := fun N => WK.Inn.made N xs _
  obtain ⟨c, rfl⟩ : ∃ c : Nat, f = c := ⟨f.toNat, by omega⟩
  have hc255 : c < 256 := by omega
  clear hn0 hn1 hf0 hf1
  obtain ⟨ao, cap, rfl, -, -⟩ := hch
  generalize xs.length = L at *
  go_enter Try.func5, Try.ntmps5
  go_wp2_with fail
  refine haw.mono ?_
  rintro e w1 ⟨rfl, hb1⟩
  clear haw
  go_wp2_with fail
  refine (HMD.out w1 hb1).mono ?_
  rintro e w2 ⟨p, q, rfl, N, hN, ho2, hb2⟩
  have B2 : Hid (Below w.heap.size w w2) := below_on hb1 hb2
  have HIN2 : Hid (WK.Inn N (GM.made N xs (min L 150))) := HIN.out N
  generalize GM.made N xs (min L 150) = m at *
  clear HMD hb1 hb2 HIN
  have hok := ho2.ok
  have HF : Hid (∀ W, Below w2.heap.size w2 W → ∀ a : Nat, a < N → Calls Try.prog 9 #[.pointer (some ⟨p, 0, none⟩), .int .i64 a] W fun e w' => ∃ fb, e = .returned (.tuple #[.slice (some ⟨fb, 0, none⟩) N N, .int .i64 0]) ∧ (∀ W', Below w'.heap.size w' W' → ∀ b : Nat, b < N → W'.cell? ⟨fb, b, none⟩ = some (.int .i64 (NM.dist m a b))) ∧ Below W.heap.size W w') := fun W hW a ha => by
    refine (from_any (ho2.on hW).g hok hN.2 HIN2.out a ha).mono ?_
    rintro e w' ⟨fb, rfl, ho, hb⟩
    refine ⟨fb, rfl, fun W' hW' b hb => ?_, hb⟩
    have := ((ho.below hW').cell (NM.rowFrom_len m N a).symm b hb).1
    rwa [NM.rowFrom_at m a hb] at this
  have HC : Hid (∀ W, Below w2.heap.size w2 W → W.cell? ⟨q, 0, none⟩ = some (.int .i64 (N : Nat))) := fun W hW => (ho2.on hW).r.c0
  have HTH : Hid (∀ u v b : Int, NM.dist m u b ≤ DM.two (NM.dist m u v) (NM.dist m v b)) := NM.third m
  have HSELF : Hid (∀ u : Int, NM.dist m u u = 0) := NM.dist_self m
  have cN := ho2.r.c0
  have hrem : (c : Int).tmod (N : Int) = ((c % N : Nat) : Int) := rfl
  have hne : ¬ (N : Int) = 0 := by omega
  have hs : c % N < N := Nat.mod_lt _ (by omega)
  clear ho2 hok HIN2
  generalize c % N = s at *
  have hs1 : (s : Int) < (N : Int) := by omega
  have h3 := HF.out w2 (Below.refl _ _) s hs
  generalize NM.dist m = D at *
  go_wp2_with fail
  refine h3.mono ?_
  rintro e w3 ⟨f1, rfl, o3, b3⟩
  have HA : Hid (∀ W', Below w3.heap.size w3 W' → ∀ b : Nat, b < N → W'.cell? ⟨f1, b, none⟩ = some (.int .i64 (D s b))) := o3
  have B3 : Hid (Below w2.heap.size w2 w3) := b3
  have cS := o3 w3 (Below.refl _ _) s hs
  rw [HSELF.out] at cS
  have cN3 := HC.out w3 b3
  clear h3 o3 b3 cN hrem hne hc255 HSELF
  go_wp2_with fail
  clear cS
  go_loopw [12] (fun iv wr => ∃ k : Nat, k ≤ N ∧ iv = .int .i64 k ∧ Below w3.heap.size w3 wr) (fun iv _ => N - (intOf iv).toNat)
  case atStart => exact ⟨0, Nat.zero_le _, rfl, Below.refl _ _⟩
  case round =>
    obtain ⟨k, hk, rfl, hbr⟩ := hrel
    have HBR : Hid (Below w3.heap.size w3 wr) := hbr
    have cNr := HC.out wr (below_on B3.out hbr)
    clear cN3 hbr
    by_cases hlt : k < N
    · have k1 : (k : Int) < (N : Int) := by omega
      have h4 := HF.out wr (below_on B3.out HBR.out) k hlt
      go_wp2_with fail
      refine h4.mono ?_
      rintro e w4 ⟨f2, rfl, o4, b4⟩
      have HB : Hid (∀ W', Below w4.heap.size w4 W' → ∀ b : Nat, b < N → W'.cell? ⟨f2, b, none⟩ = some (.int .i64 (D k b))) := o4
      have B4 : Hid (Below w3.heap.size w3 w4) := below_on HBR.out b4
      have cN4 := HC.out w4 (below_on B3.out B4.out)
      clear h4 o4 b4 cNr HBR
      go_wp2_with fail
      go_loopw [15] (fun iv wx => ∃ j : Nat, j ≤ N ∧ iv = .int .i64 j ∧ Below w4.heap.size w4 wx) (fun iv _ => N - (intOf iv).toNat)
      case atStart => exact ⟨0, Nat.zero_le _, rfl, Below.refl _ _⟩
      case round =>
        rename_i wrA hwrA
        obtain ⟨j, hj, rfl, hbx⟩ := hrel
        have HBX : Hid (Below w4.heap.size w4 wr) := hbx
        have cNx := HC.out wr (below_on (below_on B3.out B4.out) hbx)
        clear cN4 hbx
        by_cases hlj : j < N
        · have j1 : (j : Int) < (N : Int) := by omega
          have a1 := HA.out wr (below_on B4.out HBX.out) j hlj
          have a2 := HA.out wr (below_on B4.out HBX.out) k hlt
          have a3 := HB.out wr HBX.out j hlj
          have hth := HTH.out s k j
          generalize D s j = x at *
          generalize D s k = y at *
          generalize D k j = z at *
          have htw : Hid (DM.two y z = DM.two y z) := rfl
          generalize hT : DM.two y z = T at *
          clear htw
          have htwo := fun W => two_any y z W
          rw [hT] at htwo
          have hnlt : ¬ T < x := by omega
          go_wp2_with fail
          go_quiet ((go_at_call 22; exact Calls.quiet_of_same (htwo _)))
          have HBQ : Hid (Below w4.heap.size w4 (wr.drewN nq)) := below_drewN HBX.out nq
          clear a1 a2 a3 htwo cNx
          go_wp2_with fail
          go_roundw
          case rel => exact ⟨j + 1, by omega, by go_num, HBQ.out⟩
          case measure => simp [intOf]; omega
        · have HBZ : Hid (Below w3.heap.size w3 wr) := below_on B4.out HBX.out
          go_wp2_with fail
          go_roundw
          case rel => exact ⟨k + 1, by omega, by go_num, HBZ.out⟩
          case measure => simp [intOf]; omega
    · have HBZ : Hid (Below w.heap.size w wr) := below_on B2.out (below_on B3.out HBR.out)
      go_wp2_with fail
      go_ret
      exact ⟨rfl, HBZ.out⟩
end Go.Proofs.Ytlgcmdmongccaaa
