/-
  WitSpared, OrdRef, OrdSpec.
-/
import Derived.Test.YtkcfepppnclniaaGreatDoorMmWitSearch
import Derived.Test.YtkcfepppnclniaaGreatDoorMmOrdMath
import Derived.Test.YtkcfepppnclniaaGreatDoorMmGraphIds
import Derived.Test.YtkcfepppnclniaaGreatDoorMmMeshCon
import Derived.Test.YtkcfepppnclniaaGreatDoorMmMeshMem
import Derived.Test.YtkcfepppnclniaaGreatDoorMmBase
import Derived.Deep.RegionHeld3
section
/-
  The walk of the document's Spared (layer 13).
-/
namespace Go.Proofs.YtkcfepppnclniaaGreatDoor
open Go.RowKit
theorem WM.outOf_two {v : Nat} (hv : v < 64) (x : Nat) : WM.outOf (2 ^ v) x = decide (x = v) := by
  unfold WM.outOf BM.has
  rw [Int.toNat_natCast, Nat.testBit_two_pow, Bool.eq_iff_iff]
  simp
  omega
theorem pow_small {k : Nat} (h : k ≤ 24) : 2 ^ k ≤ 16777216 := Nat.pow_le_pow_right (by decide) h
set_option maxRecDepth 100000 in
set_option maxHeartbeats 2000000 in
/-- The document's Spared. -/
theorem rspared_any {W : World} {p N : Nat} {D : Nat → Nat → Int} (hg : XMem W p N D) (hm : XM.Mesh N D) (hN : N ≤ 24) (u v w : Nat) (hu : u < N) (hv : v < N) (huv : u ≠ v) (k : Int) :
    Calls Tryz.prog 91 #[.pointer (some ⟨p, 0, none⟩), .int .i64 u, .int .i64 v, .int .i64 w, .int .i64 k] W fun e w' => ∃ L, e = .returned (.bool (WM.has L w)) ∧ WM.Got N D u (WM.outOf (2 ^ v)) (DM.two (D u v) (D v w)) k.toNat L ∧ Below W.heap.size W w' := by
  have HA : Hid (∀ a b : Nat, Calls Tryz.prog 71 #[.pointer (some ⟨p, 0, none⟩), .int .i64 a, .int .i64 b] W fun e w' => e = .returned (.int .i64 (D a b)) ∧ w' = W) := fun a b => by
    have := rat_any hg hm hN (a : Int) (b : Int)
    rwa [XM.atE_nat hm a b] at this
  have b2 := DM.two_bd (D u v) (D v w)
  have HS : Hid (Calls Tryz.prog 106 #[.pointer (some ⟨p, 0, none⟩), .int .i64 u, .int .u64 (2 ^ v : Nat), .int .i64 (DM.two (D u v) (D v w)), .int .i64 k] W fun e w' => ∃ sv dv tv L, e = .returned (.agg #[sv, dv, tv]) ∧ WM.Got N D u (WM.outOf (2 ^ v)) (DM.two (D u v) (D v w)) k.toNat L ∧ Row .i64 w' sv (WM.vsL L) ∧ Below W.heap.size W w') := by
    have h24 := pow_small (show v ≤ 24 by omega)
    have := rsearch_any hg hm hN u (2 ^ v) hu (by omega) (by have := WM.outOf_two (show v < 64 by omega) u; unfold WM.outOf at this; rw [this]; simp [huv]) (DM.two (D u v) (D v w)) k
    rw [DM.norm_of b2.1 b2.2] at this
    refine this.mono ?_
    rintro e w' ⟨sv, dv, tv, L, bs, h1, h2, h3, -, -, -, h7⟩
    exact ⟨sv, dv, tv, L, h1, h2, h3, h7⟩
  have h1 := HA.out u v
  have h2 := HA.out v w
  have HP : Hid (∀ q : Nat, q ≤ v → 2 ^ q ≤ 16777216) := fun q hq => pow_small (by omega)
  clear hg hm b2 HA
  generalize D u v = x at *
  generalize D v w = y at *
  go_enter Tryz.func91, Tryz.ntmps91
  go_wp2_with fail
  go_loop [11, 12] (fun ov iv => ∃ q : Nat, q ≤ v ∧ iv = .int .i64 q ∧ ov = .int .u64 (2 ^ q : Nat)) (fun _ iv => v - (intOf iv).toNat)
  case atStart => exact ⟨0, Nat.zero_le _, rfl, rfl⟩
  case round =>
    obtain ⟨q, hq, rfl, rfl⟩ := hrel
    by_cases hl : q < v
    · have hz := HP.out q hq
      have HZ : Hid (2 ^ (q + 1) = 2 * 2 ^ q) := by
        show _ = _
        rw [Nat.pow_succ, Nat.mul_comm]
      have q1 : (q : Int) < (v : Int) := by omega
      generalize 2 ^ q = z at *
      clear HS h1 h2
      go_wp2_with fail
      go_round
      case rel => exact ⟨q + 1, by omega, by go_num, by rw [HZ.out]; go_num⟩
      case measure => simp [intOf]; omega
    · obtain rfl : q = v := by omega
      have hs := HS.out
      have ht := two_any x y W
      clear HS
      generalize hxy : DM.two x y = xy at *
      have HXY : Hid (DM.two x y = xy) := hxy
      clear hxy
      generalize hz2 : 2 ^ q = z at *
      have HZ2 : Hid (2 ^ q = z) := hz2
      clear hz2
      go_wp2_with fail
      refine h1.mono ?_
      rintro e w' ⟨rfl, hw'⟩
      rw [hw']
      clear h1 hw' w'
      go_wp2_with fail
      refine h2.mono ?_
      rintro e w' ⟨rfl, hw'⟩
      rw [hw']
      clear h2 hw' w'
      go_wp2_with fail
      refine ht.mono ?_
      rintro e w' ⟨rfl, hw'⟩
      rw [hw']
      clear ht hw' w'
      go_wp2_with fail
      refine hs.mono ?_
      rintro e w4 ⟨sv, dv, tv, L, rfl, g1, g2, g3⟩
      clear hs
      have hfd : ∀ w, (Instr.field 139 (.agg #[sv, dv, tv]) 0).run Tryz.prog w = .ok sv w := fun _ => by kernel_rfl
      have hh := rhas13_any _ _ (w : Int) _ g2
      rw [WM.vsL_mem] at hh
      have HG : Hid (WM.Got N D u (WM.outOf z) xy k.toNat L) := g1
      have HB : Hid (Below W.heap.size W w4) := g3
      clear g1 g2 g3
      go_wp2_with fail
      refine hh.mono ?_
      rintro e w' ⟨rfl, hw'⟩
      rw [hw']
      clear hh hw' w'
      go_wp2_with fail
      go_ret
      exact ⟨L, rfl, by rw [HZ2.out, HXY.out]; exact HG.out, HB.out⟩
end Go.Proofs.YtkcfepppnclniaaGreatDoor
end

section
/-
  The walks of the document's has, Need and Difference (layer 14).
-/
namespace Go.Proofs.YtkcfepppnclniaaGreatDoor
open Go.RowKit
namespace XM
/-- A detour's ends are not the vertex that it goes by. -/
theorem detRow_ends {N : Nat} {D : Nat → Nat → Int} (hm : Mesh N D) {v u : Nat} : ∀ j, ∀ d ∈ detRow N D (v : Int) u j, d.u ≠ v ∧ d.w ≠ v
  | 0, d, hd => by simp [detRow] at hd
  | j + 1, d, hd => by
    unfold detRow at hd
    rcases List.mem_append.1 hd with h | h
    · exact detRow_ends hm j d h
    · split at h
      · rename_i e
        simp at h
        subst h
        have ht := (two_told (atE_bd hm (u : Int) (v : Int)) (atE_bd hm (v : Int) (j : Int))).1 e.2
        rw [atE_nat hm, atE_nat hm] at ht
        refine ⟨fun he => ht.1 ?_, fun he => ht.2 ?_⟩
        · rw [show u = v from he]; exact hm.ok.self v
        · rw [show j = v from he]; exact hm.ok.self v
      · simp at h
theorem dets_ends {N : Nat} {D : Nat → Nat → Int} (hm : Mesh N D) {v : Nat} : ∀ k, ∀ d ∈ dets N D (v : Int) k, d.u ≠ v ∧ d.w ≠ v
  | 0, d, hd => by simp [dets] at hd
  | k + 1, d, hd => by
    unfold dets at hd
    rcases List.mem_append.1 hd with h | h
    · exact dets_ends hm k d h
    · exact detRow_ends hm N d h
end XM
theorem OM.outOf_fun {v : Nat} (hv : v < 64) : WM.outOf (2 ^ v) = fun y => decide (y = v) := funext fun y => WM.outOf_two hv y
/-- The document's Spared, as a function. -/
theorem rspares_any {W : World} {p N : Nat} {D : Nat → Nat → Int} (hg : XMem W p N D) (hm : XM.Mesh N D) (hN : N ≤ 24) (u v w : Nat) (hu : u < N) (hv : v < N) (huv : u ≠ v) (k : Int) :
    Calls Tryz.prog 91 #[.pointer (some ⟨p, 0, none⟩), .int .i64 u, .int .i64 v, .int .i64 w, .int .i64 k] W fun e w' => e = .returned (.bool (OM.spares N D u v w k.toNat)) ∧ Below W.heap.size W w' := by
  refine (rspared_any hg hm hN u v w hu hv huv k).mono ?_
  rintro e w' ⟨L, rfl, h1, h2⟩
  rw [OM.outOf_fun (by omega)] at h1
  refine ⟨?_, h2⟩
  unfold OM.spares
  rw [OM.got_eq h1]
set_option maxHeartbeats 400000 in
/-- Is a number in a list? -/
theorem rhas14_any (v : Value) (zs : List Int) (n : Int) (w : World) (hrow : Row .i64 w v zs) :
    Calls Tryz.prog 34 #[v, .int .i64 n] w fun e w' => e = .returned (.bool (decide (n ∈ zs))) ∧ w' = w := by
  obtain ⟨a, cap, rfl, h1, h2, h3, h4⟩ := hrow
  have hml : zs.length ≤ 9223372036854775807 := by unfold maxLen at h2; omega
  go_enter Tryz.func34, Tryz.ntmps34
  go_wp2_with fail
  go_loop [5] (fun i => ∃ k : Nat, k ≤ zs.length ∧ i = .int .i64 k ∧ Hid (n ∉ zs.take k)) (fun i => zs.length - (intOf i).toNat)
  case atStart => exact ⟨0, Nat.zero_le _, rfl, by simp [Hid]⟩
  case round =>
    obtain ⟨k, hk, rfl, HN⟩ := hrel
    by_cases hlt : k < zs.length
    · obtain ⟨b, o, rfl, hc⟩ := h4 (by omega)
      have hck := hc k hlt
      rw [List.getElem?_eq_getElem hlt, Option.getD_some] at hck
      have HY : Hid (zs[k] = n → n ∈ zs) := fun e => e ▸ List.getElem_mem hlt
      have HO : Hid (zs[k] ≠ n → n ∉ zs.take (k + 1)) := fun e => by
        rw [take_one zs k hlt, List.mem_append]
        rintro (h | h)
        · exact HN.out h
        · exact e (List.mem_singleton.1 h).symm
      clear hc HN
      have hi0 : (0 : Int) ≤ (k : Int) := by omega
      have hi1 : (k : Int) < (zs.length : Int) := by omega
      generalize zs[k] = z at *
      by_cases hz : z = n
      · have HE : Hid (n ∈ zs) := HY.out hz
        subst hz
        clear HY HO
        go_wp2_with fail
        go_ret
        exact ⟨ret_bool (by rw [decide_eq_true HE.out]), rfl⟩
      · have HE : Hid (n ∉ zs.take (k + 1)) := HO.out hz
        have hzb : (z == n) = false := beq_eq_false_iff_ne.2 hz
        clear HY HO hz
        go_wp2_with fail
        go_round
        case rel => exact ⟨k + 1, by omega, by simp, HE⟩
        case measure => simp [intOf]; omega
    · obtain rfl : k = zs.length := by omega
      have HE : Hid (n ∉ zs) := by
        have := HN.out
        rwa [List.take_length] at this
      go_wp2_with fail
      go_ret
      exact ⟨ret_bool (by rw [decide_eq_false HE.out]), rfl⟩
set_option maxHeartbeats 2000000 in
/-- The document's Need. -/
theorem rneed_any {w : World} {p N : Nat} {D : Nat → Nat → Int} (hg : XMem w p N D) (hm : XM.Mesh N D) (hN : N ≤ 24) (v : Nat) (hv : v < N) (k : Int) :
    Calls Tryz.prog 70 #[.pointer (some ⟨p, 0, none⟩), .int .i64 v, .int .i64 k] w fun e w' => e = .returned (.int .i64 (OM.need N D v k.toNat : Nat)) ∧ Below w.heap.size w w' := by
  have hdet := rdet_any hg hm hN v
  have hll : (XM.dets N D v N).length ≤ 600 := by
    have h1 := XM.dets_len (N := N) (D := D) (v := v) N
    have h2 : N * N ≤ 24 * 24 := Nat.mul_le_mul hN hN
    omega
  have HSP : Hid (∀ W, Below w.heap.size w W → ∀ i (hi : i < (XM.dets N D v N).length), Calls Tryz.prog 91 #[.pointer (some ⟨p, 0, none⟩), .int .i64 ((XM.dets N D v N)[i].u : Nat), .int .i64 v, .int .i64 ((XM.dets N D v N)[i].w : Nat), .int .i64 k] W fun e w' => e = .returned (.bool (OM.spares N D (XM.dets N D v N)[i].u v (XM.dets N D v N)[i].w k.toNat)) ∧ Below W.heap.size W w') := fun W hW i hi => by
    have hf := XM.dets_fit hm N (Nat.le_refl _) _ (List.getElem_mem hi)
    have he := XM.dets_ends hm N _ (List.getElem_mem hi)
    exact rspares_any (hg.on hW) hm hN _ v _ hf.1 hv he.1 k
  have HZ : Hid (OM.needTo N D v k.toNat 0 = 0) := OM.needTo_zero N D v k.toNat
  have HA : Hid (OM.needTo N D v k.toNat (XM.dets N D v N).length = OM.need N D v k.toNat) := OM.needTo_all N D v k.toNat
  have HST : Hid (∀ j (hj : j < (XM.dets N D v N).length), OM.needTo N D v k.toNat (j + 1) = OM.needTo N D v k.toNat j + (if OM.spares N D ((XM.dets N D v N)[j]).u v ((XM.dets N D v N)[j]).w k.toNat = true then 0 else 1)) := fun j hj => OM.needTo_step N D v k.toNat j hj
  have HLE : Hid (∀ j, OM.needTo N D v k.toNat j ≤ j) := fun j => OM.needTo_le N D v k.toNat j
  clear hg hm
  generalize XM.dets N D v N = L at *
  generalize OM.need N D v k.toNat = R at *
  generalize hG : OM.needTo N D v k.toNat = G at *
  clear hG
  generalize hS : (fun u x => OM.spares N D u v x k.toNat) = S at *
  have HS : Hid (∀ u x, OM.spares N D u v x k.toNat = S u x) := fun u x => by rw [← hS]
  clear hS
  go_enter Tryz.func70, Tryz.ntmps70
  go_wp2_with fail
  refine hdet.mono ?_
  rintro e w1 ⟨r, rfl, ho, hb⟩
  obtain ⟨ao, cap, rfl, hcp, hcl⟩ := ho.at
  have HB : Hid (Below w.heap.size w w1) := hb
  obtain ⟨hcp1, hcp2⟩ := hcp
  have hLC : (L.length : Int) ≤ (cap : Int) := by omega
  have HCL : Hid (0 < L.length → ∃ b, ao = some ⟨b, 0, none⟩ ∧ b < w1.heap.size ∧ ∀ i, i < L.length → DetIn w1 b (i * 5) v (L[i]?.getD noDet)) := hcl
  clear hdet hb hcl ho hcp1 hcp2
  obtain ⟨C, hC⟩ : ∃ C, C = L.length := ⟨_, rfl⟩
  have HC : Hid (C = L.length) := hC
  rw [← hC] at hll hLC ⊢
  clear hC
  go_wp2_with fail
  go_loopw [7, 9] (fun nv iv wr => ∃ j : Nat, j ≤ C ∧ iv = .int .i64 j ∧ nv = .int .i64 (G j : Nat) ∧ Below w1.heap.size w1 wr) (fun _ iv _ => C - (intOf iv).toNat)
  case atStart => exact ⟨0, Nat.zero_le _, rfl, by rw [HZ.out]; rfl, Below.refl _ _⟩
  case round =>
    obtain ⟨j, hj, rfl, rfl, hbr⟩ := hrel
    have HBR : Hid (Below w1.heap.size w1 wr) := hbr
    have HGL : Hid (G j ≤ j) := HLE.out j
    by_cases hlt : j < C
    · have hjl : j < L.length := by rw [← HC.out]; exact hlt
      obtain ⟨b, rfl, hbl, hcc⟩ := HCL.out (by omega)
      have hci := hcc j hjl
      rw [List.getElem?_eq_getElem hjl, Option.getD_some] at hci
      have hst := HST.out j hjl
      have hsp := fun W hW => HSP.out W hW j hjl
      generalize L[j] = d at *
      obtain ⟨du, dw, dx⟩ := d
      dsimp only at hst hsp
      rw [HS.out] at hst
      have hsp2 : ∀ W, Below w.heap.size w W → Calls Tryz.prog 91 #[.pointer (some ⟨p, 0, none⟩), .int .i64 (du : Nat), .int .i64 v, .int .i64 (dw : Nat), .int .i64 k] W fun e w' => e = .returned (.bool (S du dw)) ∧ Below W.heap.size W w' := fun W hW => by
        have := hsp W hW
        rwa [HS.out] at this
      have HSPJ : Hid (∀ W, Below w.heap.size w W → Calls Tryz.prog 91 #[.pointer (some ⟨p, 0, none⟩), .int .i64 (du : Nat), .int .i64 v, .int .i64 (dw : Nat), .int .i64 k] W fun e w' => e = .returned (.bool (S du dw)) ∧ Below W.heap.size W w') := hsp2
      have HDI : Hid (∀ W, Below w1.heap.size w1 W → W.cell? ⟨b, j * 5, none⟩ = some (.int .i64 (du : Nat)) ∧ W.cell? ⟨b, j * 5 + 1, none⟩ = some (.int .i64 (dw : Nat))) := fun W hW => ⟨(hci.on hW).1, (hci.on hW).2.1⟩
      have HBW : Hid (Below w.heap.size w wr.drew) := HB.out.trans ((hbr.drew).mono HB.out.size)
      have HBD : Hid (Below w1.heap.size w1 wr.drew) := hbr.drew
      obtain ⟨c0, c1⟩ := HDI.out _ HBR.out
      have c0d : wr.drew.cell? ⟨b, j * 5, none⟩ = some (.int .i64 (du : Nat)) := c0
      have c1d : wr.drew.cell? ⟨b, j * 5 + 1, none⟩ = some (.int .i64 (dw : Nat)) := c1
      have k1 : (j : Int) < (C : Int) := by omega
      have k0 : (0 : Int) ≤ (j : Int) := by omega
      generalize hgj : G j = gj at *
      have hgl : gj ≤ j := HGL.out
      clear hcc hci hsp hsp2 hbr HCL HST HSP HA HLE hgj
      cases hs : S du dw with
      | true =>
        have HE : Hid (G (j + 1) = gj) := by rw [hst, hs]; rfl
        rw [hs] at HSPJ
        clear hst hs
        go_upto_region 6 with fail
        go_region_held3 (fun w' => w'.cell? ⟨b, j * 5, none⟩ = some (.int .i64 (du : Nat)) ∧ w'.cell? ⟨b, j * 5 + 1, none⟩ = some (.int .i64 (dw : Nat))) (first | go_keep | exact HDI.out _ HB4.out) (first
          | (go_at_call 91; refine (HSPJ.out _ HBW.out).mono ?_; rintro e w4 ⟨rfl, hb4⟩; have HB4 : Hid (Below w1.heap.size w1 w4) := HBD.out.trans (hb4.mono HBD.out.size); clear hb4))
        go_wp2_with fail
        go_roundw
        case rel => exact ⟨j + 1, by omega, by go_num, by rw [HE.out], HB4.out⟩
        case measure => simp [intOf]; omega
      | false =>
        have HE : Hid (G (j + 1) = gj + 1) := by rw [hst, hs]; rfl
        rw [hs] at HSPJ
        clear hst hs
        go_upto_region 6 with fail
        go_region_held3 (fun w' => w'.cell? ⟨b, j * 5, none⟩ = some (.int .i64 (du : Nat)) ∧ w'.cell? ⟨b, j * 5 + 1, none⟩ = some (.int .i64 (dw : Nat))) (first | go_keep | exact HDI.out _ HB4.out) (first
          | (go_at_call 91; refine (HSPJ.out _ HBW.out).mono ?_; rintro e w4 ⟨rfl, hb4⟩; have HB4 : Hid (Below w1.heap.size w1 w4) := HBD.out.trans (hb4.mono HBD.out.size); clear hb4))
        go_wp2_with fail
        go_roundw
        case rel => exact ⟨j + 1, by omega, by go_num, by rw [HE.out]; go_num, HB4.out⟩
        case measure => simp [intOf]; omega
    · obtain rfl : j = C := by omega
      have HE : Hid (G j = R) := by rw [HC.out]; exact HA.out
      clear hlt hbr
      go_wp2_with fail
      go_ret
      exact ⟨ret_int (by rw [HE.out]), HB.out.trans (HBR.out.mono HB.out.size)⟩
end Go.Proofs.YtkcfepppnclniaaGreatDoor
end

section
/-
  What the laws of layer 14 ask of the program's Need, Difference and Rank: as propositions, which the program's walks prove.
-/
namespace Go.Proofs.YtkcfepppnclniaaGreatDoor
open Go.RowKit
/-- awake is true. -/
def AwakeIs : Prop := ∀ w : World, Calls Tryz.prog 5 #[] w fun e w' => e = .returned (.bool true) ∧ Below w.heap.size w w'
/-- Need of a vertex. -/
def NeedIs : Prop := ∀ {w : World} {p N : Nat} {D : Nat → Nat → Int}, XMem w p N D → XM.Mesh N D → N ≤ 24 → ∀ (v : Nat), v < N → ∀ k : Int,
  Calls Tryz.prog 15 #[.pointer (some ⟨p, 0, none⟩), .int .i64 v, .int .i64 k] w fun e w' => e = .returned (.tuple #[.int .i64 (OM.need N D v k.toNat : Nat), .int .i64 0]) ∧ Below w.heap.size w w'
/-- Need of what is no vertex. -/
def NeedNo : Prop := ∀ {w : World} {p N : Nat} {D : Nat → Nat → Int}, XMem w p N D → N ≤ 24 → ∀ v : Int, GM.vert N v = false → ∀ k : Int,
  Calls Tryz.prog 15 #[.pointer (some ⟨p, 0, none⟩), .int .i64 v, .int .i64 k] w fun e w' => e = .returned (.tuple #[.int .i64 0, .int .i64 1]) ∧ Below w.heap.size w w'
/-- Difference of a vertex. -/
def DiffIs : Prop := ∀ {w : World} {p N : Nat} {D : Nat → Nat → Int}, XMem w p N D → XM.Mesh N D → N ≤ 24 → ∀ (v : Nat), v < N → ∀ k : Int,
  Calls Tryz.prog 16 #[.pointer (some ⟨p, 0, none⟩), .int .i64 v, .int .i64 k] w fun e w' => e = .returned (.tuple #[.int .i64 (OM.diff N D v k.toNat), .int .i64 0]) ∧ Below w.heap.size w w'
def DiffNo : Prop := ∀ {w : World} {p N : Nat} {D : Nat → Nat → Int}, XMem w p N D → N ≤ 24 → ∀ v : Int, GM.vert N v = false → ∀ k : Int,
  Calls Tryz.prog 16 #[.pointer (some ⟨p, 0, none⟩), .int .i64 v, .int .i64 k] w fun e w' => e = .returned (.tuple #[.int .i64 0, .int .i64 1]) ∧ Below w.heap.size w w'
end Go.Proofs.YtkcfepppnclniaaGreatDoor
end
