/-
  The walks of the document's Check and Simple (layer 9).
-/
import Derived.Test.YtjnihkfnnokmdaaWalkRef
namespace Go.Proofs.Ytjnihkfnnokmdaa
open Go.RowKit

namespace WK
theorem vlist_ok {n : Nat} {u : Int} {xs : List (Arc × Int)} (h : vcode n u xs = 0) : vlist n u xs = u :: heads xs := by unfold vlist; rw [if_pos h]
theorem last_at {n : Nat} {u : Int} {xs : List (Arc × Int)} (h : vcode n u xs = 0) : (vlist n u xs)[(vlist n u xs).length - 1]?.getD 0 = last u xs ∧ 0 < (vlist n u xs).length ∧ (vlist n u xs).length = xs.length + 1 := by
  rw [vlist_ok h]
  have hl : (u :: heads xs).length = xs.length + 1 := by rw [List.length_cons, heads_len]
  rw [hl]
  exact ⟨here_at u xs rfl, by omega, rfl⟩
/-- No two alike below i. -/
def apart (Z : List Int) (i : Nat) : Prop := ∀ a b, a < b → b < i → Z[a]?.getD 0 ≠ Z[b]?.getD 0
theorem apart_succ {Z : List Int} {i : Nat} (h : apart Z i) (h2 : ∀ j, j < i → Z[j]?.getD 0 ≠ Z[i]?.getD 0) : apart Z (i + 1) := fun a b hab hb => by
  by_cases e : b = i
  · subst e
    exact h2 a hab
  · exact h a b hab (by omega)
theorem apart_all {Z : List Int} (h : apart Z Z.length) : Z.Nodup := by
  rw [List.Nodup, List.pairwise_iff_getElem]
  intro i j hi hj hij e
  refine h i j hij hj ?_
  rw [List.getElem?_eq_getElem hi, List.getElem?_eq_getElem hj, e]
theorem apart_not {Z : List Int} {i k : Nat} (hki : k < i) (hi : i < Z.length) (e : Z[k]?.getD 0 = Z[i]?.getD 0) : ¬ Z.Nodup := by
  rw [List.Nodup, List.pairwise_iff_getElem]
  intro h
  rw [List.getElem?_eq_getElem (by omega), List.getElem?_eq_getElem hi] at e
  exact h k i (by omega) hi hki e
theorem simple_bad {n : Nat} {u : Int} {xs : List (Arc × Int)} (h : vcode n u xs ≠ 0) : simple n u xs = false := decide_eq_false (fun e => h e.1)
theorem simple_ok {n : Nat} {u : Int} {xs : List (Arc × Int)} (h : vcode n u xs = 0) : simple n u xs = decide (vlist n u xs).Nodup := by
  unfold simple
  rw [vlist_ok h]
  simp [h]
end WK

set_option maxRecDepth 100000 in
set_option maxHeartbeats 2000000 in
theorem rcheck_any {w : World} {q N most : Nat} {m : GM.M} (hg : RMem w q N most m) (u tw : Int) {v : Value} {zs : List Int} (hrow : Row .i64 w v zs) (hzs : zs.length ≤ 1000) :
    Calls Try.prog 11 #[.pointer (some ⟨q, 0, none⟩), .int .i64 u, .int .i64 tw, v] w fun e w' => e = .returned (.int .i64 (WK.ccode N u tw (WK.list m zs))) ∧ Below w.heap.size w w' := by
  have hv1 := vertex_any hg u
  have hv2 := vertex_any hg tw
  have hvs := rvisits_any hg u hrow hzs
  have HC : Hid (WK.ccode N u tw (WK.list m zs) = if GM.vert N tw = true then (if WK.vcode N u (WK.list m zs) = 0 then (if WK.last u (WK.list m zs) = tw then 0 else 8) else WK.vcode N u (WK.list m zs)) else 1) := rfl
  have HV : Hid (GM.vert N u = false → WK.vcode N u (WK.list m zs) = 1) := fun h => by unfold WK.vcode; rw [h]; rfl
  have HLA : Hid (WK.vcode N u (WK.list m zs) = 0 → (WK.vlist N u (WK.list m zs))[(WK.vlist N u (WK.list m zs)).length - 1]?.getD 0 = WK.last u (WK.list m zs) ∧ 0 < (WK.vlist N u (WK.list m zs)).length ∧ (WK.vlist N u (WK.list m zs)).length ≤ 1001) := fun h => by
    obtain ⟨h1, h2, h3⟩ := WK.last_at h
    refine ⟨h1, h2, ?_⟩
    rw [h3, WK.list_len]
    omega
  clear hg
  generalize WK.ccode N u tw (WK.list m zs) = C at *
  generalize WK.vcode N u (WK.list m zs) = c at *
  generalize WK.vlist N u (WK.list m zs) = V at *
  generalize WK.last u (WK.list m zs) = la at *
  generalize GM.vert N u = b1 at *
  generalize GM.vert N tw = b2 at *
  cases b1 with
  | false =>
    obtain rfl : C = 1 := by
      rw [HC.out, HV.out rfl]
      cases b2 <;> rfl
    clear hvs
    go_enter Try.func11, Try.ntmps11
    go_wp2_with fail
    refine hv1.mono ?_
    rintro e w2 ⟨rfl, rfl⟩
    go_wp2_with fail
    go_ret
    exact ⟨rfl, Below.refl _ _⟩
  | true =>
    cases b2 with
    | false =>
      obtain rfl : C = 1 := by
        rw [HC.out]
        rfl
      clear hvs
      go_enter Try.func11, Try.ntmps11
      go_wp2_with fail
      refine hv1.mono ?_
      rintro e w2 ⟨rfl, hw2⟩
      rw [hw2]
      clear hw2 hv1
      go_wp2_with fail
      refine hv2.mono ?_
      rintro e w3 ⟨rfl, hw3⟩
      rw [hw3]
      clear hw3 hv2
      go_wp2_with fail
      go_ret
      exact ⟨rfl, Below.refl _ _⟩
    | true =>
      have HC' : Hid (C = if c = 0 then (if la = tw then 0 else 8) else c) := by
        show _ = _
        rw [HC.out]
        rfl
      clear HC HV
      go_enter Try.func11, Try.ntmps11
      go_wp2_with fail
      refine hv1.mono ?_
      rintro e w2 ⟨rfl, hw2⟩
      rw [hw2]
      clear hw2 hv1
      go_wp2_with fail
      refine hv2.mono ?_
      rintro e w3 ⟨rfl, hw3⟩
      rw [hw3]
      clear hw3 hv2
      go_wp2_with fail
      refine hvs.mono ?_
      rintro e w4 ⟨r, rfl, ho, hb4⟩
      clear hvs
      by_cases hc : c = 0
      · obtain ⟨l1, l2, l3⟩ := HLA.out hc
        obtain ⟨ao2, cap2, rfl, hat2⟩ := ho.at
        obtain ⟨bb, oo, rfl, hcc⟩ := hat2.2.2.2 l2
        obtain ⟨j, hj⟩ : ∃ j, V.length = j + 1 := ⟨V.length - 1, by omega⟩
        have hck := hcc j (by omega)
        rw [hj, Nat.add_sub_cancel] at l1
        rw [l1] at hck
        rw [hj]
        have HB4 : Hid (Below w.heap.size w w4) := hb4
        have hj2 : j ≤ 1000 := by omega
        have HCC : Hid (C = if la = tw then 0 else 8) := by
          show _ = _
          rw [HC'.out, if_pos hc]
        clear l1 l2 l3 hcc hat2 ho HLA HC' hb4 hj
        subst hc
        by_cases e : la = tw
        · have HC3 : Hid (C = 0) := by
            show _ = _
            rw [HCC.out, if_pos e]
          subst e
          clear HCC
          go_wp2_with fail
          go_ret
          exact ⟨by rw [HC3.out]; rfl, HB4.out⟩
        · have HC3 : Hid (C = 8) := by
            show _ = _
            rw [HCC.out, if_neg e]
          have e' : (la != tw) = true := by simpa using e
          clear HCC
          go_wp2_with fail
          go_ret
          exact ⟨by rw [HC3.out]; rfl, HB4.out⟩
      · have hc' : (c != 0) = true := by simpa using hc
        have HC3 : Hid (C = c) := by
          show _ = _
          rw [HC'.out, if_neg hc]
        have HB4 : Hid (Below w.heap.size w w4) := hb4
        obtain ⟨ao2, cap2, rfl, -⟩ := ho.at
        clear ho HLA HC' hb4
        go_wp2_with fail
        go_ret
        exact ⟨by rw [HC3.out]; rfl, HB4.out⟩

set_option maxRecDepth 100000 in
set_option maxHeartbeats 2000000 in
theorem rsimple_any {w : World} {q N most : Nat} {m : GM.M} (hg : RMem w q N most m) (u : Int) {v : Value} {zs : List Int} (hrow : Row .i64 w v zs) (hzs : zs.length ≤ 1000) :
    Calls Try.prog 18 #[.pointer (some ⟨q, 0, none⟩), .int .i64 u, v] w fun e w' => e = .returned (.bool (WK.simple N u (WK.list m zs))) ∧ Below w.heap.size w w' := by
  have hvs := rvisits_any hg u hrow hzs
  have HLA : Hid (WK.vcode N u (WK.list m zs) = 0 → (WK.vlist N u (WK.list m zs)).length ≤ 1001) := fun h => by
    obtain ⟨h1, h2, h3⟩ := WK.last_at h
    rw [h3, WK.list_len]
    omega
  have HC1 : Hid (WK.vcode N u (WK.list m zs) ≠ 0 → WK.simple N u (WK.list m zs) = false) := fun h => WK.simple_bad h
  have HC2 : Hid (WK.vcode N u (WK.list m zs) = 0 → WK.simple N u (WK.list m zs) = decide (WK.vlist N u (WK.list m zs)).Nodup) := fun h => WK.simple_ok h
  clear hg
  generalize WK.simple N u (WK.list m zs) = C at *
  generalize WK.vcode N u (WK.list m zs) = c at *
  generalize WK.vlist N u (WK.list m zs) = V at *
  go_enter Try.func18, Try.ntmps18
  go_wp2_with fail
  refine hvs.mono ?_
  rintro e w4 ⟨r, rfl, ho, hb4⟩
  clear hvs
  obtain ⟨ao2, cap2, rfl, hat2⟩ := ho.at
  have HB4 : Hid (Below w.heap.size w w4) := hb4
  by_cases hc : c = 0
  · have hvl := HLA.out hc
    have HCC : Hid (C = decide V.Nodup) := HC2.out hc
    have HR : Hid (∀ W, Below w4.heap.size w4 W → RowAt .i64 W ao2 cap2 V) := fun W hW => hat2.below hW
    obtain ⟨L, hL⟩ : ∃ L, L = V.length := ⟨_, rfl⟩
    have HL : Hid (L = V.length) := hL
    rw [← hL] at hvl ⊢
    clear hL ho hat2 HC1 HC2 HLA hb4
    subst hc
    go_wp2_with fail
    go_loopw [9] (fun iv wr => ∃ i : Nat, i ≤ L ∧ iv = .int .i64 i ∧ Hid (WK.apart V i) ∧ Below w4.heap.size w4 wr) (fun iv _ => L - (intOf iv).toNat)
    case atStart => exact ⟨0, Nat.zero_le _, rfl, (fun a b h1 h2 => by omega), Below.refl _ _⟩
    case round =>
      obtain ⟨i, hi, rfl, HAP, hbr⟩ := hrel
      by_cases hlt : i < L
      · have i1 : (i : Int) < (L : Int) := by omega
        go_wp2_with fail
        go_loopw [10] (fun kv wx => ∃ k : Nat, k ≤ i ∧ kv = .int .i64 k ∧ Hid (∀ j, j < k → V[j]?.getD 0 ≠ V[i]?.getD 0) ∧ Below w4.heap.size w4 wx) (fun kv _ => i - (intOf kv).toNat)
        case atStart => exact ⟨0, Nat.zero_le _, rfl, (fun j h => by omega), hbr⟩
        case round =>
          obtain ⟨k, hk, rfl, HJ, hbx⟩ := hrel
          by_cases hki : k < i
          · obtain ⟨b, o, rfl, hcc⟩ := (HR.out _ hbx).2.2.2 (by rw [← HL.out]; omega)
            have c1 := hcc k (by rw [← HL.out]; omega)
            have c2 := hcc i (by rw [← HL.out]; omega)
            have HJ2 : Hid (V[k]?.getD 0 ≠ V[i]?.getD 0 → ∀ j, j < k + 1 → V[j]?.getD 0 ≠ V[i]?.getD 0) := fun h j hj => by
              by_cases e : j = k
              · subst e
                exact h
              · exact HJ.out j (by omega)
            have HNO : Hid (V[k]?.getD 0 = V[i]?.getD 0 → C = false) := fun e => by
              rw [HCC.out]
              exact decide_eq_false (WK.apart_not hki (by rw [← HL.out]; exact hlt) e)
            have HBX := hbx
            have k1 : (k : Int) < (i : Int) := by omega
            have k2 : (k : Int) < (L : Int) := by omega
            clear hcc HJ
            generalize V[k]?.getD 0 = x at *
            generalize V[i]?.getD 0 = y at *
            by_cases hxy : x = y
            · have HC3 : Hid (C = false) := HNO.out hxy
              subst hxy
              clear HNO HJ2
              go_wp2_with fail
              go_region
              all_goals
                go_wp2_with fail
                go_ret
                exact ⟨by rw [HC3.out]; rfl, below_on HB4.out (below_drewN HBX _)⟩
            · have HJ3 : Hid (∀ j, j < k + 1 → V[j]?.getD 0 ≠ y) := HJ2.out hxy
              clear HNO HJ2
              go_wp2_with fail
              go_region
              go_wp2_with fail
              go_roundw
              case rel => exact ⟨k + 1, by omega, by go_num, HJ3, below_drewN HBX _⟩
              case measure => simp [intOf]; omega
          · obtain rfl : k = i := by omega
            have HAP2 : Hid (WK.apart V (k + 1)) := WK.apart_succ HAP.out HJ.out
            clear HJ HAP
            go_wp2_with fail
            go_roundw
            case rel => exact ⟨k + 1, by omega, by go_num, HAP2, hbx⟩
            case measure => simp [intOf]; omega
      · obtain rfl : i = L := by omega
        have HC3 : Hid (C = true) := by
          show _ = _
          rw [HCC.out]
          exact decide_eq_true (WK.apart_all (by rw [← HL.out]; exact HAP.out))
        have HBB : Hid (Below w.heap.size w wr) := below_on HB4.out hbr
        clear HAP HCC
        go_wp2_with fail
        go_ret
        exact ⟨by rw [HC3.out]; rfl, HBB.out⟩
  · have hc' : (c != 0) = true := by simpa using hc
    have HC3 : Hid (C = false) := HC1.out hc
    clear ho hat2 HC1 HC2 HLA hb4
    go_wp2_with fail
    go_ret
    exact ⟨by rw [HC3.out]; rfl, HB4.out⟩
end Go.Proofs.Ytjnihkfnnokmdaa
