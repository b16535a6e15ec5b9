/-
  The law's led: a walk of open arcs, each chosen by a number. What it is told to be: a list whose arcs lead on, and where they end.
-/
import Derived.Test.YtjnihkfnnokmdaaWalkRef2
import Derived.Test.YtjnihkfnnokmdaaGraphRef4
namespace Go.Proofs.Ytjnihkfnnokmdaa
open Go.RowKit

namespace WK
/-- An open arc that goes on from a vertex. -/
def on (m : GM.M) (u z : Int) : Prop := ∃ i : Nat, z = i ∧ i < 64 ∧ GM.is m i = true ∧ (GM.arc m i).tail = u ∧ (GM.arc m i).closed = false
theorem arcOf_on {m : GM.M} {u z : Int} (h : on m u z) : codeAt u (arcOf m z) = 0 ∧ (arcOf m z).1.head = (GM.arc m z.toNat).head := by
  obtain ⟨i, rfl, hi, h1, h2, h3⟩ := h
  have e : GM.look m (i : Int) = (GM.arc m i, true) := by
    unfold GM.look GM.place
    rw [if_pos (decide_eq_true (by omega)), Int.toNat_natCast, h1]
  unfold arcOf
  rw [e]
  refine ⟨codeAt_zero.2 ⟨?_, h2⟩, by simp⟩
  unfold code1
  simp [h3]
theorem list_add (m : GM.M) (xs : List Int) (z : Int) : list m (xs ++ [z]) = list m xs ++ [arcOf m z] := by simp [list]
theorem ends_on {m : GM.M} {u b z : Int} {xs : List Int} (h : ends u (list m xs) = some b) (hz : on m b z) : ends u (list m (xs ++ [z])) = some (GM.arc m z.toNat).head := by
  obtain ⟨h1, h2⟩ := arcOf_on hz
  rw [list_add, ends_snoc h h1, h2]
theorem ends_mem {m : GM.M} {v : Int} {k : Nat} (hk : k < ((GM.ends m v false).map (fun i : Nat => (i : Int))).length) : ∃ i : Nat, ((GM.ends m v false).map (fun i : Nat => (i : Int)))[k]?.getD 0 = (i : Int) ∧ i < 64 ∧ GM.is m i = true ∧ (GM.arc m i).tail = v := by
  rw [List.length_map] at hk
  refine ⟨(GM.ends m v false)[k], ?_, ?_⟩
  · rw [List.getElem?_map, List.getElem?_eq_getElem hk]
    rfl
  · have hm := List.getElem_mem hk
    generalize (GM.ends m v false)[k] = i at *
    unfold GM.ends at hm
    obtain ⟨h1, h2⟩ := List.mem_filter.1 hm
    have h3 := of_decide_eq_true h2
    obtain ⟨h4, h5⟩ := (GM.mem_ids m i 64).1 h1
    exact ⟨h4, h5, h3⟩
theorem ends_len64 (m : GM.M) (v : Int) : ((GM.ends m v false).map (fun i : Nat => (i : Int))).length ≤ 64 := by
  rw [List.length_map]
  unfold GM.ends
  exact Nat.le_trans (List.length_filter_le _ _) (GM.cnt_le m)
end WK

set_option maxRecDepth 100000 in
set_option maxHeartbeats 4000000 in
theorem led_any {w : World} {q N most : Nat} {m : GM.M} (hg : RMem w q N most m) (u : Int) {v : Value} {cs : List Int} (hrow : Row .u8 w v cs) (hcs : ∀ z ∈ cs, 0 ≤ z ∧ z ≤ 255) (hl : cs.length ≤ 1000) :
    Calls Try.prog 19 #[.pointer (some ⟨q, 0, none⟩), .int .i64 u, v] w fun e w' => ∃ r ids en, e = .returned (.tuple #[r, .int .i64 en]) ∧ Own .i64 3 w' w.heap.size r ids ∧ ids.length ≤ cs.length ∧ WK.ends u (WK.list m ids) = some en ∧ Below w.heap.size w w' := by
  obtain ⟨i0, hi, hz0, hz1, hz2⟩ := info_parts info3
  obtain ⟨ao, cap, rfl, hat⟩ := hrow
  have HRW : Hid (∀ W, Below w.heap.size w W → RowAt .u8 W ao cap cs) := fun W hW => hat.below hW
  have HG : Hid (∀ W, Below w.heap.size w W → RMem W q N most m) := fun W hW => hg.on hW
  have HCS : Hid (∀ k (hk : k < cs.length), ∃ c : Nat, cs[k] = c ∧ c < 256) := fun k hk => by
    have := hcs _ (List.getElem_mem hk)
    exact ⟨cs[k].toNat, by omega, by omega⟩
  clear hg hat hcs
  obtain ⟨L, hL⟩ : ∃ L, L = cs.length := ⟨_, rfl⟩
  have HL : Hid (L = cs.length) := hL
  rw [← hL] at hl ⊢
  clear hL
  go_enter Try.func19, Try.ntmps19
  go_wp2_with fail
  go_loopw [8, 9, 10] (fun ov av iv wr => ∃ (k : Nat) (ids : List Int) (en : Int), k ≤ L ∧ iv = .int .i64 k ∧ av = .int .i64 en ∧ Own .i64 3 wr w.heap.size ov ids ∧ Hid (ids.length ≤ k) ∧ Hid (WK.ends u (WK.list m ids) = some en) ∧ Below w.heap.size w wr) (fun _ _ iv _ => L - (intOf iv).toNat)
  case atStart => exact ⟨0, [], u, Nat.zero_le _, rfl, rfl, Own.nil _ _ _ _, Nat.le_refl _, rfl, Below.refl _ _⟩
  case round =>
    obtain ⟨k, ids, en, hk, rfl, rfl, how, HIL, hends, hbr⟩ := hrel
    by_cases hlt : k < L
    · have hre := rends_any (HG.out wr hbr) en false
      have HEM : Hid (∀ j, j < ((GM.ends m en false).map (fun i : Nat => (i : Int))).length → ∃ i : Nat, ((GM.ends m en false).map (fun i : Nat => (i : Int)))[j]?.getD 0 = (i : Int) ∧ i < 64 ∧ GM.is m i = true ∧ (GM.arc m i).tail = en) := fun j hj => WK.ends_mem hj
      have hel := WK.ends_len64 m en
      generalize (GM.ends m en false).map (fun i : Nat => (i : Int)) = EL at *
      have hil := HIL.out
      have HO : Hid (Own .i64 3 wr w.heap.size u8 ids) := how
      have HBR : Hid (Below w.heap.size w wr) := hbr
      clear how hbr
      have k1 : (k : Int) < (L : Int) := by omega
      go_wp2_with fail
      refine hre.mono ?_
      rintro e w2 ⟨r, rfl, hoe, hb2⟩
      obtain ⟨ae, ce, rfl, hate⟩ := hoe.at
      have HRE : Hid (∀ W, Below w2.heap.size w2 W → RowAt .i64 W ae ce EL) := fun W hW => hate.below hW
      have HO2 : Hid (∀ W, Below w2.heap.size w2 W → Own .i64 3 W w.heap.size u8 ids) := fun W hW => (HO.out.below hb2).below hW
      have HB2 : Hid (∀ W, Below w2.heap.size w2 W → Below w.heap.size w W) := fun W hW => below_on (below_on HBR.out hb2) hW
      obtain ⟨E, hE⟩ : ∃ E, E = EL.length := ⟨_, rfl⟩
      have HE : Hid (E = EL.length) := hE
      rw [← hE] at hel ⊢
      clear hre hoe hb2 hate HO HBR hE
      go_wp2_with fail
      go_loopw [11, 13] (fun mv jv wx => ∃ (j : Nat) (Y : List Int), j ≤ E ∧ jv = .int .i64 j ∧ Own .i64 3 wx w2.heap.size mv Y ∧ Hid (Y.length ≤ j) ∧ Hid (∀ z ∈ Y, WK.on m en z) ∧ Below w2.heap.size w2 wx) (fun _ jv _ => E - (intOf jv).toNat)
      case atStart => exact ⟨0, [], Nat.zero_le _, rfl, Own.nil _ _ _ _, Nat.le_refl _, (fun z hz => by simp at hz), Below.refl _ _⟩
      case round =>
        obtain ⟨j, Y, hj, rfl, hom, HYL, HYO, hbx⟩ := hrel
        have hyl := HYL.out
        by_cases hje : j < E
        · obtain ⟨i, hi1, hi2, hi3, hi4⟩ := HEM.out j (by rw [← HE.out]; exact hje)
          obtain ⟨b, o, rfl, hcc⟩ := (HRE.out _ hbx).2.2.2 (by rw [← HE.out]; omega)
          have c1 := hcc j (by rw [← HE.out]; exact hje)
          rw [hi1] at c1
          have hgx := HG.out _ (HB2.out _ hbx)
          obtain ⟨d0, d1, d2, d3⟩ := hgx.arc i hi2
          have HON : Hid ((GM.arc m i).closed = false → WK.on m en (i : Int)) := fun h => ⟨i, rfl, hi2, hi3, hi4, h⟩
          have i64' : (i : Int) < 64 := by omega
          have j1 : (j : Int) < (E : Int) := by omega
          have HQL : Hid (b < wr.heap.size) := cell_lt c1
          have HBX : Hid (Below w2.heap.size w2 wr) := hbx
          have HOM : Hid (Own .i64 3 wr w2.heap.size u11 Y) := hom
          clear hcc hgx hi1 hi2 hi3 hi4 d0 d1 d2 hbx hom
          go_upto_region 11 with fail
          go_cut [41] (fun s wx => s = .bool (!(GM.arc m i).closed) ∧ Below wr.heap.size wr wx)
          case first =>
            clear HON HEM HRE HO2 HB2 HYO HOM HBX
            generalize (GM.arc m i).closed = cl at *
            go_region
            all_goals
              go_wp2_with fail
              go_meet
              exact ⟨rfl, below_drewN (Below.refl _ _) _⟩
          case rest =>
          obtain ⟨rfl, hbc⟩ := hcut
          have c1' := (hbc.cell (p := ⟨b, o + j, none⟩) HQL.out).trans c1
          have HOC : Hid (Own .i64 3 wc w2.heap.size u11 Y) := HOM.out.below hbc
          have HBC : Hid (Below w2.heap.size w2 wc) := below_on HBX.out hbc
          clear hbc c1 d3 HOM HBX HQL
          generalize (GM.arc m i).closed = cl at *
          cases cl with
          | true =>
            clear HON
            go_wp2_with fail
            go_roundw
            case rel => exact ⟨j + 1, Y, by omega, by go_num, HOC.out, Nat.le_trans HYL.out (Nat.le_succ _), HYO, HBC.out⟩
            case measure => simp [intOf]; omega
          | false =>
            have HYO2 : Hid (∀ z ∈ Y ++ [(i : Int)], WK.on m en z) := fun z hz => by
              rcases List.mem_append.1 hz with h | h
              · exact HYO.out z h
              · rw [List.mem_singleton.1 h]
                exact HON.out rfl
            clear HON HYO
            go_wp2_with (at_builtin; refine wpList_append_row _ rfl _ _ 23 rfl .i64 w2.heap.size 3 i0 8 Try.underlying23 hi hz0 hz1 hz2 _ Y rfl (HOC.out.alloc _) (some ⟨wc.heap.size, 0, none⟩) 1 1 [(i : Int)] rfl rfl (rowAt_lit1 _ _ _ _) (by unfold maxLen; simp; omega) (by simp; omega) (by have := HBC.out.size; simp; omega) ?_)
            intro v3 w3 hown3 hgrow3 _
            have hb3 : Below w2.heap.size w2 w3 := (HBC.out.alloc HBC.out.size _).grown hgrow3 (by have := HBC.out.size; simp; omega) (fun g hg => HOC.out.block g hg)
            have HO3 : Hid (Own .i64 3 w3 w2.heap.size v3 (Y ++ [(i : Int)])) := hown3
            have HB3 : Hid (Below w2.heap.size w2 w3) := hb3
            clear hown3 hgrow3 hb3 c1'
            go_wp2_with fail
            go_roundw
            case rel => exact ⟨j + 1, Y ++ [(i : Int)], by omega, by go_num, HO3.out, (by show (Y ++ [(i : Int)]).length ≤ j + 1; simp; exact HYL.out), HYO2, HB3.out⟩
            case measure => simp [intOf]; omega
        · obtain rfl : j = E := by omega
          have HOX : Hid (Own .i64 3 wr w.heap.size u8 ids) := HO2.out _ hbx
          have HBX : Hid (Below w.heap.size w wr) := HB2.out _ hbx
          obtain ⟨am, cm, rfl, hatm⟩ := hom.at
          obtain ⟨M, hM⟩ : ∃ M, M = Y.length := ⟨_, rfl⟩
          have HM : Hid (M = Y.length) := hM
          rw [← hM] at hyl ⊢
          clear hM
          by_cases hy : M = 0
          · subst hy
            clear hatm hom hbx
            go_wp2_with fail
            go_ret2
            exact ⟨_, ids, en, rfl, HOX.out, Nat.le_trans HIL.out (by omega), hends.out, HBX.out⟩
          · obtain ⟨bm, om, rfl, hcm⟩ := hatm.2.2.2 (by rw [← HM.out]; omega)
            have hkc : k < cs.length := by rw [← HL.out]; exact hlt
            obtain ⟨c, hc1, hc2⟩ := HCS.out k hkc
            obtain ⟨b3, o3, rfl, hc3⟩ := (HRW.out _ HBX.out).2.2.2 (by omega)
            have cc := hc3 k hkc
            rw [List.getElem?_eq_getElem hkc, Option.getD_some, hc1] at cc
            have hidx : c % M < M := Nat.mod_lt _ (by omega)
            have hidy : c % M < Y.length := by rw [← HM.out]; exact hidx
            have cm1 := hcm (c % M) hidy
            rw [List.getElem?_eq_getElem hidy, Option.getD_some] at cm1
            have hon := HYO.out _ (List.getElem_mem hidy)
            generalize Y[c % M] = z at *
            have HENS : Hid (WK.ends u (WK.list m (ids ++ [z])) = some (GM.arc m z.toNat).head) := WK.ends_on hends.out hon
            obtain ⟨i, rfl, hi2, -, -, -⟩ := hon
            rw [Int.toNat_natCast] at HENS
            have hgx := HG.out _ HBX.out
            have i64' : (i : Int) < 64 := by omega
            have hrem : (c : Int).tmod (M : Int) = ((c % M : Nat) : Int) := rfl
            have hne : ¬ (M : Int) = 0 := by omega
            generalize c % M = ix at *
            have ix1 : (ix : Int) < (M : Int) := by omega
            have HD : Hid (∀ W, Below w.heap.size w W → W.cell? ⟨q, 66 + i * 4 + 1, none⟩ = some (.int .i64 (GM.arc m i).head)) := fun W hW => ((HG.out W hW).arc i hi2).2.1
            generalize (GM.arc m i).head = hd at *
            clear hatm hom hbx hcm hc3 hc1 hgx HYO
            go_wp2_with (at_builtin; refine wpList_append_row _ rfl _ _ 23 rfl .i64 w.heap.size 3 i0 8 Try.underlying23 hi hz0 hz1 hz2 _ ids rfl (HOX.out.alloc _) (some ⟨wr.heap.size, 0, none⟩) 1 1 [(i : Int)] rfl rfl (rowAt_lit1 _ _ _ _) (by unfold maxLen; simp; omega) (by simp; omega) (by have := HBX.out.size; simp; omega) ?_)
            intro v3 w3 hown3 hgrow3 _
            have hb3 : Below w.heap.size w w3 := (HBX.out.alloc HBX.out.size _).grown hgrow3 (by have := HBX.out.size; simp; omega) (fun g hg => HOX.out.block g hg)
            have d1 := HD.out w3 hb3
            have HO3 : Hid (Own .i64 3 w3 w.heap.size v3 (ids ++ [(i : Int)])) := hown3
            have HB3 : Hid (Below w.heap.size w w3) := hb3
            clear hown3 hgrow3 hb3
            go_wp2_with fail
            go_roundw
            case rel => exact ⟨k + 1, ids ++ [(i : Int)], hd, by omega, by go_num, rfl, HO3.out, (by show (ids ++ [(i : Int)]).length ≤ k + 1; simp; exact HIL.out), HENS, HB3.out⟩
            case measure => simp [intOf]; omega
    · obtain rfl : k = L := by omega
      have HO : Hid (Own .i64 3 wr w.heap.size u8 ids) := how
      have HBR : Hid (Below w.heap.size w wr) := hbr
      clear how hbr
      go_wp2_with fail
      go_ret2
      exact ⟨_, ids, en, rfl, HO.out, HIL.out, hends.out, HBR.out⟩
end Go.Proofs.Ytjnihkfnnokmdaa
