/-
  The walks of the reference's Best and Ends.
-/
import Derived.Test.YtjnihkfnnokmdaaGraphRef3
import Derived.Test.YtjnihkfnnokmdaaInts
namespace Go.Proofs.Ytjnihkfnnokmdaa
open Go.RowKit

namespace GM
/-- The k-th place that is taken. -/
def nth (m : M) (k : Nat) : Nat := ((ids m 64)[k]?).getD 0
theorem nth_is {m : M} {k : Nat} (h : k < cnt m) : nth m k < 64 ∧ is m (nth m k) = true := by
  unfold nth
  have h' : k < (ids m 64).length := h
  rw [List.getElem?_eq_getElem h', Option.getD_some]
  exact (mem_ids m _ 64).1 (List.getElem_mem h')
theorem nth_iids {m : M} {k : Nat} (h : k < cnt m) : (iids m 64)[k]?.getD 0 = (nth m k : Nat) := by
  unfold iids nth
  have h' : k < (ids m 64).length := h
  rw [List.getElem?_map, List.getElem?_eq_getElem h']
  rfl
/-- The best of the first k. -/
def bestT (m : M) (u v : Int) (k : Nat) : Int × Int := ((arcs m 64).take k).foldl (better u v) best0
theorem bestT_zero (m : M) (u v : Int) : bestT m u v 0 = best0 := by simp [bestT]
theorem bestT_all (m : M) (u v : Int) : bestT m u v (cnt m) = best m u v 64 := by
  unfold bestT best cnt
  rw [← arcs_len, List.take_length]
theorem take_map {α : Type} (f : Nat → α) (l : List Nat) (k : Nat) (h : k < l.length) : (l.map f).take (k + 1) = (l.map f).take k ++ [f ((l[k]?).getD 0)] := by
  rw [List.take_add_one, List.getElem?_map, List.getElem?_eq_getElem h]
  rfl
theorem take_arcs {m : M} {k : Nat} (h : k < cnt m) : (arcs m 64).take (k + 1) = (arcs m 64).take k ++ [(nth m k, arc m (nth m k))] := take_map (fun i => (i, arc m i)) (ids m 64) k h
theorem bestT_succ {m : M} {k : Nat} (h : k < cnt m) (u v : Int) : bestT m u v (k + 1) = better u v (bestT m u v k) (nth m k, arc m (nth m k)) := by
  unfold bestT
  rw [take_arcs h, List.foldl_append]
  rfl
def endsT (m : M) (v : Int) (head : Bool) (k : Nat) : List Int := (those head v ((arcs m 64).take k)).map (fun i : Nat => (i : Int))
theorem endsT_zero (m : M) (v : Int) (head : Bool) : endsT m v head 0 = [] := by simp [endsT, those]
theorem endsT_take {m : M} {k : Nat} (h : k < cnt m) {v : Int} {head : Bool} (he : end1 head (arc m (nth m k)) = v) : endsT m v head (k + 1) = endsT m v head k ++ [((nth m k : Nat) : Int)] := by
  unfold endsT
  rw [take_arcs h, those_snoc, if_pos he, List.map_append, List.map_cons, List.map_nil]
theorem endsT_skip {m : M} {k : Nat} (h : k < cnt m) {v : Int} {head : Bool} (he : end1 head (arc m (nth m k)) ≠ v) : endsT m v head (k + 1) = endsT m v head k := by
  unfold endsT
  rw [take_arcs h, those_snoc, if_neg he, List.append_nil]
theorem endsT_len (m : M) (v : Int) (head : Bool) (k : Nat) : (endsT m v head k).length ≤ k := by
  unfold endsT those
  rw [List.length_map, List.length_map]
  refine Nat.le_trans (List.length_filter_le _ _) ?_
  rw [List.length_take]
  omega
theorem endsT_all (m : M) (v : Int) (head : Bool) : endsT m v head (cnt m) = (ends m v head).map (fun i : Nat => (i : Int)) := by
  unfold endsT cnt
  rw [← arcs_len, List.take_length, those_all]
end GM

set_option maxHeartbeats 4000000 in
set_option maxRecDepth 100000 in
theorem rends_any {w : World} {q N most : Nat} {m : GM.M} (hg : RMem w q N most m) (v : Int) (head : Bool) :
    Calls Try.prog 37 #[.pointer (some ⟨q, 0, none⟩), .int .i64 v, .bool head] w fun e w' => ∃ r, e = .returned r ∧ Own .i64 3 w' w.heap.size r ((GM.ends m v head).map (fun i : Nat => (i : Int))) ∧ Below w.heap.size w w' := by
  obtain ⟨i0, hi, hz0, hz1, hz2⟩ := info_parts info3
  have hid := rids_any hg
  have HG : Hid (∀ W, Below w.heap.size w W → RMem W q N most m) := fun W hW => hg.on hW
  have HN : Hid (∀ k, k < GM.cnt m → GM.nth m k < 64 ∧ (GM.iids m 64)[k]?.getD 0 = (GM.nth m k : Nat)) := fun k hk => ⟨(GM.nth_is hk).1, GM.nth_iids hk⟩
  have HB0 : Hid (GM.endsT m v head 0 = []) := GM.endsT_zero m v head
  have HBA : Hid (GM.endsT m v head (GM.cnt m) = (GM.ends m v head).map (fun i : Nat => (i : Int))) := GM.endsT_all m v head
  have HBT : Hid (∀ k, k < GM.cnt m → GM.end1 head (GM.arc m (GM.nth m k)) = v → GM.endsT m v head (k + 1) = GM.endsT m v head k ++ [((GM.nth m k : Nat) : Int)]) := fun k hk he => GM.endsT_take hk he
  have HBS : Hid (∀ k, k < GM.cnt m → GM.end1 head (GM.arc m (GM.nth m k)) ≠ v → GM.endsT m v head (k + 1) = GM.endsT m v head k) := fun k hk he => GM.endsT_skip hk he
  have HBL : Hid (∀ k, (GM.endsT m v head k).length ≤ k) := GM.endsT_len m v head
  have hcl : (GM.iids m 64).length = GM.cnt m := GM.iids_len m 64
  have hc64 := GM.cnt_le m
  rw [← HBA.out]
  clear hg HBA
  generalize GM.iids m 64 = Z at *
  obtain ⟨C, hC⟩ : ∃ C, C = GM.cnt m := ⟨_, rfl⟩
  rw [← hC] at HN HBS HBT hcl hc64 ⊢
  clear hC
  go_enter Try.func37, Try.ntmps37
  go_wp2_with fail
  refine hid.mono ?_
  rintro e w1 ⟨r, rfl, ho, hb1⟩
  obtain ⟨a1, cp1, rfl, hat⟩ := ho.at
  rw [hcl]
  have HAT : Hid (∀ W, Below w1.heap.size w1 W → RowAt .i64 W a1 cp1 Z) := fun W hW => hat.below hW
  have HCL : Hid (Z.length = C) := hcl
  clear hid ho hat hcl
  go_wp2_with fail
  go_loopw [7, 9] (fun sv iv wr => ∃ k : Nat, k ≤ C ∧ iv = .int .i64 k ∧ Own .i64 3 wr w1.heap.size sv (GM.endsT m v head k) ∧ Below w1.heap.size w1 wr) (fun _ iv _ => C - (intOf iv).toNat)
  case atStart => exact ⟨0, Nat.zero_le _, rfl, by rw [HB0.out]; exact Own.nil _ _ _ _, Below.refl _ _⟩
  case round =>
    obtain ⟨k, hk, rfl, how, hbr⟩ := hrel
    have HO : Hid (Own .i64 3 wr w1.heap.size u7 (GM.endsT m v head k)) := how
    by_cases hlt : k < C
    · obtain ⟨hn, hnz⟩ := HN.out k hlt
      obtain ⟨b, o, rfl, hc⟩ := (HAT.out wr hbr).2.2.2 (by rw [HCL.out]; omega)
      have ck := hc k (by rw [HCL.out]; exact hlt)
      rw [hnz] at ck
      have hgr := HG.out wr (below_on hb1 hbr)
      have HS : Hid (GM.end1 head (GM.arc m (GM.nth m k)) ≠ v → GM.endsT m v head (k + 1) = GM.endsT m v head k) := HBS.out k hlt
      have HT : Hid (GM.end1 head (GM.arc m (GM.nth m k)) = v → GM.endsT m v head (k + 1) = GM.endsT m v head k ++ [((GM.nth m k : Nat) : Int)]) := HBT.out k hlt
      have HL : Hid ((GM.endsT m v head k).length ≤ k) := HBL.out k
      generalize GM.nth m k = i at *
      obtain ⟨d0, d1, d2, d3⟩ := hgr.arc i hn
      generalize GM.arc m i = ar at *
      obtain ⟨t, h, x, c⟩ := ar
      dsimp only at d0 d1 d2 d3
      have k1 : (k : Int) < (C : Int) := by omega
      have i64' : (i : Int) < 64 := by omega
      have HBR : Hid (Below w1.heap.size w1 wr) := hbr
      have hqb := hgr.lt
      have hbb := cell_lt ck
      have HQL : Hid (q < wr.heap.size ∧ b < wr.heap.size) := ⟨hqb, hbb⟩
      clear hc hnz hgr hbr hn hqb hbb how
      go_upto_region 6 with fail
      go_cut [10] (fun s wx => ∃ g, s = .pointer (some ⟨g, 0, none⟩) ∧ ArcIn wx g 0 ⟨t, h, x, c⟩ ∧ Below wr.heap.size wr wx)
      case first =>
        have hba : Below wr.heap.size wr (wr.alloc (.cells #[.int .i64 0, .int .i64 0, .int .i64 0, .bool false] 47)) := (Below.refl _ _).alloc (Nat.le_refl _) _
        have ck' := (hba.cell (p := ⟨b, o + k, none⟩) HQL.out.2).trans ck
        have d0' := (hba.cell (p := ⟨q, _, none⟩) HQL.out.1).trans d0
        have d1' := (hba.cell (p := ⟨q, _, none⟩) HQL.out.1).trans d1
        have d2' := (hba.cell (p := ⟨q, _, none⟩) HQL.out.1).trans d2
        have d3' := (hba.cell (p := ⟨q, _, none⟩) HQL.out.1).trans d3
        clear hba
        go_region
        all_goals
          go_wp2_with fail
          go_meet
          exact ⟨wr.heap.size, rfl, arcIn_new wr t h x c, ((Below.refl _ _).alloc (Nat.le_refl _) _).drew⟩
      case rest =>
      obtain ⟨g, rfl, hin, hbc⟩ := hcut
      obtain ⟨a0, a1, a2, a3⟩ := hin
      simp only [Nat.zero_add] at a1 a2 a3
      dsimp only at a0 a1 a2 a3
      have HBC : Hid (Below w1.heap.size w1 wc) := below_on HBR.out hbc
      have HOC : Hid (Own .i64 3 wc w1.heap.size u7 (GM.endsT m v head k)) := HO.out.below hbc
      have ckc := (hbc.cell (p := ⟨b, o + k, none⟩) HQL.out.2).trans ck
      clear hbc d0 d1 d2 d3 ck HO
      by_cases he : GM.end1 head ⟨t, h, x, c⟩ = v
      · have HE : Hid (GM.endsT m v head (k + 1) = GM.endsT m v head k ++ [(i : Int)]) := HT.out he
        clear HS HT
        cases head with
        | false =>
          have he' : t = v := he
          subst he'
          clear he
          go_wp2_with (at_builtin; refine wpList_append_row _ rfl _ _ 23 rfl .i64 w1.heap.size 3 i0 8 Try.underlying23 hi hz0 hz1 hz2 _ (GM.endsT m t false k) rfl (HOC.out.alloc _) (some ⟨wc.heap.size, 0, none⟩) 1 1 [(i : Int)] rfl rfl (rowAt_lit1 _ _ _ _) (by have := HL.out; unfold maxLen; simp; omega) (by have := HL.out; simp; omega) (by have := HBC.out.size; simp; omega) ?_)
          intro v2 w2 hown2 hgrow2 _
          have hb2 : Below w1.heap.size w1 w2 := (HBC.out.alloc HBC.out.size _).grown hgrow2 (by have := HBC.out.size; simp; omega) (fun g hg => HOC.out.block g hg)
          have HO2 : Hid (Own .i64 3 w2 w1.heap.size v2 (GM.endsT m t false (k + 1))) := by
            show Own _ _ _ _ _ _
            rw [HE.out]
            exact hown2
          have HB2 : Hid (Below w1.heap.size w1 w2) := hb2
          clear hown2 hgrow2 hb2 a0 a1 a2 a3 ckc
          go_wp2_with fail
          go_roundw
          case rel => exact ⟨k + 1, by omega, by go_num, HO2.out, HB2.out⟩
          case measure => simp [intOf]; omega
        | true =>
          have he' : h = v := he
          subst he'
          clear he
          go_wp2_with (at_builtin; refine wpList_append_row _ rfl _ _ 23 rfl .i64 w1.heap.size 3 i0 8 Try.underlying23 hi hz0 hz1 hz2 _ (GM.endsT m h true k) rfl (HOC.out.alloc _) (some ⟨wc.heap.size, 0, none⟩) 1 1 [(i : Int)] rfl rfl (rowAt_lit1 _ _ _ _) (by have := HL.out; unfold maxLen; simp; omega) (by have := HL.out; simp; omega) (by have := HBC.out.size; simp; omega) ?_)
          intro v2 w2 hown2 hgrow2 _
          have hb2 : Below w1.heap.size w1 w2 := (HBC.out.alloc HBC.out.size _).grown hgrow2 (by have := HBC.out.size; simp; omega) (fun g hg => HOC.out.block g hg)
          have HO2 : Hid (Own .i64 3 w2 w1.heap.size v2 (GM.endsT m h true (k + 1))) := by
            show Own _ _ _ _ _ _
            rw [HE.out]
            exact hown2
          have HB2 : Hid (Below w1.heap.size w1 w2) := hb2
          clear hown2 hgrow2 hb2 a0 a1 a2 a3 ckc
          go_wp2_with fail
          go_roundw
          case rel => exact ⟨k + 1, by omega, by go_num, HO2.out, HB2.out⟩
          case measure => simp [intOf]; omega
      · have HE : Hid (GM.endsT m v head (k + 1) = GM.endsT m v head k) := HS.out he
        clear HS HT
        cases head with
        | false =>
          have he' : (t == v) = false := beq_eq_false_iff_ne.2 he
          clear he
          go_wp2_with fail
          go_roundw
          case rel => exact ⟨k + 1, by omega, by go_num, by rw [HE.out]; exact HOC.out, HBC.out⟩
          case measure => simp [intOf]; omega
        | true =>
          have he' : (h == v) = false := beq_eq_false_iff_ne.2 he
          clear he
          go_wp2_with fail
          go_roundw
          case rel => exact ⟨k + 1, by omega, by go_num, by rw [HE.out]; exact HOC.out, HBC.out⟩
          case measure => simp [intOf]; omega
    · obtain rfl : k = C := by omega
      have HBB : Hid (Below w.heap.size w wr) := below_on hb1 hbr
      have HSZ : Hid (w.heap.size ≤ w1.heap.size) := hb1.size
      clear hlt hk hbr how
      go_wp2_with fail
      go_ret
      exact ⟨_, rfl, HO.out.base_le HSZ.out, HBB.out⟩
end Go.Proofs.Ytjnihkfnnokmdaa
