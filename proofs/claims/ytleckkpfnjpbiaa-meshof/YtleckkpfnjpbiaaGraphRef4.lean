/-
  The walks of the reference's Best and Ends.
-/
import Derived.Test.YtleckkpfnjpbiaaGraphRef3
import Derived.Test.YtleckkpfnjpbiaaInts
namespace Go.Proofs.Ytleckkpfnjpbiaa
open Go.RowKit

namespace GM
/-- The k-th place that is taken. -/
def nth (m : M) (k : Nat) : Nat := ((ids m 64)[k]?).getD 0
theorem nth_is {m : M} {k : Nat} (h : k < cnt m) : nth m k < 64 ∧ is m (nth m k) = true := by
  unfold nth
  have h' : k < (ids m 64).length := h
  rw [List.getElem?_eq_getElem h', Option.getD_some]
  exact (mem_ids m _ 64).1 (List.getElem_mem h')
theorem nth_iids {m : M} {k : Nat} (h : k < cnt m) : (iids m 64)[k]?.getD 0 = (nth m k : Nat) := by
  unfold iids nth
  have h' : k < (ids m 64).length := h
  rw [List.getElem?_map, List.getElem?_eq_getElem h']
  rfl
/-- The best of the first k. -/
def bestT (m : M) (u v : Int) (k : Nat) : Int × Int := ((arcs m 64).take k).foldl (better u v) best0
theorem bestT_zero (m : M) (u v : Int) : bestT m u v 0 = best0 := by simp [bestT]
theorem bestT_all (m : M) (u v : Int) : bestT m u v (cnt m) = best m u v 64 := by
  unfold bestT best cnt
  rw [← arcs_len, List.take_length]
theorem take_map {α : Type} (f : Nat → α) (l : List Nat) (k : Nat) (h : k < l.length) : (l.map f).take (k + 1) = (l.map f).take k ++ [f ((l[k]?).getD 0)] := by
  rw [List.take_add_one, List.getElem?_map, List.getElem?_eq_getElem h]
  rfl
theorem take_arcs {m : M} {k : Nat} (h : k < cnt m) : (arcs m 64).take (k + 1) = (arcs m 64).take k ++ [(nth m k, arc m (nth m k))] := take_map (fun i => (i, arc m i)) (ids m 64) k h
theorem bestT_succ {m : M} {k : Nat} (h : k < cnt m) (u v : Int) : bestT m u v (k + 1) = better u v (bestT m u v k) (nth m k, arc m (nth m k)) := by
  unfold bestT
  rw [take_arcs h, List.foldl_append]
  rfl
def endsT (m : M) (v : Int) (head : Bool) (k : Nat) : List Int := (those head v ((arcs m 64).take k)).map (fun i : Nat => (i : Int))
theorem endsT_zero (m : M) (v : Int) (head : Bool) : endsT m v head 0 = [] := by simp [endsT, those]
theorem endsT_take {m : M} {k : Nat} (h : k < cnt m) {v : Int} {head : Bool} (he : end1 head (arc m (nth m k)) = v) : endsT m v head (k + 1) = endsT m v head k ++ [((nth m k : Nat) : Int)] := by
  unfold endsT
  rw [take_arcs h, those_snoc, if_pos he, List.map_append, List.map_cons, List.map_nil]
theorem endsT_skip {m : M} {k : Nat} (h : k < cnt m) {v : Int} {head : Bool} (he : end1 head (arc m (nth m k)) ≠ v) : endsT m v head (k + 1) = endsT m v head k := by
  unfold endsT
  rw [take_arcs h, those_snoc, if_neg he, List.append_nil]
theorem endsT_len (m : M) (v : Int) (head : Bool) (k : Nat) : (endsT m v head k).length ≤ k := by
  unfold endsT those
  rw [List.length_map, List.length_map]
  refine Nat.le_trans (List.length_filter_le _ _) ?_
  rw [List.length_take]
  omega
theorem endsT_all (m : M) (v : Int) (head : Bool) : endsT m v head (cnt m) = (ends m v head).map (fun i : Nat => (i : Int)) := by
  unfold endsT cnt
  rw [← arcs_len, List.take_length, those_all]
end GM

set_option maxHeartbeats 4000000 in
set_option maxRecDepth 100000 in
theorem rbest_any {w : World} {q N most : Nat} {m : GM.M} (hg : RMem w q N most m) (u v : Int) :
    Calls Try.prog 42 #[.pointer (some ⟨q, 0, none⟩), .int .i64 u, .int .i64 v] w fun e w' => e = .returned (.tuple #[.int .i64 (GM.best m u v 64).1, .int .i64 (GM.best m u v 64).2]) ∧ Below w.heap.size w w' := by
  have hid := rids_any hg
  have HG : Hid (∀ W, Below w.heap.size w W → RMem W q N most m) := fun W hW => hg.on hW
  have HN : Hid (∀ k, k < GM.cnt m → GM.nth m k < 64 ∧ (GM.iids m 64)[k]?.getD 0 = (GM.nth m k : Nat)) := fun k hk => ⟨(GM.nth_is hk).1, GM.nth_iids hk⟩
  have HB0 : Hid (GM.bestT m u v 0 = GM.best0) := GM.bestT_zero m u v
  have HBA : Hid (GM.bestT m u v (GM.cnt m) = GM.best m u v 64) := GM.bestT_all m u v
  have HBS : Hid (∀ k, k < GM.cnt m → GM.bestT m u v (k + 1) = GM.better u v (GM.bestT m u v k) (GM.nth m k, GM.arc m (GM.nth m k))) := fun k hk => GM.bestT_succ hk u v
  have hcl : (GM.iids m 64).length = GM.cnt m := GM.iids_len m 64
  have hc64 := GM.cnt_le m
  rw [← HBA.out]
  clear hg HBA
  generalize GM.iids m 64 = Z at *
  obtain ⟨C, hC⟩ : ∃ C, C = GM.cnt m := ⟨_, rfl⟩
  rw [← hC] at HN HBS hcl hc64 ⊢
  clear hC
  go_enter Try.func42, Try.ntmps42
  go_wp2_with fail
  refine hid.mono ?_
  rintro e w1 ⟨r, rfl, ho, hb1⟩
  obtain ⟨a1, cp1, rfl, hat⟩ := ho.at
  rw [hcl]
  have HAT : Hid (∀ W, Below w1.heap.size w1 W → RowAt .i64 W a1 cp1 Z) := fun W hW => hat.below hW
  have HCL : Hid (Z.length = C) := hcl
  clear hid ho hat hcl
  go_wp2_with fail
  go_loopw [8, 9, 11] (fun wv dv iv wr => ∃ k : Nat, k ≤ C ∧ iv = .int .i64 k ∧ wv = .int .i64 (GM.bestT m u v k).1 ∧ dv = .int .i64 (GM.bestT m u v k).2 ∧ Below w1.heap.size w1 wr) (fun _ _ iv _ => C - (intOf iv).toNat)
  case atStart => exact ⟨0, Nat.zero_le _, rfl, by rw [HB0.out]; rfl, by rw [HB0.out]; rfl, Below.refl _ _⟩
  case round =>
    obtain ⟨k, hk, rfl, rfl, rfl, hbr⟩ := hrel
    by_cases hlt : k < C
    · obtain ⟨hn, hnz⟩ := HN.out k hlt
      obtain ⟨b, o, rfl, hc⟩ := (HAT.out wr hbr).2.2.2 (by rw [HCL.out]; omega)
      have ck := hc k (by rw [HCL.out]; exact hlt)
      rw [hnz] at ck
      have hgr := HG.out wr (below_on hb1 hbr)
      have HS : Hid (GM.bestT m u v (k + 1) = GM.better u v (GM.bestT m u v k) (GM.nth m k, GM.arc m (GM.nth m k))) := HBS.out k hlt
      generalize GM.nth m k = i at *
      obtain ⟨d0, d1, d2, d3⟩ := hgr.arc i hn
      generalize GM.bestT m u v k = B at *
      obtain ⟨bw, bi⟩ := B
      generalize GM.arc m i = ar at *
      obtain ⟨t, h, x, c⟩ := ar
      dsimp only at d0 d1 d2 d3
      have k1 : (k : Int) < (C : Int) := by omega
      have i64' : (i : Int) < 64 := by omega
      have HBR : Hid (Below w1.heap.size w1 wr) := hbr
      have hqb := hgr.lt
      have hbb := cell_lt ck
      dsimp only at hbb
      have HQL : Hid (q < wr.heap.size ∧ b < wr.heap.size) := ⟨hqb, hbb⟩
      clear hc hnz hgr hbr hn hqb hbb
      go_upto_region 7 with fail
      go_cut [12] (fun s wx => ∃ g, s = .pointer (some ⟨g, 0, none⟩) ∧ ArcIn wx g 0 ⟨t, h, x, c⟩ ∧ Below wr.heap.size wr wx)
      case first =>
        have hba : Below wr.heap.size wr (wr.alloc (.cells #[.int .i64 0, .int .i64 0, .int .i64 0, .bool false] 83)) := (Below.refl _ _).alloc (Nat.le_refl _) _
        have ck' := (hba.cell (p := ⟨b, o + k, none⟩) HQL.out.2).trans ck
        have d0' := (hba.cell (p := ⟨q, _, none⟩) HQL.out.1).trans d0
        have d1' := (hba.cell (p := ⟨q, _, none⟩) HQL.out.1).trans d1
        have d2' := (hba.cell (p := ⟨q, _, none⟩) HQL.out.1).trans d2
        have d3' := (hba.cell (p := ⟨q, _, none⟩) HQL.out.1).trans d3
        clear hba
        go_region
        all_goals
          go_wp2_with fail
          go_meet
          exact ⟨wr.heap.size, rfl, arcIn_new wr t h x c, ((Below.refl _ _).alloc (Nat.le_refl _) _).drew⟩
      case rest =>
      obtain ⟨g, rfl, hin, hbc⟩ := hcut
      obtain ⟨a0, a1, a2, a3⟩ := hin
      simp only [Nat.zero_add] at a1 a2 a3
      dsimp only at a0 a1 a2 a3
      have HBC : Hid (Below w1.heap.size w1 wc) := below_on HBR.out hbc
      have ckc := (hbc.cell (p := ⟨b, o + k, none⟩) HQL.out.2).trans ck
      clear hbc d0 d1 d2 d3 ck
      by_cases hf : (GM.fits u v ⟨t, h, x, c⟩ && decide (x < bw)) = true
      · have HE : Hid (GM.bestT m u v (k + 1) = (x, (i : Int))) := by
          show _ = _
          rw [HS.out, GM.better, if_pos hf]
        rw [Bool.and_eq_true] at hf
        obtain ⟨hf1, hf2⟩ := hf
        have hx := of_decide_eq_true hf2
        unfold GM.fits at hf1
        simp only [Bool.and_eq_true, decide_eq_true_eq, Bool.not_eq_true'] at hf1
        obtain ⟨⟨rfl, rfl⟩, rfl⟩ := hf1
        clear hf2 HS
        go_wp2_with fail
        go_roundw
        case rel => exact ⟨k + 1, by omega, by go_num, by rw [HE.out], by rw [HE.out], HBC.out⟩
        case measure => simp [intOf]; omega
      · have HE : Hid (GM.bestT m u v (k + 1) = (bw, bi)) := by
          show _ = _
          rw [HS.out, GM.better, if_neg hf]
        clear HS
        by_cases ht : t = u
        · by_cases hh : h = v
          · cases c with
            | true =>
              subst ht hh
              clear hf
              go_wp2_with fail
              go_roundw
              case rel => exact ⟨k + 1, by omega, by go_num, by rw [HE.out], by rw [HE.out], HBC.out⟩
              case measure => simp [intOf]; omega
            | false =>
              have hx : ¬ x < bw := fun hx => hf (by simp [GM.fits, ht, hh, hx])
              subst ht hh
              clear hf
              go_wp2_with fail
              go_roundw
              case rel => exact ⟨k + 1, by omega, by go_num, by rw [HE.out], by rw [HE.out], HBC.out⟩
              case measure => simp [intOf]; omega
          · have hh' : (h == v) = false := beq_eq_false_iff_ne.2 hh
            subst ht
            clear hf
            go_wp2_with fail
            go_roundw
            case rel => exact ⟨k + 1, by omega, by go_num, by rw [HE.out], by rw [HE.out], HBC.out⟩
            case measure => simp [intOf]; omega
        · have ht' : (t == u) = false := beq_eq_false_iff_ne.2 ht
          clear hf
          go_wp2_with fail
          go_roundw
          case rel => exact ⟨k + 1, by omega, by go_num, by rw [HE.out], by rw [HE.out], HBC.out⟩
          case measure => simp [intOf]; omega
    · obtain rfl : k = C := by omega
      have HBB : Hid (Below w.heap.size w wr) := below_on hb1 hbr
      clear hlt hk hbr
      go_wp2_with fail
      go_ret2
      exact ⟨rfl, HBB.out⟩

end Go.Proofs.Ytleckkpfnjpbiaa
