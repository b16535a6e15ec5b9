/-
  GraphRef4, MeshOfW0, OrdSpecR.
-/
import Derived.Test.YtkcfepppnclniaaGreatDoorMmGraphRef2
import Derived.Test.YtkcfepppnclniaaGreatDoorMmWitMath
import Derived.Test.YtkcfepppnclniaaGreatDoorMmMeshPut
import Derived.Test.YtkcfepppnclniaaGreatDoorMmRange3
import Derived.Test.YtkcfepppnclniaaGreatDoorMmWitSpared
import Derived.Test.YtkcfepppnclniaaGreatDoorMmWitRef
import Derived.Deep.RegionHeld3
section
/-
  The walks of the reference's Best and Ends.
-/
namespace Go.Proofs.YtkcfepppnclniaaGreatDoor
open Go.RowKit

namespace GM
/-- The k-th place that is taken. -/
def nth (m : M) (k : Nat) : Nat := ((ids m 64)[k]?).getD 0
theorem nth_is {m : M} {k : Nat} (h : k < cnt m) : nth m k < 64 ∧ is m (nth m k) = true := by
  unfold nth
  have h' : k < (ids m 64).length := h
  rw [List.getElem?_eq_getElem h', Option.getD_some]
  exact (mem_ids m _ 64).1 (List.getElem_mem h')
theorem nth_iids {m : M} {k : Nat} (h : k < cnt m) : (iids m 64)[k]?.getD 0 = (nth m k : Nat) := by
  unfold iids nth
  have h' : k < (ids m 64).length := h
  rw [List.getElem?_map, List.getElem?_eq_getElem h']
  rfl
/-- The best of the first k. -/
def bestT (m : M) (u v : Int) (k : Nat) : Int × Int := ((arcs m 64).take k).foldl (better u v) best0
theorem bestT_zero (m : M) (u v : Int) : bestT m u v 0 = best0 := by simp [bestT]
theorem bestT_all (m : M) (u v : Int) : bestT m u v (cnt m) = best m u v 64 := by
  unfold bestT best cnt
  rw [← arcs_len, List.take_length]
theorem take_map {α : Type} (f : Nat → α) (l : List Nat) (k : Nat) (h : k < l.length) : (l.map f).take (k + 1) = (l.map f).take k ++ [f ((l[k]?).getD 0)] := by
  rw [List.take_add_one, List.getElem?_map, List.getElem?_eq_getElem h]
  rfl
theorem take_arcs {m : M} {k : Nat} (h : k < cnt m) : (arcs m 64).take (k + 1) = (arcs m 64).take k ++ [(nth m k, arc m (nth m k))] := take_map (fun i => (i, arc m i)) (ids m 64) k h
theorem bestT_succ {m : M} {k : Nat} (h : k < cnt m) (u v : Int) : bestT m u v (k + 1) = better u v (bestT m u v k) (nth m k, arc m (nth m k)) := by
  unfold bestT
  rw [take_arcs h, List.foldl_append]
  rfl
def endsT (m : M) (v : Int) (head : Bool) (k : Nat) : List Int := (those head v ((arcs m 64).take k)).map (fun i : Nat => (i : Int))
theorem endsT_zero (m : M) (v : Int) (head : Bool) : endsT m v head 0 = [] := by simp [endsT, those]
theorem endsT_take {m : M} {k : Nat} (h : k < cnt m) {v : Int} {head : Bool} (he : end1 head (arc m (nth m k)) = v) : endsT m v head (k + 1) = endsT m v head k ++ [((nth m k : Nat) : Int)] := by
  unfold endsT
  rw [take_arcs h, those_snoc, if_pos he, List.map_append, List.map_cons, List.map_nil]
theorem endsT_skip {m : M} {k : Nat} (h : k < cnt m) {v : Int} {head : Bool} (he : end1 head (arc m (nth m k)) ≠ v) : endsT m v head (k + 1) = endsT m v head k := by
  unfold endsT
  rw [take_arcs h, those_snoc, if_neg he, List.append_nil]
theorem endsT_len (m : M) (v : Int) (head : Bool) (k : Nat) : (endsT m v head k).length ≤ k := by
  unfold endsT those
  rw [List.length_map, List.length_map]
  refine Nat.le_trans (List.length_filter_le _ _) ?_
  rw [List.length_take]
  omega
theorem endsT_all (m : M) (v : Int) (head : Bool) : endsT m v head (cnt m) = (ends m v head).map (fun i : Nat => (i : Int)) := by
  unfold endsT cnt
  rw [← arcs_len, List.take_length, those_all]
end GM

set_option maxHeartbeats 4000000 in
set_option maxRecDepth 100000 in
theorem rbest_any {w : World} {q N most : Nat} {m : GM.M} (hg : RMem w q N most m) (u v : Int) :
    Calls Tryz.prog 69 #[.pointer (some ⟨q, 0, none⟩), .int .i64 u, .int .i64 v] w fun e w' => e = .returned (.tuple #[.int .i64 (GM.best m u v 64).1, .int .i64 (GM.best m u v 64).2]) ∧ Below w.heap.size w w' := by
  have hid := rids_any hg
  have HG : Hid (∀ W, Below w.heap.size w W → RMem W q N most m) := fun W hW => hg.on hW
  have HN : Hid (∀ k, k < GM.cnt m → GM.nth m k < 64 ∧ (GM.iids m 64)[k]?.getD 0 = (GM.nth m k : Nat)) := fun k hk => ⟨(GM.nth_is hk).1, GM.nth_iids hk⟩
  have HB0 : Hid (GM.bestT m u v 0 = GM.best0) := GM.bestT_zero m u v
  have HBA : Hid (GM.bestT m u v (GM.cnt m) = GM.best m u v 64) := GM.bestT_all m u v
  have HBS : Hid (∀ k, k < GM.cnt m → GM.bestT m u v (k + 1) = GM.better u v (GM.bestT m u v k) (GM.nth m k, GM.arc m (GM.nth m k))) := fun k hk => GM.bestT_succ hk u v
  have hcl : (GM.iids m 64).length = GM.cnt m := GM.iids_len m 64
  have hc64 := GM.cnt_le m
  rw [← HBA.out]
  clear hg HBA
  generalize GM.iids m 64 = Z at *
  obtain ⟨C, hC⟩ : ∃ C, C = GM.cnt m := ⟨_, rfl⟩
  rw [← hC] at HN HBS hcl hc64 ⊢
  clear hC
  go_enter Tryz.func69, Tryz.ntmps69
  go_wp2_with fail
  refine hid.mono ?_
  rintro e w1 ⟨r, rfl, ho, hb1⟩
  obtain ⟨a1, cp1, rfl, hat⟩ := ho.at
  rw [hcl]
  have HAT : Hid (∀ W, Below w1.heap.size w1 W → RowAt .i64 W a1 cp1 Z) := fun W hW => hat.below hW
  have HCL : Hid (Z.length = C) := hcl
  clear hid ho hat hcl
  go_wp2_with fail
  go_loopw [8, 9, 11] (fun wv dv iv wr => ∃ k : Nat, k ≤ C ∧ iv = .int .i64 k ∧ wv = .int .i64 (GM.bestT m u v k).1 ∧ dv = .int .i64 (GM.bestT m u v k).2 ∧ Below w1.heap.size w1 wr) (fun _ _ iv _ => C - (intOf iv).toNat)
  case atStart => exact ⟨0, Nat.zero_le _, rfl, by rw [HB0.out]; rfl, by rw [HB0.out]; rfl, Below.refl _ _⟩
  case round =>
    obtain ⟨k, hk, rfl, rfl, rfl, hbr⟩ := hrel
    by_cases hlt : k < C
    · obtain ⟨hn, hnz⟩ := HN.out k hlt
      obtain ⟨b, o, rfl, hc⟩ := (HAT.out wr hbr).2.2.2 (by rw [HCL.out]; omega)
      have ck := hc k (by rw [HCL.out]; exact hlt)
      rw [hnz] at ck
      have hgr := HG.out wr (below_on hb1 hbr)
      have HS : Hid (GM.bestT m u v (k + 1) = GM.better u v (GM.bestT m u v k) (GM.nth m k, GM.arc m (GM.nth m k))) := HBS.out k hlt
      generalize GM.nth m k = i at *
      obtain ⟨d0, d1, d2, d3⟩ := hgr.arc i hn
      generalize GM.bestT m u v k = B at *
      obtain ⟨bw, bi⟩ := B
      generalize GM.arc m i = ar at *
      obtain ⟨t, h, x, c⟩ := ar
      dsimp only at d0 d1 d2 d3
      have k1 : (k : Int) < (C : Int) := by omega
      have i64' : (i : Int) < 64 := by omega
      have HBR : Hid (Below w1.heap.size w1 wr) := hbr
      have hqb := hgr.lt
      have hbb := cell_lt ck
      dsimp only at hbb
      have HQL : Hid (q < wr.heap.size ∧ b < wr.heap.size) := ⟨hqb, hbb⟩
      clear hc hnz hgr hbr hn hqb hbb
      go_upto_region 7 with fail
      go_cut [12] (fun s wx => ∃ g, s = .pointer (some ⟨g, 0, none⟩) ∧ ArcIn wx g 0 ⟨t, h, x, c⟩ ∧ Below wr.heap.size wr wx)
      case first =>
        have hba : Below wr.heap.size wr (wr.alloc (.cells #[.int .i64 0, .int .i64 0, .int .i64 0, .bool false] 35)) := (Below.refl _ _).alloc (Nat.le_refl _) _
        have ck' := (hba.cell (p := ⟨b, o + k, none⟩) HQL.out.2).trans ck
        have d0' := (hba.cell (p := ⟨q, _, none⟩) HQL.out.1).trans d0
        have d1' := (hba.cell (p := ⟨q, _, none⟩) HQL.out.1).trans d1
        have d2' := (hba.cell (p := ⟨q, _, none⟩) HQL.out.1).trans d2
        have d3' := (hba.cell (p := ⟨q, _, none⟩) HQL.out.1).trans d3
        clear hba
        go_region
        all_goals
          go_wp2_with fail
          go_meet
          exact ⟨wr.heap.size, rfl, arcIn_new wr t h x c, ((Below.refl _ _).alloc (Nat.le_refl _) _).drew⟩
      case rest =>
      obtain ⟨g, rfl, hin, hbc⟩ := hcut
      obtain ⟨a0, a1, a2, a3⟩ := hin
      simp only [Nat.zero_add] at a1 a2 a3
      dsimp only at a0 a1 a2 a3
      have HBC : Hid (Below w1.heap.size w1 wc) := below_on HBR.out hbc
      have ckc := (hbc.cell (p := ⟨b, o + k, none⟩) HQL.out.2).trans ck
      clear hbc d0 d1 d2 d3 ck
      by_cases hf : (GM.fits u v ⟨t, h, x, c⟩ && decide (x < bw)) = true
      · have HE : Hid (GM.bestT m u v (k + 1) = (x, (i : Int))) := by
          show _ = _
          rw [HS.out, GM.better, if_pos hf]
        rw [Bool.and_eq_true] at hf
        obtain ⟨hf1, hf2⟩ := hf
        have hx := of_decide_eq_true hf2
        unfold GM.fits at hf1
        simp only [Bool.and_eq_true, decide_eq_true_eq, Bool.not_eq_true'] at hf1
        obtain ⟨⟨rfl, rfl⟩, rfl⟩ := hf1
        clear hf2 HS
        go_wp2_with fail
        go_roundw
        case rel => exact ⟨k + 1, by omega, by go_num, by rw [HE.out], by rw [HE.out], HBC.out⟩
        case measure => simp [intOf]; omega
      · have HE : Hid (GM.bestT m u v (k + 1) = (bw, bi)) := by
          show _ = _
          rw [HS.out, GM.better, if_neg hf]
        clear HS
        by_cases ht : t = u
        · by_cases hh : h = v
          · cases c with
            | true =>
              subst ht hh
              clear hf
              go_wp2_with fail
              go_roundw
              case rel => exact ⟨k + 1, by omega, by go_num, by rw [HE.out], by rw [HE.out], HBC.out⟩
              case measure => simp [intOf]; omega
            | false =>
              have hx : ¬ x < bw := fun hx => hf (by simp [GM.fits, ht, hh, hx])
              subst ht hh
              clear hf
              go_wp2_with fail
              go_roundw
              case rel => exact ⟨k + 1, by omega, by go_num, by rw [HE.out], by rw [HE.out], HBC.out⟩
              case measure => simp [intOf]; omega
          · have hh' : (h == v) = false := beq_eq_false_iff_ne.2 hh
            subst ht
            clear hf
            go_wp2_with fail
            go_roundw
            case rel => exact ⟨k + 1, by omega, by go_num, by rw [HE.out], by rw [HE.out], HBC.out⟩
            case measure => simp [intOf]; omega
        · have ht' : (t == u) = false := beq_eq_false_iff_ne.2 ht
          clear hf
          go_wp2_with fail
          go_roundw
          case rel => exact ⟨k + 1, by omega, by go_num, by rw [HE.out], by rw [HE.out], HBC.out⟩
          case measure => simp [intOf]; omega
    · obtain rfl : k = C := by omega
      have HBB : Hid (Below w.heap.size w wr) := below_on hb1 hbr
      clear hlt hk hbr
      go_wp2_with fail
      go_ret2
      exact ⟨rfl, HBB.out⟩

end Go.Proofs.YtkcfepppnclniaaGreatDoor
end

section
/-
  The walks of Of, the program's and the document's: a graph's mesh.
-/
namespace Go.Proofs.YtkcfepppnclniaaGreatDoor
open Go.RowKit

namespace XM
/-- A graph's mesh as far as it is made: the rows less than s, and row s up to t. -/
def ofD (m : GM.M) (N s t : Nat) : Nat → Nat → Int := fun a b => if (a < s ∨ a = s ∧ b < t) ∧ b < N ∧ a ≠ b then (GM.best m (a : Nat) (b : Nat) 64).1 else 4611686018427387906
theorem ofD_zero (m : GM.M) (N : Nat) : ofD m N 0 0 = empty := by
  funext a b
  unfold ofD empty
  rw [if_neg (by omega)]
theorem ofD_row (m : GM.M) (N s : Nat) : ofD m N s N = ofD m N (s + 1) 0 := by
  funext a b
  unfold ofD
  by_cases h : (a < s ∨ a = s ∧ b < N) ∧ b < N ∧ a ≠ b
  · rw [if_pos h, if_pos (by omega)]
  · rw [if_neg h, if_neg (by omega)]
theorem ofD_self (m : GM.M) (N s : Nat) : ofD m N s (s + 1) = ofD m N s s := by
  funext a b
  unfold ofD
  by_cases h : (a < s ∨ a = s ∧ b < s) ∧ b < N ∧ a ≠ b
  · rw [if_pos h, if_pos (by omega)]
  · rw [if_neg h, if_neg (by omega)]
theorem ofD_step (m : GM.M) {N s t : Nat} (ht : t < N) (hne : s ≠ t) : ofD m N s (t + 1) = NM.set2 (ofD m N s t) s t (GM.best m (s : Nat) (t : Nat) 64).1 := by
  funext a b
  simp only [ofD, NM.set2]
  by_cases e : a = s ∧ b = t
  · rw [if_pos e, if_pos (by omega), e.1, e.2]
  · rw [if_neg e]
    by_cases h : (a < s ∨ a = s ∧ b < t) ∧ b < N ∧ a ≠ b
    · rw [if_pos h, if_pos (by omega)]
    · rw [if_neg h, if_neg (by omega)]
theorem best_lo {most : Nat} {m : GM.M} (h : GM.Good most m) (u v : Int) : 1 ≤ (GM.best m u v 64).1 ∧ (GM.best m u v 64).1 ≤ 4611686018427387906 := by
  have := GM.best_bd (u := u) (v := v) (GM.arcs m 64) GM.best0 (GM.arcs_ok h 64) (by decide) (by decide)
  exact ⟨this.1, this.2.1⟩
theorem ofD_mesh {most : Nat} {m : GM.M} (h : GM.Good most m) {N s t : Nat} (hs : s < N ∨ s = N ∧ t = 0) : Mesh N (ofD m N s t) := by
  refine ⟨⟨fun u w => ?_, fun u => ?_⟩, fun u w => ?_, fun u w e => ?_⟩
  · unfold ofD
    split
    · have := best_lo h (u : Nat) (w : Nat); omega
    · decide
  · unfold ofD
    rw [if_neg (by omega)]
  · unfold ofD
    split
    · exact (best_lo h _ _).1
    · decide
  · unfold ofD
    rw [if_neg (by omega)]
theorem ofD_put {most : Nat} {m : GM.M} (h : GM.Good most m) {N s t : Nat} (hs : s < N) (ht : t < N) : put N (ofD m N s t) (s : Nat) (t : Nat) (GM.best m (s : Nat) (t : Nat) 64).1 = ofD m N s (t + 1) := by
  have hb := best_lo h (s : Nat) (t : Nat)
  unfold put
  by_cases e : s = t
  · subst e
    rw [if_neg (by unfold putCode; rw [if_neg (fun c => c.2.2.1 rfl)]; decide), ofD_self]
  · have hc : putCode N (s : Nat) (t : Nat) (GM.best m (s : Nat) (t : Nat) 64).1 = 0 := if_pos ⟨decide_eq_true (by omega), decide_eq_true (by omega), by omega, hb.1, hb.2⟩
    rw [if_pos hc, ofD_step m ht e]
    simp
end XM
set_option maxHeartbeats 2000000 in
theorem xof_any {w : World} {gp N most : Nat} {m : GM.M} (hg : GMem w gp N most m) (hm : GM.Good most m) (h1 : 1 ≤ N) (h2 : N ≤ 24) :
    Calls Tryz.prog 21 #[.pointer (some ⟨gp, 0, none⟩)] w fun e w' => ∃ p, e = .returned (.pointer (some ⟨p, 0, none⟩)) ∧ w.heap.size ≤ p ∧ XMem w' p N (XM.ofD m N N 0) ∧ Below w.heap.size w w' := by
  have hv := vertices_any hg
  have hnw := xnew_ok N h1 h2 w
  have HB : Hid (∀ W, Below w.heap.size w W → ∀ u v : Int, Calls Tryz.prog 58 #[.pointer (some ⟨gp, 0, none⟩), .int .i64 u, .int .i64 v] W fun e w' => e = .returned (.tuple #[.int .i64 (GM.best m u v 64).1, .int .i64 (GM.best m u v 64).2]) ∧ Below W.heap.size W w') := fun W hW u v => best_any (hg.on hW) hm u v
  have HP : Hid (∀ W p s t, XMem W p N (XM.ofD m N s t) → s < N → t < N → Calls Tryz.prog 14 #[.pointer (some ⟨p, 0, none⟩), .int .i64 (s : Nat), .int .i64 (t : Nat), .int .i64 (GM.best m (s : Nat) (t : Nat) 64).1] W fun e w' => (∃ c, e = .returned (.int .i64 c)) ∧ XMem w' p N (XM.ofD m N s (t + 1)) ∧ Keeps (fun b => b = p) W w') := fun W p s t hX hs ht => by
    refine (xput_any hX (XM.ofD_mesh hm (.inl hs)) h2 _ _ _).mono ?_
    rintro e w' ⟨rfl, h3, -, h4⟩
    rw [XM.ofD_put hm hs ht] at h3
    exact ⟨⟨_, rfl⟩, h3, h4⟩
  clear hg hm h1
  go_enter Tryz.func21, Tryz.ntmps21
  go_wp2_with fail
  refine hv.mono ?_
  rintro e w9 ⟨rfl, hw9⟩
  rw [hw9]
  clear hv hw9 w9
  go_wp2_with fail
  refine hnw.mono ?_
  rintro e w1 ⟨p, rfl, hp, hX, hb⟩
  have hpw : w.heap.size ≤ p := by omega
  have c0 := hX.c0
  have HX : Hid (XMem w1 p N (XM.ofD m N 0 0)) := by
    show XMem _ _ _ _
    rw [XM.ofD_zero]
    exact hX
  have HB1 : Hid (Below w.heap.size w w1) := hb
  clear hnw hX hb hp
  go_wp2_with fail
  clear c0
  go_loopw [19] (fun iv wr => ∃ s : Nat, s ≤ N ∧ iv = .int .i64 s ∧ XMem wr p N (XM.ofD m N s 0) ∧ Below w.heap.size w wr) (fun iv _ => N - (intOf iv).toNat)
  case atStart => exact ⟨0, Nat.zero_le _, rfl, HX.out, HB1.out⟩
  case round =>
    clear HX HB1
    obtain ⟨s, hs, rfl, hX, hb⟩ := hrel
    have c0 := hX.c0
    have HX : Hid (XMem wr p N (XM.ofD m N s 0)) := hX
    have HBR : Hid (Below w.heap.size w wr) := hb
    have hsN : (s : Int) ≤ (N : Int) := by omega
    clear hX hb
    by_cases hlt : s < N
    · have s1 : (s : Int) < (N : Int) := by omega
      go_wp2_with fail
      clear c0
      go_loopw [26] (fun jv wr' => ∃ t : Nat, t ≤ N ∧ jv = .int .i64 t ∧ XMem wr' p N (XM.ofD m N s t) ∧ Below w.heap.size w wr') (fun jv _ => N - (intOf jv).toNat)
      case atStart => exact ⟨0, Nat.zero_le _, rfl, HX.out, HBR.out⟩
      case round =>
        clear HX HBR
        rename_i wr0 hwr0
        obtain ⟨t, ht, rfl, hX, hb⟩ := hrel
        have htN : (t : Int) ≤ (N : Int) := by omega
        by_cases htl : t < N
        · have t1 : (t : Int) < (N : Int) := by omega
          have hbest := HB.out wr hb s t
          have HX : Hid (XMem wr p N (XM.ofD m N s t)) := hX
          have HBR : Hid (Below w.heap.size w wr) := hb
          have HPT : Hid (∀ W, XMem W p N (XM.ofD m N s t) → Calls Tryz.prog 14 #[.pointer (some ⟨p, 0, none⟩), .int .i64 (s : Nat), .int .i64 (t : Nat), .int .i64 (GM.best m (s : Nat) (t : Nat) 64).1] W fun e w' => (∃ c, e = .returned (.int .i64 c)) ∧ XMem w' p N (XM.ofD m N s (t + 1)) ∧ Keeps (fun b => b = p) W w') := fun W hW => HP.out W p s t hW hlt htl
          clear hX hb
          generalize GM.best m (s : Nat) (t : Nat) 64 = b at *
          go_wp2_with fail
          refine hbest.mono ?_
          rintro e w2 ⟨rfl, hb2⟩
          have hpt := HPT.out w2 (HX.out.on hb2)
          have HB2 : Hid (Below w.heap.size w w2) := below_on HBR.out hb2
          clear hbest hb2
          go_wp2_with fail
          refine hpt.mono ?_
          rintro e w3 ⟨⟨c, rfl⟩, hX3, hK3⟩
          have HX3 : Hid (XMem w3 p N (XM.ofD m N s (t + 1)) ∧ Below w.heap.size w w3) := ⟨hX3, HB2.out.trans (hK3.below (fun b hb => by omega) HB2.out.size)⟩
          clear hpt hX3 hK3
          go_wp2_with fail
          go_roundw
          case rel => exact ⟨t + 1, by omega, by go_num, HX3.out.1, HX3.out.2⟩
          case measure => simp [intOf]; omega
        · obtain rfl : t = N := by omega
          have HX : Hid (XMem wr p t (XM.ofD m t (s + 1) 0)) := by
            show XMem _ _ _ _
            rw [← XM.ofD_row]
            exact hX
          have HBR : Hid (Below w.heap.size w wr) := hb
          clear hX hb
          go_wp2_with fail
          go_roundw
          case rel => exact ⟨s + 1, by omega, by go_num, HX.out, HBR.out⟩
          case measure => simp [intOf]; omega
    · obtain rfl : s = N := by omega
      go_wp2_with fail
      go_ret
      exact ⟨p, rfl, hpw, HX.out, HBR.out⟩
set_option maxHeartbeats 4000000 in
theorem rof_any {w : World} {gq N most : Nat} {m : GM.M} (hg : RMem w gq N most m) (h2 : N ≤ 24) :
    Calls Tryz.prog 32 #[.pointer (some ⟨gq, 0, none⟩)] w fun e w' => ∃ p, e = .returned (.pointer (some ⟨p, 0, none⟩)) ∧ w.heap.size ≤ p ∧ XMem w' p N (XM.ofD m N N 0) ∧ Below w.heap.size w w' := by
  have hnw := xrnew_any N w
  have cn := hg.c0
  have HG : Hid (∀ W, Below w.heap.size w W → W.cell? ⟨gq, 0, none⟩ = some (.int .i64 (N : Nat))) := fun W hW => (hg.on hW).c0
  have HB : Hid (∀ W, Below w.heap.size w W → ∀ u v : Int, Calls Tryz.prog 69 #[.pointer (some ⟨gq, 0, none⟩), .int .i64 u, .int .i64 v] W fun e w' => e = .returned (.tuple #[.int .i64 (GM.best m u v 64).1, .int .i64 (GM.best m u v 64).2]) ∧ Below W.heap.size W w') := fun W hW u v => rbest_any (hg.on hW) u v
  clear hg
  go_enter Tryz.func32, Tryz.ntmps32
  go_wp2_with fail
  refine hnw.mono ?_
  rintro e w1 ⟨p, rfl, hp, hX, hb⟩
  have hpw : w.heap.size ≤ p := by omega
  have HX : Hid (XMem w1 p N (XM.ofD m N 0 0)) := by
    show XMem _ _ _ _
    rw [XM.ofD_zero]
    exact hX
  have HB1 : Hid (Below w.heap.size w w1) := hb
  clear hnw hX hb hp cn
  go_wp2_with fail
  go_loopw [4] (fun iv wr => ∃ s : Nat, s ≤ N ∧ iv = .int .i64 s ∧ XMem wr p N (XM.ofD m N s 0) ∧ Below w.heap.size w wr) (fun iv _ => N - (intOf iv).toNat)
  case atStart => exact ⟨0, Nat.zero_le _, rfl, HX.out, HB1.out⟩
  case round =>
    clear HX HB1
    obtain ⟨s, hs, rfl, hX, hb⟩ := hrel
    have cn := HG.out wr hb
    have HX : Hid (XMem wr p N (XM.ofD m N s 0)) := hX
    have HBR : Hid (Below w.heap.size w wr) := hb
    have hsN : (s : Int) ≤ (N : Int) := by omega
    clear hX hb
    by_cases hlt : s < N
    · have s1 : (s : Int) < (N : Int) := by omega
      go_wp2_with fail
      clear cn
      go_loopw [5] (fun jv wr' => ∃ t : Nat, t ≤ N ∧ jv = .int .i64 t ∧ XMem wr' p N (XM.ofD m N s t) ∧ Below w.heap.size w wr') (fun jv _ => N - (intOf jv).toNat)
      case atStart => exact ⟨0, Nat.zero_le _, rfl, HX.out, HBR.out⟩
      case round =>
        clear HX HBR
        rename_i wr0 hwr0
        obtain ⟨t, ht, rfl, hX, hb⟩ := hrel
        have htN : (t : Int) ≤ (N : Int) := by omega
        have cn := HG.out wr hb
        have HBR : Hid (Below w.heap.size w wr) := hb
        by_cases htl : t < N
        · have t1 : (t : Int) < (N : Int) := by omega
          by_cases hst : s = t
          · subst hst
            have hne : ((s : Int) != (s : Int)) = false := by simp
            have HX : Hid (XMem wr p N (XM.ofD m N s (s + 1))) := by
              show XMem _ _ _ _
              rw [XM.ofD_self]
              exact hX
            clear hX hb
            go_wp2_with fail
            go_roundw
            case rel => exact ⟨s + 1, by omega, by go_num, HX.out, HBR.out⟩
            case measure => simp [intOf]; omega
          · have hne : ((s : Int) != (t : Int)) = true := by simp; omega
            have hbest := HB.out wr.drew hb.drew s t
            have s24 : (s : Int) < 24 := by omega
            have t24 : (t : Int) < 24 := by omega
            have HS : Hid (∀ W, Below wr.heap.size wr W → W.cell? ⟨p, 1 + s * 24 + t, none⟩ = some (.int .i64 (XM.ofD m N s t s t)) ∧ W.frozen? ⟨p, 1 + s * 24 + t, none⟩ = false) := fun W hW => ⟨(hX.on hW).c s t (by omega) (by omega), (hX.on hW).fz _⟩
            have HXS : Hid (∀ W, Below wr.heap.size wr W → XMem (W.setCell ⟨p, 1 + s * 24 + t, none⟩ (.int .i64 (GM.best m (s : Nat) (t : Nat) 64).1)) p N (XM.ofD m N s (t + 1)) ∧ Below w.heap.size w (W.setCell ⟨p, 1 + s * 24 + t, none⟩ (.int .i64 (GM.best m (s : Nat) (t : Nat) 64).1))) := fun W hW => by
              rw [XM.ofD_step m htl hst]
              exact ⟨(hX.on hW).set (by omega) (by omega) _, (below_on HBR.out hW).setCell (p := ⟨p, 1 + s * 24 + t, none⟩) hpw _⟩
            clear hX hb hst
            generalize GM.best m (s : Nat) (t : Nat) 64 = b at *
            obtain ⟨b1, b2⟩ := b
            dsimp only at hbest HXS
            generalize XM.ofD m N s t s t = y at *
            go_upto_region 9 with fail
            go_region_held3 (fun _ => True) (trivial) (first | (go_at_call 69; refine hbest.mono ?_; rintro e w4 ⟨rfl, hb4⟩; obtain ⟨cy, fy⟩ := HS.out _ (below_of_drew hb4)))
            all_goals
              have h9 := HXS.out w4 (below_of_drew hb4)
              have HX9 : Hid (XMem (w4.setCell ⟨p, 1 + s * 24 + t, none⟩ (.int .i64 b1)) p N (XM.ofD m N s (t + 1)) ∧ Below w.heap.size w (w4.setCell ⟨p, 1 + s * 24 + t, none⟩ (.int .i64 b1))) := h9
              clear h9 hb4 cy fy
              go_wp2_with fail
              exact ⟨⟨t + 1, by omega, by go_num, HX9.out.1, HX9.out.2⟩, by simp [intOf]; omega⟩
        · obtain rfl : t = N := by omega
          have HX : Hid (XMem wr p t (XM.ofD m t (s + 1) 0)) := by
            show XMem _ _ _ _
            rw [← XM.ofD_row]
            exact hX
          clear hX hb
          go_wp2_with fail
          go_roundw
          case rel => exact ⟨s + 1, by omega, by go_num, HX.out, HBR.out⟩
          case measure => simp [intOf]; omega
    · obtain rfl : s = N := by omega
      go_wp2_with fail
      go_ret
      exact ⟨p, rfl, hpw, HX.out, HBR.out⟩
end Go.Proofs.YtkcfepppnclniaaGreatDoor
end

section
/-
  What the laws of layer 14 ask of the program's Rank.
-/
namespace Go.Proofs.YtkcfepppnclniaaGreatDoor
open Go.RowKit
noncomputable def rankOf (N : Nat) (m : GM.M) (k : Int) : List Int := (List.range N).map (OM.run N (XM.ofD m N N 0) k.toNat N).rank
theorem rankOf_len (N : Nat) (m : GM.M) (k : Int) : (rankOf N m k).length = N := by simp [rankOf]
def RankIs : Prop := ∀ {w : World} {p N : Nat} {m : GM.M}, Ready w → GMem w p N 64 m → GM.Good 64 m → 1 ≤ N → N ≤ 24 → ∀ k : Int,
  Calls Tryz.prog 7 #[.pointer (some ⟨p, 0, none⟩), .int .i64 k] w fun e w' => ∃ r, e = .returned r ∧ Own .i64 3 w' w.heap.size r (rankOf N m k) ∧ Below w.heap.size w w'
end Go.Proofs.YtkcfepppnclniaaGreatDoor
end
