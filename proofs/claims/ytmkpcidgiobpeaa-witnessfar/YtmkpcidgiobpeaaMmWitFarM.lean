/-
  What the law WitnessFar leans on (layer 13): a search without end settles what can be come to, each as far as it is by any steps; which vertices have been seen.
-/
import Derived.Test.YtmkpcidgiobpeaaMmWitAwake
import Derived.Test.YtmkpcidgiobpeaaMmMeshMade
import Derived.Test.YtmkpcidgiobpeaaMmMeshAll
namespace Go.Proofs.Ytmkpcidgiobpeaa
open Go.RowKit
namespace WM
theorem out_none : outOf 0 = none' := by
  funext v
  unfold outOf none'
  by_cases hv : v < 64
  · rw [has_bit hv, Nat.zero_testBit]
  · exact has_hi (by omega)
section
variable {N : Nat} {D TB : Nat → Nat → Int} {s : Nat} {X : Int} {L : List (Nat × Int)} {T k : Nat}
/-- One of what is settled, at its place. -/
theorem far_at (hm : XM.Mesh N D) (hs : s < N) (h : Seq N D s (outOf 0) X L) (hT : ∀ a b : Nat, a < N → b < N → XM.Far D N a b (TB a b)) {i : Nat} (hi : i < L.length) : ∃ v : Nat, v < N ∧ (vsL L)[i]?.getD 0 = (v : Int) ∧ (dsL L)[i]?.getD 0 = TB s v ∧ has (L.take i) v = false ∧ ∀ u, has (L.take (i + 1)) u = (has (L.take i) u || decide (u = v)) := by
  rw [out_none] at h
  obtain ⟨h1, h2⟩ := h.far hm.ok.1 hs _ (List.getElem_mem hi)
  have hf := h.fine hs rfl
  refine ⟨L[i].1, h1, ?_, ?_, ?_, fun u => ?_⟩
  · unfold vsL
    rw [List.getElem?_map, List.getElem?_eq_getElem hi]
    rfl
  · unfold dsL
    rw [List.getElem?_map, List.getElem?_eq_getElem hi]
    exact h2.unique (hT s _ hs h1)
  · cases e : has (L.take i) L[i].1 with
    | false => rfl
    | true =>
      obtain ⟨y, hy, e2⟩ := has_iff.1 e
      obtain ⟨j, hj, rfl⟩ := List.getElem_of_mem hy
      rw [List.length_take] at hj
      rw [List.getElem_take] at e2
      have h3 := List.pairwise_iff_getElem.1 hf.nodup j i (by rw [List.length_map]; omega) (by rw [List.length_map]; omega) (by omega)
      rw [List.getElem_map, List.getElem_map] at h3
      exact absurd e2 h3
  · rw [List.take_succ_eq_append_getElem hi, has_snoc]
    congr 1
    rw [Bool.eq_iff_iff, beq_iff_eq, decide_eq_true_iff]
    exact eq_comm
/-- Whether a vertex is settled, and touched. -/
theorem far_all (hm : XM.Mesh N D) (hs : s < N) (hN : N ≤ 24) (h : Got N D s (outOf 0) (DM.norm 4611686018427387905) 24 L) (hT : ∀ a b : Nat, a < N → b < N → XM.Far D N a b (TB a b)) (ht : TT N D (outOf 0) L T) {v : Nat} (hv : v < N) : has L v = decide (TB s v < 4611686018427387906) ∧ BM.has T (v : Int) = has L v := by
  rw [out_none] at h ht
  refine ⟨?_, ?_⟩
  · rw [Bool.eq_iff_iff, decide_eq_true_iff]
    exact h.far hm.ok.1 hs (by decide) hN hv (hT s v hs hv)
  · rw [Bool.eq_iff_iff, ht.2 v]
    exact h.tch hm.ok.1 hs (by decide) hN hv
end
end WM
/-- Which vertices have been seen, in the block behind world A0. -/
structure Sn (A0 : World) (sn : Nat → Bool) (A : World) : Prop where
  bl : Below A0.heap.size A0 A
  c : ∀ v, v < 24 → A.cell? ⟨A0.heap.size, v, none⟩ = some (.bool (sn v))
  fz : ∀ v, A.frozen? ⟨A0.heap.size, v, none⟩ = false
section
variable {A0 A A' : World} {sn : Nat → Bool}
theorem Sn.lt (h : Sn A0 sn A) : A0.heap.size < A.heap.size := cell_lt (h.c 0 (by decide))
theorem Sn.on (h : Sn A0 sn A) (hb : Below A.heap.size A A') : Sn A0 sn A' :=
  ⟨below_on h.bl hb, fun v hv => (hb.cell (p := ⟨A0.heap.size, v, none⟩) h.lt).trans (h.c v hv), fun v => (World.frozen?_of_block (a := ⟨A0.heap.size, v, none⟩) (hb.block _ h.lt)).trans (h.fz v)⟩
theorem Sn.set (h : Sn A0 sn A) {v : Nat} (hv : v < 24) {sn' : Nat → Bool} (hs : ∀ u, sn' u = (sn u || decide (u = v))) : Sn A0 sn' (A.setCell ⟨A0.heap.size, v, none⟩ (.bool true)) := by
  refine ⟨h.bl.setCell (p := ⟨A0.heap.size, v, none⟩) (Nat.le_refl _) _, fun u hu => ?_, fun u => by rw [World.frozen?_setCell]; exact h.fz u⟩
  rw [hs u]
  by_cases e : u = v
  · rw [e, World.cell?_setCell_same _ _ _ (h.c v hv)]
    simp
  · rw [World.cell?_setCell_other _ _ _ _ (by intro e2; injection e2 with _ e2; exact e e2.symm), h.c u hu]
    simp [e]
theorem sn_new (A0 : World) (t : TypeId) : Sn A0 (fun _ => false) (A0.alloc (.cells (List.replicate 24 (Value.bool false)).toArray t)) := by
  refine ⟨(Below.refl _ _).alloc (Nat.le_refl _) _, fun v hv => ?_, fun v => by simp⟩
  rw [World.cell?_alloc_new, List.getElem?_toArray, List.getElem?_replicate, if_pos hv]
end
end Go.Proofs.Ytmkpcidgiobpeaa
