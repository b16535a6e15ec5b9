/-
  What the walk of the document's Search leans on (layer 13): its memory as it begins and as it ends, what is touched.
-/
import Derived.Test.YtmkpcidgiobpeaaMmWitMem
import Derived.Laws.CopyOwn
import Derived.Deep.CutBlock
import Derived.Deep.RegionHeld3
import Derived.Deep.OwnRows
namespace Go.Proofs.Ytmkpcidgiobpeaa
open Go.RowKit
theorem rf_new (w : World) (N : Nat) (hN : N ≤ 24) : ∃ w3, w3 = ((w.alloc (.cells #[.slice none 0 0, .slice none 0 0, .slice none 0 0] 41)).alloc (.cells (madeCells #[.bool false] N) 4)).alloc (.cells #[.slice none 0 0, .slice none 0 0, .slice (some ⟨w.heap.size + 1, 0, none⟩) N N] 41) ∧
    RF w w.heap.size N (.slice none 0 0) (.slice none 0 0) [] [] (List.replicate N false) w3 := by
  refine ⟨_, rfl, ?_⟩
  have s1 := World.size_alloc w (.cells #[.slice none 0 0, .slice none 0 0, .slice none 0 0] 41)
  have b1 : Below w.heap.size w (w.alloc (.cells #[.slice none 0 0, .slice none 0 0, .slice none 0 0] 41)) := (Below.refl _ _).alloc (Nat.le_refl _) _
  have n1 := heap_alloc_new w (.cells #[.slice none 0 0, .slice none 0 0, .slice none 0 0] 41)
  generalize w.alloc (.cells #[.slice none 0 0, .slice none 0 0, .slice none 0 0] 41) = w1 at *
  have h2 := World.ownsRow_lit (base := w.heap.size + 1) (e := 4) (size := 1) w1 (madeCells #[.bool false] N) N (by omega) (by unfold maxLen; omega) (by rw [size_madeCells]; omega)
  rw [toList_madeCells_one, s1] at h2
  have h2 : (w1.alloc (.cells (madeCells #[.bool false] N) 4)).ownsRow (w.heap.size + 1) 4 1 (.slice (some ⟨w.heap.size + 1, 0, none⟩) N N) N ((List.replicate N false).map Value.bool) := by simpa using h2
  have s2 := World.size_alloc w1 (.cells (madeCells #[.bool false] N) 4)
  have b2 : Below w.heap.size w (w1.alloc (.cells (madeCells #[.bool false] N) 4)) := b1.alloc (by omega) _
  have n2 : (w1.alloc (.cells (madeCells #[.bool false] N) 4)).heap[w.heap.size]? = w1.heap[w.heap.size]? := Below.heap_alloc _ _ _ (by omega)
  rw [n1] at n2
  generalize w1.alloc (.cells (madeCells #[.bool false] N) 4) = w2 at *
  have n3 : (w2.alloc (.cells #[.slice none 0 0, .slice none 0 0, .slice (some ⟨w.heap.size + 1, 0, none⟩) N N] 41)).heap[w.heap.size]? = w2.heap[w.heap.size]? := Below.heap_alloc _ _ _ (by omega)
  rw [n2] at n3
  have e2 : w.heap.size + 2 = w2.heap.size := by omega
  have n4 := heap_alloc_new w2 (.cells #[.slice none 0 0, .slice none 0 0, .slice (some ⟨w.heap.size + 1, 0, none⟩) N N] 41)
  rw [← e2] at n4
  refine ⟨n3, ?_, ?_, ?_, fun j => ?_, Own.nil _ _ _ _, Own.nil _ _ _ _, h2.alloc _, fun g hg => by simp [Value.ownBlock] at hg, b2.alloc (by omega) _, by simp; omega⟩
  · unfold World.cell?; rw [n4]; rfl
  · unfold World.cell?; rw [n4]; rfl
  · unfold World.cell?; rw [n4]; rfl
  · unfold World.frozen?; rw [n4]; simp
theorem infoIW : (Try.prog.info? 3).map (fun i => (i.zero, i.size, i.bytes)) = some (some (.int .i64 0), 1, 8) := by kernel_rfl
/-- The vertices of a set. -/
def WM.outOf (O : Nat) : Nat → Bool := fun v => BM.has O ((v : Nat) : Int)
/-- What a vertex is held against: 0 to the first, the least sum to the others. -/
theorem key_if (D : Nat → Nat → Int) (s : Nat) (L : List (Nat × Int)) (n i : Nat) (hn : n = L.length) : WM.key D s L i = if n = 0 ∧ i = s then 0 else WM.sum D L i := by
  unfold WM.key
  by_cases h : n = 0
  · have e : L = [] := List.eq_nil_of_length_eq_zero (by omega)
    simp [h, e]
  · have e : L ≠ [] := fun e => h (by rw [hn, e]; rfl)
    simp [h, e]
theorem results_cellW {P : Program} {fn : Func} {tmps : Array Value} {w : World} {a : Nat} {t : TypeId} {ad : Addr} {v : Value} (hr : fn.results = #[.cell a t]) (ht : tmps[a]?.getD undef = .pointer (some ad)) (hl : (loadVar t ad).run P w = .ok v w) : (results fn tmps).run P w = .ok v w := by
  unfold results
  rw [hr]
  simp [ht, asAddr, hl]
theorem infoFW : (Try.prog.info? 41).map (·.size) = some 3 := by kernel_rfl
theorem load_found {W : World} {B : Nat} {x y z : Value} (h0 : W.cell? ⟨B, 0, none⟩ = some x) (h1 : W.cell? ⟨B, 1, none⟩ = some y) (h2 : W.cell? ⟨B, 2, none⟩ = some z) : (loadVar 41 ⟨B, 0, none⟩).run Try.prog W = .ok (.agg #[x, y, z]) W := by
  have hl : (loadCells ⟨B, 0, none⟩ [x, y, z].length).run Try.prog W = .ok [x, y, z].toArray W := run_loadCells_list (P := Try.prog) W ⟨B, 0, none⟩ [x, y, z] (fun j v hj => by
    match j, hj with
    | 0, hj => simp at hj; subst hj; simpa [Addr.add] using h0
    | 1, hj => simp at hj; subst hj; simpa [Addr.add] using h1
    | 2, hj => simp at hj; subst hj; simpa [Addr.add] using h2)
  have hi := infoFW
  cases hq : Try.prog.info? 41 with
  | none => simp [hq] at hi
  | some i =>
    have hs : i.size = [x, y, z].length := by simpa [hq] using hi
    have hagg : (isAgg 41).run Try.prog W = .ok true W := by
      unfold isAgg
      rw [Sem.run_bind, run_underlying Try.underlying41 W]
      rfl
    simp [loadVar, Sem.run_bind, hagg, sizeOf, typeInfo, hq, hs]
    have hl2 : (loadCells ⟨B, 0, none⟩ 3).run Try.prog W = .ok #[x, y, z] W := hl
    rw [hl2]
    rfl
/-- Found is laid into the answer's cells. -/
theorem RF.answer {w W : World} {B N : Nat} {sv dv : Value} {zs ds : List Int} {bs : List Bool} (h : RF w B N sv dv zs ds bs W) (_hB : B ≤ w.heap.size) :
    ∃ W', W' = ((W.setCell ⟨B, 0, none⟩ sv).setCell ⟨B, 1, none⟩ dv).setCell ⟨B, 2, none⟩ (.slice (some ⟨B + 1, 0, none⟩) N N) ∧ (loadVar 41 ⟨B, 0, none⟩).run Try.prog W' = .ok (.agg #[sv, dv, .slice (some ⟨B + 1, 0, none⟩) N N]) W' ∧ Row .i64 W' sv zs ∧ Row .i64 W' dv ds ∧
      W'.ownsRow (B + 1) 4 1 (.slice (some ⟨B + 1, 0, none⟩) N N) N (bs.map Value.bool) ∧ Below B w W' := by
  have e0 : W.cell? ⟨B, 0, none⟩ = some (.slice none 0 0) := by unfold World.cell?; rw [h.r0]; rfl
  have e1 : W.cell? ⟨B, 1, none⟩ = some (.slice none 0 0) := by unfold World.cell?; rw [h.r0]; rfl
  have e2 : W.cell? ⟨B, 2, none⟩ = some (.slice none 0 0) := by unfold World.cell?; rw [h.r0]; rfl
  have k1 : Keeps (fun b => b = B) W (((W.setCell ⟨B, 0, none⟩ sv).setCell ⟨B, 1, none⟩ dv).setCell ⟨B, 2, none⟩ (.slice (some ⟨B + 1, 0, none⟩) N N)) := ((keeps_set W B 0 sv).trans (keeps_set _ B 1 dv) (fun _ h => .inl h)).trans (keeps_set _ B 2 _) (fun _ h => .inl h)
  have c0 := World.cell?_setCell_same W ⟨B, 0, none⟩ sv e0
  have c1 : (W.setCell ⟨B, 0, none⟩ sv).cell? ⟨B, 1, none⟩ = some (.slice none 0 0) := by rw [World.cell?_setCell_other _ _ _ _ (by simp)]; exact e1
  have c2 : (W.setCell ⟨B, 0, none⟩ sv).cell? ⟨B, 2, none⟩ = some (.slice none 0 0) := by rw [World.cell?_setCell_other _ _ _ _ (by simp)]; exact e2
  have b0 : ((W.setCell ⟨B, 0, none⟩ sv).setCell ⟨B, 1, none⟩ dv).cell? ⟨B, 0, none⟩ = some sv := by rw [World.cell?_setCell_other _ _ _ _ (by simp)]; exact c0
  have b1 := World.cell?_setCell_same _ ⟨B, 1, none⟩ dv c1
  have b2 : ((W.setCell ⟨B, 0, none⟩ sv).setCell ⟨B, 1, none⟩ dv).cell? ⟨B, 2, none⟩ = some (.slice none 0 0) := by rw [World.cell?_setCell_other _ _ _ _ (by simp)]; exact c2
  refine ⟨_, rfl, load_found (by rw [World.cell?_setCell_other _ _ _ _ (by simp)]; exact b0) (by rw [World.cell?_setCell_other _ _ _ _ (by simp)]; exact b1) (World.cell?_setCell_same _ _ _ b2), ?_, ?_, ?_, h.bel.trans (k1.below (fun b hb => by omega) (by have := h.sz; omega))⟩
  · exact Own.row (k1.row h.os (fun g hg e => by have := h.os.block g hg; omega))
  · exact Own.row (k1.row h.od (fun g hg e => by have := h.od.block g hg; omega))
  · exact k1.row h.tb (fun g hg e => by
      have : B + 1 = g := by simpa [Value.ownBlock] using hg
      omega)
/-- Is a vertex touched, as far as the first t of what is settled tell. -/
def WM.tchB (D : Nat → Nat → Int) (W : Nat → Bool) (L : List (Nat × Int)) (v t : Nat) : Bool := WM.has L v || (!W v && (L.take t).any (fun x => decide (D x.1 v < 4611686018427387906)))
theorem WM.tchB_zero {D : Nat → Nat → Int} {W : Nat → Bool} {L : List (Nat × Int)} {v : Nat} : WM.tchB D W L v 0 = WM.has L v := by simp [WM.tchB]
theorem WM.tchB_step {D : Nat → Nat → Int} {W : Nat → Bool} {L : List (Nat × Int)} {v t : Nat} (ht : t < L.length) : ∃ u : Nat, (WM.vsL L)[t]?.getD 0 = (u : Int) ∧ WM.tchB D W L v (t + 1) = (WM.tchB D W L v t || (!W v && decide (D u v < 4611686018427387906))) := by
  refine ⟨L[t].1, ?_, ?_⟩
  · unfold WM.vsL
    rw [List.getElem?_map, List.getElem?_eq_getElem ht]
    rfl
  · unfold WM.tchB
    rw [List.take_succ_eq_append_getElem ht, List.any_append]
    simp only [List.any_cons, List.any_nil, Bool.or_false]
    cases WM.has L v <;> cases W v <;> simp
theorem WM.tchB_iff {N : Nat} {D : Nat → Nat → Int} {W : Nat → Bool} {L : List (Nat × Int)} {v : Nat} (hv : v < N) : WM.tchB D W L v L.length = true ↔ WM.Tch N D W L v := by
  unfold WM.tchB WM.Tch
  rw [List.take_length, Bool.or_eq_true, Bool.and_eq_true, List.any_eq_true]
  simp only [decide_eq_true_eq, Bool.not_eq_true', hv, true_and]
end Go.Proofs.Ytmkpcidgiobpeaa
