/-
  A table of 24 rows of 24 numbers in a block.
-/
import Derived.Test.YtmkpcidgiobpeaaMmGraphCopy
import Derived.Test.YtmkpcidgiobpeaaMmMaths
namespace Go.Proofs.Ytmkpcidgiobpeaa
open Go.RowKit

/-- The table D lies in block b. -/
structure TMem (w : World) (b : Nat) (D : Nat → Nat → Int) : Prop where
  c : ∀ s t, s < 24 → t < 24 → w.cell? ⟨b, s * 24 + t, none⟩ = some (.int .i64 (D s t))
  fz : ∀ j, w.frozen? ⟨b, j, none⟩ = false
def tabCells (D : Nat → Nat → Int) : List Value := (List.range 576).map (fun j => Value.int .i64 (D (j / 24) (j % 24)))
theorem tabCells_len (D : Nat → Nat → Int) : (tabCells D).length = 576 := by simp [tabCells]
theorem tabCells_get (D : Nat → Nat → Int) {s t : Nat} (hs : s < 24) (ht : t < 24) : (tabCells D)[s * 24 + t]? = some (.int .i64 (D s t)) := by
  unfold tabCells
  rw [List.getElem?_map, List.getElem?_range (by omega)]
  simp only [Option.map_some]
  rw [show (s * 24 + t) / 24 = s by omega, show (s * 24 + t) % 24 = t by omega]
theorem tabCells_one (D : Nat → Nat → Int) : ∀ v ∈ tabCells D, v.oneCell' = true := by
  intro v hv
  obtain ⟨j, _, rfl⟩ := List.mem_map.1 hv
  rfl
section
variable {w w' : World} {b : Nat} {D D' : Nat → Nat → Int}
theorem TMem.lt (h : TMem w b D) : b < w.heap.size := cell_lt (h.c 0 0 (by omega) (by omega))
theorem TMem.of_block (h : TMem w b D) (hb : w'.heap[b]? = w.heap[b]?) : TMem w' b D :=
  ⟨fun s t hs ht => (World.cell?_of_block (a := ⟨b, s * 24 + t, none⟩) hb).trans (h.c s t hs ht), fun j => (World.frozen?_of_block (a := ⟨b, j, none⟩) hb).trans (h.fz j)⟩
theorem TMem.on (h : TMem w b D) (hb : Below w.heap.size w w') : TMem w' b D := h.of_block (hb.block b h.lt)
theorem TMem.congr (h : TMem w b D) (e : ∀ s t, s < 24 → t < 24 → D s t = D' s t) : TMem w b D' := ⟨fun s t hs ht => by rw [← e s t hs ht]; exact h.c s t hs ht, h.fz⟩
theorem TMem.set (h : TMem w b D) {s t : Nat} (hs : s < 24) (ht : t < 24) (x : Int) : TMem (w.setCell ⟨b, s * 24 + t, none⟩ (.int .i64 x)) b (NM.set2 D s t x) where
  c s' t' hs' ht' := by
    unfold NM.set2
    by_cases e : s' = s ∧ t' = t
    · obtain ⟨rfl, rfl⟩ := e
      rw [if_pos ⟨rfl, rfl⟩]
      exact World.cell?_setCell_same _ _ _ (h.c s' t' hs' ht')
    · rw [if_neg e, cell_other _ (by omega)]
      exact h.c s' t' hs' ht'
  fz j := by simpa using h.fz j
theorem TMem.cells (h : TMem w b D) : ∀ j v, (tabCells D)[j]? = some v → w.cell? ((⟨b, 0, none⟩ : Addr).add j) = some v := by
  intro j v hv
  have ea : (⟨b, 0, none⟩ : Addr).add j = ⟨b, j, none⟩ := by rw [Addr.add_lit]; simp
  have hj : j < 576 := by have := (List.getElem?_eq_some_iff.1 hv).1; rwa [tabCells_len] at this
  rw [ea, ← hv]
  have h1 := h.c (j / 24) (j % 24) (by omega) (by omega)
  have h2 := tabCells_get D (s := j / 24) (t := j % 24) (by omega) (by omega)
  rw [show j / 24 * 24 + j % 24 = j by omega] at h1 h2
  rw [h1, h2]
end
theorem tmem_new (w : World) (D : Nat → Nat → Int) (t : TypeId) : TMem (w.alloc (.cells (tabCells D).toArray t)) w.heap.size D where
  c s t hs ht := by
    rw [World.cell?_alloc_new, List.getElem?_toArray]
    exact tabCells_get D hs ht
  fz j := by simp
def zT : Array Value := (tabCells (fun _ _ => 0)).toArray
theorem zeroT (w : World) : (zeroValue 50).run Try.prog w = .ok (.agg zT) w := by kernel_rfl
theorem zT_size : zT.size = 576 := by simp [zT, tabCells_len]
theorem zT_ne : (zT = #[]) = False := eq_false (fun h => by have := congrArg Array.size h; rw [zT_size] at this; cases this)
theorem infoT : (Try.prog.info? 50).map (·.size) = some 576 := by kernel_rfl
/-- Two tables of noughts, just laid. -/
theorem two_tabs (w : World) : ∃ w2, w2 = (w.alloc (.cells zT 50)).alloc (.cells zT 50) ∧ TMem w2 w.heap.size (fun _ _ => 0) ∧ TMem w2 (w.heap.size + 1) (fun _ _ => 0) ∧ Below w.heap.size w w2 ∧ w2.heap.size = w.heap.size + 2 ∧ w2.heap[w.heap.size]? = some (.cells zT 50 (0, 0)) := by
  refine ⟨_, rfl, (tmem_new w (fun _ _ => 0) _).on ((Below.refl _ _).alloc (Nat.le_refl _) _), ?_, ((Below.refl _ _).alloc (Nat.le_refl _) _).alloc (by simp) _, by simp, (Below.heap_alloc _ _ _ (by simp)).trans (heap_alloc_new w _)⟩
  have := tmem_new (w.alloc (.cells zT 50)) (fun _ _ => 0) 50
  rwa [World.size_alloc] at this
theorem loadVar_cells {P : Program} {w : World} (ty : TypeId) (g : Nat) (cs : List Value) (d : TypeDesc) (hu : P.underlying ty = some d) (hd : (match d with | .struct _ | .array _ _ => true | _ => false) = true) (hi : (P.info? ty).map (·.size) = some cs.length)
    (hc : ∀ j v, cs[j]? = some v → w.cell? ((⟨g, 0, none⟩ : Addr).add j) = some v) : (loadVar ty ⟨g, 0, none⟩).run P w = .ok (.agg cs.toArray) w := by
  have hl : (loadCells ⟨g, 0, none⟩ cs.length).run P w = .ok cs.toArray w := run_loadCells_list (P := P) w ⟨g, 0, none⟩ cs hc
  cases hq : P.info? ty with
  | none => simp [hq] at hi
  | some i =>
    have hs : i.size = cs.length := by simpa [hq] using hi
    have hagg : (isAgg ty).run P w = .ok true w := by
      unfold isAgg
      rw [Sem.run_bind, run_underlying hu w]
      cases d <;> simp_all
    simp [loadVar, Sem.run_bind, hagg, sizeOf, typeInfo, hq, hs, hl]
/-- A block that is laid over whole. -/
theorem tmem_row {w : World} {g : Nat} {t : TypeId} {old : Array Value} (hg : w.heap[g]? = some (.cells old t (0, 0))) (D : Nat → Nat → Int) : TMem (w.setRow g (tabCells D).toArray) g D := by
  have hb : (w.setRow g (tabCells D).toArray).heap[g]? = some (.cells (tabCells D).toArray t (0, 0)) := setRow_heap w g old _ t (0, 0) hg
  refine ⟨fun s t' hs ht => ?_, fun j => ?_⟩
  · rw [cell_of_row _ g (s * 24 + t') _ t (0, 0) hb, List.getElem?_toArray]
    exact tabCells_get D hs ht
  · simp [World.frozen?, hb]
theorem keeps_row (w : World) (g : Nat) (cs : Array Value) : Keeps (fun b => b = g) w (w.setRow g cs) := by
  exact ⟨rfl, rfl, rfl, by simp, fun k _ hn => setRow_other w g k cs hn⟩
end Go.Proofs.Ytmkpcidgiobpeaa
