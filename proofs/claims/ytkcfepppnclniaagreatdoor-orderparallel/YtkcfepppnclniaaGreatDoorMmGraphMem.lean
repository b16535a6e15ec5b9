/-
  A graph of the program's, and the document's, in memory: each in a block of its own, cell by cell.
-/
import Derived.Test.YtkcfepppnclniaaGreatDoorMmGraphMath
import Derived.Deep.WholeRow
namespace Go.Proofs.YtkcfepppnclniaaGreatDoor
open Go.RowKit

/-- An arc's value, and its four cells. -/
def arcV (a : Arc) : Value := .agg #[.int .i64 a.tail, .int .i64 a.head, .int .i64 a.weight, .bool a.closed]
def arcCell (a : Arc) : Nat → Value
  | 0 => .int .i64 a.tail
  | 1 => .int .i64 a.head
  | 2 => .int .i64 a.weight
  | _ => .bool a.closed
def ArcIn (w : World) (b o : Nat) (a : Arc) : Prop := w.cell? ⟨b, o, none⟩ = some (.int .i64 a.tail) ∧ w.cell? ⟨b, o + 1, none⟩ = some (.int .i64 a.head) ∧ w.cell? ⟨b, o + 2, none⟩ = some (.int .i64 a.weight) ∧ w.cell? ⟨b, o + 3, none⟩ = some (.bool a.closed)
theorem ArcIn.cell {w : World} {b o : Nat} {a : Arc} (h : ArcIn w b o a) : ∀ r, r < 4 → w.cell? ⟨b, o + r, none⟩ = some (arcCell a r)
  | 0, _ => h.1
  | 1, _ => h.2.1
  | 2, _ => h.2.2.1
  | 3, _ => h.2.2.2
  | r + 4, h' => by omega
theorem ArcIn.of {w : World} {b o : Nat} {a : Arc} (h : ∀ r, r < 4 → w.cell? ⟨b, o + r, none⟩ = some (arcCell a r)) : ArcIn w b o a := ⟨h 0 (by omega), h 1 (by omega), h 2 (by omega), h 3 (by omega)⟩
/-- An arc that is laid into its four cells. -/
def arcSet (w : World) (b o : Nat) (a : Arc) : World := (((w.setCell ⟨b, o, none⟩ (.int .i64 a.tail)).setCell ⟨b, o + 1, none⟩ (.int .i64 a.head)).setCell ⟨b, o + 2, none⟩ (.int .i64 a.weight)).setCell ⟨b, o + 3, none⟩ (.bool a.closed)
theorem cell_other {w : World} {b o j : Nat} (v : Value) (h : j ≠ o) : (w.setCell ⟨b, o, none⟩ v).cell? ⟨b, j, none⟩ = w.cell? ⟨b, j, none⟩ := World.cell?_setCell_other _ _ _ _ (fun e => h (congrArg Addr.off e).symm)
theorem arcSet_in {w : World} {b o : Nat} {a0 : Arc} (h : ArcIn w b o a0) (a : Arc) : ArcIn (arcSet w b o a) b o a := by
  obtain ⟨h0, h1, h2, h3⟩ := h
  unfold arcSet
  refine ⟨?_, ?_, ?_, ?_⟩
  · rw [cell_other _ (by omega), cell_other _ (by omega), cell_other _ (by omega)]
    exact World.cell?_setCell_same _ _ _ h0
  · rw [cell_other _ (by omega), cell_other _ (by omega)]
    exact World.cell?_setCell_same _ _ _ (by rw [cell_other _ (by omega)]; exact h1)
  · rw [cell_other _ (by omega)]
    exact World.cell?_setCell_same _ _ _ (by rw [cell_other _ (by omega), cell_other _ (by omega)]; exact h2)
  · exact World.cell?_setCell_same _ _ _ (by rw [cell_other _ (by omega), cell_other _ (by omega), cell_other _ (by omega)]; exact h3)
theorem arcSet_out {w : World} {b o j : Nat} (a : Arc) (h : j < o ∨ o + 4 ≤ j) : (arcSet w b o a).cell? ⟨b, j, none⟩ = w.cell? ⟨b, j, none⟩ := by
  unfold arcSet
  rw [cell_other _ (by omega), cell_other _ (by omega), cell_other _ (by omega), cell_other _ (by omega)]
theorem arcSet_frozen (w : World) (b o : Nat) (a : Arc) (x : Addr) : (arcSet w b o a).frozen? x = w.frozen? x := by simp [arcSet]
theorem arcSet_keeps (w : World) (b o : Nat) (a : Arc) : Keeps (fun x => x = b) w (arcSet w b o a) :=
  ((((Keeps.refl (fun x => x = b) w).setCell (p := ⟨b, o, none⟩) (.inl rfl) _).setCell (p := ⟨b, o + 1, none⟩) (.inl rfl) _).setCell (p := ⟨b, o + 2, none⟩) (.inl rfl) _).setCell (p := ⟨b, o + 3, none⟩) (.inl rfl) _

def arcCells (m : GM.M) : List Value := (List.range 256).map (fun j => arcCell (GM.arc m (j / 4)) (j % 4))
def gCells (n most : Nat) (m : GM.M) : List Value := .int .i64 (n : Int) :: .int .i64 (most : Int) :: arcCells m
def rCells (n most : Nat) (m : GM.M) : List Value := .int .i64 (n : Int) :: .int .i64 (most : Int) :: ((List.range 64).map (fun i => Value.bool (GM.is m i)) ++ arcCells m)
theorem arcCells_get (m : GM.M) {i r : Nat} (hi : i < 64) (hr : r < 4) : (arcCells m)[i * 4 + r]? = some (arcCell (GM.arc m i) r) := by
  unfold arcCells
  rw [List.getElem?_map, List.getElem?_range (by omega)]
  simp only [Option.map_some]
  rw [show (i * 4 + r) / 4 = i by omega, show (i * 4 + r) % 4 = r by omega]
theorem arcCells_len (m : GM.M) : (arcCells m).length = 256 := by simp [arcCells]

/-- The program's graph in block p. -/
structure GMem (w : World) (p n most : Nat) (m : GM.M) : Prop where
  c0 : w.cell? ⟨p, 0, none⟩ = some (.int .i64 (n : Nat))
  c1 : w.cell? ⟨p, 1, none⟩ = some (.int .i64 (most : Nat))
  arc : ∀ i, i < 64 → ArcIn w p (2 + i * 4) (GM.arc m i)
  fz : ∀ j, w.frozen? ⟨p, j, none⟩ = false
/-- The document's graph in block q. -/
structure RMem (w : World) (q n most : Nat) (m : GM.M) : Prop where
  c0 : w.cell? ⟨q, 0, none⟩ = some (.int .i64 (n : Nat))
  c1 : w.cell? ⟨q, 1, none⟩ = some (.int .i64 (most : Nat))
  tk : ∀ i, i < 64 → w.cell? ⟨q, 2 + i, none⟩ = some (.bool (GM.is m i))
  arc : ∀ i, i < 64 → ArcIn w q (66 + i * 4) (GM.arc m i)
  fz : ∀ j, w.frozen? ⟨q, j, none⟩ = false
section
variable {w w' : World} {p q n most : Nat} {m : GM.M}
theorem GMem.lt (h : GMem w p n most m) : p < w.heap.size := cell_lt h.c0
theorem RMem.lt (h : RMem w q n most m) : q < w.heap.size := cell_lt h.c0
theorem ArcIn.same {b o : Nat} {a : Arc} (h : ArcIn w b o a) (he : ∀ j, w'.cell? ⟨b, j, none⟩ = w.cell? ⟨b, j, none⟩) : ArcIn w' b o a := ⟨(he _).trans h.1, (he _).trans h.2.1, (he _).trans h.2.2.1, (he _).trans h.2.2.2⟩
theorem GMem.of_block (h : GMem w p n most m) (hb : w'.heap[p]? = w.heap[p]?) : GMem w' p n most m := by
  have e : ∀ j, w'.cell? ⟨p, j, none⟩ = w.cell? ⟨p, j, none⟩ := fun j => World.cell?_of_block (a := ⟨p, j, none⟩) hb
  exact ⟨(e _).trans h.c0, (e _).trans h.c1, fun i hi => (h.arc i hi).same e, fun j => (World.frozen?_of_block (a := ⟨p, j, none⟩) hb).trans (h.fz j)⟩
theorem RMem.of_block (h : RMem w q n most m) (hb : w'.heap[q]? = w.heap[q]?) : RMem w' q n most m := by
  have e : ∀ j, w'.cell? ⟨q, j, none⟩ = w.cell? ⟨q, j, none⟩ := fun j => World.cell?_of_block (a := ⟨q, j, none⟩) hb
  exact ⟨(e _).trans h.c0, (e _).trans h.c1, fun i hi => (e _).trans (h.tk i hi), fun i hi => (h.arc i hi).same e, fun j => (World.frozen?_of_block (a := ⟨q, j, none⟩) hb).trans (h.fz j)⟩
theorem GMem.kept {F : Nat → Prop} (h : GMem w p n most m) (hk : Keeps F w w') (hF : ¬ F p) : GMem w' p n most m := h.of_block (hk.block p h.lt hF)
theorem RMem.kept {F : Nat → Prop} (h : RMem w q n most m) (hk : Keeps F w w') (hF : ¬ F q) : RMem w' q n most m := h.of_block (hk.block q h.lt hF)
theorem GMem.below (h : GMem w p n most m) {B : Nat} (hp : p < B) (hb : Below B w w') : GMem w' p n most m := h.of_block (hb.block p hp)
theorem RMem.below (h : RMem w q n most m) {B : Nat} (hq : q < B) (hb : Below B w w') : RMem w' q n most m := h.of_block (hb.block q hq)
theorem GMem.on (h : GMem w p n most m) (hb : Below w.heap.size w w') : GMem w' p n most m := h.below h.lt hb
theorem RMem.on (h : RMem w q n most m) (hb : Below w.heap.size w w') : RMem w' q n most m := h.below h.lt hb
theorem GMem.drew (h : GMem w p n most m) : GMem w.drew p n most m := ⟨h.c0, h.c1, h.arc, h.fz⟩
theorem RMem.drew (h : RMem w q n most m) : RMem w.drew q n most m := ⟨h.c0, h.c1, h.tk, h.arc, h.fz⟩
/-- An arc is laid at a place (or none: x is that arc, or none). -/
theorem GMem.put (h : GMem w p n most m) {i : Nat} (hi : i < 64) (x : Option Arc) : GMem (arcSet w p (2 + i * 4) (x.getD noArc)) p n most (GM.upd m i x) where
  c0 := (arcSet_out _ (by omega)).trans h.c0
  c1 := (arcSet_out _ (by omega)).trans h.c1
  arc j hj := by
    rw [GM.arc_upd]
    split
    · rename_i e
      subst e
      exact arcSet_in (h.arc j hj) _
    · exact ArcIn.of (fun r hr => (arcSet_out _ (by omega)).trans ((h.arc j hj).cell r hr))
  fz j := (arcSet_frozen _ _ _ _ _).trans (h.fz j)
/-- The same in the document's: the mark, too. -/
theorem RMem.mark (h : RMem w q n most m) {i : Nat} (hi : i < 64) (b : Bool) (x : Option Arc) (hb : b = x.isSome) :
    RMem (arcSet (w.setCell ⟨q, 2 + i, none⟩ (.bool b)) q (66 + i * 4) (x.getD noArc)) q n most (GM.upd m i x) := by
  subst hb
  have hA : ∀ j, j < 64 → ArcIn (w.setCell ⟨q, 2 + i, none⟩ (.bool x.isSome)) q (66 + j * 4) (GM.arc m j) := fun j hj => ArcIn.of (fun r hr => (cell_other _ (by omega)).trans ((h.arc j hj).cell r hr))
  refine ⟨(arcSet_out _ (by omega)).trans ((cell_other _ (by omega)).trans h.c0), (arcSet_out _ (by omega)).trans ((cell_other _ (by omega)).trans h.c1), fun j hj => ?_, fun j hj => ?_, fun j => ?_⟩
  · rw [arcSet_out _ (by omega), GM.is_upd]
    split
    · rename_i e
      subst e
      exact World.cell?_setCell_same _ _ _ (h.tk j hj)
    · rw [cell_other _ (by omega)]
      exact h.tk j hj
  · rw [GM.arc_upd]
    split
    · rename_i e
      subst e
      exact arcSet_in (hA j hj) _
    · exact ArcIn.of (fun r hr => (arcSet_out _ (by omega)).trans ((hA j hj).cell r hr))
  · rw [arcSet_frozen]
    simpa using h.fz j
/-- The place's one cell alone. -/
theorem RMem.cell (h : RMem w q n most m) {i : Nat} (hi : i < 64) (hs : GM.is m i = true) {r : Nat} (hr : r < 4) (v : Value) (a : Arc) (hv : arcCell a r = v) (ho : ∀ s, s < 4 → s ≠ r → arcCell a s = arcCell (GM.arc m i) s) :
    RMem (w.setCell ⟨q, 66 + i * 4 + r, none⟩ v) q n most (GM.upd m i (some a)) := by
  subst hv
  refine ⟨(cell_other _ (by omega)).trans h.c0, (cell_other _ (by omega)).trans h.c1, fun j hj => ?_, fun j hj => ?_, fun j => by simpa using h.fz j⟩
  · rw [cell_other _ (by omega), GM.is_upd]
    split
    · rename_i e
      subst e
      rw [h.tk j hj, hs]
      rfl
    · exact h.tk j hj
  · rw [GM.arc_upd]
    split
    · rename_i e
      subst e
      refine ArcIn.of (fun s hs' => ?_)
      by_cases e : s = r
      · subst e
        exact World.cell?_setCell_same _ _ _ ((h.arc j hj).cell s hs')
      · rw [cell_other _ (by omega), (h.arc j hj).cell s hs']
        exact (congrArg some (ho s hs' e)).symm
    · exact ArcIn.of (fun s hs' => (cell_other _ (by omega)).trans ((h.arc j hj).cell s hs'))
theorem GMem.cells (h : GMem w p n most m) : ∀ j v, (gCells n most m)[j]? = some v → w.cell? ((⟨p, 0, none⟩ : Addr).add j) = some v := by
  intro j v hv
  have ea : (⟨p, 0, none⟩ : Addr).add j = ⟨p, j, none⟩ := by rw [Addr.add_lit]; simp
  rw [ea]
  match j, hv with
  | 0, hv => simp [gCells] at hv; rw [← hv]; exact h.c0
  | 1, hv => simp [gCells] at hv; rw [← hv]; exact h.c1
  | j + 2, hv =>
    have hv' : (arcCells m)[j]? = some v := by simpa [gCells] using hv
    have hj : j < 256 := by have := (List.getElem?_eq_some_iff.1 hv').1; rwa [arcCells_len] at this
    have hi : j / 4 < 64 := by omega
    have := (h.arc (j / 4) hi).cell (j % 4) (by omega)
    rw [show 2 + j / 4 * 4 + j % 4 = j + 2 by omega] at this
    rw [this, ← arcCells_get m hi (by omega), show j / 4 * 4 + j % 4 = j by omega, hv']
theorem RMem.cells (h : RMem w q n most m) : ∀ j v, (rCells n most m)[j]? = some v → w.cell? ((⟨q, 0, none⟩ : Addr).add j) = some v := by
  intro j v hv
  have ea : (⟨q, 0, none⟩ : Addr).add j = ⟨q, j, none⟩ := by rw [Addr.add_lit]; simp
  rw [ea]
  match j, hv with
  | 0, hv => simp [rCells] at hv; rw [← hv]; exact h.c0
  | 1, hv => simp [rCells] at hv; rw [← hv]; exact h.c1
  | j + 2, hv =>
    have hv' : ((List.range 64).map (fun i => Value.bool (GM.is m i)) ++ arcCells m)[j]? = some v := by simpa [rCells] using hv
    rw [List.getElem?_append] at hv'
    split at hv'
    · rename_i hj
      simp at hj
      rw [List.getElem?_map, List.getElem?_range hj, Option.map_some] at hv'
      rw [← hv', show j + 2 = 2 + j by omega]
      exact h.tk j hj
    · rename_i hj
      simp at hj
      simp only [List.length_map, List.length_range] at hv'
      have hj2 : j - 64 < 256 := by have := (List.getElem?_eq_some_iff.1 hv').1; rwa [arcCells_len] at this
      have hi : (j - 64) / 4 < 64 := by omega
      have := (h.arc ((j - 64) / 4) hi).cell ((j - 64) % 4) (by omega)
      rw [show 66 + (j - 64) / 4 * 4 + (j - 64) % 4 = j + 2 by omega] at this
      rw [this, ← arcCells_get m hi (by omega), show (j - 64) / 4 * 4 + (j - 64) % 4 = j - 64 by omega, hv']
end
/-- A block just laid. -/
theorem gmem_new (w : World) (n most : Nat) (m : GM.M) (t : TypeId) : GMem (w.alloc (.cells (gCells n most m).toArray t)) w.heap.size n most m where
  c0 := by simp [gCells]
  c1 := by simp [gCells]
  arc i hi := ArcIn.of (fun r hr => by
    rw [World.cell?_alloc_new, List.getElem?_toArray, show 2 + i * 4 + r = (i * 4 + r) + 2 by omega]
    exact arcCells_get m hi hr)
  fz j := by simp
theorem rmem_new (w : World) (n most : Nat) (m : GM.M) (t : TypeId) : RMem (w.alloc (.cells (rCells n most m).toArray t)) w.heap.size n most m where
  c0 := by simp [rCells]
  c1 := by simp [rCells]
  tk i hi := by
    rw [World.cell?_alloc_new, List.getElem?_toArray, show 2 + i = i + 2 by omega]
    show ((List.range 64).map (fun i => Value.bool (GM.is m i)) ++ arcCells m)[i]? = _
    rw [List.getElem?_append_left (by simpa using hi), List.getElem?_map, List.getElem?_range hi]
    rfl
  arc i hi := ArcIn.of (fun r hr => by
    rw [World.cell?_alloc_new, List.getElem?_toArray, show 66 + i * 4 + r = (i * 4 + r + 64) + 2 by omega]
    show ((List.range 64).map (fun i => Value.bool (GM.is m i)) ++ arcCells m)[i * 4 + r + 64]? = _
    rw [List.getElem?_append_right (by simp)]
    simp only [List.length_map, List.length_range, Nat.add_sub_cancel]
    exact arcCells_get m hi hr)
  fz j := by simp
theorem gCells_len (n most : Nat) (m : GM.M) : (gCells n most m).length = 258 := by simp [gCells, arcCells_len]
theorem rCells_len (n most : Nat) (m : GM.M) : (rCells n most m).length = 322 := by simp [rCells, arcCells_len]
theorem arcCells_one (m : GM.M) : ∀ v ∈ arcCells m, v.oneCell' = true := by
  intro v hv
  obtain ⟨j, _, rfl⟩ := List.mem_map.1 hv
  generalize j % 4 = r
  match r with
  | 0 => rfl
  | 1 => rfl
  | 2 => rfl
  | _ + 3 => rfl
theorem gCells_one (n most : Nat) (m : GM.M) : ∀ v ∈ gCells n most m, v.oneCell' = true := by
  intro v hv
  simp only [gCells, List.mem_cons] at hv
  rcases hv with rfl | rfl | hv
  · rfl
  · rfl
  · exact arcCells_one m v hv
theorem rCells_one (n most : Nat) (m : GM.M) : ∀ v ∈ rCells n most m, v.oneCell' = true := by
  intro v hv
  simp only [rCells, List.mem_cons, List.mem_append] at hv
  rcases hv with rfl | rfl | hv | hv
  · rfl
  · rfl
  · obtain ⟨j, _, rfl⟩ := List.mem_map.1 hv
    rfl
  · exact arcCells_one m v hv
def zG : Array Value := (gCells 0 0 GM.none0).toArray
def zR : Array Value := (rCells 0 0 GM.none0).toArray
theorem zeroG (w : World) : (zeroValue 82).run Tryz.prog w = .ok (.agg zG) w := by kernel_rfl
theorem zeroR (w : World) : (zeroValue 41).run Tryz.prog w = .ok (.agg zR) w := by kernel_rfl
theorem zG_size : zG.size = 258 := by simp [zG, gCells_len]
theorem zR_size : zR.size = 322 := by simp [zR, rCells_len]
theorem zG_ne : (zG = #[]) = False := eq_false (fun h => by have := congrArg Array.size h; rw [zG_size] at this; cases this)
theorem zR_ne : (zR = #[]) = False := eq_false (fun h => by have := congrArg Array.size h; rw [zR_size] at this; cases this)
theorem zG_set (n most : Nat) : (zG.setIfInBounds 0 (.int .i64 (n : Nat))).setIfInBounds 1 (.int .i64 (most : Nat)) = (gCells n most GM.none0).toArray := by simp [zG, gCells]
theorem zR_set (n most : Nat) : (zR.setIfInBounds 0 (.int .i64 (n : Nat))).setIfInBounds 1 (.int .i64 (most : Nat)) = (rCells n most GM.none0).toArray := by simp [zR, rCells]
end Go.Proofs.YtkcfepppnclniaaGreatDoor
