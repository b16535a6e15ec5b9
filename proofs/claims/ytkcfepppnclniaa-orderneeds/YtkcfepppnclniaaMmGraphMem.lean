/-
  GraphMem, GraphA, GraphCopy, NearTab.
-/
import Derived.Test.YtkcfepppnclniaaMmGraphMath
import Derived.Test.YtkcfepppnclniaaMmNearMath
import Derived.Deep.WholeRow
section
/-
  A graph of the program's, and the document's, in memory: each in a block of its own, cell by cell.
-/
namespace Go.Proofs.Ytkcfepppnclniaa
open Go.RowKit

/-- An arc's value, and its four cells. -/
def arcV (a : Arc) : Value := .agg #[.int .i64 a.tail, .int .i64 a.head, .int .i64 a.weight, .bool a.closed]
def arcCell (a : Arc) : Nat → Value
  | 0 => .int .i64 a.tail
  | 1 => .int .i64 a.head
  | 2 => .int .i64 a.weight
  | _ => .bool a.closed
def ArcIn (w : World) (b o : Nat) (a : Arc) : Prop := w.cell? ⟨b, o, none⟩ = some (.int .i64 a.tail) ∧ w.cell? ⟨b, o + 1, none⟩ = some (.int .i64 a.head) ∧ w.cell? ⟨b, o + 2, none⟩ = some (.int .i64 a.weight) ∧ w.cell? ⟨b, o + 3, none⟩ = some (.bool a.closed)
theorem ArcIn.cell {w : World} {b o : Nat} {a : Arc} (h : ArcIn w b o a) : ∀ r, r < 4 → w.cell? ⟨b, o + r, none⟩ = some (arcCell a r)
  | 0, _ => h.1
  | 1, _ => h.2.1
  | 2, _ => h.2.2.1
  | 3, _ => h.2.2.2
  | r + 4, h' => by omega
theorem ArcIn.of {w : World} {b o : Nat} {a : Arc} (h : ∀ r, r < 4 → w.cell? ⟨b, o + r, none⟩ = some (arcCell a r)) : ArcIn w b o a := ⟨h 0 (by omega), h 1 (by omega), h 2 (by omega), h 3 (by omega)⟩
/-- An arc that is laid into its four cells. -/
def arcSet (w : World) (b o : Nat) (a : Arc) : World := (((w.setCell ⟨b, o, none⟩ (.int .i64 a.tail)).setCell ⟨b, o + 1, none⟩ (.int .i64 a.head)).setCell ⟨b, o + 2, none⟩ (.int .i64 a.weight)).setCell ⟨b, o + 3, none⟩ (.bool a.closed)
theorem cell_other {w : World} {b o j : Nat} (v : Value) (h : j ≠ o) : (w.setCell ⟨b, o, none⟩ v).cell? ⟨b, j, none⟩ = w.cell? ⟨b, j, none⟩ := World.cell?_setCell_other _ _ _ _ (fun e => h (congrArg Addr.off e).symm)
theorem arcSet_in {w : World} {b o : Nat} {a0 : Arc} (h : ArcIn w b o a0) (a : Arc) : ArcIn (arcSet w b o a) b o a := by
  obtain ⟨h0, h1, h2, h3⟩ := h
  unfold arcSet
  refine ⟨?_, ?_, ?_, ?_⟩
  · rw [cell_other _ (by omega), cell_other _ (by omega), cell_other _ (by omega)]
    exact World.cell?_setCell_same _ _ _ h0
  · rw [cell_other _ (by omega), cell_other _ (by omega)]
    exact World.cell?_setCell_same _ _ _ (by rw [cell_other _ (by omega)]; exact h1)
  · rw [cell_other _ (by omega)]
    exact World.cell?_setCell_same _ _ _ (by rw [cell_other _ (by omega), cell_other _ (by omega)]; exact h2)
  · exact World.cell?_setCell_same _ _ _ (by rw [cell_other _ (by omega), cell_other _ (by omega), cell_other _ (by omega)]; exact h3)
theorem arcSet_out {w : World} {b o j : Nat} (a : Arc) (h : j < o ∨ o + 4 ≤ j) : (arcSet w b o a).cell? ⟨b, j, none⟩ = w.cell? ⟨b, j, none⟩ := by
  unfold arcSet
  rw [cell_other _ (by omega), cell_other _ (by omega), cell_other _ (by omega), cell_other _ (by omega)]
theorem arcSet_frozen (w : World) (b o : Nat) (a : Arc) (x : Addr) : (arcSet w b o a).frozen? x = w.frozen? x := by simp [arcSet]
theorem arcSet_keeps (w : World) (b o : Nat) (a : Arc) : Keeps (fun x => x = b) w (arcSet w b o a) :=
  ((((Keeps.refl (fun x => x = b) w).setCell (p := ⟨b, o, none⟩) (.inl rfl) _).setCell (p := ⟨b, o + 1, none⟩) (.inl rfl) _).setCell (p := ⟨b, o + 2, none⟩) (.inl rfl) _).setCell (p := ⟨b, o + 3, none⟩) (.inl rfl) _

def arcCells (m : GM.M) : List Value := (List.range 256).map (fun j => arcCell (GM.arc m (j / 4)) (j % 4))
def gCells (n most : Nat) (m : GM.M) : List Value := .int .i64 (n : Int) :: .int .i64 (most : Int) :: arcCells m
def rCells (n most : Nat) (m : GM.M) : List Value := .int .i64 (n : Int) :: .int .i64 (most : Int) :: ((List.range 64).map (fun i => Value.bool (GM.is m i)) ++ arcCells m)
theorem arcCells_get (m : GM.M) {i r : Nat} (hi : i < 64) (hr : r < 4) : (arcCells m)[i * 4 + r]? = some (arcCell (GM.arc m i) r) := by
  unfold arcCells
  rw [List.getElem?_map, List.getElem?_range (by omega)]
  simp only [Option.map_some]
  rw [show (i * 4 + r) / 4 = i by omega, show (i * 4 + r) % 4 = r by omega]
theorem arcCells_len (m : GM.M) : (arcCells m).length = 256 := by simp [arcCells]

/-- The program's graph in block p. -/
structure GMem (w : World) (p n most : Nat) (m : GM.M) : Prop where
  c0 : w.cell? ⟨p, 0, none⟩ = some (.int .i64 (n : Nat))
  c1 : w.cell? ⟨p, 1, none⟩ = some (.int .i64 (most : Nat))
  arc : ∀ i, i < 64 → ArcIn w p (2 + i * 4) (GM.arc m i)
  fz : ∀ j, w.frozen? ⟨p, j, none⟩ = false
/-- The document's graph in block q. -/
structure RMem (w : World) (q n most : Nat) (m : GM.M) : Prop where
  c0 : w.cell? ⟨q, 0, none⟩ = some (.int .i64 (n : Nat))
  c1 : w.cell? ⟨q, 1, none⟩ = some (.int .i64 (most : Nat))
  tk : ∀ i, i < 64 → w.cell? ⟨q, 2 + i, none⟩ = some (.bool (GM.is m i))
  arc : ∀ i, i < 64 → ArcIn w q (66 + i * 4) (GM.arc m i)
  fz : ∀ j, w.frozen? ⟨q, j, none⟩ = false
section
variable {w w' : World} {p q n most : Nat} {m : GM.M}
theorem GMem.lt (h : GMem w p n most m) : p < w.heap.size := cell_lt h.c0
theorem RMem.lt (h : RMem w q n most m) : q < w.heap.size := cell_lt h.c0
theorem ArcIn.same {b o : Nat} {a : Arc} (h : ArcIn w b o a) (he : ∀ j, w'.cell? ⟨b, j, none⟩ = w.cell? ⟨b, j, none⟩) : ArcIn w' b o a := ⟨(he _).trans h.1, (he _).trans h.2.1, (he _).trans h.2.2.1, (he _).trans h.2.2.2⟩
theorem GMem.of_block (h : GMem w p n most m) (hb : w'.heap[p]? = w.heap[p]?) : GMem w' p n most m := by
  have e : ∀ j, w'.cell? ⟨p, j, none⟩ = w.cell? ⟨p, j, none⟩ := fun j => World.cell?_of_block (a := ⟨p, j, none⟩) hb
  exact ⟨(e _).trans h.c0, (e _).trans h.c1, fun i hi => (h.arc i hi).same e, fun j => (World.frozen?_of_block (a := ⟨p, j, none⟩) hb).trans (h.fz j)⟩
theorem RMem.of_block (h : RMem w q n most m) (hb : w'.heap[q]? = w.heap[q]?) : RMem w' q n most m := by
  have e : ∀ j, w'.cell? ⟨q, j, none⟩ = w.cell? ⟨q, j, none⟩ := fun j => World.cell?_of_block (a := ⟨q, j, none⟩) hb
  exact ⟨(e _).trans h.c0, (e _).trans h.c1, fun i hi => (e _).trans (h.tk i hi), fun i hi => (h.arc i hi).same e, fun j => (World.frozen?_of_block (a := ⟨q, j, none⟩) hb).trans (h.fz j)⟩
theorem GMem.kept {F : Nat → Prop} (h : GMem w p n most m) (hk : Keeps F w w') (hF : ¬ F p) : GMem w' p n most m := h.of_block (hk.block p h.lt hF)
theorem RMem.kept {F : Nat → Prop} (h : RMem w q n most m) (hk : Keeps F w w') (hF : ¬ F q) : RMem w' q n most m := h.of_block (hk.block q h.lt hF)
theorem GMem.below (h : GMem w p n most m) {B : Nat} (hp : p < B) (hb : Below B w w') : GMem w' p n most m := h.of_block (hb.block p hp)
theorem RMem.below (h : RMem w q n most m) {B : Nat} (hq : q < B) (hb : Below B w w') : RMem w' q n most m := h.of_block (hb.block q hq)
theorem GMem.on (h : GMem w p n most m) (hb : Below w.heap.size w w') : GMem w' p n most m := h.below h.lt hb
theorem RMem.on (h : RMem w q n most m) (hb : Below w.heap.size w w') : RMem w' q n most m := h.below h.lt hb
theorem GMem.drew (h : GMem w p n most m) : GMem w.drew p n most m := ⟨h.c0, h.c1, h.arc, h.fz⟩
theorem RMem.drew (h : RMem w q n most m) : RMem w.drew q n most m := ⟨h.c0, h.c1, h.tk, h.arc, h.fz⟩
/-- An arc is laid at a place (or none: x is that arc, or none). -/
theorem GMem.put (h : GMem w p n most m) {i : Nat} (hi : i < 64) (x : Option Arc) : GMem (arcSet w p (2 + i * 4) (x.getD noArc)) p n most (GM.upd m i x) where
  c0 := (arcSet_out _ (by omega)).trans h.c0
  c1 := (arcSet_out _ (by omega)).trans h.c1
  arc j hj := by
    rw [GM.arc_upd]
    split
    · rename_i e
      subst e
      exact arcSet_in (h.arc j hj) _
    · exact ArcIn.of (fun r hr => (arcSet_out _ (by omega)).trans ((h.arc j hj).cell r hr))
  fz j := (arcSet_frozen _ _ _ _ _).trans (h.fz j)
/-- The same in the document's: the mark, too. -/
theorem RMem.mark (h : RMem w q n most m) {i : Nat} (hi : i < 64) (b : Bool) (x : Option Arc) (hb : b = x.isSome) :
    RMem (arcSet (w.setCell ⟨q, 2 + i, none⟩ (.bool b)) q (66 + i * 4) (x.getD noArc)) q n most (GM.upd m i x) := by
  subst hb
  have hA : ∀ j, j < 64 → ArcIn (w.setCell ⟨q, 2 + i, none⟩ (.bool x.isSome)) q (66 + j * 4) (GM.arc m j) := fun j hj => ArcIn.of (fun r hr => (cell_other _ (by omega)).trans ((h.arc j hj).cell r hr))
  refine ⟨(arcSet_out _ (by omega)).trans ((cell_other _ (by omega)).trans h.c0), (arcSet_out _ (by omega)).trans ((cell_other _ (by omega)).trans h.c1), fun j hj => ?_, fun j hj => ?_, fun j => ?_⟩
  · rw [arcSet_out _ (by omega), GM.is_upd]
    split
    · rename_i e
      subst e
      exact World.cell?_setCell_same _ _ _ (h.tk j hj)
    · rw [cell_other _ (by omega)]
      exact h.tk j hj
  · rw [GM.arc_upd]
    split
    · rename_i e
      subst e
      exact arcSet_in (hA j hj) _
    · exact ArcIn.of (fun r hr => (arcSet_out _ (by omega)).trans ((hA j hj).cell r hr))
  · rw [arcSet_frozen]
    simpa using h.fz j
/-- The place's one cell alone. -/
theorem RMem.cell (h : RMem w q n most m) {i : Nat} (hi : i < 64) (hs : GM.is m i = true) {r : Nat} (hr : r < 4) (v : Value) (a : Arc) (hv : arcCell a r = v) (ho : ∀ s, s < 4 → s ≠ r → arcCell a s = arcCell (GM.arc m i) s) :
    RMem (w.setCell ⟨q, 66 + i * 4 + r, none⟩ v) q n most (GM.upd m i (some a)) := by
  subst hv
  refine ⟨(cell_other _ (by omega)).trans h.c0, (cell_other _ (by omega)).trans h.c1, fun j hj => ?_, fun j hj => ?_, fun j => by simpa using h.fz j⟩
  · rw [cell_other _ (by omega), GM.is_upd]
    split
    · rename_i e
      subst e
      rw [h.tk j hj, hs]
      rfl
    · exact h.tk j hj
  · rw [GM.arc_upd]
    split
    · rename_i e
      subst e
      refine ArcIn.of (fun s hs' => ?_)
      by_cases e : s = r
      · subst e
        exact World.cell?_setCell_same _ _ _ ((h.arc j hj).cell s hs')
      · rw [cell_other _ (by omega), (h.arc j hj).cell s hs']
        exact (congrArg some (ho s hs' e)).symm
    · exact ArcIn.of (fun s hs' => (cell_other _ (by omega)).trans ((h.arc j hj).cell s hs'))
theorem GMem.cells (h : GMem w p n most m) : ∀ j v, (gCells n most m)[j]? = some v → w.cell? ((⟨p, 0, none⟩ : Addr).add j) = some v := by
  intro j v hv
  have ea : (⟨p, 0, none⟩ : Addr).add j = ⟨p, j, none⟩ := by rw [Addr.add_lit]; simp
  rw [ea]
  match j, hv with
  | 0, hv => simp [gCells] at hv; rw [← hv]; exact h.c0
  | 1, hv => simp [gCells] at hv; rw [← hv]; exact h.c1
  | j + 2, hv =>
    have hv' : (arcCells m)[j]? = some v := by simpa [gCells] using hv
    have hj : j < 256 := by have := (List.getElem?_eq_some_iff.1 hv').1; rwa [arcCells_len] at this
    have hi : j / 4 < 64 := by omega
    have := (h.arc (j / 4) hi).cell (j % 4) (by omega)
    rw [show 2 + j / 4 * 4 + j % 4 = j + 2 by omega] at this
    rw [this, ← arcCells_get m hi (by omega), show j / 4 * 4 + j % 4 = j by omega, hv']
theorem RMem.cells (h : RMem w q n most m) : ∀ j v, (rCells n most m)[j]? = some v → w.cell? ((⟨q, 0, none⟩ : Addr).add j) = some v := by
  intro j v hv
  have ea : (⟨q, 0, none⟩ : Addr).add j = ⟨q, j, none⟩ := by rw [Addr.add_lit]; simp
  rw [ea]
  match j, hv with
  | 0, hv => simp [rCells] at hv; rw [← hv]; exact h.c0
  | 1, hv => simp [rCells] at hv; rw [← hv]; exact h.c1
  | j + 2, hv =>
    have hv' : ((List.range 64).map (fun i => Value.bool (GM.is m i)) ++ arcCells m)[j]? = some v := by simpa [rCells] using hv
    rw [List.getElem?_append] at hv'
    split at hv'
    · rename_i hj
      simp at hj
      rw [List.getElem?_map, List.getElem?_range hj, Option.map_some] at hv'
      rw [← hv', show j + 2 = 2 + j by omega]
      exact h.tk j hj
    · rename_i hj
      simp at hj
      simp only [List.length_map, List.length_range] at hv'
      have hj2 : j - 64 < 256 := by have := (List.getElem?_eq_some_iff.1 hv').1; rwa [arcCells_len] at this
      have hi : (j - 64) / 4 < 64 := by omega
      have := (h.arc ((j - 64) / 4) hi).cell ((j - 64) % 4) (by omega)
      rw [show 66 + (j - 64) / 4 * 4 + (j - 64) % 4 = j + 2 by omega] at this
      rw [this, ← arcCells_get m hi (by omega), show (j - 64) / 4 * 4 + (j - 64) % 4 = j - 64 by omega, hv']
end
/-- A block just laid. -/
theorem gmem_new (w : World) (n most : Nat) (m : GM.M) (t : TypeId) : GMem (w.alloc (.cells (gCells n most m).toArray t)) w.heap.size n most m where
  c0 := by simp [gCells]
  c1 := by simp [gCells]
  arc i hi := ArcIn.of (fun r hr => by
    rw [World.cell?_alloc_new, List.getElem?_toArray, show 2 + i * 4 + r = (i * 4 + r) + 2 by omega]
    exact arcCells_get m hi hr)
  fz j := by simp
theorem rmem_new (w : World) (n most : Nat) (m : GM.M) (t : TypeId) : RMem (w.alloc (.cells (rCells n most m).toArray t)) w.heap.size n most m where
  c0 := by simp [rCells]
  c1 := by simp [rCells]
  tk i hi := by
    rw [World.cell?_alloc_new, List.getElem?_toArray, show 2 + i = i + 2 by omega]
    show ((List.range 64).map (fun i => Value.bool (GM.is m i)) ++ arcCells m)[i]? = _
    rw [List.getElem?_append_left (by simpa using hi), List.getElem?_map, List.getElem?_range hi]
    rfl
  arc i hi := ArcIn.of (fun r hr => by
    rw [World.cell?_alloc_new, List.getElem?_toArray, show 66 + i * 4 + r = (i * 4 + r + 64) + 2 by omega]
    show ((List.range 64).map (fun i => Value.bool (GM.is m i)) ++ arcCells m)[i * 4 + r + 64]? = _
    rw [List.getElem?_append_right (by simp)]
    simp only [List.length_map, List.length_range, Nat.add_sub_cancel]
    exact arcCells_get m hi hr)
  fz j := by simp
theorem gCells_len (n most : Nat) (m : GM.M) : (gCells n most m).length = 258 := by simp [gCells, arcCells_len]
theorem rCells_len (n most : Nat) (m : GM.M) : (rCells n most m).length = 322 := by simp [rCells, arcCells_len]
theorem arcCells_one (m : GM.M) : ∀ v ∈ arcCells m, v.oneCell' = true := by
  intro v hv
  obtain ⟨j, _, rfl⟩ := List.mem_map.1 hv
  generalize j % 4 = r
  match r with
  | 0 => rfl
  | 1 => rfl
  | 2 => rfl
  | _ + 3 => rfl
theorem gCells_one (n most : Nat) (m : GM.M) : ∀ v ∈ gCells n most m, v.oneCell' = true := by
  intro v hv
  simp only [gCells, List.mem_cons] at hv
  rcases hv with rfl | rfl | hv
  · rfl
  · rfl
  · exact arcCells_one m v hv
theorem rCells_one (n most : Nat) (m : GM.M) : ∀ v ∈ rCells n most m, v.oneCell' = true := by
  intro v hv
  simp only [rCells, List.mem_cons, List.mem_append] at hv
  rcases hv with rfl | rfl | hv | hv
  · rfl
  · rfl
  · obtain ⟨j, _, rfl⟩ := List.mem_map.1 hv
    rfl
  · exact arcCells_one m v hv
def zG : Array Value := (gCells 0 0 GM.none0).toArray
def zR : Array Value := (rCells 0 0 GM.none0).toArray
theorem zG_size : zG.size = 258 := by simp [zG, gCells_len]
theorem zR_size : zR.size = 322 := by simp [zR, rCells_len]
theorem zG_ne : (zG = #[]) = False := eq_false (fun h => by have := congrArg Array.size h; rw [zG_size] at this; cases this)
theorem zR_ne : (zR = #[]) = False := eq_false (fun h => by have := congrArg Array.size h; rw [zR_size] at this; cases this)
theorem zG_set (n most : Nat) : (zG.setIfInBounds 0 (.int .i64 (n : Nat))).setIfInBounds 1 (.int .i64 (most : Nat)) = (gCells n most GM.none0).toArray := by simp [zG, gCells]
theorem zR_set (n most : Nat) : (zR.setIfInBounds 0 (.int .i64 (n : Nat))).setIfInBounds 1 (.int .i64 (most : Nat)) = (rCells n most GM.none0).toArray := by simp [zR, rCells]
end Go.Proofs.Ytkcfepppnclniaa
end

section
/-
  The walks of graph's and the reference's smaller functions: New, Arc, Vertices, Copy, and what they lean on.
-/
namespace Go.Proofs.Ytkcfepppnclniaa
open Go.RowKit

set_option maxHeartbeats 400000 in
theorem norm_any (a : Int) (w : World) :
    Calls Try.prog 47 #[.int .i64 a] w fun e w' => e = .returned (.int .i64 (GM.norm a)) ∧ w' = w := by
  go_enter Try.func47, Try.ntmps47
  go_wp2
  all_goals go_ret
  all_goals refine ⟨ret_int ?_, rfl⟩
  all_goals unfold GM.norm
  all_goals (repeat' split) <;> (try split at *) <;> omega
set_option maxHeartbeats 400000 in
theorem less_any (a b : Int) (w : World) :
    Calls Try.prog 54 #[.int .i64 a, .int .i64 b] w fun e w' => e = .returned (.bool (decide (GM.norm a < GM.norm b))) ∧ w' = w := by
  go_enter Try.func54, Try.ntmps54
  go_wp2_with (go_at_call 47; refine (norm_any _ _).mono ?_; rintro e w' ⟨rfl, rfl⟩)
  all_goals go_ret
  all_goals exact ⟨rfl, rfl⟩
/-- May there be such a graph? -/
def may (n most : Int) : Bool := decide (1 ≤ n ∧ n ≤ 24 ∧ 1 ≤ most ∧ most ≤ 64)
end Go.Proofs.Ytkcfepppnclniaa
end

section
/-
  The walk of graph's Copy: a whole graph out of its block, and into a new one.
-/
namespace Go.Proofs.Ytkcfepppnclniaa
open Go.RowKit

/-- A whole struct (or array) out of its cells, whatever lies around them. -/
theorem wpList_load_cells {P : Program} {ops : Array Oper} {rest : List Oper} {o : Oper} {a : Act} {w : World} {Q : Exit → Act → World → Prop} (hgd : o.guard = none) (ty : TypeId) (x : Operand) (ho : o.op = .load ty x)
    (g : Nat) (hx : a.eval x = .pointer (some ⟨g, 0, none⟩)) (cs : List Value) (d : TypeDesc) (hu : P.underlying ty = some d) (hd : (match d with | .struct _ | .array _ _ => true | _ => false) = true) (hi : (P.info? ty).map (·.size) = some cs.length)
    (hc : ∀ j v, cs[j]? = some v → w.cell? ((⟨g, 0, none⟩ : Addr).add j) = some v)
    (h : wpList P ops Q rest (a.put o.dst (.agg cs.toArray)) w) : wpList P ops Q (o :: rest) a w := by
  refine wpList_plain hgd fun _ hK => ?_
  have hl : (loadCells ⟨g, 0, none⟩ cs.length).run P w = .ok cs.toArray w := run_loadCells_list (P := P) w ⟨g, 0, none⟩ cs hc
  have hv : (loadVar ty ⟨g, 0, none⟩).run P w = .ok (.agg cs.toArray) w := by
    cases hq : P.info? ty with
    | none => simp [hq] at hi
    | some i =>
      have hs : i.size = cs.length := by simpa [hq] using hi
      have hagg : (isAgg ty).run P w = .ok true w := by
        unfold isAgg
        rw [Sem.run_bind, run_underlying hu w]
        cases d <;> simp_all
      simp [loadVar, Sem.run_bind, hagg, sizeOf, typeInfo, hq, hs, hl]
  unfold Oper.wp execOp
  simp only [ho, hx, Instr.loadAt, Instr.sureAddr, Sem.run_bind, Sem.run_pure, Result.andThen_ok, hv]
  exact hK _ _ h
theorem all_one {l : List Value} (h : ∀ v ∈ l, v.oneCell' = true) : l.toArray.all (·.oneCell') = true := by
  rw [Array.all_eq_true_iff_forall_mem]
  intro v hv
  exact h v (by simpa using hv)

end Go.Proofs.Ytkcfepppnclniaa
end

section
/-
  A table of 24 rows of 24 numbers in a block.
-/
namespace Go.Proofs.Ytkcfepppnclniaa
open Go.RowKit

/-- The table D lies in block b. -/
structure TMem (w : World) (b : Nat) (D : Nat → Nat → Int) : Prop where
  c : ∀ s t, s < 24 → t < 24 → w.cell? ⟨b, s * 24 + t, none⟩ = some (.int .i64 (D s t))
  fz : ∀ j, w.frozen? ⟨b, j, none⟩ = false
def tabCells (D : Nat → Nat → Int) : List Value := (List.range 576).map (fun j => Value.int .i64 (D (j / 24) (j % 24)))
theorem tabCells_len (D : Nat → Nat → Int) : (tabCells D).length = 576 := by simp [tabCells]
theorem tabCells_get (D : Nat → Nat → Int) {s t : Nat} (hs : s < 24) (ht : t < 24) : (tabCells D)[s * 24 + t]? = some (.int .i64 (D s t)) := by
  unfold tabCells
  rw [List.getElem?_map, List.getElem?_range (by omega)]
  simp only [Option.map_some]
  rw [show (s * 24 + t) / 24 = s by omega, show (s * 24 + t) % 24 = t by omega]
theorem tabCells_one (D : Nat → Nat → Int) : ∀ v ∈ tabCells D, v.oneCell' = true := by
  intro v hv
  obtain ⟨j, _, rfl⟩ := List.mem_map.1 hv
  rfl
section
variable {w w' : World} {b : Nat} {D D' : Nat → Nat → Int}
theorem TMem.lt (h : TMem w b D) : b < w.heap.size := cell_lt (h.c 0 0 (by omega) (by omega))
theorem TMem.of_block (h : TMem w b D) (hb : w'.heap[b]? = w.heap[b]?) : TMem w' b D :=
  ⟨fun s t hs ht => (World.cell?_of_block (a := ⟨b, s * 24 + t, none⟩) hb).trans (h.c s t hs ht), fun j => (World.frozen?_of_block (a := ⟨b, j, none⟩) hb).trans (h.fz j)⟩
theorem TMem.on (h : TMem w b D) (hb : Below w.heap.size w w') : TMem w' b D := h.of_block (hb.block b h.lt)
theorem TMem.congr (h : TMem w b D) (e : ∀ s t, s < 24 → t < 24 → D s t = D' s t) : TMem w b D' := ⟨fun s t hs ht => by rw [← e s t hs ht]; exact h.c s t hs ht, h.fz⟩
theorem TMem.set (h : TMem w b D) {s t : Nat} (hs : s < 24) (ht : t < 24) (x : Int) : TMem (w.setCell ⟨b, s * 24 + t, none⟩ (.int .i64 x)) b (NM.set2 D s t x) where
  c s' t' hs' ht' := by
    unfold NM.set2
    by_cases e : s' = s ∧ t' = t
    · obtain ⟨rfl, rfl⟩ := e
      rw [if_pos ⟨rfl, rfl⟩]
      exact World.cell?_setCell_same _ _ _ (h.c s' t' hs' ht')
    · rw [if_neg e, cell_other _ (by omega)]
      exact h.c s' t' hs' ht'
  fz j := by simpa using h.fz j
theorem TMem.cells (h : TMem w b D) : ∀ j v, (tabCells D)[j]? = some v → w.cell? ((⟨b, 0, none⟩ : Addr).add j) = some v := by
  intro j v hv
  have ea : (⟨b, 0, none⟩ : Addr).add j = ⟨b, j, none⟩ := by rw [Addr.add_lit]; simp
  have hj : j < 576 := by have := (List.getElem?_eq_some_iff.1 hv).1; rwa [tabCells_len] at this
  rw [ea, ← hv]
  have h1 := h.c (j / 24) (j % 24) (by omega) (by omega)
  have h2 := tabCells_get D (s := j / 24) (t := j % 24) (by omega) (by omega)
  rw [show j / 24 * 24 + j % 24 = j by omega] at h1 h2
  rw [h1, h2]
end
theorem tmem_new (w : World) (D : Nat → Nat → Int) (t : TypeId) : TMem (w.alloc (.cells (tabCells D).toArray t)) w.heap.size D where
  c s t hs ht := by
    rw [World.cell?_alloc_new, List.getElem?_toArray]
    exact tabCells_get D hs ht
  fz j := by simp
def zT : Array Value := (tabCells (fun _ _ => 0)).toArray
theorem zeroT (w : World) : (zeroValue 38).run Try.prog w = .ok (.agg zT) w := by kernel_rfl
theorem zT_size : zT.size = 576 := by simp [zT, tabCells_len]
theorem zT_ne : (zT = #[]) = False := eq_false (fun h => by have := congrArg Array.size h; rw [zT_size] at this; cases this)
theorem infoT : (Try.prog.info? 38).map (·.size) = some 576 := by kernel_rfl
/-- Two tables of noughts, just laid. -/
theorem two_tabs (w : World) : ∃ w2, w2 = (w.alloc (.cells zT 38)).alloc (.cells zT 38) ∧ TMem w2 w.heap.size (fun _ _ => 0) ∧ TMem w2 (w.heap.size + 1) (fun _ _ => 0) ∧ Below w.heap.size w w2 ∧ w2.heap.size = w.heap.size + 2 ∧ w2.heap[w.heap.size]? = some (.cells zT 38 (0, 0)) := by
  refine ⟨_, rfl, (tmem_new w (fun _ _ => 0) _).on ((Below.refl _ _).alloc (Nat.le_refl _) _), ?_, ((Below.refl _ _).alloc (Nat.le_refl _) _).alloc (by simp) _, by simp, (Below.heap_alloc _ _ _ (by simp)).trans (heap_alloc_new w _)⟩
  have := tmem_new (w.alloc (.cells zT 38)) (fun _ _ => 0) 38
  rwa [World.size_alloc] at this
theorem loadVar_cells {P : Program} {w : World} (ty : TypeId) (g : Nat) (cs : List Value) (d : TypeDesc) (hu : P.underlying ty = some d) (hd : (match d with | .struct _ | .array _ _ => true | _ => false) = true) (hi : (P.info? ty).map (·.size) = some cs.length)
    (hc : ∀ j v, cs[j]? = some v → w.cell? ((⟨g, 0, none⟩ : Addr).add j) = some v) : (loadVar ty ⟨g, 0, none⟩).run P w = .ok (.agg cs.toArray) w := by
  have hl : (loadCells ⟨g, 0, none⟩ cs.length).run P w = .ok cs.toArray w := run_loadCells_list (P := P) w ⟨g, 0, none⟩ cs hc
  cases hq : P.info? ty with
  | none => simp [hq] at hi
  | some i =>
    have hs : i.size = cs.length := by simpa [hq] using hi
    have hagg : (isAgg ty).run P w = .ok true w := by
      unfold isAgg
      rw [Sem.run_bind, run_underlying hu w]
      cases d <;> simp_all
    simp [loadVar, Sem.run_bind, hagg, sizeOf, typeInfo, hq, hs, hl]
/-- A block that is laid over whole. -/
theorem tmem_row {w : World} {g : Nat} {t : TypeId} {old : Array Value} (hg : w.heap[g]? = some (.cells old t (0, 0))) (D : Nat → Nat → Int) : TMem (w.setRow g (tabCells D).toArray) g D := by
  have hb : (w.setRow g (tabCells D).toArray).heap[g]? = some (.cells (tabCells D).toArray t (0, 0)) := setRow_heap w g old _ t (0, 0) hg
  refine ⟨fun s t' hs ht => ?_, fun j => ?_⟩
  · rw [cell_of_row _ g (s * 24 + t') _ t (0, 0) hb, List.getElem?_toArray]
    exact tabCells_get D hs ht
  · simp [World.frozen?, hb]
theorem keeps_row (w : World) (g : Nat) (cs : Array Value) : Keeps (fun b => b = g) w (w.setRow g cs) := by
  exact ⟨rfl, rfl, rfl, by simp, fun k _ hn => setRow_other w g k cs hn⟩
end Go.Proofs.Ytkcfepppnclniaa
end
