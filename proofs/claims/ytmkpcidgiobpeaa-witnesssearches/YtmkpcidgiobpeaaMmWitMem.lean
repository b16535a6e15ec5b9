/-
  The document's Found in memory while it is filled (layer 13): its answer's cells at B, its row of truth values at B + 1, itself at B + 2; two rows of the call's own.
-/
import Derived.Test.YtmkpcidgiobpeaaMmWitPick
namespace Go.Proofs.Ytmkpcidgiobpeaa
open Go.RowKit
theorem infoBW : (Try.prog.info? 4).map (fun i => (i.zero, i.size, i.bytes)) = some (some (.bool false), 1, 1) := by kernel_rfl
structure RF (w : World) (B N : Nat) (sv dv : Value) (zs ds : List Int) (bs : List Bool) (W : World) : Prop where
  r0 : W.heap[B]? = some (.cells #[.slice none 0 0, .slice none 0 0, .slice none 0 0] 41 (0, 0))
  c0 : W.cell? ⟨B + 2, 0, none⟩ = some sv
  c1 : W.cell? ⟨B + 2, 1, none⟩ = some dv
  c2 : W.cell? ⟨B + 2, 2, none⟩ = some (.slice (some ⟨B + 1, 0, none⟩) N N)
  fz : ∀ j, W.frozen? ⟨B + 2, j, none⟩ = false
  os : Own .i64 3 W (B + 3) sv zs
  od : Own .i64 3 W (B + 3) dv ds
  tb : W.ownsRow (B + 1) 4 1 (.slice (some ⟨B + 1, 0, none⟩) N N) N (bs.map Value.bool)
  ne : ∀ g, sv.ownBlock = some g → dv.ownBlock ≠ some g
  bel : Below B w W
  sz : B + 3 ≤ W.heap.size
section
variable {w W W' : World} {B N : Nat} {sv dv : Value} {zs ds : List Int} {bs : List Bool}
theorem heap_lt {o : Obj} {b : Nat} (h : W.heap[b]? = some o) : b < W.heap.size := (Array.getElem?_eq_some_iff.1 h).1
theorem RF.kept {F : Nat → Prop} (h : RF w B N sv dv zs ds bs W) (hk : Keeps F W W') (h0 : ¬ F B) (h1 : ¬ F (B + 1)) (h2 : ¬ F (B + 2)) (hs : ∀ g, sv.ownBlock = some g → ¬ F g) (hd : ∀ g, dv.ownBlock = some g → ¬ F g) (hF : ∀ b, F b → B ≤ b) (_hB : B ≤ w.heap.size) : RF w B N sv dv zs ds bs W' :=
  ⟨(hk.block _ (heap_lt h.r0) h0).trans h.r0, hk.cell h.c0 h2, hk.cell h.c1 h2, hk.cell h.c2 h2, fun j => (hk.frozen (p := ⟨B + 2, j, none⟩) (by have := h.sz; show B + 2 < _; omega) h2).trans (h.fz j), hk.row h.os hs, hk.row h.od hd, hk.row h.tb (fun g hg e => by
    have : B + 1 = g := by simpa [Value.ownBlock] using hg
    rw [← this] at e
    exact h1 e), h.ne, h.bel.trans (hk.below hF (by have := h.sz; omega)), Nat.le_trans h.sz hk.size⟩
theorem RF.on (h : RF w B N sv dv zs ds bs W) (hb : Below W.heap.size W W') (hB : B ≤ w.heap.size) : RF w B N sv dv zs ds bs W' :=
  h.kept (Below.keeps hb (fun _ => False)) id id id (fun _ _ => id) (fun _ _ => id) (fun _ h => absurd h id) hB
theorem RF.lit (h : RF w B N sv dv zs ds bs W) (_hB : B ≤ w.heap.size) {o : Obj} {W2 : World} {row : Option Nat} (hg : (W.alloc o).grownBy W2 row) (hr : ∀ g, row = some g → B + 3 ≤ g) : Keeps (fun b => row = some b) W W2 ∧ Below B w W2 ∧ B + 3 ≤ W2.heap.size ∧ ∀ b, b < B + 3 → ¬ row = some b := by
  have hk : Keeps (fun b => row = some b) W W2 := ((Keeps.refl _ _).alloc o).grown hg (fun k hk => .inl hk)
  refine ⟨hk, h.bel.trans (hk.below (fun b hb => by have := hr b hb; omega) (by have := h.sz; omega)), Nat.le_trans h.sz hk.size, fun b hb e => by have := hr b e; omega⟩
/-- A number more in the first list. -/
theorem RF.app1 (h : RF w B N sv dv zs ds bs W) (hB : B ≤ w.heap.size) {o : Obj} {W2 : World} (hg : (W.alloc o).grownBy W2 sv.ownBlock) {sv' : Value} {zs' : List Int} (ho : Own .i64 3 W2 (B + 3) sv' zs') (h3 : sv'.ownBlock = sv.ownBlock ∨ sv'.ownBlock = some (W.alloc o).heap.size) :
    W2.cell? ⟨B + 2, 0, none⟩ = some sv ∧ W2.frozen? ⟨B + 2, 0, none⟩ = false ∧ RF w B N sv' dv zs' ds bs (W2.setCell ⟨B + 2, 0, none⟩ sv') := by
  obtain ⟨hk, hb, hsz, no⟩ := h.lit hB hg (fun g e => h.os.block g e)
  have ks : Keeps (fun b => b = B + 2) W2 (W2.setCell ⟨B + 2, 0, none⟩ sv') := keeps_set _ _ _ _
  have k0 : W2.cell? ⟨B + 2, 0, none⟩ = some sv := hk.cell h.c0 (no _ (by show B + 2 < _; omega))
  have kf : ∀ j, W2.frozen? ⟨B + 2, j, none⟩ = false := fun j => (hk.frozen (p := ⟨B + 2, j, none⟩) (by have := h.sz; show B + 2 < _; omega) (no _ (by show B + 2 < _; omega))).trans (h.fz j)
  have hod : Own .i64 3 W2 (B + 3) dv ds := hk.row h.od (fun g hg e => h.ne g e hg)
  have htb : W2.ownsRow (B + 1) 4 1 (.slice (some ⟨B + 1, 0, none⟩) N N) N (bs.map Value.bool) := hk.row h.tb (fun g hg e => by
    have : B + 1 = g := by simpa [Value.ownBlock] using hg
    rw [← this] at e
    exact no _ (by omega) e)
  refine ⟨k0, kf 0, ⟨(ks.block _ (by omega) (by omega)).trans ((hk.block _ (heap_lt h.r0) (no _ (by omega))).trans h.r0), ?_, ?_, ?_, fun j => ?_, ks.row ho (fun g hg e => by have := ho.block g hg; omega), ks.row hod (fun g hg e => by have := hod.block g hg; omega), ks.row htb (fun g hg e => by
    have : B + 1 = g := by simpa [Value.ownBlock] using hg
    omega), fun g hg e => ?_, hb.setCell (p := ⟨B + 2, 0, none⟩) (by show B ≤ B + 2; omega) _, by rw [setCell_size]; exact hsz⟩⟩
  · exact World.cell?_setCell_same _ _ _ k0
  · rw [World.cell?_setCell_other _ _ _ _ (by simp)]; exact hk.cell h.c1 (no _ (by show B + 2 < _; omega))
  · rw [World.cell?_setCell_other _ _ _ _ (by simp)]; exact hk.cell h.c2 (no _ (by show B + 2 < _; omega))
  · rw [World.frozen?_setCell]; exact kf j
  · rcases h3 with e2 | e2
    · rw [e2] at hg
      exact h.ne g hg e
    · rw [e2] at hg
      have h4 := (World.ownsRow.lt h.od g e).2
      have : (W.alloc o).heap.size = g := Option.some.inj hg
      rw [World.size_alloc] at this
      omega
/-- A number more in the second list. -/
theorem RF.app2 (h : RF w B N sv dv zs ds bs W) (hB : B ≤ w.heap.size) {o : Obj} {W2 : World} (hg : (W.alloc o).grownBy W2 dv.ownBlock) {dv' : Value} {ds' : List Int} (ho : Own .i64 3 W2 (B + 3) dv' ds') (h3 : dv'.ownBlock = dv.ownBlock ∨ dv'.ownBlock = some (W.alloc o).heap.size) :
    W2.cell? ⟨B + 2, 1, none⟩ = some dv ∧ W2.frozen? ⟨B + 2, 1, none⟩ = false ∧ RF w B N sv dv' zs ds' bs (W2.setCell ⟨B + 2, 1, none⟩ dv') := by
  obtain ⟨hk, hb, hsz, no⟩ := h.lit hB hg (fun g e => h.od.block g e)
  have ks : Keeps (fun b => b = B + 2) W2 (W2.setCell ⟨B + 2, 1, none⟩ dv') := keeps_set _ _ _ _
  have k0 : W2.cell? ⟨B + 2, 1, none⟩ = some dv := hk.cell h.c1 (no _ (by show B + 2 < _; omega))
  have kf : ∀ j, W2.frozen? ⟨B + 2, j, none⟩ = false := fun j => (hk.frozen (p := ⟨B + 2, j, none⟩) (by have := h.sz; show B + 2 < _; omega) (no _ (by show B + 2 < _; omega))).trans (h.fz j)
  have hos : Own .i64 3 W2 (B + 3) sv zs := hk.row h.os (fun g hg e => h.ne g hg e)
  have htb : W2.ownsRow (B + 1) 4 1 (.slice (some ⟨B + 1, 0, none⟩) N N) N (bs.map Value.bool) := hk.row h.tb (fun g hg e => by
    have : B + 1 = g := by simpa [Value.ownBlock] using hg
    rw [← this] at e
    exact no _ (by omega) e)
  refine ⟨k0, kf 1, ⟨(ks.block _ (by omega) (by omega)).trans ((hk.block _ (heap_lt h.r0) (no _ (by omega))).trans h.r0), ?_, ?_, ?_, fun j => ?_, ks.row hos (fun g hg e => by have := hos.block g hg; omega), ks.row ho (fun g hg e => by have := ho.block g hg; omega), ks.row htb (fun g hg e => by
    have : B + 1 = g := by simpa [Value.ownBlock] using hg
    omega), fun g hg e => ?_, hb.setCell (p := ⟨B + 2, 1, none⟩) (by show B ≤ B + 2; omega) _, by rw [setCell_size]; exact hsz⟩⟩
  · rw [World.cell?_setCell_other _ _ _ _ (by simp)]; exact hk.cell h.c0 (no _ (by show B + 2 < _; omega))
  · exact World.cell?_setCell_same _ _ _ k0
  · rw [World.cell?_setCell_other _ _ _ _ (by simp)]; exact hk.cell h.c2 (no _ (by show B + 2 < _; omega))
  · rw [World.frozen?_setCell]; exact kf j
  · rcases h3 with e2 | e2
    · rw [e2] at e
      exact h.ne g hg e
    · rw [e2] at e
      have h4 := (World.ownsRow.lt h.os g hg).2
      have : (W.alloc o).heap.size = g := Option.some.inj e
      rw [World.size_alloc] at this
      omega
/-- A truth value is laid. -/
theorem RF.mark (h : RF w B N sv dv zs ds bs W) (_hB : B ≤ w.heap.size) (j : Nat) (b : Bool) : RF w B N sv dv zs ds (bs.set j b) (W.setCell ⟨B + 1, j, none⟩ (.bool b)) := by
  have ks : Keeps (fun x => x = B + 1) W (W.setCell ⟨B + 1, j, none⟩ (.bool b)) := keeps_set _ _ _ _
  have ht := (World.ownsRow.stored h.tb j (.bool b)).1
  refine ⟨(ks.block _ (heap_lt h.r0) (by omega)).trans h.r0, ks.cell h.c0 (by show ¬ B + 2 = _; omega), ks.cell h.c1 (by show ¬ B + 2 = _; omega), ks.cell h.c2 (by show ¬ B + 2 = _; omega), fun i => ?_, ks.row h.os (fun g hg e => by have := h.os.block g hg; omega), ks.row h.od (fun g hg e => by have := h.od.block g hg; omega), ?_, h.ne, h.bel.setCell (p := ⟨B + 1, j, none⟩) (by show B ≤ B + 1; omega) _, by rw [setCell_size]; exact h.sz⟩
  · rw [World.frozen?_setCell]; exact h.fz i
  · rw [List.map_set]
    exact ht
/-- How many are settled, as memory tells it. -/
def lenAt (w : World) (b : Nat) : Nat := match w.cell? ⟨b, 0, none⟩ with
  | some (.slice _ n _) => n
  | _ => 0
theorem RF.lenAt (h : RF w B N sv dv zs ds bs W) : lenAt W (B + 2) = zs.length := by
  obtain ⟨a, cap, rfl, -⟩ := h.os.row
  unfold Go.Proofs.Ytmkpcidgiobpeaa.lenAt
  rw [h.c0]
end
end Go.Proofs.Ytmkpcidgiobpeaa
