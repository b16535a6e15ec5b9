/-
  Rows of the program's, and of the reference's, in memory: which blocks hold one, what a store into one of them does, what stays.
-/
import Derived.Test.YtfkfbpkhdneeeaaStampMath
namespace Go.Proofs.Ytfkfbpkhdneeeaa
open Go.RowKit

/-- A stamp. -/
def st8 (k : Nat) : Value := .int .u8 (k : Int)

/-- A row of the program's: its struct in block p, its things in bt (sz cells each), its stamps in bs. -/
structure SMem (e : TypeId) (sz : Nat) (w : World) (B p bt bs n : Nat) (xs : List Value) (st : List Nat) (now : Nat) : Prop where
  c0 : w.cell? ⟨p, 0, none⟩ = some (.slice (some ⟨bt, 0, none⟩) n n)
  c1 : w.cell? ⟨p, 1, none⟩ = some (.slice (some ⟨bs, 0, none⟩) n n)
  c2 : w.cell? ⟨p, 2, none⟩ = some (.int .u8 (now : Nat))
  fz : w.frozen? ⟨p, 2, none⟩ = false
  th : w.ownsRow B e sz (.slice (some ⟨bt, 0, none⟩) n n) n xs
  sp : w.ownsRow B 5 1 (.slice (some ⟨bs, 0, none⟩) n n) n (st.map st8)
  lo : B ≤ p
  n1 : p ≠ bt
  n2 : p ≠ bs
  n3 : bt ≠ bs
def sfoot (p bt bs : Nat) (b : Nat) : Prop := b = p ∨ b = bt ∨ b = bs
section
variable {e : TypeId} {sz : Nat} {w w' : World} {B p bt bs n : Nat} {xs : List Value} {st : List Nat} {now : Nat}
theorem SMem.lt (h : SMem e sz w B p bt bs n xs st now) : ∀ b, sfoot p bt bs b → B ≤ b ∧ b < w.heap.size := by
  rintro b (rfl | rfl | rfl)
  · exact ⟨h.lo, cell_lt h.c0⟩
  · exact World.ownsRow.lt h.th b rfl
  · exact World.ownsRow.lt h.sp b rfl
theorem SMem.len (h : SMem e sz w B p bt bs n xs st now) : st.length = n := by simpa using h.sp.1
theorem SMem.kept {G : Nat → Prop} (h : SMem e sz w B p bt bs n xs st now) (hk : Keeps G w w') (hG : ∀ b, sfoot p bt bs b → ¬ G b) : SMem e sz w' B p bt bs n xs st now where
  c0 := hk.cell h.c0 (hG p (.inl rfl))
  c1 := hk.cell h.c1 (hG p (.inl rfl))
  c2 := hk.cell h.c2 (hG p (.inl rfl))
  fz := (hk.frozen (p := ⟨p, 2, none⟩) (cell_lt h.c2) (hG p (.inl rfl))).trans h.fz
  th := hk.row h.th (fun g hg => by cases hg; exact hG bt (.inr (.inl rfl)))
  sp := hk.row h.sp (fun g hg => by cases hg; exact hG bs (.inr (.inr rfl)))
  lo := h.lo
  n1 := h.n1
  n2 := h.n2
  n3 := h.n3
theorem SMem.below (h : SMem e sz w B p bt bs n xs st now) (hb : Below w.heap.size w w') : SMem e sz w' B p bt bs n xs st now := h.kept (Below.keeps hb (fun _ => False)) (fun _ _ h => h)
theorem SMem.drewN (h : SMem e sz w B p bt bs n xs st now) (q : Nat) : SMem e sz (w.drewN q) B p bt bs n xs st now := ⟨h.c0, h.c1, h.c2, h.fz, h.th, h.sp, h.lo, h.n1, h.n2, h.n3⟩
theorem SMem.drew (h : SMem e sz w B p bt bs n xs st now) : SMem e sz w.drew B p bt bs n xs st now := ⟨h.c0, h.c1, h.c2, h.fz, h.th, h.sp, h.lo, h.n1, h.n2, h.n3⟩
theorem SMem.stamp (h : SMem e sz w B p bt bs n xs st now) {i : Nat} (hi : i < n) : w.cell? ⟨bs, i, none⟩ = some (.int .u8 (SM.at0 st i : Nat)) ∧ w.frozen? ⟨bs, i, none⟩ = false := by
  refine ⟨?_, World.ownsRow.frozenAt h.sp i⟩
  have hl := h.len
  rw [World.ownsRow.cellAt h.sp i (by omega)]
  simp [SM.at0, show i < st.length by omega, st8]
theorem SMem.thing (h : SMem e sz w B p bt bs n xs st now) {j : Nat} (hj : j < n * sz) : w.cell? ⟨bt, j, none⟩ = xs[j]? ∧ w.frozen? ⟨bt, j, none⟩ = false := ⟨World.ownsRow.cellAt h.th j hj, World.ownsRow.frozenAt h.th j⟩
theorem SMem.setStamp (h : SMem e sz w B p bt bs n xs st now) (i u : Nat) : SMem e sz (w.setCell ⟨bs, i, none⟩ (.int .u8 (u : Nat))) B p bt bs n xs (st.set i u) now := by
  have hk : Keeps (fun b => b = bs) w (w.setCell ⟨bs, i, none⟩ (.int .u8 (u : Nat))) := keeps_set _ _ _ _
  refine ⟨hk.cell h.c0 h.n2, hk.cell h.c1 h.n2, hk.cell h.c2 h.n2, (hk.frozen (p := ⟨p, 2, none⟩) (cell_lt h.c2) h.n2).trans h.fz, hk.row h.th (fun g hg => by cases hg; exact h.n3), ?_, h.lo, h.n1, h.n2, h.n3⟩
  rw [List.map_set]
  exact (World.ownsRow.stored h.sp i _).1
theorem SMem.setThing (h : SMem e sz w B p bt bs n xs st now) (j : Nat) (u : Value) : SMem e sz (w.setCell ⟨bt, j, none⟩ u) B p bt bs n (xs.set j u) st now := by
  have hk : Keeps (fun b => b = bt) w (w.setCell ⟨bt, j, none⟩ u) := keeps_set _ _ _ _
  exact ⟨hk.cell h.c0 h.n1, hk.cell h.c1 h.n1, hk.cell h.c2 h.n1, (hk.frozen (p := ⟨p, 2, none⟩) (cell_lt h.c2) h.n1).trans h.fz, (World.ownsRow.stored h.th j u).1, hk.row h.sp (fun g hg e => by cases hg; exact h.n3 e.symm), h.lo, h.n1, h.n2, h.n3⟩
theorem SMem.setNow (h : SMem e sz w B p bt bs n xs st now) (u : Nat) : SMem e sz (w.setCell ⟨p, 2, none⟩ (.int .u8 (u : Nat))) B p bt bs n xs st u := by
  have hk : Keeps (fun b => b = p) w (w.setCell ⟨p, 2, none⟩ (.int .u8 (u : Nat))) := keeps_set _ _ _ _
  refine ⟨?_, ?_, World.cell?_setCell_same _ _ _ h.c2, ?_, hk.row h.th (fun g hg e => by cases hg; exact h.n1 e.symm), hk.row h.sp (fun g hg e => by cases hg; exact h.n2 e.symm), h.lo, h.n1, h.n2, h.n3⟩
  · rw [World.cell?_setCell_other _ _ _ _ (by simp)]; exact h.c0
  · rw [World.cell?_setCell_other _ _ _ _ (by simp)]; exact h.c1
  · simp [h.fz]
theorem SMem.clearStamps (h : SMem e sz w B p bt bs n xs st now) : SMem e sz (w.setCells bs 0 (List.replicate (n * 1) (.int .u8 0))) B p bt bs n xs (List.replicate n 0) now := by
  have hk : Keeps (fun b => b = bs) w (w.setCells bs 0 (List.replicate (n * 1) (.int .u8 0))) := keeps_setCells _ _ _ _
  refine ⟨hk.cell h.c0 h.n2, hk.cell h.c1 h.n2, hk.cell h.c2 h.n2, (hk.frozen (p := ⟨p, 2, none⟩) (cell_lt h.c2) h.n2).trans h.fz, hk.row h.th (fun g hg => by cases hg; exact h.n3), ?_, h.lo, h.n1, h.n2, h.n3⟩
  have := row_cleared h.sp (.int .u8 0)
  simpa [st8] using this
theorem SMem.clearThings (h : SMem e sz w B p bt bs n xs st now) (z : Value) : SMem e sz (w.setCells bt 0 (List.replicate (n * sz) z)) B p bt bs n (List.replicate (n * sz) z) st now := by
  have hk : Keeps (fun b => b = bt) w (w.setCells bt 0 (List.replicate (n * sz) z)) := keeps_setCells _ _ _ _
  exact ⟨hk.cell h.c0 h.n1, hk.cell h.c1 h.n1, hk.cell h.c2 h.n1, (hk.frozen (p := ⟨p, 2, none⟩) (cell_lt h.c2) h.n1).trans h.fz, row_cleared h.th z, hk.row h.sp (fun g hg e => by cases hg; exact h.n3 e.symm), h.lo, h.n1, h.n2, h.n3⟩
/-- A row just made. -/
theorem smem_new {g c : Nat} {sty : TypeId} (h1 : w.ownsRow B e sz (.slice (some ⟨g, 0, none⟩) n n) n xs) (h2 : w.ownsRow B 5 1 (.slice (some ⟨c, 0, none⟩) n n) n ((List.replicate n 0).map st8)) (hgc : g ≠ c) (hB : B ≤ w.heap.size) {p : Nat} (hp : p = w.heap.size) :
    SMem e sz (w.alloc (.cells #[.slice (some ⟨g, 0, none⟩) n n, .slice (some ⟨c, 0, none⟩) n n, .int .u8 1] sty)) B p g c n xs (List.replicate n 0) 1 := by
  subst hp
  have l1 := (World.ownsRow.lt h1 g rfl).2
  have l2 := (World.ownsRow.lt h2 c rfl).2
  exact ⟨by simp, by simp, by simp, by simp, h1.alloc _, h2.alloc _, hB, by omega, by omega, hgc⟩
end
theorem made_stamps (w : World) (B n : Nat) (hB : B ≤ w.heap.size) (hn : n ≤ 64) : (w.alloc (.cells (madeCells #[.int .u8 0] n) 5)).ownsRow B 5 1 (.slice (some ⟨w.heap.size, 0, none⟩) n n) n ((List.replicate n 0).map st8) := by
  have h := World.ownsRow_lit (base := B) (e := 5) (size := 1) w (madeCells #[.int .u8 0] n) n hB (by unfold maxLen; omega) (by rw [size_madeCells]; omega)
  rw [toList_madeCells_one] at h
  simpa [st8] using h
/-- What Get answers. -/
def getT {α : Type} (enc : α → Value) (d : α) : Option α → Value
  | some v => .tuple #[enc v, .bool true]
  | none => .tuple #[enc d, .bool false]

/-- A row of the reference's: its struct in block q, what is at its places in bv, whether anything is in bi. -/
structure RMem (w : World) (B q bv bi n : Nat) (vs : List Int) (is : List Bool) : Prop where
  c0 : w.cell? ⟨q, 0, none⟩ = some (.slice (some ⟨bv, 0, none⟩) n n)
  c1 : w.cell? ⟨q, 1, none⟩ = some (.slice (some ⟨bi, 0, none⟩) n n)
  fz : w.frozen? ⟨q, 1, none⟩ = false
  vr : w.ownsRow B 3 1 (.slice (some ⟨bv, 0, none⟩) n n) n (vs.map (Value.int .i64))
  ir : w.ownsRow B 4 1 (.slice (some ⟨bi, 0, none⟩) n n) n (is.map Value.bool)
  lo : B ≤ q
  n1 : q ≠ bv
  n2 : q ≠ bi
  n3 : bv ≠ bi
def rfoot (q bv bi : Nat) (b : Nat) : Prop := b = q ∨ b = bv ∨ b = bi
def bat (l : List Bool) (i : Nat) : Bool := l[i]?.getD false
def pat (l : List Int) (i : Nat) : Int := l[i]?.getD 0
section
variable {w w' : World} {B q bv bi n : Nat} {vs : List Int} {is : List Bool}
theorem RMem.lt (h : RMem w B q bv bi n vs is) : ∀ b, rfoot q bv bi b → B ≤ b ∧ b < w.heap.size := by
  rintro b (rfl | rfl | rfl)
  · exact ⟨h.lo, cell_lt h.c0⟩
  · exact World.ownsRow.lt h.vr b rfl
  · exact World.ownsRow.lt h.ir b rfl
theorem RMem.vlen (h : RMem w B q bv bi n vs is) : vs.length = n := by simpa using h.vr.1
theorem RMem.ilen (h : RMem w B q bv bi n vs is) : is.length = n := by simpa using h.ir.1
theorem RMem.kept {G : Nat → Prop} (h : RMem w B q bv bi n vs is) (hk : Keeps G w w') (hG : ∀ b, rfoot q bv bi b → ¬ G b) : RMem w' B q bv bi n vs is where
  c0 := hk.cell h.c0 (hG q (.inl rfl))
  c1 := hk.cell h.c1 (hG q (.inl rfl))
  fz := (hk.frozen (p := ⟨q, 1, none⟩) (cell_lt h.c1) (hG q (.inl rfl))).trans h.fz
  vr := hk.row h.vr (fun g hg => by cases hg; exact hG bv (.inr (.inl rfl)))
  ir := hk.row h.ir (fun g hg => by cases hg; exact hG bi (.inr (.inr rfl)))
  lo := h.lo
  n1 := h.n1
  n2 := h.n2
  n3 := h.n3
theorem RMem.vCell (h : RMem w B q bv bi n vs is) {i : Nat} (hi : i < n) : w.cell? ⟨bv, i, none⟩ = some (.int .i64 (pat vs i)) ∧ w.frozen? ⟨bv, i, none⟩ = false := by
  refine ⟨?_, World.ownsRow.frozenAt h.vr i⟩
  have hl := h.vlen
  rw [World.ownsRow.cellAt h.vr i (by omega)]
  simp [pat, show i < vs.length by omega]
theorem RMem.iCell (h : RMem w B q bv bi n vs is) {i : Nat} (hi : i < n) : w.cell? ⟨bi, i, none⟩ = some (.bool (bat is i)) ∧ w.frozen? ⟨bi, i, none⟩ = false := by
  refine ⟨?_, World.ownsRow.frozenAt h.ir i⟩
  have hl := h.ilen
  rw [World.ownsRow.cellAt h.ir i (by omega)]
  simp [bat, show i < is.length by omega]
theorem RMem.setV (h : RMem w B q bv bi n vs is) (i : Nat) (u : Int) : RMem (w.setCell ⟨bv, i, none⟩ (.int .i64 u)) B q bv bi n (vs.set i u) is := by
  have hk : Keeps (fun b => b = bv) w (w.setCell ⟨bv, i, none⟩ (.int .i64 u)) := keeps_set _ _ _ _
  refine ⟨hk.cell h.c0 h.n1, hk.cell h.c1 h.n1, (hk.frozen (p := ⟨q, 1, none⟩) (cell_lt h.c1) h.n1).trans h.fz, ?_, hk.row h.ir (fun g' hg e => by cases hg; exact h.n3 e.symm), h.lo, h.n1, h.n2, h.n3⟩
  rw [List.map_set]
  exact (World.ownsRow.stored h.vr i _).1
theorem RMem.setI (h : RMem w B q bv bi n vs is) (i : Nat) (u : Bool) : RMem (w.setCell ⟨bi, i, none⟩ (.bool u)) B q bv bi n vs (is.set i u) := by
  have hk : Keeps (fun b => b = bi) w (w.setCell ⟨bi, i, none⟩ (.bool u)) := keeps_set _ _ _ _
  refine ⟨hk.cell h.c0 h.n2, hk.cell h.c1 h.n2, (hk.frozen (p := ⟨q, 1, none⟩) (cell_lt h.c1) h.n2).trans h.fz, hk.row h.vr (fun g' hg => by cases hg; exact h.n3), ?_, h.lo, h.n1, h.n2, h.n3⟩
  rw [List.map_set]
  exact (World.ownsRow.stored h.ir i _).1
/-- Another row of what is anything. -/
theorem RMem.setRow (h : RMem w B q bv bi n vs is) {c : Nat} {is' : List Bool} (hr : w.ownsRow B 4 1 (.slice (some ⟨c, 0, none⟩) n n) n (is'.map Value.bool)) (h1 : q ≠ c) (h2 : bv ≠ c) :
    RMem (w.setCell ⟨q, 1, none⟩ (.slice (some ⟨c, 0, none⟩) n n)) B q bv c n vs is' := by
  have hk : Keeps (fun b => b = q) w (w.setCell ⟨q, 1, none⟩ (.slice (some ⟨c, 0, none⟩) n n)) := keeps_set _ _ _ _
  refine ⟨?_, World.cell?_setCell_same _ _ _ h.c1, ?_, hk.row h.vr (fun g hg e => by cases hg; exact h.n1 e.symm), hk.row hr (fun g hg e => by cases hg; exact h1 e.symm), h.lo, h.n1, h1, h2⟩
  · rw [World.cell?_setCell_other _ _ _ _ (by simp)]; exact h.c0
  · simp [h.fz]
end
theorem made_bools (w : World) (B n : Nat) (hB : B ≤ w.heap.size) (hn : n ≤ 64) : (w.alloc (.cells (madeCells #[.bool false] n) 4)).ownsRow B 4 1 (.slice (some ⟨w.heap.size, 0, none⟩) n n) n ((List.replicate n false).map Value.bool) := by
  have h := World.ownsRow_lit (base := B) (e := 4) (size := 1) w (madeCells #[.bool false] n) n hB (by unfold maxLen; omega) (by rw [size_madeCells]; omega)
  rw [toList_madeCells_one] at h
  simpa using h
theorem made_ints (w : World) (B n : Nat) (hB : B ≤ w.heap.size) (hn : n ≤ 64) : (w.alloc (.cells (madeCells #[.int .i64 0] n) 3)).ownsRow B 3 1 (.slice (some ⟨w.heap.size, 0, none⟩) n n) n ((List.replicate n (0 : Int)).map (Value.int .i64)) := by
  have h := World.ownsRow_lit (base := B) (e := 3) (size := 1) w (madeCells #[.int .i64 0] n) n hB (by unfold maxLen; omega) (by rw [size_madeCells]; omega)
  rw [toList_madeCells_one] at h
  simpa using h
theorem info8 : (Try.prog.info? 5).map (fun i => (i.zero, i.size, i.bytes)) = some (some (.int .u8 0), 1, 1) := by kernel_rfl
theorem infoI : (Try.prog.info? 3).map (fun i => (i.zero, i.size, i.bytes)) = some (some (.int .i64 0), 1, 8) := by kernel_rfl
theorem infoB : (Try.prog.info? 4).map (fun i => (i.zero, i.size, i.bytes)) = some (some (.bool false), 1, 1) := by kernel_rfl
theorem zero8 (w : World) : (zeroValue 5).run Try.prog w = .ok (.int .u8 0) w := by kernel_rfl
theorem zeroI (w : World) : (zeroValue 3).run Try.prog w = .ok (.int .i64 0) w := by kernel_rfl
end Go.Proofs.Ytfkfbpkhdneeeaa
