/-
  What the law's goes keeps in memory while it goes through a vertex's steps.
-/
import Derived.Test.YtleckkpfnjpbiaaMeshRef
import Derived.Test.YtleckkpfnjpbiaaMeshSeq
namespace Go.Proofs.Ytleckkpfnjpbiaa
open Go.RowKit Go.Shelf

/-- goes' own five boxes. -/
structure GB (w : World) (q : Nat) (v mo : Int) (back : Bool) (W : World) : Prop where
  br : Boxed W w.heap.size 28 (.pointer (some ⟨q, 0, none⟩))
  bv : Boxed W (w.heap.size + 1) 3 (.int .i64 v)
  bb : Boxed W (w.heap.size + 1 + 1) 4 (.bool back)
  bm : Boxed W (w.heap.size + 1 + 1 + 1) 3 (.int .i64 mo)
  rs : Boxed W (w.heap.size + 1 + 1 + 1 + 1) 4 (.bool false)
  bel : Below w.heap.size w W
/-- And the list's, the counter's, the list, the iterator's, the document's mesh. -/
structure GF (w : World) (q : Nat) (v mo : Int) (back : Bool) (F p N : Nat) (D : Nat → Nat → Int) (B c : Nat) (lv : Value) (zs : List Int) (k : Int) (W : World) : Prop where
  b : GB w q v mo back W
  bl : Boxed W c 47 lv
  bk : Boxed W (c + 1) 3 (.int .i64 k)
  row : Own .i64 3 W (w.heap.size + 5) lv zs
  lo : ∀ g, lv.ownBlock = some g → g < c
  rd : Reads F p N D v B W
  xq : XMem W q N D
section
variable {w W W' : World} {q : Nat} {v mo : Int} {back : Bool} {F p N : Nat} {D : Nat → Nat → Int} {B c : Nat} {lv : Value} {zs : List Int} {k : Int}
theorem GB.kept {K : Nat → Prop} (h : GB w q v mo back W) (hk : Keeps K W W') (hK : ∀ b, K b → w.heap.size + 5 ≤ b) : GB w q v mo back W' :=
  ⟨(hk.block _ h.br.lt (fun e => by have := hK _ e; omega)).trans h.br, (hk.block _ h.bv.lt (fun e => by have := hK _ e; omega)).trans h.bv, (hk.block _ h.bb.lt (fun e => by have := hK _ e; omega)).trans h.bb, (hk.block _ h.bm.lt (fun e => by have := hK _ e; omega)).trans h.bm, (hk.block _ h.rs.lt (fun e => by have := hK _ e; omega)).trans h.rs, h.bel.trans (hk.below (fun b hb => by have := hK _ hb; omega) h.bel.size)⟩
theorem GB.on (h : GB w q v mo back W) (hb : Below W.heap.size W W') : GB w q v mo back W' :=
  ⟨(hb.block _ h.br.lt).trans h.br, (hb.block _ h.bv.lt).trans h.bv, (hb.block _ h.bb.lt).trans h.bb, (hb.block _ h.bm.lt).trans h.bm, (hb.block _ h.rs.lt).trans h.rs, h.bel.trans (hb.mono h.bel.size)⟩
theorem GF.kept {K : Nat → Prop} (h : GF w q v mo back F p N D B c lv zs k W) (hc : w.heap.size + 5 ≤ c) (hq : q < w.heap.size) (hp : p < w.heap.size) (hB : c + 2 ≤ B) (hk : Keeps K W W') (hK : ∀ b, K b → B + 4 ≤ b) : GF w q v mo back F p N D B c lv zs k W' :=
  ⟨h.b.kept hk (fun b hb => by have := hK _ hb; omega), (hk.block _ h.bl.lt (fun e => by have := hK _ e; omega)).trans h.bl, (hk.block _ h.bk.lt (fun e => by have := hK _ e; omega)).trans h.bk, hk.row h.row (fun g hg e => by have := hK _ e; have := h.lo g hg; omega), h.lo,
    h.rd.kept hk (fun e => by have := hK _ e; omega) (fun b _ h2 e => by have := hK _ e; omega), h.xq.kept hk (fun e => by have := hK _ e; omega)⟩
/-- The counter is set. -/
theorem GF.count (h : GF w q v mo back F p N D B c lv zs k W) (hc : w.heap.size + 5 ≤ c) (hq : q < w.heap.size) (hp : p < w.heap.size) (hB : c + 2 ≤ B) (u : Int) : GF w q v mo back F p N D B c lv zs u (W.setCell ⟨c + 1, 0, none⟩ (.int .i64 u)) := by
  have hk := keeps_set W (c + 1) 0 (.int .i64 u)
  refine ⟨h.b.kept hk (fun b hb => by omega), h.bl.other (by omega) _, h.bk.set _, hk.row h.row (fun g hg e => by have := h.lo g hg; omega), h.lo, h.rd.kept hk (by omega) (fun b h1 _ => by omega), h.xq.kept hk (by omega)⟩
end
/-- The five boxes, just laid. -/
theorem five_new (w : World) (q : Nat) (v mo : Int) (back : Bool) : ∃ W, W = ((((w.alloc (.cells #[.pointer (some ⟨q, 0, none⟩)] 28)).alloc (.cells #[.int .i64 v] 3)).alloc (.cells #[.bool back] 4)).alloc (.cells #[.int .i64 mo] 3)).alloc (.cells #[.bool false] 4) ∧ GB w q v mo back W ∧ W.heap.size = w.heap.size + 5 := by
  refine ⟨_, rfl, ?_, by simp⟩
  have s1 : (w.alloc (.cells #[.pointer (some ⟨q, 0, none⟩)] 28)).heap.size = w.heap.size + 1 := by simp
  have b1 := Boxed.new w 28 (.pointer (some ⟨q, 0, none⟩))
  have l1 : Below w.heap.size w (w.alloc (.cells #[.pointer (some ⟨q, 0, none⟩)] 28)) := (Below.refl _ _).alloc (Nat.le_refl _) _
  generalize w.alloc (.cells #[.pointer (some ⟨q, 0, none⟩)] 28) = w1 at *
  have s2 : (w1.alloc (.cells #[.int .i64 v] 3)).heap.size = w.heap.size + 1 + 1 := by simp [s1]
  have b2 := Boxed.new w1 3 (.int .i64 v)
  rw [s1] at b2
  have b1 := b1.alloc (.cells #[.int .i64 v] 3)
  have l2 : Below w.heap.size w (w1.alloc (.cells #[.int .i64 v] 3)) := l1.alloc (by omega) _
  generalize w1.alloc (.cells #[.int .i64 v] 3) = w2 at *
  have s3 : (w2.alloc (.cells #[.bool back] 4)).heap.size = w.heap.size + 1 + 1 + 1 := by simp [s2]
  have b3 := Boxed.new w2 4 (.bool back)
  rw [s2] at b3
  have b1 := b1.alloc (.cells #[.bool back] 4)
  have b2 := b2.alloc (.cells #[.bool back] 4)
  have l3 : Below w.heap.size w (w2.alloc (.cells #[.bool back] 4)) := l2.alloc (by omega) _
  generalize w2.alloc (.cells #[.bool back] 4) = w3 at *
  have s4 : (w3.alloc (.cells #[.int .i64 mo] 3)).heap.size = w.heap.size + 1 + 1 + 1 + 1 := by simp [s3]
  have b4 := Boxed.new w3 3 (.int .i64 mo)
  rw [s3] at b4
  have b1 := b1.alloc (.cells #[.int .i64 mo] 3)
  have b2 := b2.alloc (.cells #[.int .i64 mo] 3)
  have b3 := b3.alloc (.cells #[.int .i64 mo] 3)
  have l4 : Below w.heap.size w (w3.alloc (.cells #[.int .i64 mo] 3)) := l3.alloc (by omega) _
  generalize w3.alloc (.cells #[.int .i64 mo] 3) = w4 at *
  have b5 := Boxed.new w4 4 (.bool false)
  rw [s4] at b5
  exact ⟨b1.alloc _, b2.alloc _, b3.alloc _, b4.alloc _, b5, l4.alloc (by omega) _⟩
/-- The list's box and the counter's, just laid. -/
theorem two_new {w W : World} {q : Nat} {v mo : Int} {back : Bool} (h : GB w q v mo back W) (lv : Value) : ∃ W', W' = (W.alloc (.cells #[lv] 47)).alloc (.cells #[.int .i64 0] 3) ∧ GB w q v mo back W' ∧ Boxed W' W.heap.size 47 lv ∧ Boxed W' (W.heap.size + 1) 3 (.int .i64 0) ∧ Below W.heap.size W W' ∧ W'.heap.size = W.heap.size + 2 := by
  have hb : Below W.heap.size W ((W.alloc (.cells #[lv] 47)).alloc (.cells #[.int .i64 0] 3)) := ((Below.refl _ _).alloc (Nat.le_refl _) _).alloc (by simp) _
  refine ⟨_, rfl, h.on hb, (Boxed.new W _ _).alloc _, ?_, hb, by simp⟩
  have := Boxed.new (W.alloc (.cells #[lv] 47)) 3 (.int .i64 0)
  rwa [World.size_alloc] at this
set_option maxRecDepth 100000 in
/-- The way out: the answer lies in its cell; nothing is deferred. -/
theorem goesX_out {n : Nat} {w W : World} {t : Array Value} {D : Nat} {b : Bool} (hb : b = true) (ht : t[10]?.getD undef = .pointer (some ⟨w.heap.size + 1 + 1 + 1 + 1, 0, none⟩)) (hcr : W.cell? ⟨w.heap.size + 1 + 1 + 1 + 1, 0, none⟩ = some (.bool false))
    (hK : W.heap[D]? = some (.deferred (some []))) (hB : Below w.heap.size w W) (hD : w.heap.size ≤ D) :
    bodyPostM Fence.wide n Try.prog Try.f13 (fun e w' => e = .returned (.bool true) ∧ Below w.heap.size w w') Exit.ret { tmps := t, defers := [{ target := .collected D, args := #[] }] } (W.setCell ⟨w.heap.size + 1 + 1 + 1 + 1, 0, none⟩ (.bool b)) := by
  subst hb
  have hK' := (KeepsOthers.setCell W ⟨w.heap.size + 1 + 1 + 1 + 1, 0, none⟩ (.bool true)).same D _ hK rfl
  refine ⟨by simp, .inl ⟨_, _, rfl, run_takeDeferred hK', ?_⟩⟩
  have hc5 := cell_kept (World.cell?_setCell_same' W ⟨w.heap.size + 1 + 1 + 1 + 1, 0, none⟩ (.bool true) (by rw [hcr]; rfl)) (grownBy_putObj' _ D (.deferred none)) (fun r e => by cases e; exact ⟨_, hK', rfl⟩)
  refine ⟨.bool true, ?_, rfl, (hB.setCell (p := ⟨w.heap.size + 1 + 1 + 1 + 1, 0, none⟩) (by show w.heap.size ≤ w.heap.size + 1 + 1 + 1 + 1; omega) _).trans (belowK_b (w := w) (Nat.le_refl _) _ D _ _ hD hK' rfl rfl)⟩
  simp [results, Try.f13, go_sem, hc5, ht]
theorem preX_snoc {α : Type} {Ls pre : List α} {x : α} (hp : pre ++ [x] <+: Ls) : ∃ h : pre.length < Ls.length, Ls[pre.length] = x := by
  obtain ⟨t, rfl⟩ := hp
  refine ⟨by simp, ?_⟩
  simp
end Go.Proofs.Ytleckkpfnjpbiaa
