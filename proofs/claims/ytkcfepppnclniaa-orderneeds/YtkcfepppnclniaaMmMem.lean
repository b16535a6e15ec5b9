/-
  What stays in memory behind a call, block by block; rows that are cleared. Nothing of any law.
-/
import Derived.Test.YtkcfepppnclniaaMmBase
import Derived.Laws.IdiomCopy
import Derived.Lib.SliceRun
namespace Go.Proofs.Ytkcfepppnclniaa
open Go.RowKit

/-- All that lay in w but for the blocks of F lies in w' as it did. -/
structure Keeps (F : Nat → Prop) (w w' : World) : Prop where
  os : w'.os = w.os
  tape : w'.tape = w.tape
  output : w'.output = w.output
  size : w.heap.size ≤ w'.heap.size
  block : ∀ k, k < w.heap.size → ¬ F k → w'.heap[k]? = w.heap[k]?
theorem Keeps.refl (F : Nat → Prop) (w : World) : Keeps F w w := ⟨rfl, rfl, rfl, Nat.le_refl _, fun _ _ _ => rfl⟩
theorem Keeps.trans {F G : Nat → Prop} {a b c : World} (h : Keeps F a b) (k : Keeps G b c) (hG : ∀ x, G x → F x ∨ a.heap.size ≤ x) : Keeps F a c :=
  ⟨k.os.trans h.os, k.tape.trans h.tape, k.output.trans h.output, Nat.le_trans h.size k.size, fun i hi hn => by
    rw [k.block i (Nat.lt_of_lt_of_le hi h.size) (fun hg => by rcases hG i hg with h1 | h1; exact hn h1; omega)]
    exact h.block i hi hn⟩
theorem Keeps.below {F : Nat → Prop} {w w' : World} {B : Nat} (h : Keeps F w w') (hF : ∀ b, F b → B ≤ b) (hB : B ≤ w.heap.size) : Below B w w' :=
  ⟨h.os, h.tape, h.output, h.size, fun k hk => h.block k (by omega) (fun hf => by have := hF k hf; omega)⟩
theorem Keeps.drew {F : Nat → Prop} {a w : World} (h : Keeps F a w) : Keeps F a w.drew := ⟨h.os, h.tape, h.output, h.size, h.block⟩
theorem Keeps.drewN {F : Nat → Prop} {a w : World} {q : Nat} (h : Keeps F a w) : Keeps F a (w.drewN q) := ⟨h.os, h.tape, h.output, h.size, h.block⟩
theorem Keeps.alloc {F : Nat → Prop} {a w : World} (h : Keeps F a w) (o : Obj) : Keeps F a (w.alloc o) :=
  h.trans (G := fun _ => False) ⟨rfl, rfl, rfl, by simp, fun k hk _ => Below.heap_alloc _ _ _ hk⟩ (fun _ h => h.elim)
theorem Keeps.setCell {F : Nat → Prop} {a w : World} (h : Keeps F a w) {p : Addr} (hp : F p.block ∨ a.heap.size ≤ p.block) (u : Value) : Keeps F a (w.setCell p u) :=
  h.trans (G := fun b => b = p.block) ⟨rfl, rfl, rfl, by simp [World.setCell], fun k _ hn => Below.heap_setCell _ _ _ _ hn⟩ (fun x hx => by subst hx; exact hp)
theorem Keeps.grown {F : Nat → Prop} {a w w' : World} {row : Option Nat} (h : Keeps F a w) (hg : w.grownBy w' row) (hr : ∀ k, row = some k → F k ∨ a.heap.size ≤ k) : Keeps F a w' :=
  h.trans (G := fun b => row = some b) ⟨hg.os, hg.tape, hg.output, hg.size, fun k hk hn => hg.block k hk (fun e => hn e.symm)⟩ hr
theorem Keeps.mono {F G : Nat → Prop} {a w : World} (h : Keeps F a w) (hFG : ∀ x, F x → G x) : Keeps G a w := ⟨h.os, h.tape, h.output, h.size, fun k hk hn => h.block k hk (fun hf => hn (hFG k hf))⟩
/-- A cell that is not in F's blocks reads as it did. -/
theorem Keeps.cell {F : Nat → Prop} {w w' : World} (h : Keeps F w w') {p : Addr} {v : Value} (hc : w.cell? p = some v) (hp : ¬ F p.block) : w'.cell? p = some v :=
  (World.cell?_of_block (w := w) (h.block p.block (cell_lt hc) hp)).trans hc
theorem Keeps.frozen {F : Nat → Prop} {w w' : World} (h : Keeps F w w') {p : Addr} (hl : p.block < w.heap.size) (hp : ¬ F p.block) : w'.frozen? p = w.frozen? p := World.frozen?_of_block (w := w) (h.block p.block hl hp)
theorem Keeps.row {F : Nat → Prop} {w w' : World} (h : Keeps F w w') {base : Nat} {e : TypeId} {size : Nat} {v : Value} {n : Nat} {xs : List Value} (hr : w.ownsRow base e size v n xs) (hv : ∀ g, v.ownBlock = some g → ¬ F g) : w'.ownsRow base e size v n xs := by
  refine ⟨hr.1, ?_⟩
  rcases hr.2 with h' | ⟨g, cap, cur, rfl, hb, hg, r⟩
  · exact .inl h'
  · exact .inr ⟨g, cap, cur, rfl, hb, by rw [h.block g (Array.getElem?_eq_some_iff.1 hg).1 (hv g rfl)]; exact hg, r⟩
theorem below_drewN {B : Nat} {a w : World} (h : Below B a w) (q : Nat) : Below B a (w.drewN q) := ⟨h.os, h.tape, h.output, h.size, h.block⟩
theorem Below.keeps {w w' : World} (h : Below w.heap.size w w') (F : Nat → Prop) : Keeps F w w' := ⟨h.os, h.tape, h.output, h.size, fun k hk _ => h.block k hk⟩

theorem keeps_set (w : World) (g i : Nat) (v : Value) : Keeps (fun b => b = g) w (w.setCell ⟨g, i, none⟩ v) := ⟨rfl, rfl, rfl, by simp [World.setCell], fun _ _ hn => Below.heap_setCell _ _ _ _ hn⟩
/-- What all but X may have become. -/
def Rest (X : Nat → Prop) (w w' : World) : Prop := Keeps (fun b => ¬ X b) w w'
theorem Rest.trans {X : Nat → Prop} {a b c : World} (h : Rest X a b) (k : Rest X b c) : Rest X a c := Keeps.trans h k (fun _ hx => .inl hx)
theorem Rest.cell {X : Nat → Prop} {w w' : World} (h : Rest X w w') {p : Addr} {v : Value} (hc : w.cell? p = some v) (hp : X p.block) : w'.cell? p = some v := Keeps.cell h hc (fun hn => hn hp)
theorem Rest.frozen {X : Nat → Prop} {w w' : World} (h : Rest X w w') {p : Addr} (hl : p.block < w.heap.size) (hp : X p.block) : w'.frozen? p = w.frozen? p := Keeps.frozen h hl (fun hn => hn hp)
theorem Rest.below {X : Nat → Prop} {w w' : World} {B : Nat} (h : Rest X w w') (hX : ∀ b, b < B → X b) (hB : B ≤ w.heap.size) : Below B w w' :=
  Keeps.below h (fun b hb => by
    rcases Nat.lt_or_ge b B with h' | h'
    · exact absurd (hX b h') hb
    · exact h') hB
theorem Rest.of_below {X : Nat → Prop} {w w' : World} (h : Below w.heap.size w w') : Rest X w w' := Below.keeps h _

theorem row_base {w : World} {B B' : Nat} {e : TypeId} {sz : Nat} {v : Value} {n : Nat} {xs : List Value} (h : w.ownsRow B e sz v n xs) (hb : B' ≤ B) : w.ownsRow B' e sz v n xs := by
  refine ⟨h.1, ?_⟩
  rcases h.2 with h' | ⟨g, cap, cur, hv, hg, r⟩
  · exact .inl h'
  · exact .inr ⟨g, cap, cur, hv, Nat.le_trans hb hg, r⟩
theorem below_row {w w' : World} {B : Nat} {e : TypeId} {sz : Nat} {v : Value} {n : Nat} {xs : List Value} (h : w.ownsRow B e sz v n xs) (hb : Below w.heap.size w w') : w'.ownsRow B e sz v n xs := (Below.keeps hb (fun _ => False)).row h (fun _ _ h => h)

theorem keeps_setCells (g : Nat) : ∀ (vs : List Value) (o : Nat) (w : World), Keeps (fun b => b = g) w (w.setCells g o vs)
  | [], _, w => Keeps.refl _ w
  | v :: vs, o, w => (keeps_set w g o v).trans (keeps_setCells g vs (o + 1) _) (fun _ h => .inl h)
theorem row_setCells {B : Nat} {e : TypeId} {sz g n cap : Nat} : ∀ (vs : List Value) (o : Nat) (w : World) (xs : List Value), w.ownsRow B e sz (.slice (some ⟨g, 0, none⟩) n cap) n xs →
    ∃ xs', (w.setCells g o vs).ownsRow B e sz (.slice (some ⟨g, 0, none⟩) n cap) n xs' ∧ (∀ j, o ≤ j → j < o + vs.length → j < xs.length → xs'[j]? = vs[j - o]?) ∧ ∀ j, j < o → xs'[j]? = xs[j]?
  | [], _, _, xs, h => ⟨xs, h, fun j h1 h2 => by simp at h2; omega, fun _ _ => rfl⟩
  | v :: vs, o, w, xs, h => by
    obtain ⟨xs', h1, h2, h3⟩ := row_setCells vs (o + 1) (w.setCell ⟨g, o, none⟩ v) (xs.set o v) (World.ownsRow.stored h o v).1
    refine ⟨xs', h1, fun j j1 j2 j3 => ?_, fun j hj => ?_⟩
    · by_cases e : j = o
      · subst e
        rw [h3 j (by omega)]
        simp [j3]
      · rw [h2 j (by omega) (by simp at j2; omega) (by simpa using j3), show j - o = (j - (o + 1)) + 1 by omega, List.getElem?_cons_succ]
    · rw [h3 j (by omega), List.getElem?_set, if_neg (by omega)]
/-- A row that is cleared whole. -/
theorem row_cleared {B : Nat} {e : TypeId} {sz g n cap : Nat} {w : World} {xs : List Value} (h : w.ownsRow B e sz (.slice (some ⟨g, 0, none⟩) n cap) n xs) (z : Value) :
    (w.setCells g 0 (List.replicate (n * sz) z)).ownsRow B e sz (.slice (some ⟨g, 0, none⟩) n cap) n (List.replicate (n * sz) z) := by
  obtain ⟨xs', h1, h2, _⟩ := row_setCells (List.replicate (n * sz) z) 0 w xs h
  have hl : xs'.length = n * sz := h1.1
  have hl0 : xs.length = n * sz := h.1
  have e : xs' = List.replicate (n * sz) z := by
    apply List.ext_getElem?
    intro j
    by_cases hj : j < n * sz
    · rw [h2 j (Nat.zero_le _) (by simpa using hj) (by omega)]
      simp
    · rw [List.getElem?_eq_none (by omega), List.getElem?_eq_none (by simpa using hj)]
  rw [e] at h1
  exact h1
/-- 'clear' of a row of the call's own, whose zero value is of one cell, or of some like ones. -/
theorem run_clear_own {P : Program} {B : Nat} {e : TypeId} {sz g n cap : Nat} {w : World} {xs : List Value} (h : w.ownsRow B e sz (.slice (some ⟨g, 0, none⟩) n cap) n xs) (t ty : TypeId) (zv z : Value) (ht : P.underlying t = some (.slice e))
    (hv : ∀ w, (zeroValue e).run P w = .ok zv w) (hz : (Builtin.zeroCells zv.cells n).toList = List.replicate (n * sz) z) (h1 : z.oneCell' = true) :
    (Builtin.clear_ #[t] ty #[.slice (some ⟨g, 0, none⟩) n cap]).run P w = .ok (.tuple #[]) (w.setCells g 0 (List.replicate (n * sz) z)) := by
  have hl0 : xs.length = n * sz := h.1
  cases n with
  | zero => simp [Builtin.clear_, run_underlying ht, World.setCells]
  | succ m =>
    have hst := run_storeCells_cells (P := P) g 0 (List.replicate ((m + 1) * sz) z) 0 w
      (fun j hj => by
        have hj' : j < (m + 1) * sz := by simpa using hj
        rw [show 0 + 0 + j = j by omega, World.ownsRow.cellAt h j hj', List.getElem?_eq_getElem (by omega)]
        rfl)
      (fun j _ => by rw [show 0 + 0 + j = j by omega]; exact World.ownsRow.frozenAt h j)
      (by intro v hv'; rw [List.eq_of_mem_replicate hv']; exact h1)
    simp only [Nat.add_zero] at hst
    simp [Builtin.clear_, run_underlying ht, hv, hz, hst]
theorem zeroCells_one (z : Value) (n : Nat) : (Builtin.zeroCells #[z] n).toList = List.replicate (n * 1) z := by
  simp [Builtin.zeroCells]
  apply List.ext_getElem
  · simp
  · intro i h1 h2
    simp [Nat.mod_one]
theorem zeroCells_two (z : Value) (n : Nat) : (Builtin.zeroCells #[z, z] n).toList = List.replicate (n * 2) z := by
  simp [Builtin.zeroCells]
  apply List.ext_getElem
  · simp
  · intro i h1 h2
    have hm : i % 2 = 0 ∨ i % 2 = 1 := by omega
    rcases hm with e | e <;> simp [e]
theorem made_two (z : Value) (n : Nat) : (madeCells #[z, z] n).toList = List.replicate n z := by
  apply List.ext_getElem?
  intro j
  by_cases hj : j < n
  · have hm : j % 2 = 0 ∨ j % 2 = 1 := by omega
    rcases hm with e | e <;> simp [madeCells, hj, e]
  · simp [madeCells, hj]
theorem setCells_drew (b : Nat) : ∀ (vs : List Value) (o : Nat) (w : World), (w.setCells b o vs).drew = w.drew.setCells b o vs
  | [], _, _ => rfl
  | _ :: vs, o, _ => setCells_drew b vs (o + 1) _
theorem size_setCells (b : Nat) : ∀ (vs : List Value) (o : Nat) (w : World), (w.setCells b o vs).heap.size = w.heap.size
  | [], _, _ => rfl
  | v :: vs, o, w => by
    show ((w.setCell ⟨b, o, none⟩ v).setCells b (o + 1) vs).heap.size = _
    rw [size_setCells b vs]
    exact setCell_size _ _ _
end Go.Proofs.Ytkcfepppnclniaa
