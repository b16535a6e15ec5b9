/-
  NHeapMem, NHeapAI, NHeapBI.
-/
import Derived.Test.YtkcfepppnclniaaGreatDoorMmHeapMath
import Derived.Test.YtkcfepppnclniaaGreatDoorMmBase
import Derived.BigRegion
import Derived.BigQuiet
import Derived.Deep.DeepCutAuto
import Derived.Deep.QuietTactic
import Derived.Laws.Cover1
section
/-
  A heap in memory: its struct, its places, its priorities, its line.
-/
namespace Go.Proofs.YtkcfepppnclniaaGreatDoor
open Go.RowKit

/-- A thing as a number. -/
def natV (k : Nat) : Value := .int .i64 (k : Int)

/-- At place off of block p lies a slice of n values, all of block g. -/
def Side (w : World) (B : Nat) (e : TypeId) (p off g n : Nat) (vs : List Value) : Prop :=
  ∃ c, w.cell? ⟨p, off, none⟩ = some (.slice (some ⟨g, 0, none⟩) n c) ∧ w.ownsRow B e 1 (.slice (some ⟨g, 0, none⟩) n c) n vs
section
variable {w w' : World} {B : Nat} {e : TypeId} {p off g n : Nat} {vs : List Value}
theorem Side.lt (h : Side w B e p off g n vs) : B ≤ g ∧ g < w.heap.size := by
  obtain ⟨c, _, h⟩ := h
  exact World.ownsRow.lt h g rfl
theorem Side.kept {G : Nat → Prop} (h : Side w B e p off g n vs) (hk : Keeps G w w') (hp : ¬ G p) (hg : ¬ G g) : Side w' B e p off g n vs := by
  obtain ⟨c, h1, h2⟩ := h
  exact ⟨c, hk.cell h1 hp, hk.row h2 (fun g' hg' => by cases hg'; exact hg)⟩
theorem Side.cells (h : Side w B e p off g n vs) {i : Nat} (hi : i < n) : w.cell? ⟨g, i, none⟩ = vs[i]? ∧ w.frozen? ⟨g, i, none⟩ = false := by
  obtain ⟨c, _, h⟩ := h
  exact ⟨World.ownsRow.cellAt h i (by omega), World.ownsRow.frozenAt h i⟩
theorem Side.stored (h : Side w B e p off g n vs) (hpg : p ≠ g) (i : Nat) (u : Value) : Side (w.setCell ⟨g, i, none⟩ u) B e p off g n (vs.set i u) := by
  obtain ⟨c, h1, h2⟩ := h
  exact ⟨c, (keeps_set w g i u).cell h1 hpg, (World.ownsRow.stored h2 i u).1⟩
theorem Side.head (h : Side w B e p off g n vs) (hpg : p ≠ g) (h0 : off ≠ 0) (v : Value) : Side (w.setCell ⟨p, 0, none⟩ v) B e p off g n vs := by
  obtain ⟨c, h1, h2⟩ := h
  refine ⟨c, ?_, (keeps_set w p 0 v).row h2 (fun g' hg' e => by cases hg'; exact hpg e.symm)⟩
  rw [World.cell?_setCell_other _ _ _ _ (by intro e; injection e with _ e; exact h0 e.symm)]
  exact h1
end

/-- A heap of the program's: its struct in block p, its places in bp, its priorities in bc, its line under lv. -/
structure HMem {α : Type} (enc : α → Value) (ct : TypeId) (w : World) (B p bp bc : Nat) (lv : Value) (line : List Nat) (place : List Int) (come : List α) : Prop where
  c0 : w.cell? ⟨p, 0, none⟩ = some lv
  c1 : Side w B 3 p 1 bp place.length (place.map (Value.int .i64))
  c2 : Side w B ct p 2 bc come.length (come.map enc)
  fz : w.frozen? ⟨p, 0, none⟩ = false
  ln : w.ownsRow B 3 1 lv line.length (line.map natV)
  lo : B ≤ p
  n1 : p ≠ bp
  n2 : p ≠ bc
  n3 : bp ≠ bc
  n4 : ∀ g, lv.ownBlock = some g → g ≠ p ∧ g ≠ bp ∧ g ≠ bc
/-- Its blocks. -/
def foot (p bp bc : Nat) (lv : Value) (b : Nat) : Prop := b = p ∨ b = bp ∨ b = bc ∨ lv.ownBlock = some b

section
variable {α : Type} {enc : α → Value} {ct : TypeId} {w w' : World} {B p bp bc : Nat} {lv : Value} {line : List Nat} {place : List Int} {come : List α}
theorem HMem.lt (h : HMem enc ct w B p bp bc lv line place come) : ∀ b, foot p bp bc lv b → B ≤ b ∧ b < w.heap.size := by
  rintro b (rfl | rfl | rfl | hb)
  · exact ⟨h.lo, cell_lt h.c0⟩
  · exact h.c1.lt
  · exact h.c2.lt
  · exact World.ownsRow.lt h.ln b hb
theorem HMem.kept {G : Nat → Prop} (h : HMem enc ct w B p bp bc lv line place come) (hk : Keeps G w w') (hG : ∀ b, foot p bp bc lv b → ¬ G b) : HMem enc ct w' B p bp bc lv line place come where
  c0 := hk.cell h.c0 (hG p (.inl rfl))
  c1 := h.c1.kept hk (hG p (.inl rfl)) (hG bp (.inr (.inl rfl)))
  c2 := h.c2.kept hk (hG p (.inl rfl)) (hG bc (.inr (.inr (.inl rfl))))
  fz := (hk.frozen (p := ⟨p, 0, none⟩) (cell_lt h.c0) (hG p (.inl rfl))).trans h.fz
  ln := hk.row h.ln (fun g hg => hG g (.inr (.inr (.inr hg))))
  lo := h.lo
  n1 := h.n1
  n2 := h.n2
  n3 := h.n3
  n4 := h.n4
theorem HMem.below (h : HMem enc ct w B p bp bc lv line place come) (hb : Below w.heap.size w w') : HMem enc ct w' B p bp bc lv line place come :=
  h.kept (Below.keeps hb (fun _ => False)) (fun _ _ h => h)
theorem HMem.drewN (h : HMem enc ct w B p bp bc lv line place come) (q : Nat) : HMem enc ct (w.drewN q) B p bp bc lv line place come := ⟨h.c0, h.c1, h.c2, h.fz, h.ln, h.lo, h.n1, h.n2, h.n3, h.n4⟩
theorem HMem.drew (h : HMem enc ct w B p bp bc lv line place come) : HMem enc ct w.drew B p bp bc lv line place come := ⟨h.c0, h.c1, h.c2, h.fz, h.ln, h.lo, h.n1, h.n2, h.n3, h.n4⟩
theorem HMem.lineCell {g cap : Nat} (h : HMem enc ct w B p bp bc (.slice (some ⟨g, 0, none⟩) line.length cap) line place come) {i : Nat} (hi : i < line.length) :
    w.cell? ⟨g, i, none⟩ = some (.int .i64 (HM.at0 line i : Nat)) ∧ w.frozen? ⟨g, i, none⟩ = false := by
  refine ⟨?_, World.ownsRow.frozenAt h.ln i⟩
  rw [World.ownsRow.cellAt h.ln i (by omega)]
  simp [HM.at0, hi, natV]
theorem HMem.placeCell (h : HMem enc ct w B p bp bc lv line place come) {i : Nat} (hi : i < place.length) :
    w.cell? ⟨bp, i, none⟩ = some (.int .i64 (HM.pat place i)) ∧ w.frozen? ⟨bp, i, none⟩ = false := by
  refine ⟨?_, (h.c1.cells hi).2⟩
  rw [(h.c1.cells hi).1]
  simp [HM.pat, hi]
theorem HMem.comeCell (h : HMem enc ct w B p bp bc lv line place come) (d : α) {i : Nat} (hi : i < come.length) :
    w.cell? ⟨bc, i, none⟩ = some (enc (HM.cat d come i)) ∧ w.frozen? ⟨bc, i, none⟩ = false := by
  refine ⟨?_, (h.c2.cells hi).2⟩
  rw [(h.c2.cells hi).1]
  simp [HM.cat, hi]
/-- Its line: nil, or of a block. -/
theorem HMem.lineAt (h : HMem enc ct w B p bp bc lv line place come) : (lv = .slice none 0 0 ∧ line = []) ∨ ∃ g cap, lv = .slice (some ⟨g, 0, none⟩) line.length cap ∧ line.length ≤ cap ∧ cap ≤ maxLen := by
  rcases h.ln.2 with ⟨h1, h2⟩ | ⟨g, cap, cur, h1, _, _, h2, h3, _⟩
  · exact .inl ⟨h1, List.eq_nil_of_length_eq_zero h2⟩
  · exact .inr ⟨g, cap, h1, h2, h3⟩
theorem HMem.setLine {g cap : Nat} (h : HMem enc ct w B p bp bc (.slice (some ⟨g, 0, none⟩) line.length cap) line place come) (i u : Nat) :
    HMem enc ct (w.setCell ⟨g, i, none⟩ (.int .i64 u)) B p bp bc (.slice (some ⟨g, 0, none⟩) (line.set i u).length cap) (line.set i u) place come := by
  obtain ⟨n1, n2, n3⟩ := h.n4 g rfl
  have hk : Keeps (fun b => b = g) w (w.setCell ⟨g, i, none⟩ (.int .i64 u)) := keeps_set _ _ _ _
  have hs := World.ownsRow.stored h.ln i (.int .i64 u)
  refine ⟨?_, h.c1.kept hk (fun e => n1 e.symm) (fun e => n2 e.symm), h.c2.kept hk (fun e => n1 e.symm) (fun e => n3 e.symm), (hk.frozen (p := ⟨p, 0, none⟩) (cell_lt h.c0) (fun e => n1 e.symm)).trans h.fz, ?_, h.lo, h.n1, h.n2, h.n3, fun g' hg => h.n4 g' hg⟩
  · rw [List.length_set]; exact hk.cell h.c0 (fun e => n1 e.symm)
  · rw [List.length_set, List.map_set]
    exact hs.1
theorem HMem.setPlace (h : HMem enc ct w B p bp bc lv line place come) (i : Nat) (u : Int) :
    HMem enc ct (w.setCell ⟨bp, i, none⟩ (.int .i64 u)) B p bp bc lv line (place.set i u) come := by
  have hk : Keeps (fun b => b = bp) w (w.setCell ⟨bp, i, none⟩ (.int .i64 u)) := keeps_set _ _ _ _
  refine ⟨hk.cell h.c0 h.n1, ?_, h.c2.kept hk h.n1 (fun e => h.n3 e.symm), (hk.frozen (p := ⟨p, 0, none⟩) (cell_lt h.c0) h.n1).trans h.fz, hk.row h.ln (fun g hg => (h.n4 g hg).2.1), h.lo, h.n1, h.n2, h.n3, h.n4⟩
  rw [List.length_set, List.map_set]
  exact h.c1.stored h.n1 i _
theorem HMem.setCome (h : HMem enc ct w B p bp bc lv line place come) (i : Nat) (u : α) :
    HMem enc ct (w.setCell ⟨bc, i, none⟩ (enc u)) B p bp bc lv line place (come.set i u) := by
  have hk : Keeps (fun b => b = bc) w (w.setCell ⟨bc, i, none⟩ (enc u)) := keeps_set _ _ _ _
  refine ⟨hk.cell h.c0 h.n2, h.c1.kept hk h.n2 h.n3, ?_, (hk.frozen (p := ⟨p, 0, none⟩) (cell_lt h.c0) h.n2).trans h.fz, hk.row h.ln (fun g hg => (h.n4 g hg).2.2), h.lo, h.n1, h.n2, h.n3, h.n4⟩
  rw [List.length_set, List.map_set]
  exact h.c2.stored h.n2 i _
/-- Another line. -/
theorem HMem.setHead (h : HMem enc ct w B p bp bc lv line place come) {lv' : Value} {line' : List Nat} (hl : w.ownsRow B 3 1 lv' line'.length (line'.map natV)) (hn : ∀ g, lv'.ownBlock = some g → g ≠ p ∧ g ≠ bp ∧ g ≠ bc) :
    HMem enc ct (w.setCell ⟨p, 0, none⟩ lv') B p bp bc lv' line' place come := by
  have hk : Keeps (fun b => b = p) w (w.setCell ⟨p, 0, none⟩ lv') := keeps_set _ _ _ _
  refine ⟨World.cell?_setCell_same _ _ _ h.c0, h.c1.head h.n1 (by decide) _, h.c2.head h.n2 (by decide) _, ?_, hk.row hl (fun g hg => (hn g hg).1), h.lo, h.n1, h.n2, h.n3, hn⟩
  simp [h.fz]
end

section
variable {α : Type} {enc : α → Value} {ct : TypeId} {w w1 w3 : World} {B p bp bc : Nat} {lv : Value} {line : List Nat} {place : List Int} {come : List α}
/-- Behind an append onto the line: what the struct's block holds still. -/
theorem HMem.grown (h : HMem enc ct w B p bp bc lv line place come) (hb : Below w.heap.size w w1) (hg : w1.grownBy w3 lv.ownBlock) :
    w3.cell? ⟨p, 0, none⟩ = some lv ∧ w3.frozen? ⟨p, 0, none⟩ = false := by
  have h1 := h.below hb
  have hk : Keeps (fun b => lv.ownBlock = some b) w1 w3 := (Keeps.refl _ w1).grown hg (fun k hk => .inl hk)
  exact ⟨hk.cell h1.c0 (fun e => (h.n4 p e).1 rfl), (hk.frozen (p := ⟨p, 0, none⟩) (cell_lt h1.c0) (fun e => (h.n4 p e).1 rfl)).trans h1.fz⟩
/-- The line behind an append, laid into the struct. -/
theorem HMem.append (h : HMem enc ct w B p bp bc lv line place come) (hb : Below w.heap.size w w1) (hg : w1.grownBy w3 lv.ownBlock) {v' : Value} {k : Nat} (hown : w3.ownsRow B 3 1 v' (line.length + 1) (line.map natV ++ [natV k])) (hat : v'.ownBlock = lv.ownBlock ∨ v'.ownBlock = some w1.heap.size) :
    HMem enc ct (w3.setCell ⟨p, 0, none⟩ v') B p bp bc v' (line ++ [k]) place come ∧ Keeps (foot p bp bc lv) w (w3.setCell ⟨p, 0, none⟩ v') ∧ (∀ b, foot p bp bc v' b → foot p bp bc lv b ∨ w.heap.size ≤ b) := by
  have h1 := h.below hb
  have hk : Keeps (fun b => lv.ownBlock = some b) w1 w3 := (Keeps.refl _ w1).grown hg (fun k hk => .inl hk)
  have hs : Keeps (fun b => b = p) w3 (w3.setCell ⟨p, 0, none⟩ v') := keeps_set _ _ _ _
  have hv : ∀ g, v'.ownBlock = some g → g ≠ p ∧ g ≠ bp ∧ g ≠ bc := by
    intro g hgv
    rcases hat with e | e
    · exact h.n4 g (e ▸ hgv)
    · have e2 : g = w1.heap.size := by rw [e] at hgv; exact (Option.some.inj hgv).symm
      have a1 := (h1.lt p (.inl rfl)).2
      have a2 := (h1.lt bp (.inr (.inl rfl))).2
      have a3 := (h1.lt bc (.inr (.inr (.inl rfl)))).2
      omega
  have hkp : ∀ b, foot p bp bc (.slice none 0 0) b → ¬ lv.ownBlock = some b := by
    rintro b (rfl | rfl | rfl | hb') e
    · exact (h.n4 _ e).1 rfl
    · exact (h.n4 _ e).2.1 rfl
    · exact (h.n4 _ e).2.2 rfl
    · cases hb'
  refine ⟨⟨?_, ?_, ?_, ?_, ?_, h.lo, h.n1, h.n2, h.n3, hv⟩, ?_, ?_⟩
  · exact World.cell?_setCell_same _ _ _ (hk.cell h1.c0 (hkp p (.inl rfl)))
  · exact (h1.c1.kept hk (hkp p (.inl rfl)) (hkp bp (.inr (.inl rfl)))).head h.n1 (by decide) _
  · exact (h1.c2.kept hk (hkp p (.inl rfl)) (hkp bc (.inr (.inr (.inl rfl))))).head h.n2 (by decide) _
  · have := (hk.frozen (p := ⟨p, 0, none⟩) (cell_lt h1.c0) (hkp p (.inl rfl))).trans h1.fz
    simp [this]
  · refine hs.row ?_ (fun g hgv => (hv g hgv).1)
    simpa using hown
  · exact ((Below.keeps hb _).trans hk (fun x hx => .inl (.inr (.inr (.inr hx))))).setCell (.inl (.inl rfl)) _
  · rintro b (rfl | rfl | rfl | hb')
    · exact .inl (.inl rfl)
    · exact .inl (.inr (.inl rfl))
    · exact .inl (.inr (.inr (.inl rfl)))
    · rcases hat with e | e
      · exact .inl (.inr (.inr (.inr (e ▸ hb'))))
      · rw [e] at hb'
        have := Option.some.inj hb'
        have := hb.size
        exact .inr (by omega)
end
/-- What At, and Peek, answer. -/
def atT {α : Type} (enc : α → Value) (d : α) : Option α → Value
  | some v => .tuple #[enc v, .bool true]
  | none => .tuple #[enc d, .bool false]
def peekT {α : Type} (enc : α → Value) (d : α) : Option (Nat × α) → Value
  | some x => .tuple #[.int .i64 (x.1 : Nat), enc x.2, .bool true]
  | none => .tuple #[.int .i64 0, enc d, .bool false]

end Go.Proofs.YtkcfepppnclniaaGreatDoor
end

section
/-
  The walks of package heap's Len, may, ahead and swap, where priorities are of type int.
-/
namespace Go.Proofs.YtkcfepppnclniaaGreatDoor
namespace HI
open Go.RowKit

theorem drew3 (w : World) (a b c : Nat) : ((w.drewN a).drewN b).drewN c = w.drewN (a + b + c) := by rw [World.drewN_drewN, World.drewN_drewN, Nat.add_assoc]
set_option maxHeartbeats 400000 in
theorem may_any {w : World} {B p bp bc : Nat} {lv : Value} {line : List Nat} {place : List Int} {come : List Int} (h : HMem (Value.int .i64) 3 w B p bp bc lv line place come) (t : Int) :
    Calls Tryz.prog 109 #[.pointer (some ⟨p, 0, none⟩), .int .i64 t] w fun e w' => e = .returned (.bool (decide (0 ≤ t ∧ t < (place.length : Int)))) ∧ w' = w := by
  obtain ⟨capc1, c1, _⟩ := h.c1
  clear h
  generalize place.length = n at *
  by_cases h0 : 0 ≤ t
  · go_enter Tryz.func109, Tryz.ntmps109
    go_wp2_with fail
    go_ret
    exact ⟨ret_bool (by simp [h0]), rfl⟩
  · go_enter Tryz.func109, Tryz.ntmps109
    go_wp2_with fail
    go_ret
    exact ⟨ret_bool (by simp; omega), rfl⟩

set_option maxHeartbeats 1000000 in
theorem ahead_any {w : World} {B p bp bc : Nat} {lv : Value} {line : List Nat} {place : List Int} {come : List Int} (h : HMem (Value.int .i64) 3 w B p bp bc lv line place come) (i j : Nat) (hi : i < line.length) (hj : j < line.length)
    (hi' : HM.at0 line i < come.length) (hj' : HM.at0 line j < come.length) :
    Calls Tryz.prog 121 #[.pointer (some ⟨p, 0, none⟩), .int .i64 i, .int .i64 j] w fun e w' => (∃ b, e = .returned (.bool b) ∧ (b = true ↔ HM.R HM.TI (HM.cat (0 : Int) come) (HM.at0 line i) (HM.at0 line j))) ∧ ∃ q, w' = w.drewN q := by
  rcases h.lineAt with ⟨rfl, rfl⟩ | ⟨g, cap, rfl, _, _⟩
  · simp at hi
  have c0 := h.c0
  obtain ⟨capc2, c2, _⟩ := h.c2
  have ci := (h.lineCell hi).1
  have cj := (h.lineCell hj).1
  have vi := (h.comeCell (0 : Int) hi').1
  have vj := (h.comeCell (0 : Int) hj').1
  clear h
  generalize HM.at0 line i = a at *
  generalize HM.at0 line j = b at *
  have HR : Hid (∀ x : Bool, (x = true ↔ HM.R HM.TI (HM.cat (0 : Int) come) a b) = (x = true ↔ (HM.TI.lt (HM.cat (0 : Int) come a) (HM.cat (0 : Int) come b) = true ∨ (HM.cat (0 : Int) come a = HM.cat (0 : Int) come b ∧ a < b)))) := fun _ => rfl
  generalize HM.cat (0 : Int) come a = x at *
  generalize HM.cat (0 : Int) come b = y at *
  generalize line.length = n at *
  generalize come.length = m at *
  have i1 : (i : Int) < (n : Int) := by omega
  have j1 : (j : Int) < (n : Int) := by omega
  have a1 : (a : Int) < (m : Int) := by omega
  have b1 : (b : Int) < (m : Int) := by omega
  by_cases e : x = y
  · subst e
    go_enter Tryz.func121, Tryz.ntmps121
    go_wp2_with fail
    go_quiet (fail)
    go_wp2_with fail
    go_quiet (fail)
    go_wp2_with fail
    go_ret
    refine ⟨⟨_, rfl, ?_⟩, _, rfl⟩
    rw [HR.out]
    simp [HM.TI]
  · go_enter Tryz.func121, Tryz.ntmps121
    go_wp2_with fail
    go_quiet (fail)
    go_wp2_with fail
    go_quiet (fail)
    go_wp2_with fail
    go_quiet (fail)
    go_wp2_with fail
    go_ret
    refine ⟨⟨_, rfl, ?_⟩, _, (drew3 _ _ _ _)⟩
    rw [HR.out]
    simp [HM.TI, e]

set_option maxHeartbeats 1000000 in
theorem swap_any {w : World} {B p bp bc : Nat} {lv : Value} {line : List Nat} {place : List Int} {come : List Int} (h : HMem (Value.int .i64) 3 w B p bp bc lv line place come) {n : Nat} (hw : HM.Wf n line place) (i j : Nat) (hi : i < line.length) (hj : j < line.length) :
    Calls Tryz.prog 113 #[.pointer (some ⟨p, 0, none⟩), .int .i64 i, .int .i64 j] w fun e w' => e = .returned (.tuple #[]) ∧ HMem (Value.int .i64) 3 w' B p bp bc lv (HM.swl line i j) (HM.swp line place i j) come ∧ Keeps (foot p bp bc lv) w w' := by
  rcases h.lineAt with ⟨rfl, rfl⟩ | ⟨g, cap, rfl, hcap, hmax⟩
  · simp at hi
  have hmax' : cap ≤ 9223372036854775807 := by unfold maxLen at hmax; omega
  obtain ⟨n1, n2, n3⟩ := h.n4 g rfl
  have c0 := h.c0
  have ci := (h.lineCell hi).1
  have cj := (h.lineCell hj).1
  have fi := (h.lineCell hi).2
  have fj := (h.lineCell hj).2
  obtain ⟨z, cz⟩ : ∃ z, (w.setCell ⟨g, i, none⟩ (.int .i64 (HM.at0 line j : Nat))).cell? ⟨g, j, none⟩ = some z := ⟨_, ((h.setLine i (HM.at0 line j)).lineCell (i := j) (by simpa using hj)).1⟩
  have H2 := (h.setLine i (HM.at0 line j)).setLine j (HM.at0 line i)
  have H3 : Hid (HMem (Value.int .i64) 3 ((w.setCell ⟨g, i, none⟩ (.int .i64 (HM.at0 line j : Nat))).setCell ⟨g, j, none⟩ (.int .i64 (HM.at0 line i : Nat))) B p bp bc (.slice (some ⟨g, 0, none⟩) line.length cap) (HM.swl line i j) place come) := by
    have e : (((line.set i (HM.at0 line j)).set j (HM.at0 line i)).length) = line.length := by simp
    rw [e] at H2
    exact H2
  have HK : Hid (Keeps (foot p bp bc (.slice (some ⟨g, 0, none⟩) line.length cap)) w ((w.setCell ⟨g, i, none⟩ (.int .i64 (HM.at0 line j : Nat))).setCell ⟨g, j, none⟩ (.int .i64 (HM.at0 line i : Nat)))) :=
    ((Keeps.refl _ w).setCell (p := ⟨g, i, none⟩) (.inl (.inr (.inr (.inr rfl)))) _).setCell (p := ⟨g, j, none⟩) (.inl (.inr (.inr (.inr rfl)))) _
  have hw' := hw.swap hi hj
  have hl := HM.swl_len line i j
  have e1 := (hw'.2.1 i (by omega)).1
  have e2 := (hw'.2.1 j (by omega)).1
  have hpl : place.length = n := hw.1
  have HS : Hid (HM.swp line place i j = (place.set (HM.at0 (HM.swl line i j) i) (i : Int)).set (HM.at0 (HM.swl line i j) j) (j : Int)) := rfl
  generalize HM.swp line place i j = pl' at *
  generalize HM.swl line i j = ln' at *
  clear H2 h hw hw'
  generalize HM.at0 line i = a at *
  generalize HM.at0 line j = b at *
  have i1 : (i : Int) < (line.length : Int) := by omega
  have j1 : (j : Int) < (line.length : Int) := by omega
  go_enter Tryz.func113, Tryz.ntmps113
  go_upto_region 0 with fail
  go_cut [6] (fun _ wx => wx = ((w.setCell ⟨g, i, none⟩ (.int .i64 (b : Nat))).setCell ⟨g, j, none⟩ (.int .i64 (a : Nat))).drew)
  case first =>
    go_wp2_with fail
    go_region
    all_goals (go_wp2_with fail; go_meet; rfl)
  case rest =>
  generalize (w.setCell ⟨g, i, none⟩ (.int .i64 (b : Nat))).setCell ⟨g, j, none⟩ (.int .i64 (a : Nat)) = w2 at *
  subst hcut
  have h := H3.out
  clear c0 ci cj fi fj cz H3
  rw [← hl] at h HK i1 j1
  have hi2 : i < ln'.length := by omega
  have hj2 : j < ln'.length := by omega
  have c0 := h.c0
  obtain ⟨capc1, c1, _⟩ := h.c1
  have ci := (h.lineCell hi2).1
  have cj := (h.lineCell hj2).1
  have fa := (h.placeCell (i := HM.at0 ln' i) (by omega))
  have fb := (h.placeCell (i := HM.at0 ln' j) (by omega))
  have fa1 := fa.1
  have fa2 := fa.2
  have fb2 := fb.2
  obtain ⟨z, cz⟩ : ∃ z, (w2.setCell ⟨bp, HM.at0 ln' i, none⟩ (.int .i64 (i : Nat))).cell? ⟨bp, HM.at0 ln' j, none⟩ = some z := ⟨_, ((h.setPlace (HM.at0 ln' i) (i : Int)).placeCell (i := HM.at0 ln' j) (by simp; omega)).1⟩
  have H3 : Hid (HMem (Value.int .i64) 3 ((w2.setCell ⟨bp, HM.at0 ln' i, none⟩ (.int .i64 (i : Nat))).setCell ⟨bp, HM.at0 ln' j, none⟩ (.int .i64 (j : Nat))) B p bp bc (.slice (some ⟨g, 0, none⟩) ln'.length cap) ln' pl' come) := by
    rw [HS.out]
    exact (h.setPlace (HM.at0 ln' i) (i : Int)).setPlace (HM.at0 ln' j) (j : Int)
  clear h fa fb HS
  generalize HM.at0 ln' i = a at *
  generalize HM.at0 ln' j = b at *
  generalize place.length = m at *
  have a1 : (a : Int) < (m : Int) := by omega
  have b1 : (b : Int) < (m : Int) := by omega
  go_wp2_with fail
  go_region
  go_wp2_with fail
  go_end0
  have h4 := H3.out
  have k4 := HK.out
  rw [hl] at h4 k4
  exact ⟨rfl, h4.drew.drew, ((k4.setCell (p := ⟨bp, a, none⟩) (.inl (.inr (.inl rfl))) _).setCell (p := ⟨bp, b, none⟩) (.inl (.inr (.inl rfl))) _).drew.drew⟩
end HI
end Go.Proofs.YtkcfepppnclniaaGreatDoor
end

section
/-
  The walks of package heap's rise, At, Peek and Put, where priorities are of type int.
-/
namespace Go.Proofs.YtkcfepppnclniaaGreatDoor
namespace HI
open Go.RowKit

set_option maxHeartbeats 1000000 in
theorem rise_any {w : World} {B p bp bc : Nat} {lv : Value} {line : List Nat} {place : List Int} {come : List Int} (h : HMem (Value.int .i64) 3 w B p bp bc lv line place come) {n i : Nat} {m : Nat → Option Int} (hr : HM.RepUp HM.TI (0 : Int) n i m line place come) (hmax : line.length ≤ 1000) :
    Calls Tryz.prog 111 #[.pointer (some ⟨p, 0, none⟩), .int .i64 i] w fun e w' => e = .returned (.tuple #[]) ∧ ∃ line' place', HMem (Value.int .i64) 3 w' B p bp bc lv line' place' come ∧ HM.Rep HM.TI (0 : Int) n m line' place' come ∧ line'.length = line.length ∧ Keeps (foot p bp bc lv) w w' := by
  go_enter Tryz.func111, Tryz.ntmps111
  go_wp2_with fail
  go_loopw [1] (fun iv wr => ∃ (i : Nat) (line' : List Nat) (place' : List Int), iv = .int .i64 (i : Nat) ∧ HMem (Value.int .i64) 3 wr B p bp bc lv line' place' come ∧ HM.RepUp HM.TI (0 : Int) n i m line' place' come ∧ line'.length = line.length ∧ Keeps (foot p bp bc lv) w wr) (fun iv _ => (intOf iv).toNat)
  case atStart => exact ⟨i, line, place, rfl, h, hr, rfl, Keeps.refl _ _⟩
  case round =>
    obtain ⟨k, line', place', rfl, h', hr', hl', hk'⟩ := hrel
    have H : Hid (HMem (Value.int .i64) 3 wr B p bp bc lv line' place' come) := h'
    have HR : Hid (HM.RepUp HM.TI (0 : Int) n k m line' place' come) := hr'
    have HK : Hid (Keeps (foot p bp bc lv) w wr) := hk'
    have hb : k < line'.length := hr'.2.2.1
    clear h hr h' hr' hk'
    cases k with
    | zero =>
      go_wp2_with fail
      go_end0
      exact ⟨rfl, line', place', H.out, HR.out.done (.inl rfl), hl', HK.out⟩
    | succ k =>
      obtain ⟨q, hq⟩ : ∃ q, q = k / 2 := ⟨_, rfl⟩
      have e : (k : Int) / 2 = (q : Int) := by omega
      have hql : q < line'.length := by omega
      have hqk : (k + 1 - 1) / 2 = q := by omega
      have hwf := HR.out.1
      have hlc : come.length = n := HR.out.2.1
      have hc := ahead_any H.out (k + 1) q hb hql (by rw [hlc]; exact (hwf.2.1 _ hb).1) (by rw [hlc]; exact (hwf.2.1 _ hql).1)
      have hs := fun q' => swap_any (H.out.drewN q') hwf (k + 1) q hb hql
      have HQ : Hid ((k + 1 - 1) / 2 = q) := hqk
      clear hqk hwf
      rw [show (((k + 1 : Nat)) : Int) = (k : Int) + 1 from rfl] at hc
      rw [show (((k + 1 : Nat)) : Int) = (k : Int) + 1 from rfl] at hs
      clear hq
      go_wp2_with fail
      refine hc.mono ?_
      rintro e1 w1 ⟨⟨b, rfl, hbi⟩, q', rfl⟩
      have HB : Hid (b = true ↔ HM.R HM.TI (HM.cat (0 : Int) come) (HM.at0 line' (k + 1)) (HM.at0 line' q)) := hbi
      clear hbi hc
      cases b with
      | false =>
        clear hs
        go_wp2_with fail
        (try simp only [Exit.inBlock, Exit.then]); refine bodyPost_ret (results_none rfl _ _ _) rfl ?_
        refine ⟨rfl, line', place', H.out.drewN _, HR.out.done (.inr ?_), hl', HK.out.drewN⟩
        rw [HQ.out]
        exact fun hh => by have := HB.out.2 hh; cases this
      | true =>
        have hs := hs q'
        go_wp2_with fail
        refine hs.mono ?_
        rintro e2 w2 ⟨rfl, h2, k2⟩
        have H2 : Hid (HMem (Value.int .i64) 3 w2 B p bp bc lv (HM.swl line' (k + 1) q) (HM.swp line' place' (k + 1) q) come) := h2
        have K2 : Hid (Keeps (foot p bp bc lv) (wr.drewN q') w2) := k2
        clear h2 k2 hs
        go_wp2_with fail
        go_roundw
        case rel =>
          have hst := HR.out.step (by omega) (by rw [HQ.out]; exact HB.out.1 (by trivial))
          rw [HQ.out] at hst
          exact ⟨q, _, _, rfl, H2.out, hst, by rw [HM.swl_len]; exact hl', HK.out.drewN.trans K2.out (fun x hx => .inl hx)⟩
        case measure => simp [intOf]; omega

set_option maxHeartbeats 1000000 in
theorem at_any {w : World} {B p bp bc : Nat} {lv : Value} {line : List Nat} {place : List Int} {come : List Int} (h : HMem (Value.int .i64) 3 w B p bp bc lv line place come) {n : Nat} {m : Nat → Option Int} (hr : HM.Rep HM.TI (0 : Int) n m line place come) (t : Int) :
    Calls Tryz.prog 110 #[.pointer (some ⟨p, 0, none⟩), .int .i64 t] w fun e w' =>
      (∀ k : Nat, t = k → ∀ v, m k = some v → e = .returned (.tuple #[(Value.int .i64) v, .bool true])) ∧ ((∀ k : Nat, t = k → m k = none) → e = .returned (.tuple #[(Value.int .i64) (0 : Int), .bool false])) ∧ Below w.heap.size w w' := by
  have hpl : place.length = n := hr.1.1
  have hcl : come.length = n := hr.2.1
  have hm := may_any h t
  rw [hpl] at hm
  by_cases ht : 0 ≤ t ∧ t < (n : Int)
  · obtain ⟨k, rfl⟩ : ∃ k : Nat, t = k := ⟨t.toNat, by omega⟩
    have hk : k < n := by omega
    rw [decide_eq_true ht] at hm
    obtain ⟨capc1, c1, _⟩ := h.c1
    obtain ⟨capc2, c2, _⟩ := h.c2
    have p1 := (h.placeCell (i := k) (by omega)).1
    have v1 := (h.comeCell (0 : Int) (i := k) (by omega)).1
    have HM1 : Hid (m k = if k < n ∧ HM.pat place k ≠ -1 then some (HM.cat (0 : Int) come k) else none) := hr.2.2.2 k
    have kn : (k : Int) < (n : Int) := by omega
    rw [hpl] at c1
    rw [hcl] at c2
    clear h hr ht
    generalize HM.pat place k = x at *
    generalize HM.cat (0 : Int) come k = v at *
    by_cases hx : x = -1
    · subst hx
      go_enter Tryz.func110, Tryz.ntmps110
      go_wp2_with fail
      refine hm.mono ?_
      rintro e w' ⟨rfl, rfl⟩
      go_wp2_with fail
      go_ret2
      have hn : m k = none := by rw [HM1.out]; simp
      refine ⟨fun k' hk' v' hv' => ?_, fun _ => rfl, (Below.refl _ _).alloc (Nat.le_refl _) _⟩
      obtain rfl : k = k' := by omega
      rw [hn] at hv'; cases hv'
    · have hx' : (x == -1) = false := beq_eq_false_iff_ne.2 hx
      go_enter Tryz.func110, Tryz.ntmps110
      go_wp2_with fail
      refine hm.mono ?_
      rintro e w' ⟨rfl, rfl⟩
      go_wp2_with fail
      go_ret2
      have hn : m k = some v := by rw [HM1.out, if_pos ⟨hk, hx⟩]
      refine ⟨fun k' hk' v' hv' => ?_, fun hh => ?_, Below.refl _ _⟩
      · obtain rfl : k = k' := by omega
        rw [hn] at hv'; cases hv'; rfl
      · rw [hh k rfl] at hn; cases hn
  · rw [decide_eq_false ht] at hm
    have HO : Hid (∀ k : Nat, t = k → m k = none) := fun k hk => by rw [hr.2.2.2 k, if_neg (by omega)]
    clear h hr
    go_enter Tryz.func110, Tryz.ntmps110
    go_wp2_with fail
    refine hm.mono ?_
    rintro e w' ⟨rfl, rfl⟩
    go_wp2_with fail
    go_ret2
    refine ⟨fun k hk v hv => ?_, fun _ => rfl, (Below.refl _ _).alloc (Nat.le_refl _) _⟩
    rw [HO.out k hk] at hv; cases hv
end HI
end Go.Proofs.YtkcfepppnclniaaGreatDoor
end
