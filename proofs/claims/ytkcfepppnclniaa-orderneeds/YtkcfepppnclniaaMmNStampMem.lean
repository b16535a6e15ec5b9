/-
  NStampMem, NStampI, WitWait.
-/
import Derived.Test.YtkcfepppnclniaaMmNHeapD
import Derived.Test.YtkcfepppnclniaaMmWitMath
import Derived.BigRegion
import Derived.BigQuiet
import Derived.BigFrame
import Derived.Deep.QuietTactic
import Derived.Deep.DeepCutAuto
import Derived.Deep.OwnRows
section
/-
  Rows of the program's, in memory: which blocks hold one, what a store into one of them does, what stays.
-/
namespace Go.Proofs.Ytkcfepppnclniaa
open Go.RowKit

/-- A stamp. -/
def st8 (k : Nat) : Value := .int .u8 (k : Int)

/-- A row of the program's: its struct in block p, its things in bt (sz cells each), its stamps in bs. -/
structure SMem (e : TypeId) (sz : Nat) (w : World) (B p bt bs n : Nat) (xs : List Value) (st : List Nat) (now : Nat) : Prop where
  c0 : w.cell? ⟨p, 0, none⟩ = some (.slice (some ⟨bt, 0, none⟩) n n)
  c1 : w.cell? ⟨p, 1, none⟩ = some (.slice (some ⟨bs, 0, none⟩) n n)
  c2 : w.cell? ⟨p, 2, none⟩ = some (.int .u8 (now : Nat))
  fz : w.frozen? ⟨p, 2, none⟩ = false
  th : w.ownsRow B e sz (.slice (some ⟨bt, 0, none⟩) n n) n xs
  sp : w.ownsRow B 5 1 (.slice (some ⟨bs, 0, none⟩) n n) n (st.map st8)
  lo : B ≤ p
  n1 : p ≠ bt
  n2 : p ≠ bs
  n3 : bt ≠ bs
def sfoot (p bt bs : Nat) (b : Nat) : Prop := b = p ∨ b = bt ∨ b = bs
section
variable {e : TypeId} {sz : Nat} {w w' : World} {B p bt bs n : Nat} {xs : List Value} {st : List Nat} {now : Nat}
theorem SMem.lt (h : SMem e sz w B p bt bs n xs st now) : ∀ b, sfoot p bt bs b → B ≤ b ∧ b < w.heap.size := by
  rintro b (rfl | rfl | rfl)
  · exact ⟨h.lo, cell_lt h.c0⟩
  · exact World.ownsRow.lt h.th b rfl
  · exact World.ownsRow.lt h.sp b rfl
theorem SMem.len (h : SMem e sz w B p bt bs n xs st now) : st.length = n := by simpa using h.sp.1
theorem SMem.kept {G : Nat → Prop} (h : SMem e sz w B p bt bs n xs st now) (hk : Keeps G w w') (hG : ∀ b, sfoot p bt bs b → ¬ G b) : SMem e sz w' B p bt bs n xs st now where
  c0 := hk.cell h.c0 (hG p (.inl rfl))
  c1 := hk.cell h.c1 (hG p (.inl rfl))
  c2 := hk.cell h.c2 (hG p (.inl rfl))
  fz := (hk.frozen (p := ⟨p, 2, none⟩) (cell_lt h.c2) (hG p (.inl rfl))).trans h.fz
  th := hk.row h.th (fun g hg => by cases hg; exact hG bt (.inr (.inl rfl)))
  sp := hk.row h.sp (fun g hg => by cases hg; exact hG bs (.inr (.inr rfl)))
  lo := h.lo
  n1 := h.n1
  n2 := h.n2
  n3 := h.n3
theorem SMem.below (h : SMem e sz w B p bt bs n xs st now) (hb : Below w.heap.size w w') : SMem e sz w' B p bt bs n xs st now := h.kept (Below.keeps hb (fun _ => False)) (fun _ _ h => h)
theorem SMem.drewN (h : SMem e sz w B p bt bs n xs st now) (q : Nat) : SMem e sz (w.drewN q) B p bt bs n xs st now := ⟨h.c0, h.c1, h.c2, h.fz, h.th, h.sp, h.lo, h.n1, h.n2, h.n3⟩
theorem SMem.drew (h : SMem e sz w B p bt bs n xs st now) : SMem e sz w.drew B p bt bs n xs st now := ⟨h.c0, h.c1, h.c2, h.fz, h.th, h.sp, h.lo, h.n1, h.n2, h.n3⟩
theorem SMem.stamp (h : SMem e sz w B p bt bs n xs st now) {i : Nat} (hi : i < n) : w.cell? ⟨bs, i, none⟩ = some (.int .u8 (SM.at0 st i : Nat)) ∧ w.frozen? ⟨bs, i, none⟩ = false := by
  refine ⟨?_, World.ownsRow.frozenAt h.sp i⟩
  have hl := h.len
  rw [World.ownsRow.cellAt h.sp i (by omega)]
  simp [SM.at0, show i < st.length by omega, st8]
theorem SMem.thing (h : SMem e sz w B p bt bs n xs st now) {j : Nat} (hj : j < n * sz) : w.cell? ⟨bt, j, none⟩ = xs[j]? ∧ w.frozen? ⟨bt, j, none⟩ = false := ⟨World.ownsRow.cellAt h.th j hj, World.ownsRow.frozenAt h.th j⟩
theorem SMem.setStamp (h : SMem e sz w B p bt bs n xs st now) (i u : Nat) : SMem e sz (w.setCell ⟨bs, i, none⟩ (.int .u8 (u : Nat))) B p bt bs n xs (st.set i u) now := by
  have hk : Keeps (fun b => b = bs) w (w.setCell ⟨bs, i, none⟩ (.int .u8 (u : Nat))) := keeps_set _ _ _ _
  refine ⟨hk.cell h.c0 h.n2, hk.cell h.c1 h.n2, hk.cell h.c2 h.n2, (hk.frozen (p := ⟨p, 2, none⟩) (cell_lt h.c2) h.n2).trans h.fz, hk.row h.th (fun g hg => by cases hg; exact h.n3), ?_, h.lo, h.n1, h.n2, h.n3⟩
  rw [List.map_set]
  exact (World.ownsRow.stored h.sp i _).1
theorem SMem.setThing (h : SMem e sz w B p bt bs n xs st now) (j : Nat) (u : Value) : SMem e sz (w.setCell ⟨bt, j, none⟩ u) B p bt bs n (xs.set j u) st now := by
  have hk : Keeps (fun b => b = bt) w (w.setCell ⟨bt, j, none⟩ u) := keeps_set _ _ _ _
  exact ⟨hk.cell h.c0 h.n1, hk.cell h.c1 h.n1, hk.cell h.c2 h.n1, (hk.frozen (p := ⟨p, 2, none⟩) (cell_lt h.c2) h.n1).trans h.fz, (World.ownsRow.stored h.th j u).1, hk.row h.sp (fun g hg e => by cases hg; exact h.n3 e.symm), h.lo, h.n1, h.n2, h.n3⟩
theorem SMem.setNow (h : SMem e sz w B p bt bs n xs st now) (u : Nat) : SMem e sz (w.setCell ⟨p, 2, none⟩ (.int .u8 (u : Nat))) B p bt bs n xs st u := by
  have hk : Keeps (fun b => b = p) w (w.setCell ⟨p, 2, none⟩ (.int .u8 (u : Nat))) := keeps_set _ _ _ _
  refine ⟨?_, ?_, World.cell?_setCell_same _ _ _ h.c2, ?_, hk.row h.th (fun g hg e => by cases hg; exact h.n1 e.symm), hk.row h.sp (fun g hg e => by cases hg; exact h.n2 e.symm), h.lo, h.n1, h.n2, h.n3⟩
  · rw [World.cell?_setCell_other _ _ _ _ (by simp)]; exact h.c0
  · rw [World.cell?_setCell_other _ _ _ _ (by simp)]; exact h.c1
  · simp [h.fz]
theorem SMem.clearStamps (h : SMem e sz w B p bt bs n xs st now) : SMem e sz (w.setCells bs 0 (List.replicate (n * 1) (.int .u8 0))) B p bt bs n xs (List.replicate n 0) now := by
  have hk : Keeps (fun b => b = bs) w (w.setCells bs 0 (List.replicate (n * 1) (.int .u8 0))) := keeps_setCells _ _ _ _
  refine ⟨hk.cell h.c0 h.n2, hk.cell h.c1 h.n2, hk.cell h.c2 h.n2, (hk.frozen (p := ⟨p, 2, none⟩) (cell_lt h.c2) h.n2).trans h.fz, hk.row h.th (fun g hg => by cases hg; exact h.n3), ?_, h.lo, h.n1, h.n2, h.n3⟩
  have := row_cleared h.sp (.int .u8 0)
  simpa [st8] using this
theorem SMem.clearThings (h : SMem e sz w B p bt bs n xs st now) (z : Value) : SMem e sz (w.setCells bt 0 (List.replicate (n * sz) z)) B p bt bs n (List.replicate (n * sz) z) st now := by
  have hk : Keeps (fun b => b = bt) w (w.setCells bt 0 (List.replicate (n * sz) z)) := keeps_setCells _ _ _ _
  exact ⟨hk.cell h.c0 h.n1, hk.cell h.c1 h.n1, hk.cell h.c2 h.n1, (hk.frozen (p := ⟨p, 2, none⟩) (cell_lt h.c2) h.n1).trans h.fz, row_cleared h.th z, hk.row h.sp (fun g hg e => by cases hg; exact h.n3 e.symm), h.lo, h.n1, h.n2, h.n3⟩
/-- A row just made. -/
theorem smem_new {g c : Nat} {sty : TypeId} (h1 : w.ownsRow B e sz (.slice (some ⟨g, 0, none⟩) n n) n xs) (h2 : w.ownsRow B 5 1 (.slice (some ⟨c, 0, none⟩) n n) n ((List.replicate n 0).map st8)) (hgc : g ≠ c) (hB : B ≤ w.heap.size) {p : Nat} (hp : p = w.heap.size) :
    SMem e sz (w.alloc (.cells #[.slice (some ⟨g, 0, none⟩) n n, .slice (some ⟨c, 0, none⟩) n n, .int .u8 1] sty)) B p g c n xs (List.replicate n 0) 1 := by
  subst hp
  have l1 := (World.ownsRow.lt h1 g rfl).2
  have l2 := (World.ownsRow.lt h2 c rfl).2
  exact ⟨by simp, by simp, by simp, by simp, h1.alloc _, h2.alloc _, hB, by omega, by omega, hgc⟩
end
theorem made_stamps (w : World) (B n : Nat) (hB : B ≤ w.heap.size) (hn : n ≤ 64) : (w.alloc (.cells (madeCells #[.int .u8 0] n) 5)).ownsRow B 5 1 (.slice (some ⟨w.heap.size, 0, none⟩) n n) n ((List.replicate n 0).map st8) := by
  have h := World.ownsRow_lit (base := B) (e := 5) (size := 1) w (madeCells #[.int .u8 0] n) n hB (by unfold maxLen; omega) (by rw [size_madeCells]; omega)
  rw [toList_madeCells_one] at h
  simpa [st8] using h
/-- What Get answers. -/
def getT {α : Type} (enc : α → Value) (d : α) : Option α → Value
  | some v => .tuple #[enc v, .bool true]
  | none => .tuple #[enc d, .bool false]

theorem info8 : (Try.prog.info? 5).map (fun i => (i.zero, i.size, i.bytes)) = some (some (.int .u8 0), 1, 1) := by kernel_rfl
theorem infoI5 : (Try.prog.info? 3).map (fun i => (i.zero, i.size, i.bytes)) = some (some (.int .i64 0), 1, 8) := by kernel_rfl
theorem zero8 (w : World) : (zeroValue 5).run Try.prog w = .ok (.int .u8 0) w := by kernel_rfl
theorem zeroI5 (w : World) : (zeroValue 3).run Try.prog w = .ok (.int .i64 0) w := by kernel_rfl
end Go.Proofs.Ytkcfepppnclniaa
end

section
/-
  The walks of package stamp's may, New, Set and Get, where things are numbers.
-/
namespace Go.Proofs.Ytkcfepppnclniaa
namespace RI
open Go.RowKit

/-- At a place of the cells lies v. -/
def At (xs : List Value) (t : Nat) (v : Int) : Prop := xs[t]? = some ((Value.int .i64) v)
theorem at_put {n : Nat} {xs : List Value} (hl : xs.length = n * 1) {k : Nat} (hk : k < n) (v : Int) : At (xs.set k ((Value.int .i64) v)) k v ∧ ∀ t, t ≠ k → t < n → ∀ u, At xs t u → At (xs.set k ((Value.int .i64) v)) t u := by
  refine ⟨?_, fun t ht _ u hu => ?_⟩
  · unfold At
    rw [List.getElem?_set, if_pos rfl, if_pos (by omega)]
  · unfold At at hu ⊢
    rw [List.getElem?_set, if_neg (fun e => ht e.symm)]
    exact hu
theorem at_zero {n t : Nat} (ht : t < n) : ∃ v, At (List.replicate (n * 1) ((Value.int .i64) (0 : Int))) t v := ⟨(0 : Int), by unfold At; rw [List.getElem?_replicate, if_pos (by omega)]⟩

set_option maxHeartbeats 400000 in
theorem may_any {w : World} {B p bt bs n : Nat} {xs : List Value} {st : List Nat} {now : Nat} (h : SMem 3 1 w B p bt bs n xs st now) (t : Int) :
    Calls Try.prog 73 #[.pointer (some ⟨p, 0, none⟩), .int .i64 t] w fun e w' => e = .returned (.bool (decide (0 ≤ t ∧ t < (n : Int)))) ∧ w' = w := by
  have c1 := h.c1
  clear h
  by_cases h0 : 0 ≤ t
  · go_enter Try.func73, Try.ntmps73
    go_wp2_with fail
    go_ret
    exact ⟨ret_bool (by simp [h0]), rfl⟩
  · go_enter Try.func73, Try.ntmps73
    go_wp2_with fail
    go_ret
    exact ⟨ret_bool (by simp; omega), rfl⟩

set_option maxHeartbeats 1000000 in
theorem set_any {w : World} {B p bt bs n : Nat} {xs : List Value} {st : List Nat} {now : Nat} (h : SMem 3 1 w B p bt bs n xs st now) {m : Nat → Option Int} (hr : SM.Rep At n m xs st now) (_hn : n ≤ 64) (t : Int) (v : Int) :
    Calls Try.prog 68 #[.pointer (some ⟨p, 0, none⟩), .int .i64 t, (Value.int .i64) v] w fun e w' => e = .returned (.int .i64 (SM.code n t)) ∧
      ∃ xs' st', SMem 3 1 w' B p bt bs n xs' st' now ∧ SM.Rep At n (SM.put n m t v) xs' st' now ∧ Keeps (sfoot p bt bs) w w' := by
  have hm := may_any h t
  unfold SM.code SM.put
  by_cases ht : 0 ≤ t ∧ t < (n : Int)
  · rw [if_pos ht, if_pos ht]
    obtain ⟨k, rfl⟩ : ∃ k : Nat, t = k := ⟨t.toNat, by omega⟩
    have hk : k < n := by omega
    rw [decide_eq_true ht] at hm
    rw [Int.toNat_natCast]
    have c0 := h.c0
    have c1 := h.c1
    have c2 := h.c2
    have hxl : xs.length = n * 1 := h.th.1
    obtain ⟨t1, f1⟩ := h.thing (j := k) (by omega)
    obtain ⟨x0, hx0⟩ : ∃ x0, xs[k]? = some x0 := ⟨_, List.getElem?_eq_getElem (by omega)⟩
    rw [hx0] at t1
    have h2 := h.setThing k ((Value.int .i64) v)
    obtain ⟨s1, g1⟩ := h2.stamp hk
    have H3 : Hid (SMem 3 1 ((w.setCell ⟨bt, k, none⟩ ((Value.int .i64) v)).setCell ⟨bs, k, none⟩ (.int .u8 (now : Nat))) B p bt bs n (xs.set k ((Value.int .i64) v)) (st.set k now) now) := h2.setStamp k now
    have ha := at_put hxl hk v
    have HR : Hid (SM.Rep At n (SM.upd m k (some v)) (xs.set k ((Value.int .i64) v)) (st.set k now) now) := hr.put hk ha.1 ha.2
    have n1 := h.n1
    have n2 := h.n2
    have n3 := h.n3
    have g0 : w.frozen? ⟨bs, k, none⟩ = false := (h.stamp hk).2
    have kn : (k : Int) < (n : Int) := by omega
    clear h h2 hr ha ht hxl hx0
    go_enter Try.func68, Try.ntmps68
    go_wp2_with fail
    refine hm.mono ?_
    rintro e w' ⟨rfl, rfl⟩
    go_wp2_with fail
    go_region
    all_goals (go_wp2_with fail; go_ret)
    all_goals exact ⟨rfl, _, _, H3.out.drew, HR.out, (((Keeps.refl _ _).setCell (p := ⟨bt, k, none⟩) (.inl (.inr (.inl rfl))) _).setCell (p := ⟨bs, k, none⟩) (.inl (.inr (.inr rfl))) _).drew⟩
  · rw [if_neg ht, if_neg ht]
    rw [decide_eq_false ht] at hm
    have H3 : Hid (SMem 3 1 w B p bt bs n xs st now) := h
    have HR : Hid (SM.Rep At n m xs st now) := hr
    clear h hr
    go_enter Try.func68, Try.ntmps68
    go_wp2_with fail
    refine hm.mono ?_
    rintro e w' ⟨rfl, rfl⟩
    go_wp2_with fail
    go_ret
    exact ⟨rfl, _, _, H3.out, HR.out, Keeps.refl _ _⟩

set_option maxHeartbeats 1000000 in
theorem get_any {w : World} {B p bt bs n : Nat} {xs : List Value} {st : List Nat} {now : Nat} (h : SMem 3 1 w B p bt bs n xs st now) {m : Nat → Option Int} (hr : SM.Rep At n m xs st now) (t : Int) :
    Calls Try.prog 70 #[.pointer (some ⟨p, 0, none⟩), .int .i64 t] w fun e w' => e = .returned (getT (Value.int .i64) (0 : Int) (SM.look m t)) ∧ Below w.heap.size w w' := by
  have hm := fun q => may_any (h.drewN q) t
  unfold SM.look
  by_cases ht : 0 ≤ t ∧ t < (n : Int)
  · rw [if_pos ht.1]
    obtain ⟨k, rfl⟩ : ∃ k : Nat, t = k := ⟨t.toNat, by omega⟩
    have hk : k < n := by omega
    rw [decide_eq_true ht] at hm
    rw [Int.toNat_natCast]
    have HM0 : Hid (∀ q, Calls Try.prog 73 #[.pointer (some ⟨p, 0, none⟩), .int .i64 k] (w.drewN q) fun e w' => e = .returned (.bool true) ∧ w' = w.drewN q) := hm
    have c0 := h.c0
    have c1 := h.c1
    have c2 := h.c2
    obtain ⟨v, hv, hmk⟩ := hr.is k hk
    have t1 := (h.thing (j := k) (by omega)).1
    rw [show xs[k]? = some ((Value.int .i64) v) from hv] at t1
    have s1 := (h.stamp hk).1
    have kn : (k : Int) < (n : Int) := by omega
    rw [hmk]
    clear h hr hv hmk ht hm
    generalize SM.at0 st k = s at *
    by_cases e : s = now
    · subst e
      have e' : ((s : Int) != (s : Int)) = false := by simp
      rw [if_pos rfl]
      simp only [getT]
      go_enter Try.func70, Try.ntmps70
      go_wp2_with fail
      go_quiet ((go_at_call 73; exact Calls.quiet_of_same (HM0.out _)))
      go_wp2_with fail
      go_ret2
      exact ⟨rfl, below_drewN (Below.refl _ _) _⟩
    · have e' : ((s : Int) != (now : Int)) = true := by simp; omega
      rw [if_neg e]
      simp only [getT]
      go_enter Try.func70, Try.ntmps70
      go_wp2_with fail
      go_quiet ((go_at_call 73; exact Calls.quiet_of_same (HM0.out _)))
      have hbq : Below w.heap.size w (w.drewN nq) := below_drewN (Below.refl _ _) _
      have hsq : w.heap.size ≤ (w.drewN nq).heap.size := hbq.size
      generalize w.drewN nq = w2 at *
      go_wp2_with fail
      go_ret2
      exact ⟨rfl, hbq.alloc hsq _⟩
  · rw [decide_eq_false ht] at hm
    have HM0 : Hid (∀ q, Calls Try.prog 73 #[.pointer (some ⟨p, 0, none⟩), .int .i64 t] (w.drewN q) fun e w' => e = .returned (.bool false) ∧ w' = w.drewN q) := hm
    have e0 : (if 0 ≤ t then m t.toNat else none) = none := by
      split
      · exact hr.out _ (by omega)
      · rfl
    rw [e0]
    simp only [getT]
    clear h hr hm e0
    go_enter Try.func70, Try.ntmps70
    go_wp2_with fail
    go_quiet ((go_at_call 73; exact Calls.quiet_of_same (HM0.out _)))
    have hbq : Below w.heap.size w (w.drewN nq) := below_drewN (Below.refl _ _) _
    have hsq : w.heap.size ≤ (w.drewN nq).heap.size := hbq.size
    generalize w.drewN nq = w2 at *
    go_wp2_with fail
    go_ret2
    exact ⟨rfl, hbq.alloc hsq _⟩

theorem infoT : (Try.prog.info? 3).map (fun i => (i.zero, i.size, i.bytes)) = some (some ((Value.int .i64) (0 : Int)), 1, 8) := by kernel_rfl
theorem made_things (w : World) (B n : Nat) (hB : B ≤ w.heap.size) (hn : n ≤ 64) : (w.alloc (.cells (madeCells #[(Value.int .i64) (0 : Int)] n) 3)).ownsRow B 3 1 (.slice (some ⟨w.heap.size, 0, none⟩) n n) n (List.replicate (n * 1) ((Value.int .i64) (0 : Int))) := by
  have h := World.ownsRow_lit (base := B) (e := 3) (size := 1) w (madeCells #[(Value.int .i64) (0 : Int)] n) n hB (by unfold maxLen; omega) (by rw [size_madeCells]; omega)
  rw [toList_madeCells_one] at h
  simpa using h

set_option maxHeartbeats 2000000 in
theorem new_any (n : Nat) (hn : n ≤ 64) (w : World) :
    Calls Try.prog 50 #[.int .i64 n] w fun e w' => ∃ p bt bs xs st now, e = .returned (.tuple #[.pointer (some ⟨p, 0, none⟩), .int .i64 0]) ∧
      SMem 3 1 w' w.heap.size p bt bs n xs st now ∧ SM.Rep At n (fun _ => none) xs st now ∧ Below w.heap.size w w' := by
  have hmk := run_make_row' (P := Try.prog) 43 3 ((Value.int .i64) (0 : Int)) 8 Try.underlying43 infoT rfl .i64 .i64 n (by omega) (by omega)
  have hmb := run_make_row' (P := Try.prog) 105 5 (.int .u8 0) 1 Try.underlying105 info8 rfl .i64 .i64 n (by omega) (by omega)
  have HR : Hid (SM.Rep At n (fun _ => none) (List.replicate (n * 1) ((Value.int .i64) (0 : Int))) (List.replicate n 0) 1) := SM.rep_new n (fun t ht => at_zero ht)
  go_enter Try.func50, Try.ntmps50
  go_wp2_with fail
  go_region
  all_goals (go_wp2_with fail; go_ret2)
  · have q2 := made_stamps (w.alloc (.cells (madeCells #[(Value.int .i64) (0 : Int)] n) 3)) w.heap.size n (by simp) hn
    rw [World.size_alloc] at q2
    exact ⟨_, w.heap.size, w.heap.size + 1, _, _, _, rfl, (smem_new ((made_things w w.heap.size n (Nat.le_refl _) hn).alloc _) q2 (by omega) (by simp; omega) (by simp)).drew, HR.out, ((((Below.refl _ w).alloc (Nat.le_refl _) _).alloc (by simp) _).alloc (by simp; omega) _).drew⟩
  · have q1 := made_things (w.alloc (.cells (madeCells #[.int .u8 0] n) 5)) w.heap.size n (by simp) hn
    rw [World.size_alloc] at q1
    exact ⟨_, w.heap.size + 1, w.heap.size, _, _, _, rfl, (smem_new q1 ((made_stamps w w.heap.size n (Nat.le_refl _) hn).alloc _) (by omega) (by simp; omega) (by simp)).drew, HR.out, ((((Below.refl _ w).alloc (Nat.le_refl _) _).alloc (by simp) _).alloc (by simp; omega) _).drew⟩

end RI
end Go.Proofs.Ytkcfepppnclniaa
end

section
/-
  What waits while a search goes on (layer 13): each that may be settled, at its least sum; part way through the steps of the one settled last. Nothing of the program.
-/
namespace Go.Proofs.Ytkcfepppnclniaa
namespace WM
/-- Between the rounds: what waits, and how far each is. -/
def Waits (N : Nat) (D : Nat → Nat → Int) (s : Nat) (W : Nat → Bool) (L : List (Nat × Int)) (hm : Nat → Option Int) : Prop :=
  ∀ w, (Free N W L w ∧ key D s L w < 4611686018427387906 → hm w = some (key D s L w)) ∧ (¬ (Free N W L w ∧ key D s L w < 4611686018427387906) → hm w = none)
section
variable {N : Nat} {D : Nat → Nat → Int} {s : Nat} {W : Nat → Bool} {L : List (Nat × Int)} {hm : Nat → Option Int} {v : Nat} {d : Int}
theorem Waits.some_of (h : Waits N D s W L hm) {w : Nat} {r : Int} (e : hm w = some r) : Free N W L w ∧ key D s L w = r ∧ r < 4611686018427387906 := by
  by_cases c : Free N W L w ∧ key D s L w < 4611686018427387906
  · have := (h w).1 c
    rw [e] at this
    have hr : r = key D s L w := Option.some.inj this
    exact ⟨c.1, hr.symm, by rw [hr]; exact c.2⟩
  · rw [(h w).2 c] at e
    cases e
theorem Waits.begin (hs : s < N) (hW : W s = false) : Waits N D s W [] (HM.upd (fun _ => none) s (some 0)) := by
  intro w
  unfold HM.upd key
  by_cases e : w = s
  · subst e
    rw [if_pos rfl, if_pos ⟨rfl, rfl⟩]
    exact ⟨fun _ => rfl, fun h => absurd ⟨⟨hs, hW, has_nil w⟩, by decide⟩ h⟩
  · rw [if_neg e, if_neg (fun c => e c.2)]
    exact ⟨fun h => absurd h.2 (by rw [sum_nil]; decide), fun _ => rfl⟩
/-- The first one that waits is settled next. -/
theorem Waits.next (h : Waits N D s W L hm) (hf : HM.IsFirst HM.TI hm (v, d)) : Next N D s W L v d := by
  obtain ⟨h1, h2⟩ := hf
  dsimp only at h1 h2
  obtain ⟨f, k, l⟩ := h.some_of h1
  have hle : ∀ w, Free N W L w → d ≤ key D s L w := fun w hw => by
    by_cases c : key D s L w < 4611686018427387906
    · have := h2 w _ ((h w).1 ⟨hw, c⟩)
      rw [not_or] at this
      have h3 : ¬ key D s L w < d := by simpa [HM.TI] using this.1
      omega
    · have := key_bd D s L w
      omega
  refine ⟨f, k, l, hle, fun w hw he => ?_⟩
  have := h2 w _ ((h w).1 ⟨hw, by omega⟩)
  rw [not_or] at this
  exact Nat.not_lt.1 fun c => this.2 ⟨he, c⟩
/-- Where none waits, nothing more may be settled. -/
theorem Waits.stuck (h : Waits N D s W L hm) (h0 : ∀ w, hm w = none) (X : Int) : Stuck N D s W X L := by
  intro v d hn
  have := (h v).1 ⟨hn.free, by rw [hn.is]; exact hn.lt⟩
  rw [h0] at this
  cases this
/-- Part way through the steps of the one settled last: the vertices in G have come. -/
def Mid (N : Nat) (D : Nat → Nat → Int) (W : Nat → Bool) (L : List (Nat × Int)) (x : Nat × Int) (G : Nat → Prop) (hm : Nat → Option Int) : Prop :=
  ∀ w, (Free N W (L ++ [x]) w → (G w → hm w = if sum D (L ++ [x]) w < 4611686018427387906 then some (sum D (L ++ [x]) w) else none) ∧ (¬ G w → hm w = if sum D L w < 4611686018427387906 then some (sum D L w) else none)) ∧ (¬ Free N W (L ++ [x]) w → hm w = none)
theorem free_snoc {x : Nat × Int} {w : Nat} : Free N W (L ++ [x]) w ↔ Free N W L w ∧ x.1 ≠ w := by
  unfold Free
  rw [has_snoc, Bool.or_eq_false_iff]
  constructor
  · rintro ⟨a, b, c, e⟩
    exact ⟨⟨a, b, c⟩, by simpa using e⟩
  · rintro ⟨⟨a, b, c⟩, e⟩
    exact ⟨a, b, c, by simpa using e⟩
/-- The first one comes out, and is settled; none of its steps has come. -/
theorem Waits.out (h : Waits N D s W L hm) (hn : Next N D s W L v d) (hs : s < N) (hW : W s = false) : Mid N D W L (v, d) (fun _ => False) (HM.upd hm v none) := by
  intro w
  unfold HM.upd
  refine ⟨fun hf => ⟨fun g => g.elim, fun _ => ?_⟩, fun hf => ?_⟩
  · rw [free_snoc] at hf
    rw [if_neg (fun e => hf.2 e.symm)]
    have hk : key D s L w = sum D L w := by
      unfold key
      split
      · rename_i e
        exfalso
        -- the first one is settled first
        have h0 : key D s L s = 0 := if_pos ⟨e.1, rfl⟩
        have h1 := hn.le s ⟨hs, hW, by rw [e.1]; rfl⟩
        have h2 := hn.is
        have h3 := key_bd D s L v
        rw [h0] at h1
        have hv : key D s L v = 0 := by omega
        unfold key at hv
        split at hv
        · rename_i e2
          exact hf.2 (e2.2.trans e.2.symm)
        · rw [e.1, sum_nil] at hv
          cases hv
      · rfl
    have := h w
    rw [hk] at this
    by_cases c : sum D L w < 4611686018427387906
    · rw [if_pos c]; exact this.1 ⟨hf.1, c⟩
    · rw [if_neg c]; exact this.2 (fun e => c e.2)
  · by_cases e : w = v
    · rw [if_pos e]
    · rw [if_neg e]
      exact (h w).2 (fun c => hf (free_snoc.2 ⟨c.1, fun e2 => e e2.symm⟩))
/-- All its steps have come. -/
theorem Mid.done {x : Nat × Int} {G : Nat → Prop} (h : Mid N D W L x G hm) (hx : 0 ≤ x.2 ∧ x.2 ≤ 4611686018427387906) (hG : ∀ w, w < N → ¬ G w → D x.1 w = 4611686018427387906) : Waits N D s W (L ++ [x]) hm := by
  intro w
  rw [key_ne w (by simp : L ++ [x] ≠ [])]
  by_cases hf : Free N W (L ++ [x]) w
  · have hh := (h w).1 hf
    have he : hm w = if sum D (L ++ [x]) w < 4611686018427387906 then some (sum D (L ++ [x]) w) else none := by
      by_cases g : G w
      · exact hh.1 g
      · have hs : sum D (L ++ [x]) w = sum D L w := by
          rw [sum_snoc, hG w hf.1 g]
          have ht : DM.two x.2 4611686018427387906 = 4611686018427387906 := by
            rw [NM.two_comm]
            exact XM.none_two hx rfl
          rw [ht]
          unfold low
          have := (sum_bd D w L).2
          rw [if_neg (by omega)]
        rw [hs]
        exact hh.2 g
    refine ⟨fun c => by rw [he, if_pos c.2], fun c => by rw [he, if_neg (fun c2 => c ⟨hf, c2⟩)]⟩
  · exact ⟨fun c => absurd c.1 hf, fun _ => (h w).2 hf⟩
/-- One step more comes, to a vertex that may be settled: it waits at the less of both. -/
theorem Mid.come {x : Nat × Int} {G : Nat → Prop} (h : Mid N D W L x G hm) {u : Nat} (hu : ¬ G u) (hf : Free N W (L ++ [x]) u) : hm u = (if sum D L u < 4611686018427387906 then some (sum D L u) else none) ∧ Mid N D W L x (fun w => G w ∨ w = u) (HM.upd hm u (if sum D (L ++ [x]) u < 4611686018427387906 then some (sum D (L ++ [x]) u) else none)) := by
  refine ⟨((h u).1 hf).2 hu, fun w => ?_⟩
  unfold HM.upd
  by_cases e : w = u
  · subst e
    rw [if_pos rfl]
    exact ⟨fun _ => ⟨fun _ => rfl, fun c => absurd (.inr rfl) c⟩, fun c => absurd hf c⟩
  · rw [if_neg e]
    refine ⟨fun c => ⟨fun g => ((h w).1 c).1 (g.resolve_right e), fun g => ((h w).1 c).2 (fun g' => g (.inl g'))⟩, fun c => (h w).2 c⟩
/-- One step more comes, to one that may not, or is settled. -/
theorem Mid.skip {x : Nat × Int} {G : Nat → Prop} (h : Mid N D W L x G hm) {u : Nat} (hf : ¬ Free N W (L ++ [x]) u) : Mid N D W L x (fun w => G w ∨ w = u) hm := by
  intro w
  refine ⟨fun c => ?_, (h w).2⟩
  have e : w ≠ u := fun e => hf (e ▸ c)
  exact ⟨fun g => ((h w).1 c).1 (g.resolve_right e), fun g => ((h w).1 c).2 (fun g' => g (.inl g'))⟩
end
end WM
end Go.Proofs.Ytkcfepppnclniaa
end
