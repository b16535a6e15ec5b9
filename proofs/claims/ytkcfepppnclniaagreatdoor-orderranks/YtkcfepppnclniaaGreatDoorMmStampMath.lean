/-
  StampMath, NStampMem, NStampI.
-/
import Derived.Test.YtkcfepppnclniaaGreatDoorMmBase
import Derived.BigRegion
import Derived.BigQuiet
import Derived.BigFrame
import Derived.Deep.QuietTactic
import Derived.Deep.DeepCutAuto
import Derived.Deep.OwnRows
section
/-
  Rows that are emptied at once: what is at each place, as a map; stamps. Nothing of the program.
-/
namespace Go.Proofs.YtkcfepppnclniaaGreatDoor
namespace SM

def at0 (l : List Nat) (i : Nat) : Nat := l[i]?.getD 0
theorem at0_set (l : List Nat) (i v k : Nat) (h : i < l.length) : at0 (l.set i v) k = if k = i then v else at0 l k := by
  unfold at0
  rw [List.getElem?_set]
  by_cases e : i = k
  · subst e; simp [h]
  · rw [if_neg e, if_neg (fun h => e h.symm)]
theorem at0_rep (n k : Nat) : at0 (List.replicate n 0) k = 0 := by
  unfold at0
  rw [List.getElem?_replicate]
  split <;> rfl
section
variable {α : Type}
def upd (m : Nat → Option α) (k : Nat) (v : Option α) (t : Nat) : Option α := if t = k then v else m t
/-- What is at a place, of any number. -/
def look (m : Nat → Option α) (t : Int) : Option α := if 0 ≤ t then m t.toNat else none
/-- At how many of the first n places something is. -/
def cnt (n : Nat) (m : Nat → Option α) : Nat := ((List.range n).filter (fun t => (m t).isSome)).length
theorem cnt_succ (k : Nat) (m : Nat → Option α) : cnt (k + 1) m = cnt k m + if (m k).isSome then 1 else 0 := by
  unfold cnt
  rw [List.range_succ, List.filter_append]
  by_cases h : (m k).isSome <;> simp [h]
theorem cnt_le (n : Nat) (m : Nat → Option α) : cnt n m ≤ n := by
  have := List.length_filter_le (fun t => (m t).isSome) (List.range n)
  unfold cnt
  simpa using this
theorem cnt_none (n : Nat) : cnt n (fun _ => (none : Option α)) = 0 := by simp [cnt]
theorem cnt_one {m : Nat → Option α} {i : Nat} (hi : ∀ t, (m t).isSome = true ↔ t = i) : ∀ n, cnt n m = if i < n then 1 else 0
  | 0 => by simp [cnt]
  | n + 1 => by
    rw [cnt_succ, cnt_one hi n]
    by_cases e : n = i
    · rw [if_neg (by omega), if_pos ((hi n).2 e), if_pos (by omega)]
    · have h : ¬ (m n).isSome = true := fun h => e ((hi n).1 h)
      rw [if_neg h]
      by_cases h2 : i < n
      · rw [if_pos h2, if_pos (by omega)]
      · rw [if_neg h2, if_neg (by omega)]
/-- What Set answers, and what it leaves. -/
def code (n : Nat) (t : Int) : Int := if 0 ≤ t ∧ t < (n : Int) then 0 else 1
def put (n : Nat) (m : Nat → Option α) (t : Int) (v : α) : Nat → Option α := if 0 ≤ t ∧ t < (n : Int) then upd m t.toNat (some v) else m

/-- The stamps st and the cells xs tell the map m; At: which thing lies at a place of the cells. -/
structure Rep (At : List Value → Nat → α → Prop) (n : Nat) (m : Nat → Option α) (xs : List Value) (st : List Nat) (now : Nat) : Prop where
  len : st.length = n
  lo : 1 ≤ now
  hi : now ≤ 255
  old : ∀ t, t < n → at0 st t ≤ now
  is : ∀ t, t < n → ∃ v, At xs t v ∧ m t = if at0 st t = now then some v else none
  out : ∀ t, n ≤ t → m t = none
variable {At : List Value → Nat → α → Prop} {n : Nat} {m : Nat → Option α} {xs xs' : List Value} {st : List Nat} {now : Nat}
theorem rep_new (n : Nat) {xs : List Value} (h : ∀ t, t < n → ∃ v, At xs t v) : Rep At n (fun _ => none) xs (List.replicate n 0) 1 where
  len := by simp
  lo := by decide
  hi := by decide
  old := fun t _ => by rw [at0_rep]; decide
  is := fun t ht => by
    obtain ⟨v, hv⟩ := h t ht
    exact ⟨v, hv, by rw [at0_rep, if_neg (by decide)]⟩
  out := fun _ _ => rfl
theorem Rep.put (h : Rep At n m xs st now) {k : Nat} (hk : k < n) {v : α} (h1 : At xs' k v) (h2 : ∀ t, t ≠ k → t < n → ∀ u, At xs t u → At xs' t u) : Rep At n (upd m k (some v)) xs' (st.set k now) now where
  len := by simpa using h.len
  lo := h.lo
  hi := h.hi
  old := fun t ht => by
    rw [at0_set _ _ _ _ (by rw [h.len]; exact hk)]
    split
    · exact Nat.le_refl _
    · exact h.old t ht
  is := fun t ht => by
    rw [at0_set _ _ _ _ (by rw [h.len]; exact hk)]
    unfold upd
    by_cases e : t = k
    · subst e
      exact ⟨v, h1, by simp⟩
    · obtain ⟨u, hu, hm⟩ := h.is t ht
      exact ⟨u, h2 t e ht u hu, by rw [if_neg e, if_neg e]; exact hm⟩
  out := fun t ht => by
    unfold upd
    rw [if_neg (by omega)]
    exact h.out t ht
theorem Rep.next (h : Rep At n m xs st now) (hn : now < 255) : Rep At n (fun _ => none) xs st (now + 1) where
  len := h.len
  lo := by omega
  hi := by omega
  old := fun t ht => by have := h.old t ht; omega
  is := fun t ht => by
    obtain ⟨u, hu, _⟩ := h.is t ht
    have := h.old t ht
    exact ⟨u, hu, by rw [if_neg (by omega)]⟩
  out := fun _ _ => rfl
theorem Rep.some (h : Rep At n m xs st now) {k : Nat} (hk : k < n) : (m k).isSome = decide (at0 st k = now) := by
  obtain ⟨v, _, hm⟩ := h.is k hk
  rw [hm]
  by_cases e : at0 st k = now <;> simp [e]
end
end SM
end Go.Proofs.YtkcfepppnclniaaGreatDoor
end

section
/-
  Rows of the program's, in memory: which blocks hold one, what a store into one of them does, what stays.
-/
namespace Go.Proofs.YtkcfepppnclniaaGreatDoor
open Go.RowKit

/-- A stamp. -/
def st8 (k : Nat) : Value := .int .u8 (k : Int)

/-- A row of the program's: its struct in block p, its things in bt (sz cells each), its stamps in bs. -/
structure SMem (e : TypeId) (sz : Nat) (w : World) (B p bt bs n : Nat) (xs : List Value) (st : List Nat) (now : Nat) : Prop where
  c0 : w.cell? ⟨p, 0, none⟩ = some (.slice (some ⟨bt, 0, none⟩) n n)
  c1 : w.cell? ⟨p, 1, none⟩ = some (.slice (some ⟨bs, 0, none⟩) n n)
  c2 : w.cell? ⟨p, 2, none⟩ = some (.int .u8 (now : Nat))
  fz : w.frozen? ⟨p, 2, none⟩ = false
  th : w.ownsRow B e sz (.slice (some ⟨bt, 0, none⟩) n n) n xs
  sp : w.ownsRow B 5 1 (.slice (some ⟨bs, 0, none⟩) n n) n (st.map st8)
  lo : B ≤ p
  n1 : p ≠ bt
  n2 : p ≠ bs
  n3 : bt ≠ bs
def sfoot (p bt bs : Nat) (b : Nat) : Prop := b = p ∨ b = bt ∨ b = bs
section
variable {e : TypeId} {sz : Nat} {w w' : World} {B p bt bs n : Nat} {xs : List Value} {st : List Nat} {now : Nat}
theorem SMem.lt (h : SMem e sz w B p bt bs n xs st now) : ∀ b, sfoot p bt bs b → B ≤ b ∧ b < w.heap.size := by
  rintro b (rfl | rfl | rfl)
  · exact ⟨h.lo, cell_lt h.c0⟩
  · exact World.ownsRow.lt h.th b rfl
  · exact World.ownsRow.lt h.sp b rfl
theorem SMem.len (h : SMem e sz w B p bt bs n xs st now) : st.length = n := by simpa using h.sp.1
theorem SMem.kept {G : Nat → Prop} (h : SMem e sz w B p bt bs n xs st now) (hk : Keeps G w w') (hG : ∀ b, sfoot p bt bs b → ¬ G b) : SMem e sz w' B p bt bs n xs st now where
  c0 := hk.cell h.c0 (hG p (.inl rfl))
  c1 := hk.cell h.c1 (hG p (.inl rfl))
  c2 := hk.cell h.c2 (hG p (.inl rfl))
  fz := (hk.frozen (p := ⟨p, 2, none⟩) (cell_lt h.c2) (hG p (.inl rfl))).trans h.fz
  th := hk.row h.th (fun g hg => by cases hg; exact hG bt (.inr (.inl rfl)))
  sp := hk.row h.sp (fun g hg => by cases hg; exact hG bs (.inr (.inr rfl)))
  lo := h.lo
  n1 := h.n1
  n2 := h.n2
  n3 := h.n3
theorem SMem.below (h : SMem e sz w B p bt bs n xs st now) (hb : Below w.heap.size w w') : SMem e sz w' B p bt bs n xs st now := h.kept (Below.keeps hb (fun _ => False)) (fun _ _ h => h)
theorem SMem.drewN (h : SMem e sz w B p bt bs n xs st now) (q : Nat) : SMem e sz (w.drewN q) B p bt bs n xs st now := ⟨h.c0, h.c1, h.c2, h.fz, h.th, h.sp, h.lo, h.n1, h.n2, h.n3⟩
theorem SMem.drew (h : SMem e sz w B p bt bs n xs st now) : SMem e sz w.drew B p bt bs n xs st now := ⟨h.c0, h.c1, h.c2, h.fz, h.th, h.sp, h.lo, h.n1, h.n2, h.n3⟩
theorem SMem.stamp (h : SMem e sz w B p bt bs n xs st now) {i : Nat} (hi : i < n) : w.cell? ⟨bs, i, none⟩ = some (.int .u8 (SM.at0 st i : Nat)) ∧ w.frozen? ⟨bs, i, none⟩ = false := by
  refine ⟨?_, World.ownsRow.frozenAt h.sp i⟩
  have hl := h.len
  rw [World.ownsRow.cellAt h.sp i (by omega)]
  simp [SM.at0, show i < st.length by omega, st8]
theorem SMem.thing (h : SMem e sz w B p bt bs n xs st now) {j : Nat} (hj : j < n * sz) : w.cell? ⟨bt, j, none⟩ = xs[j]? ∧ w.frozen? ⟨bt, j, none⟩ = false := ⟨World.ownsRow.cellAt h.th j hj, World.ownsRow.frozenAt h.th j⟩
theorem SMem.setStamp (h : SMem e sz w B p bt bs n xs st now) (i u : Nat) : SMem e sz (w.setCell ⟨bs, i, none⟩ (.int .u8 (u : Nat))) B p bt bs n xs (st.set i u) now := by
  have hk : Keeps (fun b => b = bs) w (w.setCell ⟨bs, i, none⟩ (.int .u8 (u : Nat))) := keeps_set _ _ _ _
  refine ⟨hk.cell h.c0 h.n2, hk.cell h.c1 h.n2, hk.cell h.c2 h.n2, (hk.frozen (p := ⟨p, 2, none⟩) (cell_lt h.c2) h.n2).trans h.fz, hk.row h.th (fun g hg => by cases hg; exact h.n3), ?_, h.lo, h.n1, h.n2, h.n3⟩
  rw [List.map_set]
  exact (World.ownsRow.stored h.sp i _).1
theorem SMem.setThing (h : SMem e sz w B p bt bs n xs st now) (j : Nat) (u : Value) : SMem e sz (w.setCell ⟨bt, j, none⟩ u) B p bt bs n (xs.set j u) st now := by
  have hk : Keeps (fun b => b = bt) w (w.setCell ⟨bt, j, none⟩ u) := keeps_set _ _ _ _
  exact ⟨hk.cell h.c0 h.n1, hk.cell h.c1 h.n1, hk.cell h.c2 h.n1, (hk.frozen (p := ⟨p, 2, none⟩) (cell_lt h.c2) h.n1).trans h.fz, (World.ownsRow.stored h.th j u).1, hk.row h.sp (fun g hg e => by cases hg; exact h.n3 e.symm), h.lo, h.n1, h.n2, h.n3⟩
theorem SMem.setNow (h : SMem e sz w B p bt bs n xs st now) (u : Nat) : SMem e sz (w.setCell ⟨p, 2, none⟩ (.int .u8 (u : Nat))) B p bt bs n xs st u := by
  have hk : Keeps (fun b => b = p) w (w.setCell ⟨p, 2, none⟩ (.int .u8 (u : Nat))) := keeps_set _ _ _ _
  refine ⟨?_, ?_, World.cell?_setCell_same _ _ _ h.c2, ?_, hk.row h.th (fun g hg e => by cases hg; exact h.n1 e.symm), hk.row h.sp (fun g hg e => by cases hg; exact h.n2 e.symm), h.lo, h.n1, h.n2, h.n3⟩
  · rw [World.cell?_setCell_other _ _ _ _ (by simp)]; exact h.c0
  · rw [World.cell?_setCell_other _ _ _ _ (by simp)]; exact h.c1
  · simp [h.fz]
theorem SMem.clearStamps (h : SMem e sz w B p bt bs n xs st now) : SMem e sz (w.setCells bs 0 (List.replicate (n * 1) (.int .u8 0))) B p bt bs n xs (List.replicate n 0) now := by
  have hk : Keeps (fun b => b = bs) w (w.setCells bs 0 (List.replicate (n * 1) (.int .u8 0))) := keeps_setCells _ _ _ _
  refine ⟨hk.cell h.c0 h.n2, hk.cell h.c1 h.n2, hk.cell h.c2 h.n2, (hk.frozen (p := ⟨p, 2, none⟩) (cell_lt h.c2) h.n2).trans h.fz, hk.row h.th (fun g hg => by cases hg; exact h.n3), ?_, h.lo, h.n1, h.n2, h.n3⟩
  have := row_cleared h.sp (.int .u8 0)
  simpa [st8] using this
theorem SMem.clearThings (h : SMem e sz w B p bt bs n xs st now) (z : Value) : SMem e sz (w.setCells bt 0 (List.replicate (n * sz) z)) B p bt bs n (List.replicate (n * sz) z) st now := by
  have hk : Keeps (fun b => b = bt) w (w.setCells bt 0 (List.replicate (n * sz) z)) := keeps_setCells _ _ _ _
  exact ⟨hk.cell h.c0 h.n1, hk.cell h.c1 h.n1, hk.cell h.c2 h.n1, (hk.frozen (p := ⟨p, 2, none⟩) (cell_lt h.c2) h.n1).trans h.fz, row_cleared h.th z, hk.row h.sp (fun g hg e => by cases hg; exact h.n3 e.symm), h.lo, h.n1, h.n2, h.n3⟩
/-- A row just made. -/
theorem smem_new {g c : Nat} {sty : TypeId} (h1 : w.ownsRow B e sz (.slice (some ⟨g, 0, none⟩) n n) n xs) (h2 : w.ownsRow B 5 1 (.slice (some ⟨c, 0, none⟩) n n) n ((List.replicate n 0).map st8)) (hgc : g ≠ c) (hB : B ≤ w.heap.size) {p : Nat} (hp : p = w.heap.size) :
    SMem e sz (w.alloc (.cells #[.slice (some ⟨g, 0, none⟩) n n, .slice (some ⟨c, 0, none⟩) n n, .int .u8 1] sty)) B p g c n xs (List.replicate n 0) 1 := by
  subst hp
  have l1 := (World.ownsRow.lt h1 g rfl).2
  have l2 := (World.ownsRow.lt h2 c rfl).2
  exact ⟨by simp, by simp, by simp, by simp, h1.alloc _, h2.alloc _, hB, by omega, by omega, hgc⟩
end
theorem made_stamps (w : World) (B n : Nat) (hB : B ≤ w.heap.size) (hn : n ≤ 64) : (w.alloc (.cells (madeCells #[.int .u8 0] n) 5)).ownsRow B 5 1 (.slice (some ⟨w.heap.size, 0, none⟩) n n) n ((List.replicate n 0).map st8) := by
  have h := World.ownsRow_lit (base := B) (e := 5) (size := 1) w (madeCells #[.int .u8 0] n) n hB (by unfold maxLen; omega) (by rw [size_madeCells]; omega)
  rw [toList_madeCells_one] at h
  simpa [st8] using h
/-- What Get answers. -/
def getT {α : Type} (enc : α → Value) (d : α) : Option α → Value
  | some v => .tuple #[enc v, .bool true]
  | none => .tuple #[enc d, .bool false]

theorem info8 : (Tryz.prog.info? 5).map (fun i => (i.zero, i.size, i.bytes)) = some (some (.int .u8 0), 1, 1) := by kernel_rfl
theorem infoI5 : (Tryz.prog.info? 3).map (fun i => (i.zero, i.size, i.bytes)) = some (some (.int .i64 0), 1, 8) := by kernel_rfl
theorem zero8 (w : World) : (zeroValue 5).run Tryz.prog w = .ok (.int .u8 0) w := by kernel_rfl
theorem zeroI5 (w : World) : (zeroValue 3).run Tryz.prog w = .ok (.int .i64 0) w := by kernel_rfl
end Go.Proofs.YtkcfepppnclniaaGreatDoor
end

section
/-
  The walks of package stamp's may, New, Set and Get, where things are numbers.
-/
namespace Go.Proofs.YtkcfepppnclniaaGreatDoor
namespace RI
open Go.RowKit

/-- At a place of the cells lies v. -/
def At (xs : List Value) (t : Nat) (v : Int) : Prop := xs[t]? = some ((Value.int .i64) v)
theorem at_put {n : Nat} {xs : List Value} (hl : xs.length = n * 1) {k : Nat} (hk : k < n) (v : Int) : At (xs.set k ((Value.int .i64) v)) k v ∧ ∀ t, t ≠ k → t < n → ∀ u, At xs t u → At (xs.set k ((Value.int .i64) v)) t u := by
  refine ⟨?_, fun t ht _ u hu => ?_⟩
  · unfold At
    rw [List.getElem?_set, if_pos rfl, if_pos (by omega)]
  · unfold At at hu ⊢
    rw [List.getElem?_set, if_neg (fun e => ht e.symm)]
    exact hu
theorem at_zero {n t : Nat} (ht : t < n) : ∃ v, At (List.replicate (n * 1) ((Value.int .i64) (0 : Int))) t v := ⟨(0 : Int), by unfold At; rw [List.getElem?_replicate, if_pos (by omega)]⟩

set_option maxHeartbeats 400000 in
theorem may_any {w : World} {B p bt bs n : Nat} {xs : List Value} {st : List Nat} {now : Nat} (h : SMem 3 1 w B p bt bs n xs st now) (t : Int) :
    Calls Tryz.prog 122 #[.pointer (some ⟨p, 0, none⟩), .int .i64 t] w fun e w' => e = .returned (.bool (decide (0 ≤ t ∧ t < (n : Int)))) ∧ w' = w := by
  have c1 := h.c1
  clear h
  by_cases h0 : 0 ≤ t
  · go_enter Tryz.func122, Tryz.ntmps122
    go_wp2_with fail
    go_ret
    exact ⟨ret_bool (by simp [h0]), rfl⟩
  · go_enter Tryz.func122, Tryz.ntmps122
    go_wp2_with fail
    go_ret
    exact ⟨ret_bool (by simp; omega), rfl⟩

set_option maxHeartbeats 1000000 in
theorem set_any {w : World} {B p bt bs n : Nat} {xs : List Value} {st : List Nat} {now : Nat} (h : SMem 3 1 w B p bt bs n xs st now) {m : Nat → Option Int} (hr : SM.Rep At n m xs st now) (_hn : n ≤ 64) (t : Int) (v : Int) :
    Calls Tryz.prog 115 #[.pointer (some ⟨p, 0, none⟩), .int .i64 t, (Value.int .i64) v] w fun e w' => e = .returned (.int .i64 (SM.code n t)) ∧
      ∃ xs' st', SMem 3 1 w' B p bt bs n xs' st' now ∧ SM.Rep At n (SM.put n m t v) xs' st' now ∧ Keeps (sfoot p bt bs) w w' := by
  have hm := may_any h t
  unfold SM.code SM.put
  by_cases ht : 0 ≤ t ∧ t < (n : Int)
  · rw [if_pos ht, if_pos ht]
    obtain ⟨k, rfl⟩ : ∃ k : Nat, t = k := ⟨t.toNat, by omega⟩
    have hk : k < n := by omega
    rw [decide_eq_true ht] at hm
    rw [Int.toNat_natCast]
    have c0 := h.c0
    have c1 := h.c1
    have c2 := h.c2
    have hxl : xs.length = n * 1 := h.th.1
    obtain ⟨t1, f1⟩ := h.thing (j := k) (by omega)
    obtain ⟨x0, hx0⟩ : ∃ x0, xs[k]? = some x0 := ⟨_, List.getElem?_eq_getElem (by omega)⟩
    rw [hx0] at t1
    have h2 := h.setThing k ((Value.int .i64) v)
    obtain ⟨s1, g1⟩ := h2.stamp hk
    have H3 : Hid (SMem 3 1 ((w.setCell ⟨bt, k, none⟩ ((Value.int .i64) v)).setCell ⟨bs, k, none⟩ (.int .u8 (now : Nat))) B p bt bs n (xs.set k ((Value.int .i64) v)) (st.set k now) now) := h2.setStamp k now
    have ha := at_put hxl hk v
    have HR : Hid (SM.Rep At n (SM.upd m k (some v)) (xs.set k ((Value.int .i64) v)) (st.set k now) now) := hr.put hk ha.1 ha.2
    have n1 := h.n1
    have n2 := h.n2
    have n3 := h.n3
    have g0 : w.frozen? ⟨bs, k, none⟩ = false := (h.stamp hk).2
    have kn : (k : Int) < (n : Int) := by omega
    clear h h2 hr ha ht hxl hx0
    go_enter Tryz.func115, Tryz.ntmps115
    go_wp2_with fail
    refine hm.mono ?_
    rintro e w' ⟨rfl, rfl⟩
    go_wp2_with fail
    go_region
    all_goals (go_wp2_with fail; go_ret)
    all_goals exact ⟨rfl, _, _, H3.out.drew, HR.out, (((Keeps.refl _ _).setCell (p := ⟨bt, k, none⟩) (.inl (.inr (.inl rfl))) _).setCell (p := ⟨bs, k, none⟩) (.inl (.inr (.inr rfl))) _).drew⟩
  · rw [if_neg ht, if_neg ht]
    rw [decide_eq_false ht] at hm
    have H3 : Hid (SMem 3 1 w B p bt bs n xs st now) := h
    have HR : Hid (SM.Rep At n m xs st now) := hr
    clear h hr
    go_enter Tryz.func115, Tryz.ntmps115
    go_wp2_with fail
    refine hm.mono ?_
    rintro e w' ⟨rfl, rfl⟩
    go_wp2_with fail
    go_ret
    exact ⟨rfl, _, _, H3.out, HR.out, Keeps.refl _ _⟩

set_option maxHeartbeats 1000000 in
theorem get_any {w : World} {B p bt bs n : Nat} {xs : List Value} {st : List Nat} {now : Nat} (h : SMem 3 1 w B p bt bs n xs st now) {m : Nat → Option Int} (hr : SM.Rep At n m xs st now) (t : Int) :
    Calls Tryz.prog 117 #[.pointer (some ⟨p, 0, none⟩), .int .i64 t] w fun e w' => e = .returned (getT (Value.int .i64) (0 : Int) (SM.look m t)) ∧ Below w.heap.size w w' := by
  have hm := fun q => may_any (h.drewN q) t
  unfold SM.look
  by_cases ht : 0 ≤ t ∧ t < (n : Int)
  · rw [if_pos ht.1]
    obtain ⟨k, rfl⟩ : ∃ k : Nat, t = k := ⟨t.toNat, by omega⟩
    have hk : k < n := by omega
    rw [decide_eq_true ht] at hm
    rw [Int.toNat_natCast]
    have HM0 : Hid (∀ q, Calls Tryz.prog 122 #[.pointer (some ⟨p, 0, none⟩), .int .i64 k] (w.drewN q) fun e w' => e = .returned (.bool true) ∧ w' = w.drewN q) := hm
    have c0 := h.c0
    have c1 := h.c1
    have c2 := h.c2
    obtain ⟨v, hv, hmk⟩ := hr.is k hk
    have t1 := (h.thing (j := k) (by omega)).1
    rw [show xs[k]? = some ((Value.int .i64) v) from hv] at t1
    have s1 := (h.stamp hk).1
    have kn : (k : Int) < (n : Int) := by omega
    rw [hmk]
    clear h hr hv hmk ht hm
    generalize SM.at0 st k = s at *
    by_cases e : s = now
    · subst e
      have e' : ((s : Int) != (s : Int)) = false := by simp
      rw [if_pos rfl]
      simp only [getT]
      go_enter Tryz.func117, Tryz.ntmps117
      go_wp2_with fail
      go_quiet ((go_at_call 122; exact Calls.quiet_of_same (HM0.out _)))
      go_wp2_with fail
      go_ret2
      exact ⟨rfl, below_drewN (Below.refl _ _) _⟩
    · have e' : ((s : Int) != (now : Int)) = true := by simp; omega
      rw [if_neg e]
      simp only [getT]
      go_enter Tryz.func117, Tryz.ntmps117
      go_wp2_with fail
      go_quiet ((go_at_call 122; exact Calls.quiet_of_same (HM0.out _)))
      have hbq : Below w.heap.size w (w.drewN nq) := below_drewN (Below.refl _ _) _
      have hsq : w.heap.size ≤ (w.drewN nq).heap.size := hbq.size
      generalize w.drewN nq = w2 at *
      go_wp2_with fail
      go_ret2
      exact ⟨rfl, hbq.alloc hsq _⟩
  · rw [decide_eq_false ht] at hm
    have HM0 : Hid (∀ q, Calls Tryz.prog 122 #[.pointer (some ⟨p, 0, none⟩), .int .i64 t] (w.drewN q) fun e w' => e = .returned (.bool false) ∧ w' = w.drewN q) := hm
    have e0 : (if 0 ≤ t then m t.toNat else none) = none := by
      split
      · exact hr.out _ (by omega)
      · rfl
    rw [e0]
    simp only [getT]
    clear h hr hm e0
    go_enter Tryz.func117, Tryz.ntmps117
    go_wp2_with fail
    go_quiet ((go_at_call 122; exact Calls.quiet_of_same (HM0.out _)))
    have hbq : Below w.heap.size w (w.drewN nq) := below_drewN (Below.refl _ _) _
    have hsq : w.heap.size ≤ (w.drewN nq).heap.size := hbq.size
    generalize w.drewN nq = w2 at *
    go_wp2_with fail
    go_ret2
    exact ⟨rfl, hbq.alloc hsq _⟩

theorem infoT : (Tryz.prog.info? 3).map (fun i => (i.zero, i.size, i.bytes)) = some (some ((Value.int .i64) (0 : Int)), 1, 8) := by kernel_rfl
theorem made_things (w : World) (B n : Nat) (hB : B ≤ w.heap.size) (hn : n ≤ 64) : (w.alloc (.cells (madeCells #[(Value.int .i64) (0 : Int)] n) 3)).ownsRow B 3 1 (.slice (some ⟨w.heap.size, 0, none⟩) n n) n (List.replicate (n * 1) ((Value.int .i64) (0 : Int))) := by
  have h := World.ownsRow_lit (base := B) (e := 3) (size := 1) w (madeCells #[(Value.int .i64) (0 : Int)] n) n hB (by unfold maxLen; omega) (by rw [size_madeCells]; omega)
  rw [toList_madeCells_one] at h
  simpa using h

set_option maxHeartbeats 2000000 in
theorem new_any (n : Nat) (hn : n ≤ 64) (w : World) :
    Calls Tryz.prog 99 #[.int .i64 n] w fun e w' => ∃ p bt bs xs st now, e = .returned (.tuple #[.pointer (some ⟨p, 0, none⟩), .int .i64 0]) ∧
      SMem 3 1 w' w.heap.size p bt bs n xs st now ∧ SM.Rep At n (fun _ => none) xs st now ∧ Below w.heap.size w w' := by
  have hmk := run_make_row' (P := Tryz.prog) 28 3 ((Value.int .i64) (0 : Int)) 8 Tryz.underlying28 infoT rfl .i64 .i64 n (by omega) (by omega)
  have hmb := run_make_row' (P := Tryz.prog) 144 5 (.int .u8 0) 1 Tryz.underlying144 info8 rfl .i64 .i64 n (by omega) (by omega)
  have HR : Hid (SM.Rep At n (fun _ => none) (List.replicate (n * 1) ((Value.int .i64) (0 : Int))) (List.replicate n 0) 1) := SM.rep_new n (fun t ht => at_zero ht)
  go_enter Tryz.func99, Tryz.ntmps99
  go_wp2_with fail
  go_region
  all_goals (go_wp2_with fail; go_ret2)
  · have q2 := made_stamps (w.alloc (.cells (madeCells #[(Value.int .i64) (0 : Int)] n) 3)) w.heap.size n (by simp) hn
    rw [World.size_alloc] at q2
    exact ⟨_, w.heap.size, w.heap.size + 1, _, _, _, rfl, (smem_new ((made_things w w.heap.size n (Nat.le_refl _) hn).alloc _) q2 (by omega) (by simp; omega) (by simp)).drew, HR.out, ((((Below.refl _ w).alloc (Nat.le_refl _) _).alloc (by simp) _).alloc (by simp; omega) _).drew⟩
  · have q1 := made_things (w.alloc (.cells (madeCells #[.int .u8 0] n) 5)) w.heap.size n (by simp) hn
    rw [World.size_alloc] at q1
    exact ⟨_, w.heap.size + 1, w.heap.size, _, _, _, rfl, (smem_new q1 ((made_stamps w w.heap.size n (Nat.le_refl _) hn).alloc _) (by omega) (by simp; omega) (by simp)).drew, HR.out, ((((Below.refl _ w).alloc (Nat.le_refl _) _).alloc (by simp) _).alloc (by simp; omega) _).drew⟩

end RI
end Go.Proofs.YtkcfepppnclniaaGreatDoor
end
