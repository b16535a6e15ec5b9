/-
  StampMath, NStampMem, StampM.
-/
import Derived.Test.YtmamligiopbefaaMmMem
import Derived.BigRegion
import Derived.BigQuiet
import Derived.BigFrame
import Derived.Deep.QuietTactic
import Derived.Deep.DeepCutAuto
import Derived.Deep.OwnRows
section
/-
  Rows that are emptied at once: what is at each place, as a map; stamps. Nothing of the program.
-/
namespace Go.Proofs.Ytmamligiopbefaa
namespace SM

def at0 (l : List Nat) (i : Nat) : Nat := l[i]?.getD 0
theorem at0_set (l : List Nat) (i v k : Nat) (h : i < l.length) : at0 (l.set i v) k = if k = i then v else at0 l k := by
  unfold at0
  rw [List.getElem?_set]
  by_cases e : i = k
  · subst e; simp [h]
  · rw [if_neg e, if_neg (fun h => e h.symm)]
theorem at0_rep (n k : Nat) : at0 (List.replicate n 0) k = 0 := by
  unfold at0
  rw [List.getElem?_replicate]
  split <;> rfl
section
variable {α : Type}
def upd (m : Nat → Option α) (k : Nat) (v : Option α) (t : Nat) : Option α := if t = k then v else m t
/-- What is at a place, of any number. -/
def look (m : Nat → Option α) (t : Int) : Option α := if 0 ≤ t then m t.toNat else none
/-- At how many of the first n places something is. -/
def cnt (n : Nat) (m : Nat → Option α) : Nat := ((List.range n).filter (fun t => (m t).isSome)).length
theorem cnt_succ (k : Nat) (m : Nat → Option α) : cnt (k + 1) m = cnt k m + if (m k).isSome then 1 else 0 := by
  unfold cnt
  rw [List.range_succ, List.filter_append]
  by_cases h : (m k).isSome <;> simp [h]
theorem cnt_le (n : Nat) (m : Nat → Option α) : cnt n m ≤ n := by
  have := List.length_filter_le (fun t => (m t).isSome) (List.range n)
  unfold cnt
  simpa using this
theorem cnt_none (n : Nat) : cnt n (fun _ => (none : Option α)) = 0 := by simp [cnt]
theorem cnt_one {m : Nat → Option α} {i : Nat} (hi : ∀ t, (m t).isSome = true ↔ t = i) : ∀ n, cnt n m = if i < n then 1 else 0
  | 0 => by simp [cnt]
  | n + 1 => by
    rw [cnt_succ, cnt_one hi n]
    by_cases e : n = i
    · rw [if_neg (by omega), if_pos ((hi n).2 e), if_pos (by omega)]
    · have h : ¬ (m n).isSome = true := fun h => e ((hi n).1 h)
      rw [if_neg h]
      by_cases h2 : i < n
      · rw [if_pos h2, if_pos (by omega)]
      · rw [if_neg h2, if_neg (by omega)]
/-- What Set answers, and what it leaves. -/
def code (n : Nat) (t : Int) : Int := if 0 ≤ t ∧ t < (n : Int) then 0 else 1
def put (n : Nat) (m : Nat → Option α) (t : Int) (v : α) : Nat → Option α := if 0 ≤ t ∧ t < (n : Int) then upd m t.toNat (some v) else m

/-- The stamps st and the cells xs tell the map m; At: which thing lies at a place of the cells. -/
structure Rep (At : List Value → Nat → α → Prop) (n : Nat) (m : Nat → Option α) (xs : List Value) (st : List Nat) (now : Nat) : Prop where
  len : st.length = n
  lo : 1 ≤ now
  hi : now ≤ 255
  old : ∀ t, t < n → at0 st t ≤ now
  is : ∀ t, t < n → ∃ v, At xs t v ∧ m t = if at0 st t = now then some v else none
  out : ∀ t, n ≤ t → m t = none
variable {At : List Value → Nat → α → Prop} {n : Nat} {m : Nat → Option α} {xs xs' : List Value} {st : List Nat} {now : Nat}
theorem rep_new (n : Nat) {xs : List Value} (h : ∀ t, t < n → ∃ v, At xs t v) : Rep At n (fun _ => none) xs (List.replicate n 0) 1 where
  len := by simp
  lo := by decide
  hi := by decide
  old := fun t _ => by rw [at0_rep]; decide
  is := fun t ht => by
    obtain ⟨v, hv⟩ := h t ht
    exact ⟨v, hv, by rw [at0_rep, if_neg (by decide)]⟩
  out := fun _ _ => rfl
theorem Rep.put (h : Rep At n m xs st now) {k : Nat} (hk : k < n) {v : α} (h1 : At xs' k v) (h2 : ∀ t, t ≠ k → t < n → ∀ u, At xs t u → At xs' t u) : Rep At n (upd m k (some v)) xs' (st.set k now) now where
  len := by simpa using h.len
  lo := h.lo
  hi := h.hi
  old := fun t ht => by
    rw [at0_set _ _ _ _ (by rw [h.len]; exact hk)]
    split
    · exact Nat.le_refl _
    · exact h.old t ht
  is := fun t ht => by
    rw [at0_set _ _ _ _ (by rw [h.len]; exact hk)]
    unfold upd
    by_cases e : t = k
    · subst e
      exact ⟨v, h1, by simp⟩
    · obtain ⟨u, hu, hm⟩ := h.is t ht
      exact ⟨u, h2 t e ht u hu, by rw [if_neg e, if_neg e]; exact hm⟩
  out := fun t ht => by
    unfold upd
    rw [if_neg (by omega)]
    exact h.out t ht
theorem Rep.next (h : Rep At n m xs st now) (hn : now < 255) : Rep At n (fun _ => none) xs st (now + 1) where
  len := h.len
  lo := by omega
  hi := by omega
  old := fun t ht => by have := h.old t ht; omega
  is := fun t ht => by
    obtain ⟨u, hu, _⟩ := h.is t ht
    have := h.old t ht
    exact ⟨u, hu, by rw [if_neg (by omega)]⟩
  out := fun _ _ => rfl
theorem Rep.some (h : Rep At n m xs st now) {k : Nat} (hk : k < n) : (m k).isSome = decide (at0 st k = now) := by
  obtain ⟨v, _, hm⟩ := h.is k hk
  rw [hm]
  by_cases e : at0 st k = now <;> simp [e]
end
end SM
end Go.Proofs.Ytmamligiopbefaa
end

section
/-
  Rows of the program's, in memory: which blocks hold one, what a store into one of them does, what stays.
-/
namespace Go.Proofs.Ytmamligiopbefaa
open Go.RowKit

/-- A stamp. -/
def st8 (k : Nat) : Value := .int .u8 (k : Int)

/-- A row of the program's: its struct in block p, its things in bt (sz cells each), its stamps in bs. -/
structure SMem (e : TypeId) (sz : Nat) (w : World) (B p bt bs n : Nat) (xs : List Value) (st : List Nat) (now : Nat) : Prop where
  c0 : w.cell? ⟨p, 0, none⟩ = some (.slice (some ⟨bt, 0, none⟩) n n)
  c1 : w.cell? ⟨p, 1, none⟩ = some (.slice (some ⟨bs, 0, none⟩) n n)
  c2 : w.cell? ⟨p, 2, none⟩ = some (.int .u8 (now : Nat))
  fz : w.frozen? ⟨p, 2, none⟩ = false
  th : w.ownsRow B e sz (.slice (some ⟨bt, 0, none⟩) n n) n xs
  sp : w.ownsRow B 5 1 (.slice (some ⟨bs, 0, none⟩) n n) n (st.map st8)
  lo : B ≤ p
  n1 : p ≠ bt
  n2 : p ≠ bs
  n3 : bt ≠ bs
def sfoot (p bt bs : Nat) (b : Nat) : Prop := b = p ∨ b = bt ∨ b = bs
section
variable {e : TypeId} {sz : Nat} {w w' : World} {B p bt bs n : Nat} {xs : List Value} {st : List Nat} {now : Nat}
theorem SMem.lt (h : SMem e sz w B p bt bs n xs st now) : ∀ b, sfoot p bt bs b → B ≤ b ∧ b < w.heap.size := by
  rintro b (rfl | rfl | rfl)
  · exact ⟨h.lo, cell_lt h.c0⟩
  · exact World.ownsRow.lt h.th b rfl
  · exact World.ownsRow.lt h.sp b rfl
theorem SMem.len (h : SMem e sz w B p bt bs n xs st now) : st.length = n := by simpa using h.sp.1
theorem SMem.kept {G : Nat → Prop} (h : SMem e sz w B p bt bs n xs st now) (hk : Keeps G w w') (hG : ∀ b, sfoot p bt bs b → ¬ G b) : SMem e sz w' B p bt bs n xs st now where
  c0 := hk.cell h.c0 (hG p (.inl rfl))
  c1 := hk.cell h.c1 (hG p (.inl rfl))
  c2 := hk.cell h.c2 (hG p (.inl rfl))
  fz := (hk.frozen (p := ⟨p, 2, none⟩) (cell_lt h.c2) (hG p (.inl rfl))).trans h.fz
  th := hk.row h.th (fun g hg => by cases hg; exact hG bt (.inr (.inl rfl)))
  sp := hk.row h.sp (fun g hg => by cases hg; exact hG bs (.inr (.inr rfl)))
  lo := h.lo
  n1 := h.n1
  n2 := h.n2
  n3 := h.n3
theorem SMem.below (h : SMem e sz w B p bt bs n xs st now) (hb : Below w.heap.size w w') : SMem e sz w' B p bt bs n xs st now := h.kept (Below.keeps hb (fun _ => False)) (fun _ _ h => h)
theorem SMem.drewN (h : SMem e sz w B p bt bs n xs st now) (q : Nat) : SMem e sz (w.drewN q) B p bt bs n xs st now := ⟨h.c0, h.c1, h.c2, h.fz, h.th, h.sp, h.lo, h.n1, h.n2, h.n3⟩
theorem SMem.drew (h : SMem e sz w B p bt bs n xs st now) : SMem e sz w.drew B p bt bs n xs st now := ⟨h.c0, h.c1, h.c2, h.fz, h.th, h.sp, h.lo, h.n1, h.n2, h.n3⟩
theorem SMem.stamp (h : SMem e sz w B p bt bs n xs st now) {i : Nat} (hi : i < n) : w.cell? ⟨bs, i, none⟩ = some (.int .u8 (SM.at0 st i : Nat)) ∧ w.frozen? ⟨bs, i, none⟩ = false := by
  refine ⟨?_, World.ownsRow.frozenAt h.sp i⟩
  have hl := h.len
  rw [World.ownsRow.cellAt h.sp i (by omega)]
  simp [SM.at0, show i < st.length by omega, st8]
theorem SMem.thing (h : SMem e sz w B p bt bs n xs st now) {j : Nat} (hj : j < n * sz) : w.cell? ⟨bt, j, none⟩ = xs[j]? ∧ w.frozen? ⟨bt, j, none⟩ = false := ⟨World.ownsRow.cellAt h.th j hj, World.ownsRow.frozenAt h.th j⟩
theorem SMem.setStamp (h : SMem e sz w B p bt bs n xs st now) (i u : Nat) : SMem e sz (w.setCell ⟨bs, i, none⟩ (.int .u8 (u : Nat))) B p bt bs n xs (st.set i u) now := by
  have hk : Keeps (fun b => b = bs) w (w.setCell ⟨bs, i, none⟩ (.int .u8 (u : Nat))) := keeps_set _ _ _ _
  refine ⟨hk.cell h.c0 h.n2, hk.cell h.c1 h.n2, hk.cell h.c2 h.n2, (hk.frozen (p := ⟨p, 2, none⟩) (cell_lt h.c2) h.n2).trans h.fz, hk.row h.th (fun g hg => by cases hg; exact h.n3), ?_, h.lo, h.n1, h.n2, h.n3⟩
  rw [List.map_set]
  exact (World.ownsRow.stored h.sp i _).1
theorem SMem.setThing (h : SMem e sz w B p bt bs n xs st now) (j : Nat) (u : Value) : SMem e sz (w.setCell ⟨bt, j, none⟩ u) B p bt bs n (xs.set j u) st now := by
  have hk : Keeps (fun b => b = bt) w (w.setCell ⟨bt, j, none⟩ u) := keeps_set _ _ _ _
  exact ⟨hk.cell h.c0 h.n1, hk.cell h.c1 h.n1, hk.cell h.c2 h.n1, (hk.frozen (p := ⟨p, 2, none⟩) (cell_lt h.c2) h.n1).trans h.fz, (World.ownsRow.stored h.th j u).1, hk.row h.sp (fun g hg e => by cases hg; exact h.n3 e.symm), h.lo, h.n1, h.n2, h.n3⟩
theorem SMem.setNow (h : SMem e sz w B p bt bs n xs st now) (u : Nat) : SMem e sz (w.setCell ⟨p, 2, none⟩ (.int .u8 (u : Nat))) B p bt bs n xs st u := by
  have hk : Keeps (fun b => b = p) w (w.setCell ⟨p, 2, none⟩ (.int .u8 (u : Nat))) := keeps_set _ _ _ _
  refine ⟨?_, ?_, World.cell?_setCell_same _ _ _ h.c2, ?_, hk.row h.th (fun g hg e => by cases hg; exact h.n1 e.symm), hk.row h.sp (fun g hg e => by cases hg; exact h.n2 e.symm), h.lo, h.n1, h.n2, h.n3⟩
  · rw [World.cell?_setCell_other _ _ _ _ (by simp)]; exact h.c0
  · rw [World.cell?_setCell_other _ _ _ _ (by simp)]; exact h.c1
  · simp [h.fz]
theorem SMem.clearStamps (h : SMem e sz w B p bt bs n xs st now) : SMem e sz (w.setCells bs 0 (List.replicate (n * 1) (.int .u8 0))) B p bt bs n xs (List.replicate n 0) now := by
  have hk : Keeps (fun b => b = bs) w (w.setCells bs 0 (List.replicate (n * 1) (.int .u8 0))) := keeps_setCells _ _ _ _
  refine ⟨hk.cell h.c0 h.n2, hk.cell h.c1 h.n2, hk.cell h.c2 h.n2, (hk.frozen (p := ⟨p, 2, none⟩) (cell_lt h.c2) h.n2).trans h.fz, hk.row h.th (fun g hg => by cases hg; exact h.n3), ?_, h.lo, h.n1, h.n2, h.n3⟩
  have := row_cleared h.sp (.int .u8 0)
  simpa [st8] using this
theorem SMem.clearThings (h : SMem e sz w B p bt bs n xs st now) (z : Value) : SMem e sz (w.setCells bt 0 (List.replicate (n * sz) z)) B p bt bs n (List.replicate (n * sz) z) st now := by
  have hk : Keeps (fun b => b = bt) w (w.setCells bt 0 (List.replicate (n * sz) z)) := keeps_setCells _ _ _ _
  exact ⟨hk.cell h.c0 h.n1, hk.cell h.c1 h.n1, hk.cell h.c2 h.n1, (hk.frozen (p := ⟨p, 2, none⟩) (cell_lt h.c2) h.n1).trans h.fz, row_cleared h.th z, hk.row h.sp (fun g hg e => by cases hg; exact h.n3 e.symm), h.lo, h.n1, h.n2, h.n3⟩
/-- A row just made. -/
theorem smem_new {g c : Nat} {sty : TypeId} (h1 : w.ownsRow B e sz (.slice (some ⟨g, 0, none⟩) n n) n xs) (h2 : w.ownsRow B 5 1 (.slice (some ⟨c, 0, none⟩) n n) n ((List.replicate n 0).map st8)) (hgc : g ≠ c) (hB : B ≤ w.heap.size) {p : Nat} (hp : p = w.heap.size) :
    SMem e sz (w.alloc (.cells #[.slice (some ⟨g, 0, none⟩) n n, .slice (some ⟨c, 0, none⟩) n n, .int .u8 1] sty)) B p g c n xs (List.replicate n 0) 1 := by
  subst hp
  have l1 := (World.ownsRow.lt h1 g rfl).2
  have l2 := (World.ownsRow.lt h2 c rfl).2
  exact ⟨by simp, by simp, by simp, by simp, h1.alloc _, h2.alloc _, hB, by omega, by omega, hgc⟩
end
theorem made_stamps (w : World) (B n : Nat) (hB : B ≤ w.heap.size) (hn : n ≤ 64) : (w.alloc (.cells (madeCells #[.int .u8 0] n) 5)).ownsRow B 5 1 (.slice (some ⟨w.heap.size, 0, none⟩) n n) n ((List.replicate n 0).map st8) := by
  have h := World.ownsRow_lit (base := B) (e := 5) (size := 1) w (madeCells #[.int .u8 0] n) n hB (by unfold maxLen; omega) (by rw [size_madeCells]; omega)
  rw [toList_madeCells_one] at h
  simpa [st8] using h
/-- What Get answers. -/
def getT {α : Type} (enc : α → Value) (d : α) : Option α → Value
  | some v => .tuple #[enc v, .bool true]
  | none => .tuple #[enc d, .bool false]

theorem info8 : (Try.prog.info? 5).map (fun i => (i.zero, i.size, i.bytes)) = some (some (.int .u8 0), 1, 1) := by kernel_rfl
theorem infoI5 : (Try.prog.info? 3).map (fun i => (i.zero, i.size, i.bytes)) = some (some (.int .i64 0), 1, 8) := by kernel_rfl
theorem zero8 (w : World) : (zeroValue 5).run Try.prog w = .ok (.int .u8 0) w := by kernel_rfl
theorem zeroI5 (w : World) : (zeroValue 3).run Try.prog w = .ok (.int .i64 0) w := by kernel_rfl
end Go.Proofs.Ytmamligiopbefaa
end

section
/-
  The walks of package stamp's may, New, Set and Get, where things are marks of both's.
-/
namespace Go.Proofs.Ytmamligiopbefaa
namespace RK
open Go.RowKit

/-- At a place of the cells lies v, in two cells. -/
def At (xs : List Value) (t : Nat) (v : Int × Int) : Prop := xs[t * 2]? = some (.int .i64 v.1) ∧ xs[t * 2 + 1]? = some (.int .i64 v.2)
theorem at_put {n : Nat} {xs : List Value} (hl : xs.length = n * 2) {k : Nat} (hk : k < n) (a b : Int) : At ((xs.set (k * 2) (.int .i64 a)).set (k * 2 + 1) (.int .i64 b)) k (a, b) ∧ ∀ t, t ≠ k → t < n → ∀ u, At xs t u → At ((xs.set (k * 2) (.int .i64 a)).set (k * 2 + 1) (.int .i64 b)) t u := by
  refine ⟨⟨?_, ?_⟩, fun t ht _ u hu => ⟨?_, ?_⟩⟩
  · rw [List.getElem?_set, if_neg (by omega), List.getElem?_set, if_pos rfl, if_pos (by omega)]
  · rw [List.getElem?_set, if_pos rfl, if_pos (by rw [List.length_set]; omega)]
  · rw [List.getElem?_set, if_neg (by omega), List.getElem?_set, if_neg (by omega)]
    exact hu.1
  · rw [List.getElem?_set, if_neg (by omega), List.getElem?_set, if_neg (by omega)]
    exact hu.2
theorem at_zero {n t : Nat} (ht : t < n) : ∃ v, At (List.replicate (n * 2) (.int .i64 0)) t v := ⟨(0, 0), by rw [List.getElem?_replicate, if_pos (by omega)], by rw [List.getElem?_replicate, if_pos (by omega)]⟩

set_option maxHeartbeats 400000 in
theorem may_any {w : World} {B p bt bs n : Nat} {xs : List Value} {st : List Nat} {now : Nat} (h : SMem 89 2 w B p bt bs n xs st now) (t : Int) :
    Calls Try.prog 102 #[.pointer (some ⟨p, 0, none⟩), .int .i64 t] w fun e w' => e = .returned (.bool (decide (0 ≤ t ∧ t < (n : Int)))) ∧ w' = w := by
  have c1 := h.c1
  clear h
  by_cases h0 : 0 ≤ t
  · go_enter Try.func102, Try.ntmps102
    go_wp2_with fail
    go_ret
    exact ⟨ret_bool (by simp [h0]), rfl⟩
  · go_enter Try.func102, Try.ntmps102
    go_wp2_with fail
    go_ret
    exact ⟨ret_bool (by simp; omega), rfl⟩


theorem infoT : (Try.prog.info? 89).map (fun i => (i.zero, i.size, i.bytes)) = some (some (.agg #[.int .i64 0, .int .i64 0]), 2, 16) := by kernel_rfl
theorem zeroT (w : World) : (zeroValue 89).run Try.prog w = .ok (.agg #[.int .i64 0, .int .i64 0]) w := by kernel_rfl
theorem run_make_two (t e : TypeId) (z : Value) (bytes : Nat) (ht : Try.prog.underlying t = some (.slice e)) (hinfo : (Try.prog.info? e).map (fun i => (i.zero, i.size, i.bytes)) = some (some (.agg #[z, z]), 2, bytes))
    (kl kc : IntKind) (n : Nat) (hbytes : bytes * n ≤ 281474976710656) (h63 : n ≤ 9223372036854775807) (w : World) :
    (Instr.makeSlice t (.int kl (n : Int)) (.int kc (n : Int))).run Try.prog w = .ok (.slice (some ⟨w.heap.size, 0, none⟩) n n) (w.alloc (.cells (madeCells #[z, z] (n * 2)) e)) := by
  obtain ⟨i, hi, hzz⟩ := Option.map_eq_some_iff.1 hinfo
  simp only [Prod.mk.injEq] at hzz
  obtain ⟨hz, hs, hb⟩ := hzz
  have hb' : (i.bytes : Int) * (n : Int) ≤ 281474976710656 := by
    have h : ((i.bytes * n : Nat) : Int) ≤ 281474976710656 := by rw [hb]; omega
    rwa [Int.natCast_mul] at h
  have hr := run_make (P := Try.prog) w t e i _ ht hi hz kl kc n n (by omega) (Int.le_refl _) hb' (by omega)
  simp only [Int.toNat_natCast, hs] at hr
  exact hr
theorem made_things (w : World) (B n : Nat) (hB : B ≤ w.heap.size) (hn : n ≤ 64) : (w.alloc (.cells (madeCells #[.int .i64 0, .int .i64 0] (n * 2)) 89)).ownsRow B 89 2 (.slice (some ⟨w.heap.size, 0, none⟩) n n) n (List.replicate (n * 2) (.int .i64 0)) := by
  have h := World.ownsRow_lit (base := B) (e := 89) (size := 2) w (madeCells #[.int .i64 0, .int .i64 0] (n * 2)) n hB (by unfold maxLen; omega) (by rw [size_madeCells])
  rw [made_two] at h
  simpa using h

set_option maxHeartbeats 2000000 in
theorem new_any (n : Nat) (hn : n ≤ 64) (w : World) :
    Calls Try.prog 80 #[.int .i64 n] w fun e w' => ∃ p bt bs xs st now, e = .returned (.tuple #[.pointer (some ⟨p, 0, none⟩), .int .i64 0]) ∧
      SMem 89 2 w' w.heap.size p bt bs n xs st now ∧ SM.Rep At n (fun _ => none) xs st now ∧ Below w.heap.size w w' := by
  have hmk := run_make_two 139 89 (.int .i64 0) 16 Try.underlying139 infoT .i64 .i64 n (by omega) (by omega)
  have hmb := run_make_row' (P := Try.prog) 140 5 (.int .u8 0) 1 Try.underlying140 info8 rfl .i64 .i64 n (by omega) (by omega)
  have HR : Hid (SM.Rep At n (fun _ => none) (List.replicate (n * 2) (.int .i64 0)) (List.replicate n 0) 1) := SM.rep_new n (fun t ht => at_zero ht)
  go_enter Try.func80, Try.ntmps80
  go_wp2_with fail
  go_region
  all_goals (go_wp2_with fail; go_ret2)
  · have q2 := made_stamps (w.alloc (.cells (madeCells #[.int .i64 0, .int .i64 0] (n * 2)) 89)) w.heap.size n (by simp) hn
    rw [World.size_alloc] at q2
    exact ⟨_, w.heap.size, w.heap.size + 1, _, _, _, rfl, (smem_new ((made_things w w.heap.size n (Nat.le_refl _) hn).alloc _) q2 (by omega) (by simp; omega) (by simp)).drew, HR.out, ((((Below.refl _ w).alloc (Nat.le_refl _) _).alloc (by simp) _).alloc (by simp; omega) _).drew⟩
  · have q1 := made_things (w.alloc (.cells (madeCells #[.int .u8 0] n) 5)) w.heap.size n (by simp) hn
    rw [World.size_alloc] at q1
    exact ⟨_, w.heap.size + 1, w.heap.size, _, _, _, rfl, (smem_new q1 ((made_stamps w w.heap.size n (Nat.le_refl _) hn).alloc _) (by omega) (by simp; omega) (by simp)).drew, HR.out, ((((Below.refl _ w).alloc (Nat.le_refl _) _).alloc (by simp) _).alloc (by simp; omega) _).drew⟩

set_option maxHeartbeats 1000000 in
theorem set_in {w : World} {B p bt bs n : Nat} {xs : List Value} {st : List Nat} {now : Nat} (h : SMem 89 2 w B p bt bs n xs st now) {m : Nat → Option (Int × Int)} (hr : SM.Rep At n m xs st now) (_hn : n ≤ 64) (k : Nat) (hk : k < n) (a b : Int) :
    Calls Try.prog 82 #[.pointer (some ⟨p, 0, none⟩), .int .i64 k, .agg #[.int .i64 a, .int .i64 b]] w fun e w' => e = .returned (.int .i64 0) ∧
      ∃ xs' st', SMem 89 2 w' B p bt bs n xs' st' now ∧ SM.Rep At n (SM.upd m k (some (a, b))) xs' st' now ∧ Keeps (sfoot p bt bs) w w' := by
  have hb1 : Below w.heap.size w (w.alloc (.cells #[.int .i64 a, .int .i64 b] 89)) := (Below.refl _ _).alloc (Nat.le_refl _) _
  have h0 := h.below hb1
  have hm := may_any h0 k
  rw [decide_eq_true (by omega)] at hm
  have hsz : (w.alloc (.cells #[.int .i64 a, .int .i64 b] 89)).heap.size = w.heap.size + 1 := by simp
  have b0 : (w.alloc (.cells #[.int .i64 a, .int .i64 b] 89)).cell? ⟨w.heap.size, 0, none⟩ = some (.int .i64 a) := by simp
  have b1 : (w.alloc (.cells #[.int .i64 a, .int .i64 b] 89)).cell? ⟨w.heap.size, 1, none⟩ = some (.int .i64 b) := by simp
  have HK0 : Hid (Keeps (sfoot p bt bs) w (w.alloc (.cells #[.int .i64 a, .int .i64 b] 89))) := Below.keeps hb1 _
  go_enter Try.func82, Try.ntmps82
  go_wp2_with fail
  refine hm.mono ?_
  rintro e w' ⟨rfl, rfl⟩
  clear h hb1 hm
  generalize w.alloc (.cells #[.int .i64 a, .int .i64 b] 89) = w1 at *
  generalize w.heap.size = g at *
  have c0 := h0.c0
  have c1 := h0.c1
  have c2 := h0.c2
  have hxl : xs.length = n * 2 := h0.th.1
  obtain ⟨t1, f1⟩ := h0.thing (j := k * 2) (by omega)
  obtain ⟨x0, hx0⟩ : ∃ x0, xs[k * 2]? = some x0 := ⟨_, List.getElem?_eq_getElem (by omega)⟩
  rw [hx0] at t1
  have h2 := h0.setThing (k * 2) (.int .i64 a)
  obtain ⟨t2, f2⟩ := h2.thing (j := k * 2 + 1) (by omega)
  obtain ⟨x1, hx1⟩ : ∃ x1, (xs.set (k * 2) (.int .i64 a))[k * 2 + 1]? = some x1 := ⟨_, List.getElem?_eq_getElem (by rw [List.length_set]; omega)⟩
  rw [hx1] at t2
  have h3 := h2.setThing (k * 2 + 1) (.int .i64 b)
  obtain ⟨s1, g1⟩ := h3.stamp hk
  have H3 := h3.setStamp k now
  have ha := at_put hxl hk a b
  have HR : Hid (SM.Rep At n (SM.upd m k (some (a, b))) ((xs.set (k * 2) (.int .i64 a)).set (k * 2 + 1) (.int .i64 b)) (st.set k now) now) := hr.put hk ha.1 ha.2
  have n1 := h0.n1
  have n2 := h0.n2
  have n3 := h0.n3
  have g0 := (h0.stamp hk).2
  have f20 := (h0.thing (j := k * 2 + 1) (by omega)).2
  have kn : (k : Int) < (n : Int) := by omega
  have HH : Hid (SMem 89 2 (((w1.setCell ⟨bt, k * 2, none⟩ (.int .i64 a)).setCell ⟨bt, k * 2 + 1, none⟩ (.int .i64 b)).setCell ⟨bs, k, none⟩ (.int .u8 (now : Nat))) B p bt bs n ((xs.set (k * 2) (.int .i64 a)).set (k * 2 + 1) (.int .i64 b)) (st.set k now) now) := H3
  clear h0 h2 h3 H3 hr ha hxl hx0 hx1
  go_wp2_with fail
  go_region
  all_goals (go_wp2_with fail; go_ret)
  all_goals exact ⟨rfl, _, _, HH.out.drew, HR.out, (((HK0.out.setCell (p := ⟨bt, k * 2, none⟩) (.inl (.inr (.inl rfl))) _).setCell (p := ⟨bt, k * 2 + 1, none⟩) (.inl (.inr (.inl rfl))) _).setCell (p := ⟨bs, k, none⟩) (.inl (.inr (.inr rfl))) _).drew⟩

set_option maxHeartbeats 1000000 in
theorem get_in {w : World} {B p bt bs n : Nat} {xs : List Value} {st : List Nat} {now : Nat} (h : SMem 89 2 w B p bt bs n xs st now) {m : Nat → Option (Int × Int)} (hr : SM.Rep At n m xs st now) (k : Nat) (hk : k < n) (a b : Int) (hmk : m k = some (a, b)) :
    Calls Try.prog 86 #[.pointer (some ⟨p, 0, none⟩), .int .i64 k] w fun e w' => e = .returned (.tuple #[.agg #[.int .i64 a, .int .i64 b], .bool true]) ∧ Below w.heap.size w w' := by
  have hb1 : Below w.heap.size w (w.alloc (.cells #[.int .i64 0, .int .i64 0] 89)) := (Below.refl _ _).alloc (Nat.le_refl _) _
  have h0 := h.below hb1
  obtain ⟨v, hv, hm1⟩ := hr.is k hk
  have hs : SM.at0 st k = now ∧ v = (a, b) := by
    rw [hmk] at hm1
    split at hm1
    · exact ⟨by assumption, (Option.some.inj hm1).symm⟩
    · cases hm1
  obtain ⟨hs, rfl⟩ := hs
  have hm := fun q => may_any (h0.drewN q) (k : Int)
  rw [decide_eq_true (by omega)] at hm
  have HM0 : Hid (∀ q, Calls Try.prog 102 #[.pointer (some ⟨p, 0, none⟩), .int .i64 k] ((w.alloc (.cells #[.int .i64 0, .int .i64 0] 89)).drewN q) fun e w' => e = .returned (.bool true) ∧ w' = (w.alloc (.cells #[.int .i64 0, .int .i64 0] 89)).drewN q) := hm
  have c0 := h0.c0
  have c1 := h0.c1
  have c2 := h0.c2
  have s1 := (h0.stamp hk).1
  rw [hs] at s1
  have t1 := (h0.thing (j := k * 2) (by omega)).1
  rw [hv.1] at t1
  have t2 := (h0.thing (j := k * 2 + 1) (by omega)).1
  rw [hv.2] at t2
  have kn : (k : Int) < (n : Int) := by omega
  have b0 : (w.alloc (.cells #[.int .i64 0, .int .i64 0] 89)).cell? ⟨w.heap.size, 0, none⟩ = some (.int .i64 0) := by simp
  have b1 : (w.alloc (.cells #[.int .i64 0, .int .i64 0] 89)).cell? ⟨w.heap.size, 1, none⟩ = some (.int .i64 0) := by simp
  have f0 : (w.alloc (.cells #[.int .i64 0, .int .i64 0] 89)).frozen? ⟨w.heap.size, 0, none⟩ = false := by simp
  have f1 : (w.alloc (.cells #[.int .i64 0, .int .i64 0] 89)).frozen? ⟨w.heap.size, 1, none⟩ = false := by simp
  clear h h0 hr hv hm1 hmk hm hs
  go_enter Try.func86, Try.ntmps86
  go_wp2_with fail
  generalize w.alloc (.cells #[.int .i64 0, .int .i64 0] 89) = w1 at *
  go_quiet ((go_at_call 102; exact Calls.quiet_of_same (HM0.out _)))
  go_wp2_with fail
  have r1 : (((w1.drewN nq).setCell ⟨w.heap.size, 0, none⟩ (.int .i64 a)).setCell ⟨w.heap.size, 1, none⟩ (.int .i64 b)).cell? ⟨w.heap.size, 1, none⟩ = some (.int .i64 b) :=
    World.cell?_setCell_same' _ _ _ (by rw [World.cell?_setCell_other _ _ _ _ (by simp)]; exact Option.isSome_iff_exists.2 ⟨_, b1⟩)
  have r0 : (((w1.drewN nq).setCell ⟨w.heap.size, 0, none⟩ (.int .i64 a)).setCell ⟨w.heap.size, 1, none⟩ (.int .i64 b)).cell? ⟨w.heap.size, 0, none⟩ = some (.int .i64 a) := by
    rw [World.cell?_setCell_other _ _ _ _ (by simp)]
    exact World.cell?_setCell_same' _ _ _ (Option.isSome_iff_exists.2 ⟨_, b0⟩)
  have hbe : Below w.heap.size w (((w1.drewN nq).setCell ⟨w.heap.size, 0, none⟩ (.int .i64 a)).setCell ⟨w.heap.size, 1, none⟩ (.int .i64 b)) := ((below_drewN hb1 nq).setCell (p := ⟨w.heap.size, 0, none⟩) (Nat.le_refl _) _).setCell (p := ⟨w.heap.size, 1, none⟩) (Nat.le_refl _) _
  generalize ((w1.drewN nq).setCell ⟨w.heap.size, 0, none⟩ (.int .i64 a)).setCell ⟨w.heap.size, 1, none⟩ (.int .i64 b) = w2 at *
  refine bodyPost_ret (v := .tuple #[.agg #[.int .i64 a, .int .i64 b], .bool true]) ?_ rfl ⟨rfl, hbe⟩
  simp [results, Try.f86, go_sem, r0, r1]

set_option maxHeartbeats 1000000 in
theorem get_no {w : World} {B p bt bs n : Nat} {xs : List Value} {st : List Nat} {now : Nat} (h : SMem 89 2 w B p bt bs n xs st now) {m : Nat → Option (Int × Int)} (hr : SM.Rep At n m xs st now) (k : Nat) (hk : k < n) (hmk : m k = none) :
    Calls Try.prog 86 #[.pointer (some ⟨p, 0, none⟩), .int .i64 k] w fun e w' => e = .returned (.tuple #[.agg #[.int .i64 0, .int .i64 0], .bool false]) ∧ Below w.heap.size w w' := by
  have hb1 : Below w.heap.size w (w.alloc (.cells #[.int .i64 0, .int .i64 0] 89)) := (Below.refl _ _).alloc (Nat.le_refl _) _
  have h0 := h.below hb1
  obtain ⟨v, hv, hm1⟩ := hr.is k hk
  have hs : SM.at0 st k ≠ now := fun e => by
    rw [hmk, if_pos e] at hm1
    cases hm1
  have hm := fun q => may_any (h0.drewN q) (k : Int)
  rw [decide_eq_true (by omega)] at hm
  have HM0 : Hid (∀ q, Calls Try.prog 102 #[.pointer (some ⟨p, 0, none⟩), .int .i64 k] ((w.alloc (.cells #[.int .i64 0, .int .i64 0] 89)).drewN q) fun e w' => e = .returned (.bool true) ∧ w' = (w.alloc (.cells #[.int .i64 0, .int .i64 0] 89)).drewN q) := hm
  have c1 := h0.c1
  have c2 := h0.c2
  have s1 := (h0.stamp hk).1
  generalize SM.at0 st k = s at *
  have e' : ((s : Int) != (now : Int)) = true := by simp; omega
  have kn : (k : Int) < (n : Int) := by omega
  have b0 : (w.alloc (.cells #[.int .i64 0, .int .i64 0] 89)).cell? ⟨w.heap.size, 0, none⟩ = some (.int .i64 0) := by simp
  have b1 : (w.alloc (.cells #[.int .i64 0, .int .i64 0] 89)).cell? ⟨w.heap.size, 1, none⟩ = some (.int .i64 0) := by simp
  have f0 : (w.alloc (.cells #[.int .i64 0, .int .i64 0] 89)).frozen? ⟨w.heap.size, 0, none⟩ = false := by simp
  have f1 : (w.alloc (.cells #[.int .i64 0, .int .i64 0] 89)).frozen? ⟨w.heap.size, 1, none⟩ = false := by simp
  clear h h0 hr hv hm1 hmk hm hs
  go_enter Try.func86, Try.ntmps86
  go_wp2_with fail
  have hsz : w.heap.size < (w.alloc (.cells #[.int .i64 0, .int .i64 0] 89)).heap.size := by simp
  generalize w.alloc (.cells #[.int .i64 0, .int .i64 0] 89) = w1 at *
  go_quiet ((go_at_call 102; exact Calls.quiet_of_same (HM0.out _)))
  have hbq : Below w.heap.size w (w1.drewN nq) := below_drewN hb1 _
  have b0' : (w1.drewN nq).cell? ⟨w.heap.size, 0, none⟩ = some (.int .i64 0) := b0
  have b1' : (w1.drewN nq).cell? ⟨w.heap.size, 1, none⟩ = some (.int .i64 0) := b1
  have f0' : (w1.drewN nq).frozen? ⟨w.heap.size, 0, none⟩ = false := f0
  have f1' : (w1.drewN nq).frozen? ⟨w.heap.size, 1, none⟩ = false := f1
  have hsz' : w.heap.size < (w1.drewN nq).heap.size := hsz
  clear b0 b1 f0 f1 hsz c1 c2 s1 hb1 HM0
  generalize w1.drewN nq = w2 at *
  have HBQ : Hid (Below w.heap.size w w2) := hbq
  go_wp2_with fail
  have r1 : ((w2.setCell ⟨w.heap.size, 0, none⟩ (.int .i64 0)).setCell ⟨w.heap.size, 1, none⟩ (.int .i64 0)).cell? ⟨w.heap.size, 1, none⟩ = some (.int .i64 0) :=
    World.cell?_setCell_same' _ _ _ (by rw [World.cell?_setCell_other _ _ _ _ (by simp)]; exact Option.isSome_iff_exists.2 ⟨_, b1'⟩)
  have r0 : ((w2.setCell ⟨w.heap.size, 0, none⟩ (.int .i64 0)).setCell ⟨w.heap.size, 1, none⟩ (.int .i64 0)).cell? ⟨w.heap.size, 0, none⟩ = some (.int .i64 0) := by
    rw [World.cell?_setCell_other _ _ _ _ (by simp)]
    exact World.cell?_setCell_same' _ _ _ (Option.isSome_iff_exists.2 ⟨_, b0'⟩)
  have hb3 : Below w.heap.size w ((w2.setCell ⟨w.heap.size, 0, none⟩ (.int .i64 0)).setCell ⟨w.heap.size, 1, none⟩ (.int .i64 0)) := (HBQ.out.setCell (p := ⟨w.heap.size, 0, none⟩) (Nat.le_refl _) _).setCell (p := ⟨w.heap.size, 1, none⟩) (Nat.le_refl _) _
  generalize (w2.setCell ⟨w.heap.size, 0, none⟩ (.int .i64 0)).setCell ⟨w.heap.size, 1, none⟩ (.int .i64 0) = w3 at *
  have ha : Below w3.heap.size w3 (w3.alloc (.cells #[.int .i64 0, .int .i64 0] 89)) := (Below.refl _ _).alloc (Nat.le_refl _) _
  have r1' := (ha.cell (p := ⟨w.heap.size, 1, none⟩) (cell_lt r1)).trans r1
  have r0' := (ha.cell (p := ⟨w.heap.size, 0, none⟩) (cell_lt r0)).trans r0
  have hbe := hb3.trans (ha.mono hb3.size)
  generalize w3.alloc (.cells #[.int .i64 0, .int .i64 0] 89) = w4 at *
  refine bodyPost_ret (v := .tuple #[.agg #[.int .i64 0, .int .i64 0], .bool false]) ?_ rfl ⟨rfl, hbe⟩
  simp [results, Try.f86, go_sem, r0', r1']
end RK
end Go.Proofs.Ytmamligiopbefaa
end
