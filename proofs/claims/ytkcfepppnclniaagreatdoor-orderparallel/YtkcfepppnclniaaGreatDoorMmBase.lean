/-
  Base, Mem.
-/
import Derived.Test.YtkcfepppnclniaaGreatDoorChecked
import Derived.WalkKit
import Derived.WalkSpells
import Derived.WalkLawsBesides
import Derived.Below
import Derived.Deep.Light
import Derived.OpenShut
import Derived.Laws.AppendOwnNone
import Derived.Deep.RegionLaw
import Derived.Laws.IdiomCopy
import Derived.Lib.SliceRun
section
/-
  Rows of integers in memory: what lies under a slice value, what the call itself made. Nothing of any law.
-/
namespace Go.Proofs.YtkcfepppnclniaaGreatDoor
open Go.RowKit

theorem ret_int {k : IntKind} {a b : Int} (h : a = b) : Ending.returned (.int k a) = .returned (.int k b) := by rw [h]
theorem ret_bool {a b : Bool} (h : a = b) : Ending.returned (.bool a) = .returned (.bool b) := by rw [h]

/-- Under the slice of that address, that capacity, the numbers zs lie. -/
def RowAt (k : IntKind) (w : World) (a : Option Addr) (cap : Nat) (zs : List Int) : Prop :=
  zs.length ≤ cap ∧ cap ≤ maxLen ∧ (a = none → cap = 0) ∧ (0 < zs.length → ∃ b o, a = some ⟨b, o, none⟩ ∧ ∀ i, i < zs.length → w.cell? ⟨b, o + i, none⟩ = some (.int k (zs[i]?.getD 0)))
/-- The value is a slice under which the numbers zs lie. -/
def Row (k : IntKind) (w : World) (v : Value) (zs : List Int) : Prop := ∃ a cap, v = .slice a zs.length cap ∧ RowAt k w a cap zs
/-- A row of the call's own, from block base on. -/
def Own (k : IntKind) (e : TypeId) (w : World) (base : Nat) (v : Value) (zs : List Int) : Prop := w.ownsRow base e 1 v zs.length (zs.map (Value.int k))

theorem Row.nil (k : IntKind) (w : World) : Row k w (.slice none 0 0) [] := ⟨none, 0, rfl, Nat.le_refl _, by simp [maxLen], fun _ => rfl, fun h => by simp at h⟩

theorem cell_lt {w : World} {p : Addr} {v : Value} (h : w.cell? p = some v) : p.block < w.heap.size := by
  rcases Nat.lt_or_ge p.block w.heap.size with h' | h'
  · exact h'
  · simp [World.cell?, Array.getElem?_eq_none h'] at h

theorem RowAt.below {k : IntKind} {w w' : World} {a : Option Addr} {cap : Nat} {zs : List Int} (h : RowAt k w a cap zs) (hb : Below w.heap.size w w') : RowAt k w' a cap zs := by
  obtain ⟨h1, h2, h3, h4⟩ := h
  refine ⟨h1, h2, h3, fun hp => ?_⟩
  obtain ⟨b, o, rfl, hc⟩ := h4 hp
  refine ⟨b, o, rfl, fun i hi => ?_⟩
  rw [hb.cell (by dsimp only; exact cell_lt (hc i hi))]; exact hc i hi
theorem Row.below {k : IntKind} {w w' : World} {v : Value} {zs : List Int} (h : Row k w v zs) (hb : Below w.heap.size w w') : Row k w' v zs := by
  obtain ⟨a, cap, rfl, h⟩ := h
  exact ⟨a, cap, rfl, h.below hb⟩

theorem Own.row {k : IntKind} {e : TypeId} {w : World} {base : Nat} {v : Value} {zs : List Int} (h : Own k e w base v zs) : Row k w v zs := by
  rcases h.2 with ⟨rfl, hn⟩ | ⟨g, cap, cur, rfl, hb, hg, hnc, hcm, hcs, htake⟩
  · obtain rfl := List.eq_nil_of_length_eq_zero hn
    exact Row.nil _ _
  · refine ⟨_, cap, rfl, hnc, hcm, (fun h => by cases h), fun _ => ⟨g, 0, rfl, fun i hi => ?_⟩⟩
    have := World.ownsRow.cells h (g := g) rfl i (.int k (zs[i]?.getD 0)) (by simp [hi])
    rwa [Addr.add_lit] at this
theorem Own.nil (k : IntKind) (e : TypeId) (w : World) (base : Nat) : Own k e w base (.slice none 0 0) [] := World.ownsRow_nil _ _ _ _
theorem Own.base_le {k : IntKind} {e : TypeId} {w : World} {base base' : Nat} {v : Value} {zs : List Int} (h : Own k e w base v zs) (hb : base' ≤ base) : Own k e w base' v zs := by
  refine ⟨h.1, ?_⟩
  rcases h.2 with h' | ⟨g, cap, cur, hv, hg, r⟩
  · exact .inl h'
  · exact .inr ⟨g, cap, cur, hv, Nat.le_trans hb hg, r⟩
theorem Own.below {k : IntKind} {e : TypeId} {w w' : World} {base : Nat} {v : Value} {zs : List Int} (h : Own k e w base v zs) (hb : Below w.heap.size w w') : Own k e w' base v zs := by
  refine ⟨h.1, ?_⟩
  rcases h.2 with h' | ⟨g, cap, cur, hv, hg, hgg, r⟩
  · exact .inl h'
  · exact .inr ⟨g, cap, cur, hv, hg, by rw [hb.block g (Array.getElem?_eq_some_iff.1 hgg).1]; exact hgg, r⟩

/-- What an append of a row asks of its source. -/
theorem RowAt.empty {k : IntKind} {w : World} {a : Option Addr} {cap : Nat} {zs : List Int} (h : RowAt k w a cap zs) : a = .none → zs.length = 0 ∧ cap = 0 := by
  intro ha
  have := h.2.2.1 ha
  have := h.1
  omega
theorem RowAt.cells {k : IntKind} {w : World} {a : Option Addr} {cap : Nat} {zs : List Int} (h : RowAt k w a cap zs) : ∀ ad, a = some ad → ∀ j u, (zs.map (Value.int k))[j]? = some u → w.cell? (ad.add j) = some u := by
  intro ad ha j u hu
  have hj : j < zs.length := by
    have := (List.getElem?_eq_some_iff.1 hu).1
    simpa using this
  obtain ⟨b, o, h1, hc⟩ := h.2.2.2 (by omega)
  rw [ha] at h1
  obtain rfl := Option.some.inj h1
  rw [Addr.add_lit, hc j hj]
  simp [hj] at hu
  simp [hj, hu]
theorem cell_new1 (w : World) (x : Value) (t : TypeId) : ∀ j u, [x][j]? = some u → (w.alloc (.cells #[x] t)).cell? ((⟨w.heap.size, 0, none⟩ : Addr).add j) = some u := by
  intro j u hj
  match j, hj with
  | 0, hj => simp at hj; subst hj; simp [Addr.add]

/-- What the walk is told of a slice of integers that came in: all of its numbers, up to the capacity. -/
theorem row_of_open {k : IntKind} {w : World} {x : Addr} {len cap : Nat} {zs : List Int} (hl : len ≤ cap) (hm : cap ≤ maxLen) (hz : zs.length = cap)
    (hc : ∀ i, i < zs.length → w.cell? (x.add i) = some (.int k (zs.getD i 0))) : Row k w (.slice (some x) len cap) (zs.take len) := by
  have hlen : (zs.take len).length = len := by rw [List.length_take]; omega
  refine ⟨some x, cap, by rw [hlen], by omega, hm, (fun h => by cases h), fun hp => ?_⟩
  rw [hlen] at hp
  obtain ⟨bb, oo, rfl, hcc⟩ := ints_at hc (by omega)
  refine ⟨bb, oo, rfl, fun i hi => ?_⟩
  rw [hlen] at hi
  rw [hcc i (by omega), List.getElem?_take_of_lt hi]; simp
/-- What is left of a row behind its first ones; its first ones. -/
theorem RowAt.drop_end {k : IntKind} {w : World} {a : Option Addr} {cap : Nat} {zs : List Int} (h : RowAt k w a cap zs) {n : Nat} (hn : cap = n) : Row k w (.slice a (zs.length - n) 0) (zs.drop n) := by
  have h1 := h.1
  have e : zs.drop n = [] := List.drop_eq_nil_of_le (by omega)
  rw [e, show zs.length - n = 0 by omega]
  exact ⟨a, 0, rfl, Nat.le_refl _, by simp [maxLen], fun _ => rfl, fun h => by simp at h⟩
theorem RowAt.drop {k : IntKind} {w : World} {a : Option Addr} {cap : Nat} {zs : List Int} (h : RowAt k w a cap zs) {n : Nat} (hn : n ≤ zs.length) (_hne : ¬ cap = n) : Row k w (.slice (Option.map (fun x => x.add n) a) (zs.length - n) (cap - n)) (zs.drop n) := by
  obtain ⟨h1, h2, h3, h4⟩ := h
  refine ⟨_, _, by rw [List.length_drop], by rw [List.length_drop]; omega, by omega, ?_, fun hp => ?_⟩
  · intro ha
    cases a with
    | none => have := h3 rfl; omega
    | some x => cases ha
  · rw [List.length_drop] at hp
    obtain ⟨b, o, rfl, hc⟩ := h4 (by omega)
    refine ⟨b, o + n, by simp [Addr.add_lit], fun i hi => ?_⟩
    rw [List.length_drop] at hi
    rw [Nat.add_assoc, hc (n + i) (by omega), List.getElem?_drop]
theorem RowAt.take {k : IntKind} {w : World} {a : Option Addr} {cap : Nat} {zs : List Int} (h : RowAt k w a cap zs) {n : Nat} (hn : n ≤ zs.length) : Row k w (.slice a n cap) (zs.take n) := by
  obtain ⟨h1, h2, h3, h4⟩ := h
  have hl : (zs.take n).length = n := by rw [List.length_take]; omega
  refine ⟨a, cap, by rw [hl], by omega, h2, h3, fun hp => ?_⟩
  obtain ⟨b, o, rfl, hc⟩ := h4 (by omega)
  refine ⟨b, o, rfl, fun i hi => ?_⟩
  rw [hc i (by omega), List.getElem?_take_of_lt (by omega)]
/-- 'append(s, x...)', s a row of the call's own, x any row: nil, empty or not. -/
theorem wpList_append_row {P : Program} (w : World) {ops : Array Oper} {rest : List Oper} {o : Oper} {a : Act} {Q : Exit → Act → World → Prop} (hgd : o.guard = none) (s x : Operand) (t : TypeId)
    (ho : o.op = .call { callee := .builtin .append, args := #[s, x], argTypes := #[t, t] })
    (k : IntKind) (base : Nat) (e : TypeId) (i : TypeInfo) (bytes : Nat) (ht : P.underlying t = some (.slice e)) (hi : P.info? e = some i) (hz : i.zero = some (.int k 0)) (hsize : i.size = 1) (hby : i.bytes = bytes)
    (v : Value) (xs : List Int) (hs : a.eval s = v) (hown : Own k e w base v xs)
    (ao : Option Addr) (m c : Nat) (ys : List Int) (hx : a.eval x = .slice ao m c) (hm : m = ys.length) (hsrc : RowAt k w ao c ys)
    (h63 : xs.length + ys.length ≤ maxLen) (hbytes : (xs.length + ys.length) * bytes ≤ 140737488355328) (hbase : base ≤ w.heap.size)
    (h : ∀ v' w', Own k e w' base v' (xs ++ ys) → w.grownBy w' v.ownBlock → (v' = .slice none 0 0 → v = .slice none 0 0) → wpList P ops Q rest (a.put o.dst v') w') : wpList P ops Q (o :: rest) a w := by
  subst hm
  cases ao with
  | none =>
    obtain ⟨h0, rfl⟩ := hsrc.empty rfl
    obtain rfl := List.eq_nil_of_length_eq_zero h0
    exact wpList_append_own_none hgd s x t ho base e i 1 ht hi v xs.length (xs.map (Value.int k)) hs hown hx (h v w (by simpa using hown) (World.grownBy.refl _ _) id)
  | some ad =>
    refine wpList_append_own w hgd s x t ho base e i (.int k 0) 1 bytes ht hi hz hsize hby rfl (by decide) v xs.length _ hs hown ad ys.length c (ys.map (Value.int k)) hx (by simp) (hsrc.cells ad rfl) (ints_oneCell _ _) h63 hbytes hbase ?_
    intro v' w' h1 h2 h3
    refine h v' w' ?_ h2 (fun e => (h3.1 e).1)
    unfold Own
    rw [List.length_append, List.map_append]
    exact h1
theorem Own.alloc {k : IntKind} {e : TypeId} {w : World} {base : Nat} {v : Value} {zs : List Int} (h : Own k e w base v zs) (o : Obj) : Own k e (w.alloc o) base v zs := World.ownsRow.alloc h o
theorem Own.drew {k : IntKind} {e : TypeId} {w : World} {base : Nat} {v : Value} {zs : List Int} (h : Own k e w base v zs) : Own k e w.drew base v zs := h
/-- A row just laid, written out. -/
theorem Own.lit (k : IntKind) (e : TypeId) (w : World) (base : Nat) (hb : base ≤ w.heap.size) (zs : List Int) (cs : Array Value) (n : Nat) (hcs : cs = (zs.map (Value.int k)).toArray) (hn : n = zs.length) (hm : n ≤ maxLen) :
    Own k e (w.alloc (.cells cs e)) base (.slice (some ⟨w.heap.size, 0, none⟩) n n) zs := by
  subst hcs hn
  have := World.ownsRow_lit (base := base) (e := e) (size := 1) w (zs.map (Value.int k)).toArray zs.length hb hm (by simp)
  simpa [Own] using this
/-- An owned row's value is nil, or the head of a block from base on. -/
theorem Own.shape {k : IntKind} {e : TypeId} {w : World} {base : Nat} {v : Value} {zs : List Int} (h : Own k e w base v zs) : (v = .slice none 0 0 ∧ zs = []) ∨ ∃ g cap, v = .slice (some ⟨g, 0, none⟩) zs.length cap ∧ base ≤ g ∧ g < w.heap.size := by
  rcases h.2 with ⟨rfl, hn⟩ | ⟨g, cap, cur, rfl, hb, hg, _⟩
  · exact .inl ⟨rfl, List.eq_nil_of_length_eq_zero hn⟩
  · exact .inr ⟨g, cap, rfl, hb, (Array.getElem?_eq_some_iff.1 hg).1⟩
theorem Own.at {k : IntKind} {e : TypeId} {w : World} {base : Nat} {v : Value} {zs : List Int} (h : Own k e w base v zs) : ∃ ao cap, v = .slice ao zs.length cap ∧ RowAt k w ao cap zs := h.row
/-- The block that an append may write is one of the call's own. -/
theorem Own.block {k : IntKind} {e : TypeId} {w : World} {base : Nat} {v : Value} {zs : List Int} (h : Own k e w base v zs) : ∀ g, v.ownBlock = some g → base ≤ g := fun g hg => (World.ownsRow.lt h g hg).1
/-- 'append' onto a row of the call's own within its capacity, as one step of a region that draws its order. -/
theorem step_append_fits {P : Program} {ops : Array Oper} {o : Oper} {a : Act} {w : World} {K : Act → World → Prop} {Q : Exit → Act → World → Prop} {E : Prop}
    (hg : o.guard = none) (s x : Operand) (t : TypeId) (hop : o.op = Op.call { callee := Callee.builtin Builtin.append, args := #[s, x], argTypes := #[t, t] })
    (base : Nat) (e : TypeId) (i : TypeInfo) (size : Nat) (h1 : P.underlying t = some (.slice e)) (h2 : P.info? e = some i) (h4 : i.size = size)
    (g k cap : Nat) (xs : List Value) (hs : a.eval s = .slice (some ⟨g, 0, none⟩) k cap) (hown : w.ownsRow base e size (.slice (some ⟨g, 0, none⟩) k cap) k xs) (ad : Addr) (m c : Nat) (news : List Value) (hx : a.eval x = .slice (some ad) m c) (hn : news.length = m * size)
    (hc : ∀ j u, news[j]? = some u → w.cell? (ad.add j) = some u) (h1c : ∀ u ∈ news, u.oneCell' = true) (b1 : k + m ≤ cap)
    (hK : ∀ w', w'.ownsRow base e size (.slice (some ⟨g, 0, none⟩) (k + m) cap) (k + m) (xs ++ news) → w.grownBy w' (some g) → K (a.put o.dst (.slice (some ⟨g, 0, none⟩) (k + m) cap)) w') :
    if Region.wanted o (yielded ops a.tmps) = true then Oper.wp P o a w K Q else E := by
  have hw : Region.wanted o (yielded ops a.tmps) = true := by simp [Region.wanted, hg]
  rw [if_pos hw]
  obtain ⟨w', hrun, r1, r2⟩ := run_append_fits (P := P) w base t o.type e i size h1 h2 h4 g k cap xs hown ad m c news hn hc h1c b1
  unfold Oper.wp
  simp [execOp, hop, resolve, invoke, builtin, hs, hx, hrun, Result.andThen]
  exact hK w' r1 r2
theorem cell_new2 (w : World) (x y : Value) (t : TypeId) : ∀ j u, [x, y][j]? = some u → (w.alloc (.cells #[x, y] t)).cell? ((⟨w.heap.size, 0, none⟩ : Addr).add j) = some u := by
  intro j u hj
  match j, hj with
  | 0, hj => simp at hj; subst hj; simp [Addr.add]
  | 1, hj => simp at hj; subst hj; simp [Addr.add]
/-- A row of bytes as a string. -/
theorem Row.string {P : Program} {w : World} {v : Value} {zs : List Int} (h : Row .u8 w v zs) (src e dst : TypeId) (hs : P.underlying src = some (.slice e)) (he : P.underlying e = some (.int .u8)) (hd : P.underlying dst = some .string) :
    (convert src dst v).run P w = .ok (.string (strOfNums zs)) w := by
  obtain ⟨a, cap, rfl, h1, h2, h3, h4⟩ := h
  rcases Nat.eq_zero_or_pos zs.length with h0 | hp
  · obtain rfl := List.eq_nil_of_length_eq_zero h0
    cases a with
    | none => exact run_convert_bytes_nil w src e hs he _ _ dst hd
    | some ad =>
      rw [run_convert_bytes_string w src dst e _ _ _ hs he hd]
      exact run_bytesToString w ad 0 cap [] (run_loadCells_list (P := P) w ad [] (fun j v hj => by simp at hj))
  · obtain ⟨b, o, rfl, hc⟩ := h4 hp
    exact run_convert_bytes_arg w src e hs he b o zs.length cap zs rfl (fun i hi => by rw [hc i hi, List.getD_eq_getElem?_getD]) dst hd
theorem made_zeros (k : IntKind) (n : Nat) : (madeCells #[Value.int k 0] n).toList = (List.replicate n (0 : Int)).map (Value.int k) := by rw [toList_madeCells_one]; simp
/-- A store into a row of the call's own. -/
theorem Own.stored {k : IntKind} {e : TypeId} {w : World} {base g cap n : Nat} {zs : List Int} (hn : n = zs.length) (h : Own k e w base (.slice (some ⟨g, 0, none⟩) n cap) zs) (j : Nat) (u : Int) :
    Own k e (w.setCell ⟨g, j, none⟩ (.int k u)) base (.slice (some ⟨g, 0, none⟩) n cap) (zs.set j u) ∧ w.grownBy (w.setCell ⟨g, j, none⟩ (.int k u)) (some g) := by
  subst hn
  have := World.ownsRow.stored (w := w) (base := base) (e := e) (size := 1) (g := g) (cap := cap) h j (.int k u)
  refine ⟨?_, this.2⟩
  unfold Own
  rw [List.length_set, List.map_set]
  exact this.1
theorem Own.cell {k : IntKind} {e : TypeId} {w : World} {base g cap n : Nat} {zs : List Int} (hn : n = zs.length) (h : Own k e w base (.slice (some ⟨g, 0, none⟩) n cap) zs) (j : Nat) (hj : j < n) : w.cell? ⟨g, j, none⟩ = some (.int k (zs[j]?.getD 0)) ∧ w.frozen? ⟨g, j, none⟩ = false := by
  subst hn
  refine ⟨?_, World.ownsRow.frozenAt (size := 1) h j⟩
  rw [World.ownsRow.cellAt (size := 1) h j (by omega)]
  simp [hj]
theorem iter_setCell (w : World) (s : ByteArray) (p : Nat) (b o : Nat) (v : Value) (h : b < w.heap.size) : (w.iter s p).setCell ⟨b, o, none⟩ v = (w.setCell ⟨b, o, none⟩ v).iter s p :=
  World.setCell_alloc_past (w := w) (.stringIter s p) b o v h
theorem iter_cell (w : World) (s : ByteArray) (p : Nat) (a : Addr) (h : a.block < w.heap.size) : (w.iter s p).cell? a = w.cell? a ∧ (w.iter s p).frozen? a = w.frozen? a := by
  have e : (w.iter s p).heap[a.block]? = w.heap[a.block]? := by
    simp only [World.iter]
    show (w.heap.push _)[a.block]? = _
    rw [Array.getElem?_push, if_neg (by omega)]
  exact ⟨World.cell?_of_block e, World.frozen?_of_block e⟩
theorem below_iter {B : Nat} {a w : World} (h : Below B a w) (hB : B ≤ w.heap.size) (s : ByteArray) (p : Nat) : Below B a (w.iter s p) := h.alloc hB _
theorem Own.iter {k : IntKind} {e : TypeId} {w : World} {base : Nat} {v : Value} {zs : List Int} (h : Own k e w base v zs) (s : ByteArray) (p : Nat) : Own k e (w.iter s p) base v zs := h.alloc _
theorem setCell_size (w : World) (a : Addr) (v : Value) : (w.setCell a v).heap.size = w.heap.size := by simp [World.setCell]
theorem iterPos_at {w : World} {n : Nat} (h : w.heap.size = n) (s : ByteArray) (p : Nat) : (w.iter s p).iterPos n = p := by subst h; simp
/-- One number, just laid. -/
theorem rowAt_lit1 (k : IntKind) (w : World) (x : Int) (t : TypeId) : RowAt k (w.alloc (.cells #[.int k x] t)) (some ⟨w.heap.size, 0, none⟩) 1 [x] :=
  ⟨Nat.le_refl _, by simp [maxLen], (fun h => by cases h), fun _ => ⟨w.heap.size, 0, rfl, fun i hi => by
    match i, hi with
    | 0, _ => simp⟩⟩
theorem below_of_drew {B : Nat} {w w' : World} (h : Below B w.drew w') : Below B w w' := ⟨h.os, h.tape, h.output, h.size, h.block⟩
theorem Row.drew {k : IntKind} {w : World} {v : Value} {zs : List Int} (h : Row k w v zs) : Row k w.drew v zs := h
end Go.Proofs.YtkcfepppnclniaaGreatDoor
end

section
/-
  What stays in memory behind a call, block by block; rows that are cleared. Nothing of any law.
-/
namespace Go.Proofs.YtkcfepppnclniaaGreatDoor
open Go.RowKit

/-- All that lay in w but for the blocks of F lies in w' as it did. -/
structure Keeps (F : Nat → Prop) (w w' : World) : Prop where
  os : w'.os = w.os
  tape : w'.tape = w.tape
  output : w'.output = w.output
  size : w.heap.size ≤ w'.heap.size
  block : ∀ k, k < w.heap.size → ¬ F k → w'.heap[k]? = w.heap[k]?
theorem Keeps.refl (F : Nat → Prop) (w : World) : Keeps F w w := ⟨rfl, rfl, rfl, Nat.le_refl _, fun _ _ _ => rfl⟩
theorem Keeps.trans {F G : Nat → Prop} {a b c : World} (h : Keeps F a b) (k : Keeps G b c) (hG : ∀ x, G x → F x ∨ a.heap.size ≤ x) : Keeps F a c :=
  ⟨k.os.trans h.os, k.tape.trans h.tape, k.output.trans h.output, Nat.le_trans h.size k.size, fun i hi hn => by
    rw [k.block i (Nat.lt_of_lt_of_le hi h.size) (fun hg => by rcases hG i hg with h1 | h1; exact hn h1; omega)]
    exact h.block i hi hn⟩
theorem Keeps.below {F : Nat → Prop} {w w' : World} {B : Nat} (h : Keeps F w w') (hF : ∀ b, F b → B ≤ b) (hB : B ≤ w.heap.size) : Below B w w' :=
  ⟨h.os, h.tape, h.output, h.size, fun k hk => h.block k (by omega) (fun hf => by have := hF k hf; omega)⟩
theorem Keeps.drew {F : Nat → Prop} {a w : World} (h : Keeps F a w) : Keeps F a w.drew := ⟨h.os, h.tape, h.output, h.size, h.block⟩
theorem Keeps.drewN {F : Nat → Prop} {a w : World} {q : Nat} (h : Keeps F a w) : Keeps F a (w.drewN q) := ⟨h.os, h.tape, h.output, h.size, h.block⟩
theorem Keeps.alloc {F : Nat → Prop} {a w : World} (h : Keeps F a w) (o : Obj) : Keeps F a (w.alloc o) :=
  h.trans (G := fun _ => False) ⟨rfl, rfl, rfl, by simp, fun k hk _ => Below.heap_alloc _ _ _ hk⟩ (fun _ h => h.elim)
theorem Keeps.setCell {F : Nat → Prop} {a w : World} (h : Keeps F a w) {p : Addr} (hp : F p.block ∨ a.heap.size ≤ p.block) (u : Value) : Keeps F a (w.setCell p u) :=
  h.trans (G := fun b => b = p.block) ⟨rfl, rfl, rfl, by simp [World.setCell], fun k _ hn => Below.heap_setCell _ _ _ _ hn⟩ (fun x hx => by subst hx; exact hp)
theorem Keeps.grown {F : Nat → Prop} {a w w' : World} {row : Option Nat} (h : Keeps F a w) (hg : w.grownBy w' row) (hr : ∀ k, row = some k → F k ∨ a.heap.size ≤ k) : Keeps F a w' :=
  h.trans (G := fun b => row = some b) ⟨hg.os, hg.tape, hg.output, hg.size, fun k hk hn => hg.block k hk (fun e => hn e.symm)⟩ hr
theorem Keeps.mono {F G : Nat → Prop} {a w : World} (h : Keeps F a w) (hFG : ∀ x, F x → G x) : Keeps G a w := ⟨h.os, h.tape, h.output, h.size, fun k hk hn => h.block k hk (fun hf => hn (hFG k hf))⟩
/-- A cell that is not in F's blocks reads as it did. -/
theorem Keeps.cell {F : Nat → Prop} {w w' : World} (h : Keeps F w w') {p : Addr} {v : Value} (hc : w.cell? p = some v) (hp : ¬ F p.block) : w'.cell? p = some v :=
  (World.cell?_of_block (w := w) (h.block p.block (cell_lt hc) hp)).trans hc
theorem Keeps.frozen {F : Nat → Prop} {w w' : World} (h : Keeps F w w') {p : Addr} (hl : p.block < w.heap.size) (hp : ¬ F p.block) : w'.frozen? p = w.frozen? p := World.frozen?_of_block (w := w) (h.block p.block hl hp)
theorem Keeps.row {F : Nat → Prop} {w w' : World} (h : Keeps F w w') {base : Nat} {e : TypeId} {size : Nat} {v : Value} {n : Nat} {xs : List Value} (hr : w.ownsRow base e size v n xs) (hv : ∀ g, v.ownBlock = some g → ¬ F g) : w'.ownsRow base e size v n xs := by
  refine ⟨hr.1, ?_⟩
  rcases hr.2 with h' | ⟨g, cap, cur, rfl, hb, hg, r⟩
  · exact .inl h'
  · exact .inr ⟨g, cap, cur, rfl, hb, by rw [h.block g (Array.getElem?_eq_some_iff.1 hg).1 (hv g rfl)]; exact hg, r⟩
theorem below_drewN {B : Nat} {a w : World} (h : Below B a w) (q : Nat) : Below B a (w.drewN q) := ⟨h.os, h.tape, h.output, h.size, h.block⟩
theorem Below.keeps {w w' : World} (h : Below w.heap.size w w') (F : Nat → Prop) : Keeps F w w' := ⟨h.os, h.tape, h.output, h.size, fun k hk _ => h.block k hk⟩

theorem keeps_set (w : World) (g i : Nat) (v : Value) : Keeps (fun b => b = g) w (w.setCell ⟨g, i, none⟩ v) := ⟨rfl, rfl, rfl, by simp [World.setCell], fun _ _ hn => Below.heap_setCell _ _ _ _ hn⟩
/-- What all but X may have become. -/
def Rest (X : Nat → Prop) (w w' : World) : Prop := Keeps (fun b => ¬ X b) w w'
theorem Rest.trans {X : Nat → Prop} {a b c : World} (h : Rest X a b) (k : Rest X b c) : Rest X a c := Keeps.trans h k (fun _ hx => .inl hx)
theorem Rest.cell {X : Nat → Prop} {w w' : World} (h : Rest X w w') {p : Addr} {v : Value} (hc : w.cell? p = some v) (hp : X p.block) : w'.cell? p = some v := Keeps.cell h hc (fun hn => hn hp)
theorem Rest.frozen {X : Nat → Prop} {w w' : World} (h : Rest X w w') {p : Addr} (hl : p.block < w.heap.size) (hp : X p.block) : w'.frozen? p = w.frozen? p := Keeps.frozen h hl (fun hn => hn hp)
theorem Rest.below {X : Nat → Prop} {w w' : World} {B : Nat} (h : Rest X w w') (hX : ∀ b, b < B → X b) (hB : B ≤ w.heap.size) : Below B w w' :=
  Keeps.below h (fun b hb => by
    rcases Nat.lt_or_ge b B with h' | h'
    · exact absurd (hX b h') hb
    · exact h') hB
theorem Rest.of_below {X : Nat → Prop} {w w' : World} (h : Below w.heap.size w w') : Rest X w w' := Below.keeps h _

theorem row_base {w : World} {B B' : Nat} {e : TypeId} {sz : Nat} {v : Value} {n : Nat} {xs : List Value} (h : w.ownsRow B e sz v n xs) (hb : B' ≤ B) : w.ownsRow B' e sz v n xs := by
  refine ⟨h.1, ?_⟩
  rcases h.2 with h' | ⟨g, cap, cur, hv, hg, r⟩
  · exact .inl h'
  · exact .inr ⟨g, cap, cur, hv, Nat.le_trans hb hg, r⟩
theorem below_row {w w' : World} {B : Nat} {e : TypeId} {sz : Nat} {v : Value} {n : Nat} {xs : List Value} (h : w.ownsRow B e sz v n xs) (hb : Below w.heap.size w w') : w'.ownsRow B e sz v n xs := (Below.keeps hb (fun _ => False)).row h (fun _ _ h => h)

theorem keeps_setCells (g : Nat) : ∀ (vs : List Value) (o : Nat) (w : World), Keeps (fun b => b = g) w (w.setCells g o vs)
  | [], _, w => Keeps.refl _ w
  | v :: vs, o, w => (keeps_set w g o v).trans (keeps_setCells g vs (o + 1) _) (fun _ h => .inl h)
theorem row_setCells {B : Nat} {e : TypeId} {sz g n cap : Nat} : ∀ (vs : List Value) (o : Nat) (w : World) (xs : List Value), w.ownsRow B e sz (.slice (some ⟨g, 0, none⟩) n cap) n xs →
    ∃ xs', (w.setCells g o vs).ownsRow B e sz (.slice (some ⟨g, 0, none⟩) n cap) n xs' ∧ (∀ j, o ≤ j → j < o + vs.length → j < xs.length → xs'[j]? = vs[j - o]?) ∧ ∀ j, j < o → xs'[j]? = xs[j]?
  | [], _, _, xs, h => ⟨xs, h, fun j h1 h2 => by simp at h2; omega, fun _ _ => rfl⟩
  | v :: vs, o, w, xs, h => by
    obtain ⟨xs', h1, h2, h3⟩ := row_setCells vs (o + 1) (w.setCell ⟨g, o, none⟩ v) (xs.set o v) (World.ownsRow.stored h o v).1
    refine ⟨xs', h1, fun j j1 j2 j3 => ?_, fun j hj => ?_⟩
    · by_cases e : j = o
      · subst e
        rw [h3 j (by omega)]
        simp [j3]
      · rw [h2 j (by omega) (by simp at j2; omega) (by simpa using j3), show j - o = (j - (o + 1)) + 1 by omega, List.getElem?_cons_succ]
    · rw [h3 j (by omega), List.getElem?_set, if_neg (by omega)]
/-- A row that is cleared whole. -/
theorem row_cleared {B : Nat} {e : TypeId} {sz g n cap : Nat} {w : World} {xs : List Value} (h : w.ownsRow B e sz (.slice (some ⟨g, 0, none⟩) n cap) n xs) (z : Value) :
    (w.setCells g 0 (List.replicate (n * sz) z)).ownsRow B e sz (.slice (some ⟨g, 0, none⟩) n cap) n (List.replicate (n * sz) z) := by
  obtain ⟨xs', h1, h2, _⟩ := row_setCells (List.replicate (n * sz) z) 0 w xs h
  have hl : xs'.length = n * sz := h1.1
  have hl0 : xs.length = n * sz := h.1
  have e : xs' = List.replicate (n * sz) z := by
    apply List.ext_getElem?
    intro j
    by_cases hj : j < n * sz
    · rw [h2 j (Nat.zero_le _) (by simpa using hj) (by omega)]
      simp
    · rw [List.getElem?_eq_none (by omega), List.getElem?_eq_none (by simpa using hj)]
  rw [e] at h1
  exact h1
/-- 'clear' of a row of the call's own, whose zero value is of one cell, or of some like ones. -/
theorem run_clear_own {P : Program} {B : Nat} {e : TypeId} {sz g n cap : Nat} {w : World} {xs : List Value} (h : w.ownsRow B e sz (.slice (some ⟨g, 0, none⟩) n cap) n xs) (t ty : TypeId) (zv z : Value) (ht : P.underlying t = some (.slice e))
    (hv : ∀ w, (zeroValue e).run P w = .ok zv w) (hz : (Builtin.zeroCells zv.cells n).toList = List.replicate (n * sz) z) (h1 : z.oneCell' = true) :
    (Builtin.clear_ #[t] ty #[.slice (some ⟨g, 0, none⟩) n cap]).run P w = .ok (.tuple #[]) (w.setCells g 0 (List.replicate (n * sz) z)) := by
  have hl0 : xs.length = n * sz := h.1
  cases n with
  | zero => simp [Builtin.clear_, run_underlying ht, World.setCells]
  | succ m =>
    have hst := run_storeCells_cells (P := P) g 0 (List.replicate ((m + 1) * sz) z) 0 w
      (fun j hj => by
        have hj' : j < (m + 1) * sz := by simpa using hj
        rw [show 0 + 0 + j = j by omega, World.ownsRow.cellAt h j hj', List.getElem?_eq_getElem (by omega)]
        rfl)
      (fun j _ => by rw [show 0 + 0 + j = j by omega]; exact World.ownsRow.frozenAt h j)
      (by intro v hv'; rw [List.eq_of_mem_replicate hv']; exact h1)
    simp only [Nat.add_zero] at hst
    simp [Builtin.clear_, run_underlying ht, hv, hz, hst]
theorem zeroCells_one (z : Value) (n : Nat) : (Builtin.zeroCells #[z] n).toList = List.replicate (n * 1) z := by
  simp [Builtin.zeroCells]
  apply List.ext_getElem
  · simp
  · intro i h1 h2
    simp [Nat.mod_one]
theorem zeroCells_two (z : Value) (n : Nat) : (Builtin.zeroCells #[z, z] n).toList = List.replicate (n * 2) z := by
  simp [Builtin.zeroCells]
  apply List.ext_getElem
  · simp
  · intro i h1 h2
    have hm : i % 2 = 0 ∨ i % 2 = 1 := by omega
    rcases hm with e | e <;> simp [e]
theorem made_two (z : Value) (n : Nat) : (madeCells #[z, z] n).toList = List.replicate n z := by
  apply List.ext_getElem?
  intro j
  by_cases hj : j < n
  · have hm : j % 2 = 0 ∨ j % 2 = 1 := by omega
    rcases hm with e | e <;> simp [madeCells, hj, e]
  · simp [madeCells, hj]
theorem setCells_drew (b : Nat) : ∀ (vs : List Value) (o : Nat) (w : World), (w.setCells b o vs).drew = w.drew.setCells b o vs
  | [], _, _ => rfl
  | _ :: vs, o, _ => setCells_drew b vs (o + 1) _
theorem size_setCells (b : Nat) : ∀ (vs : List Value) (o : Nat) (w : World), (w.setCells b o vs).heap.size = w.heap.size
  | [], _, _ => rfl
  | v :: vs, o, w => by
    show ((w.setCell ⟨b, o, none⟩ v).setCells b (o + 1) vs).heap.size = _
    rw [size_setCells b vs]
    exact setCell_size _ _ _
end Go.Proofs.YtkcfepppnclniaaGreatDoor
end
