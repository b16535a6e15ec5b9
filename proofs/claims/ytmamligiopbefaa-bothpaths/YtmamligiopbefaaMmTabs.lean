/-
  GraphCopy, NearTab, NearArcT.
-/
import Derived.Test.YtmamligiopbefaaMmGraphA
import Derived.Test.YtmamligiopbefaaMmMaths
import Derived.Test.YtmamligiopbefaaMmMades
import Derived.Test.YtmamligiopbefaaMmRefs
import Derived.Deep.WholeRow
section
/-
  The walk of graph's Copy: a whole graph out of its block, and into a new one.
-/
namespace Go.Proofs.Ytmamligiopbefaa
open Go.RowKit

/-- A whole struct (or array) out of its cells, whatever lies around them. -/
theorem wpList_load_cells {P : Program} {ops : Array Oper} {rest : List Oper} {o : Oper} {a : Act} {w : World} {Q : Exit → Act → World → Prop} (hgd : o.guard = none) (ty : TypeId) (x : Operand) (ho : o.op = .load ty x)
    (g : Nat) (hx : a.eval x = .pointer (some ⟨g, 0, none⟩)) (cs : List Value) (d : TypeDesc) (hu : P.underlying ty = some d) (hd : (match d with | .struct _ | .array _ _ => true | _ => false) = true) (hi : (P.info? ty).map (·.size) = some cs.length)
    (hc : ∀ j v, cs[j]? = some v → w.cell? ((⟨g, 0, none⟩ : Addr).add j) = some v)
    (h : wpList P ops Q rest (a.put o.dst (.agg cs.toArray)) w) : wpList P ops Q (o :: rest) a w := by
  refine wpList_plain hgd fun _ hK => ?_
  have hl : (loadCells ⟨g, 0, none⟩ cs.length).run P w = .ok cs.toArray w := run_loadCells_list (P := P) w ⟨g, 0, none⟩ cs hc
  have hv : (loadVar ty ⟨g, 0, none⟩).run P w = .ok (.agg cs.toArray) w := by
    cases hq : P.info? ty with
    | none => simp [hq] at hi
    | some i =>
      have hs : i.size = cs.length := by simpa [hq] using hi
      have hagg : (isAgg ty).run P w = .ok true w := by
        unfold isAgg
        rw [Sem.run_bind, run_underlying hu w]
        cases d <;> simp_all
      simp [loadVar, Sem.run_bind, hagg, sizeOf, typeInfo, hq, hs, hl]
  unfold Oper.wp execOp
  simp only [ho, hx, Instr.loadAt, Instr.sureAddr, Sem.run_bind, Sem.run_pure, Result.andThen_ok, hv]
  exact hK _ _ h
theorem infoG : (Try.prog.info? 78).map (·.size) = some 258 := by kernel_rfl
theorem infoR : (Try.prog.info? 36).map (·.size) = some 322 := by kernel_rfl
theorem all_one {l : List Value} (h : ∀ v ∈ l, v.oneCell' = true) : l.toArray.all (·.oneCell') = true := by
  rw [Array.all_eq_true_iff_forall_mem]
  intro v hv
  exact h v (by simpa using hv)

end Go.Proofs.Ytmamligiopbefaa
end

section
/-
  A table of 24 rows of 24 numbers in a block.
-/
namespace Go.Proofs.Ytmamligiopbefaa
open Go.RowKit

/-- The table D lies in block b. -/
structure TMem (w : World) (b : Nat) (D : Nat → Nat → Int) : Prop where
  c : ∀ s t, s < 24 → t < 24 → w.cell? ⟨b, s * 24 + t, none⟩ = some (.int .i64 (D s t))
  fz : ∀ j, w.frozen? ⟨b, j, none⟩ = false
def tabCells (D : Nat → Nat → Int) : List Value := (List.range 576).map (fun j => Value.int .i64 (D (j / 24) (j % 24)))
theorem tabCells_len (D : Nat → Nat → Int) : (tabCells D).length = 576 := by simp [tabCells]
theorem tabCells_get (D : Nat → Nat → Int) {s t : Nat} (hs : s < 24) (ht : t < 24) : (tabCells D)[s * 24 + t]? = some (.int .i64 (D s t)) := by
  unfold tabCells
  rw [List.getElem?_map, List.getElem?_range (by omega)]
  simp only [Option.map_some]
  rw [show (s * 24 + t) / 24 = s by omega, show (s * 24 + t) % 24 = t by omega]
theorem tabCells_one (D : Nat → Nat → Int) : ∀ v ∈ tabCells D, v.oneCell' = true := by
  intro v hv
  obtain ⟨j, _, rfl⟩ := List.mem_map.1 hv
  rfl
section
variable {w w' : World} {b : Nat} {D D' : Nat → Nat → Int}
theorem TMem.lt (h : TMem w b D) : b < w.heap.size := cell_lt (h.c 0 0 (by omega) (by omega))
theorem TMem.of_block (h : TMem w b D) (hb : w'.heap[b]? = w.heap[b]?) : TMem w' b D :=
  ⟨fun s t hs ht => (World.cell?_of_block (a := ⟨b, s * 24 + t, none⟩) hb).trans (h.c s t hs ht), fun j => (World.frozen?_of_block (a := ⟨b, j, none⟩) hb).trans (h.fz j)⟩
theorem TMem.on (h : TMem w b D) (hb : Below w.heap.size w w') : TMem w' b D := h.of_block (hb.block b h.lt)
theorem TMem.congr (h : TMem w b D) (e : ∀ s t, s < 24 → t < 24 → D s t = D' s t) : TMem w b D' := ⟨fun s t hs ht => by rw [← e s t hs ht]; exact h.c s t hs ht, h.fz⟩
theorem TMem.set (h : TMem w b D) {s t : Nat} (hs : s < 24) (ht : t < 24) (x : Int) : TMem (w.setCell ⟨b, s * 24 + t, none⟩ (.int .i64 x)) b (NM.set2 D s t x) where
  c s' t' hs' ht' := by
    unfold NM.set2
    by_cases e : s' = s ∧ t' = t
    · obtain ⟨rfl, rfl⟩ := e
      rw [if_pos ⟨rfl, rfl⟩]
      exact World.cell?_setCell_same _ _ _ (h.c s' t' hs' ht')
    · rw [if_neg e, cell_other _ (by omega)]
      exact h.c s' t' hs' ht'
  fz j := by simpa using h.fz j
theorem TMem.cells (h : TMem w b D) : ∀ j v, (tabCells D)[j]? = some v → w.cell? ((⟨b, 0, none⟩ : Addr).add j) = some v := by
  intro j v hv
  have ea : (⟨b, 0, none⟩ : Addr).add j = ⟨b, j, none⟩ := by rw [Addr.add_lit]; simp
  have hj : j < 576 := by have := (List.getElem?_eq_some_iff.1 hv).1; rwa [tabCells_len] at this
  rw [ea, ← hv]
  have h1 := h.c (j / 24) (j % 24) (by omega) (by omega)
  have h2 := tabCells_get D (s := j / 24) (t := j % 24) (by omega) (by omega)
  rw [show j / 24 * 24 + j % 24 = j by omega] at h1 h2
  rw [h1, h2]
end
theorem tmem_new (w : World) (D : Nat → Nat → Int) (t : TypeId) : TMem (w.alloc (.cells (tabCells D).toArray t)) w.heap.size D where
  c s t hs ht := by
    rw [World.cell?_alloc_new, List.getElem?_toArray]
    exact tabCells_get D hs ht
  fz j := by simp
def zT : Array Value := (tabCells (fun _ _ => 0)).toArray
theorem zeroT (w : World) : (zeroValue 29).run Try.prog w = .ok (.agg zT) w := by kernel_rfl
theorem zT_size : zT.size = 576 := by simp [zT, tabCells_len]
theorem zT_ne : (zT = #[]) = False := eq_false (fun h => by have := congrArg Array.size h; rw [zT_size] at this; cases this)
theorem infoT : (Try.prog.info? 29).map (·.size) = some 576 := by kernel_rfl
/-- Two tables of noughts, just laid. -/
theorem two_tabs (w : World) : ∃ w2, w2 = (w.alloc (.cells zT 29)).alloc (.cells zT 29) ∧ TMem w2 w.heap.size (fun _ _ => 0) ∧ TMem w2 (w.heap.size + 1) (fun _ _ => 0) ∧ Below w.heap.size w w2 ∧ w2.heap.size = w.heap.size + 2 ∧ w2.heap[w.heap.size]? = some (.cells zT 29 (0, 0)) := by
  refine ⟨_, rfl, (tmem_new w (fun _ _ => 0) _).on ((Below.refl _ _).alloc (Nat.le_refl _) _), ?_, ((Below.refl _ _).alloc (Nat.le_refl _) _).alloc (by simp) _, by simp, (Below.heap_alloc _ _ _ (by simp)).trans (heap_alloc_new w _)⟩
  have := tmem_new (w.alloc (.cells zT 29)) (fun _ _ => 0) 29
  rwa [World.size_alloc] at this
theorem loadVar_cells {P : Program} {w : World} (ty : TypeId) (g : Nat) (cs : List Value) (d : TypeDesc) (hu : P.underlying ty = some d) (hd : (match d with | .struct _ | .array _ _ => true | _ => false) = true) (hi : (P.info? ty).map (·.size) = some cs.length)
    (hc : ∀ j v, cs[j]? = some v → w.cell? ((⟨g, 0, none⟩ : Addr).add j) = some v) : (loadVar ty ⟨g, 0, none⟩).run P w = .ok (.agg cs.toArray) w := by
  have hl : (loadCells ⟨g, 0, none⟩ cs.length).run P w = .ok cs.toArray w := run_loadCells_list (P := P) w ⟨g, 0, none⟩ cs hc
  cases hq : P.info? ty with
  | none => simp [hq] at hi
  | some i =>
    have hs : i.size = cs.length := by simpa [hq] using hi
    have hagg : (isAgg ty).run P w = .ok true w := by
      unfold isAgg
      rw [Sem.run_bind, run_underlying hu w]
      cases d <;> simp_all
    simp [loadVar, Sem.run_bind, hagg, sizeOf, typeInfo, hq, hs, hl]
/-- A block that is laid over whole. -/
theorem tmem_row {w : World} {g : Nat} {t : TypeId} {old : Array Value} (hg : w.heap[g]? = some (.cells old t (0, 0))) (D : Nat → Nat → Int) : TMem (w.setRow g (tabCells D).toArray) g D := by
  have hb : (w.setRow g (tabCells D).toArray).heap[g]? = some (.cells (tabCells D).toArray t (0, 0)) := setRow_heap w g old _ t (0, 0) hg
  refine ⟨fun s t' hs ht => ?_, fun j => ?_⟩
  · rw [cell_of_row _ g (s * 24 + t') _ t (0, 0) hb, List.getElem?_toArray]
    exact tabCells_get D hs ht
  · simp [World.frozen?, hb]
theorem keeps_row (w : World) (g : Nat) (cs : Array Value) : Keeps (fun b => b = g) w (w.setRow g cs) := by
  exact ⟨rfl, rfl, rfl, by simp, fun k _ hn => setRow_other w g k cs hn⟩
end Go.Proofs.Ytmamligiopbefaa
end

section
/-
  The table of the arcs themselves, arc by arc. Nothing of the program.
-/
namespace Go.Proofs.Ytmamligiopbefaa
namespace NM
/-- The table at the beginning: row s is laid as far as t, the rows ahead of it whole. -/
def tab0 (s t : Nat) : Nat → Nat → Int := fun a b => if a < s then (if a = b then 0 else 4611686018427387906) else if a = s ∧ b < t then 4611686018427387906 else 0
theorem tab0_zero : tab0 0 0 = fun _ _ => 0 := by
  funext a b
  unfold tab0
  rw [if_neg (by omega), if_neg (by omega)]
theorem tab0_step (s t : Nat) : set2 (tab0 s t) s t 4611686018427387906 = tab0 s (t + 1) := by
  funext a b
  unfold set2 tab0
  by_cases e : a = s ∧ b = t
  · rw [if_pos e, if_neg (by omega), if_pos (by omega)]
  · rw [if_neg e]
    by_cases e2 : a < s
    · rw [if_pos e2, if_pos e2]
    · rw [if_neg e2, if_neg e2]
      by_cases e3 : a = s ∧ b < t
      · rw [if_pos e3, if_pos (by omega)]
      · rw [if_neg e3, if_neg (by omega)]
theorem tab0_row (s : Nat) : ∀ a b, a < 24 → b < 24 → set2 (tab0 s 24) s s 0 a b = tab0 (s + 1) 0 a b := by
  intro a b ha hb
  unfold set2 tab0
  by_cases e : a = s ∧ b = s
  · rw [if_pos e, if_pos (by omega), if_pos (by omega)]
  · rw [if_neg e]
    by_cases e2 : a < s
    · rw [if_pos e2, if_pos (show a < s + 1 by omega)]
    · rw [if_neg e2]
      by_cases e3 : a = s
      · rw [if_pos ⟨e3, hb⟩, if_pos (show a < s + 1 by omega), if_neg (by omega)]
      · rw [if_neg (by omega), if_neg (by omega), if_neg (by omega)]
/-- Behind the first k arcs. -/
structure AT (m : GM.M) (k : Nat) (D : Nat → Nat → Int) : Prop where
  bd : ∀ a b, 0 ≤ D a b ∧ D a b ≤ 4611686018427387906
  is : ∀ a b : Nat, D a b = 4611686018427387906 ∨ ∃ ids, Wk m a b ids ∧ csum m ids = D a b
  self : ∀ a, a < 24 → D a a = 0
  arc : ∀ j, j < k → (GM.arc m (GM.nth m j)).closed = false → ∀ a b : Nat, (GM.arc m (GM.nth m j)).tail = a → (GM.arc m (GM.nth m j)).head = b → D a b ≤ (GM.arc m (GM.nth m j)).weight
/-- The table, cut to its cells. -/
def cut24 (D : Nat → Nat → Int) : Nat → Nat → Int := fun a b => if a < 24 ∧ b < 24 then D a b else 4611686018427387906
theorem AT.begin (m : GM.M) : AT m 0 (cut24 (tab0 24 0)) := by
  have e : ∀ a b, cut24 (tab0 24 0) a b = if a = b ∧ a < 24 then 0 else 4611686018427387906 := fun a b => by
    unfold cut24 tab0
    by_cases h : a < 24 ∧ b < 24
    · rw [if_pos h, if_pos h.1]
      by_cases h2 : a = b
      · rw [if_pos h2, if_pos ⟨h2, h.1⟩]
      · rw [if_neg h2, if_neg (fun h' => h2 h'.1)]
    · rw [if_neg h, if_neg (by omega)]
  refine ⟨fun a b => ?_, fun a b => ?_, fun a ha => ?_, fun j hj => by omega⟩
  · rw [e]; split <;> omega
  · rw [e]
    split
    · rename_i h
      exact .inr ⟨[], wk_nil_iff.2 (by omega), rfl⟩
    · exact .inl rfl
  · rw [e, if_pos ⟨rfl, ha⟩]
section
variable {m : GM.M} {N k : Nat} {D : Nat → Nat → Int}
theorem AT.take (h : AT m k D) (hk : k < GM.cnt m) (hok : ∀ i, GM.is m i = true → GM.okW (GM.arc m i).weight = true) {t e : Nat} (ht : (GM.arc m (GM.nth m k)).tail = t) (he : (GM.arc m (GM.nth m k)).head = e) (he24 : e < 24) (hc : (GM.arc m (GM.nth m k)).closed = false) (hlt : (GM.arc m (GM.nth m k)).weight < D t e) :
    AT m (k + 1) (set2 D t e (GM.arc m (GM.nth m k)).weight) := by
  obtain ⟨hi, hs⟩ := GM.nth_is hk
  have hw := of_decide_eq_true (hok _ hs)
  have hle : ∀ a b, set2 D t e (GM.arc m (GM.nth m k)).weight a b ≤ D a b := fun a b => by
    unfold set2
    split
    · rename_i h'
      rw [h'.1, h'.2]; omega
    · exact Int.le_refl _
  refine ⟨fun a b => ?_, fun a b => ?_, fun a ha => ?_, fun j hj hcj a b ha hb => ?_⟩
  · unfold set2
    split
    · omega
    · exact h.bd a b
  · unfold set2
    split
    · rename_i h'
      rw [h'.1, h'.2]
      refine .inr ⟨[((GM.nth m k : Nat) : Int)], ?_, ?_⟩
      · have := wk_one (m := m) (u := t) ((opn_at hi).2 ⟨hs, ht, hc⟩)
        rwa [hd_at m hi, he] at this
      · rw [csum_one, wt_at m hi, DM.norm_of (by omega) (by omega)]
    · exact h.is a b
  · unfold set2
    rw [if_neg]
    · exact h.self a ha
    · rintro ⟨rfl, rfl⟩
      have := h.self a ha
      omega
  · by_cases ej : j = k
    · subst ej
      have ea : a = t := by omega
      have eb : b = e := by omega
      rw [ea, eb]
      unfold set2
      rw [if_pos ⟨rfl, rfl⟩]
      exact Int.le_refl _
    · exact Int.le_trans (hle a b) (h.arc j (by omega) hcj a b ha hb)
theorem AT.skip (h : AT m k D) (hn : (GM.arc m (GM.nth m k)).closed = false → ∀ a b : Nat, (GM.arc m (GM.nth m k)).tail = a → (GM.arc m (GM.nth m k)).head = b → D a b ≤ (GM.arc m (GM.nth m k)).weight) : AT m (k + 1) D := by
  refine ⟨h.bd, h.is, h.self, fun j hj hcj a b ha hb => ?_⟩
  by_cases ej : j = k
  · subst ej
    exact hn hcj a b ha hb
  · exact h.arc j (by omega) hcj a b ha hb
theorem AT.done (h : AT m (GM.cnt m) D) (hN : N ≤ 24) (hin : WK.Inn N m) (hok : ∀ i, GM.is m i = true → GM.okW (GM.arc m i).weight = true) : Fw m N 0 0 0 D := by
  refine Fw.begin (into_of hin) h.bd h.is (fun a ha => h.self a (by omega)) (fun a b ha hb z hz hh => ?_)
  obtain ⟨i, rfl, hi⟩ := opn_place hz
  obtain ⟨h1, h2, h3⟩ := (opn_at hi).1 hz
  rw [hd_at m hi] at hh
  have hw := of_decide_eq_true (hok _ h1)
  rw [wt_at m hi, DM.norm_of (by omega) (by omega)]
  obtain ⟨j, hj, e⟩ := List.mem_iff_getElem.1 ((GM.mem_ids m i 64).2 ⟨hi, h1⟩)
  have en : GM.nth m j = i := by
    unfold GM.nth
    rw [List.getElem?_eq_getElem hj, Option.getD_some, e]
  have := h.arc j hj
  rw [en] at this
  exact this h3 a b h2 hh
end
/-- One entry of the table by way of k, as it is written. -/
theorem Fw.put {m : GM.M} {N k s t : Nat} {D : Nat → Nat → Int} (h : Fw m N k s t D) (hk : k < N) (hs : s < N) (ht : t < N) (hlt : DM.two (D s k) (D k t) < D s t) : Fw m N k s (t + 1) (set2 D s t (DM.two (D s k) (D k t))) := h.step hk hs ht _ (by rw [if_pos hlt])
theorem Fw.pass {m : GM.M} {N k s t : Nat} {D : Nat → Nat → Int} (h : Fw m N k s t D) (hk : k < N) (hs : s < N) (ht : t < N) (hlt : ¬ DM.two (D s k) (D k t) < D s t) : Fw m N k s (t + 1) D := by
  have := h.step hk hs ht (D s t) (by rw [if_neg hlt])
  have e : set2 D s t (D s t) = D := by
    funext a b
    unfold set2
    split
    · rename_i h'
      rw [h'.1, h'.2]
    · rfl
  rwa [e] at this
end NM
end Go.Proofs.Ytmamligiopbefaa
end
