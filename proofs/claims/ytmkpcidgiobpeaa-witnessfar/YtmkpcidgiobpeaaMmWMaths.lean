/-
  HeapMath, MeshMath, MeshDefs, WitMath, WitWait.
-/
import Derived.Test.YtmkpcidgiobpeaaMmMaths
import Derived.Laws.Strings
section
/-
  The arithmetic of heaps: things by what they have come to, in a line in which none stands behind one that comes out behind it. Nothing of any program.
-/
namespace Go.Proofs.Ytmkpcidgiobpeaa
namespace HM

/-- An order in which of two unlike ones one is less. -/
structure Tot (α : Type) where
  lt : α → α → Bool
  irr : ∀ a, lt a a = false
  tr : ∀ a b c, lt a b = true → lt b c = true → lt a c = true
  tri : ∀ a b, lt a b = false → lt b a = false → a = b

/-- Integers. -/
def TI : Tot Int where
  lt a b := decide (a < b)
  irr a := by simp
  tr a b c h1 h2 := by simp only [decide_eq_true_eq] at *; omega
  tri a b h1 h2 := by simp only [decide_eq_false_iff_not] at *; omega
theorem bl_eq : ∀ x y : List UInt8, Op.bytesLess x y = decide (x < y)
  | [], [] => by simp [Op.bytesLess]
  | [], _ :: _ => by simp [Op.bytesLess]
  | _ :: _, [] => by simp [Op.bytesLess]
  | a :: x, b :: y => by
    have e : (a == b) = decide (a = b) := by by_cases h : a = b <;> simp [h]
    rw [Op.bytesLess, bl_eq x y, e]
    simp [List.cons_lt_cons_iff]
/-- Texts, byte by byte. -/
def TS : Tot ByteArray where
  lt a b := Op.bytesLess a.toList b.toList
  irr a := by rw [bl_eq]; simp
  tr a b c h1 h2 := by
    rw [bl_eq, decide_eq_true_eq] at *
    exact List.lt_trans h1 h2
  tri a b h1 h2 := by
    rw [bl_eq, decide_eq_false_iff_not] at *
    have h : a.toList = b.toList := List.le_antisymm (by rw [List.not_lt] at h2; exact h2) (by rw [List.not_lt] at h1; exact h1)
    apply ByteArray.ext
    rw [← Array.toList_inj]
    simpa [ByteArray.toList_eq] using h

section
variable {α : Type} (O : Tot α)

/-- The one thing comes out ahead of the other. -/
def R (c : Nat → α) (a b : Nat) : Prop := O.lt (c a) (c b) = true ∨ (c a = c b ∧ a < b)
variable {O}
theorem R.irr {c : Nat → α} {a : Nat} : ¬ R O c a a := by
  rintro (h | ⟨_, h⟩)
  · rw [O.irr] at h; cases h
  · omega
theorem R.tr {c : Nat → α} {x y z : Nat} (h1 : R O c x y) (h2 : R O c y z) : R O c x z := by
  rcases h1 with h1 | ⟨e1, h1⟩ <;> rcases h2 with h2 | ⟨e2, h2⟩
  · exact .inl (O.tr _ _ _ h1 h2)
  · exact .inl (e2 ▸ h1)
  · exact .inl (e1 ▸ h2)
  · exact .inr ⟨e1.trans e2, by omega⟩
theorem R.as {c : Nat → α} {x y : Nat} (h1 : R O c x y) : ¬ R O c y x := fun h2 => R.irr (h1.tr h2)
theorem R.tot {c : Nat → α} {x y : Nat} (h : x ≠ y) : R O c x y ∨ R O c y x := by
  rcases h1 : O.lt (c x) (c y) with _ | _
  · rcases h2 : O.lt (c y) (c x) with _ | _
    · have e := O.tri _ _ h1 h2
      rcases Nat.lt_or_gt_of_ne h with h | h
      · exact .inl (.inr ⟨e, h⟩)
      · exact .inr (.inr ⟨e.symm, h⟩)
    · exact .inr (.inl h2)
  · exact .inl (.inl h1)
/-- Not behind, twice. -/
theorem R.le_tr {c : Nat → α} {x y z : Nat} (h1 : ¬ R O c y x) (h2 : ¬ R O c z y) : ¬ R O c z x := by
  intro h
  by_cases e : x = y
  · subst e; exact h2 h
  · rcases R.tot (O := O) (c := c) e with h3 | h3
    · exact h2 (h.tr h3)
    · exact h1 h3
theorem R.congr {c c' : Nat → α} {x y : Nat} (hx : c x = c' x) (hy : c y = c' y) : R O c x y ↔ R O c' x y := by unfold R; rw [hx, hy]

variable (O)
/-- None comes out ahead of the one above it. -/
def All (c : Nat → α) (f : Nat → Nat) (n : Nat) : Prop := ∀ k, 0 < k → k < n → ¬ R O c (f k) (f ((k - 1) / 2))
/-- But for the one at i, which may have to go up. -/
def Up (c : Nat → α) (f : Nat → Nat) (n i : Nat) : Prop :=
  (∀ k, 0 < k → k < n → k ≠ i → ¬ R O c (f k) (f ((k - 1) / 2))) ∧ (∀ k, 0 < k → k < n → (k - 1) / 2 = i → 0 < i → ¬ R O c (f k) (f ((i - 1) / 2)))
/-- But for the one at i, which may have to go down. -/
def Dn (c : Nat → α) (f : Nat → Nat) (n i : Nat) : Prop :=
  (∀ k, 0 < k → k < n → (k - 1) / 2 ≠ i → ¬ R O c (f k) (f ((k - 1) / 2))) ∧ (∀ k, 0 < k → k < n → (k - 1) / 2 = i → 0 < i → ¬ R O c (f k) (f ((i - 1) / 2)))
variable {O}
/-- Two change places. -/
def sw (f : Nat → Nat) (i j k : Nat) : Nat := if k = i then f j else if k = j then f i else f k

theorem All.root {c : Nat → α} {f : Nat → Nat} {n : Nat} (h : All O c f n) : ∀ k, k < n → ¬ R O c (f k) (f 0) := by
  intro k
  induction k using Nat.strongRecOn with
  | _ k ih =>
    intro hk
    rcases Nat.eq_zero_or_pos k with rfl | hp
    · exact R.irr
    · exact R.le_tr (ih ((k - 1) / 2) (by omega) (by omega)) (h k hp hk)
theorem Up.done0 {c : Nat → α} {f : Nat → Nat} {n : Nat} (h : Up O c f n 0) : All O c f n := fun k hp hk => h.1 k hp hk (by omega)
theorem Up.done {c : Nat → α} {f : Nat → Nat} {n i : Nat} (h : Up O c f n i) (hi : ¬ R O c (f i) (f ((i - 1) / 2))) : All O c f n := by
  intro k hp hk
  by_cases e : k = i
  · subst e; exact hi
  · exact h.1 k hp hk e
theorem Up.step {c : Nat → α} {f : Nat → Nat} {n i : Nat} (h : Up O c f n i) (hp : 0 < i) (hr : R O c (f i) (f ((i - 1) / 2))) : Up O c (sw f i ((i - 1) / 2)) n ((i - 1) / 2) := by
  obtain ⟨h1, h2⟩ := h
  have hne : (i - 1) / 2 ≠ i := by omega
  generalize hq : (i - 1) / 2 = q at *
  refine ⟨fun k kp kn kq => ?_, fun k kp kn ke q0 => ?_⟩
  · by_cases ki : k = i
    · subst ki
      simp only [sw, hq, if_true, if_neg hne]
      exact hr.as
    · simp only [sw, if_neg ki, if_neg kq]
      by_cases e1 : (k - 1) / 2 = i
      · rw [if_pos e1]; exact h2 k kp kn e1 hp
      · rw [if_neg e1]
        by_cases e2 : (k - 1) / 2 = q
        · rw [if_pos e2]
          intro h
          have := h1 k kp kn ki
          rw [e2] at this
          exact this (h.tr hr)
        · rw [if_neg e2]; exact h1 k kp kn ki
  · have a1 : (q - 1) / 2 ≠ i := by omega
    have a2 : (q - 1) / 2 ≠ q := by omega
    have hqn : ¬ R O c (f q) (f ((q - 1) / 2)) := h1 q q0 (by omega) (by omega)
    simp only [sw, if_neg a1, if_neg a2]
    by_cases ki : k = i
    · rw [if_pos ki]; exact hqn
    · rw [if_neg ki, if_neg (by omega)]
      have := h1 k kp kn ki
      rw [ke] at this
      exact R.le_tr hqn this
theorem Dn.done {c : Nat → α} {f : Nat → Nat} {n i : Nat} (h : Dn O c f n i) (hi : ∀ k, 0 < k → k < n → (k - 1) / 2 = i → ¬ R O c (f k) (f i)) : All O c f n := by
  intro k hp hk
  by_cases e : (k - 1) / 2 = i
  · rw [e]; exact hi k hp hk e
  · exact h.1 k hp hk e
theorem Dn.step {c : Nat → α} {f : Nat → Nat} {n i b : Nat} (h : Dn O c f n i) (hb : 0 < b) (hbn : b < n) (hbi : (b - 1) / 2 = i) (hr : R O c (f b) (f i)) (hl : ∀ k, 0 < k → k < n → (k - 1) / 2 = i → ¬ R O c (f k) (f b)) :
    Dn O c (sw f i b) n b := by
  obtain ⟨h1, h2⟩ := h
  have hne : b ≠ i := by omega
  refine ⟨fun k kp kn kq => ?_, fun k kp kn ke b0 => ?_⟩
  · by_cases ki : k = i
    · subst ki
      have a1 : (k - 1) / 2 ≠ k := by omega
      simp only [sw, if_true, if_neg a1, if_neg kq]
      exact h2 b hb hbn hbi kp
    · by_cases kb : k = b
      · subst kb
        simp only [sw, hbi, if_neg ki, if_true]
        exact hr.as
      · simp only [sw, if_neg ki, if_neg kb]
        by_cases e1 : (k - 1) / 2 = i
        · rw [if_pos e1]; exact hl k kp kn e1
        · rw [if_neg e1, if_neg kq]; exact h1 k kp kn e1
  · have a1 : k ≠ i := by omega
    have a2 : k ≠ b := by omega
    simp only [sw, hbi, if_neg a1, if_neg a2, if_true]
    have := h1 k kp kn (by omega)
    rw [ke] at this
    exact this

/-! Lines and places. -/
def at0 (l : List Nat) (i : Nat) : Nat := l[i]?.getD 0
def pat (l : List Int) (i : Nat) : Int := l[i]?.getD 0
/-- Where each thing stands. -/
def Wf (n : Nat) (line : List Nat) (place : List Int) : Prop :=
  place.length = n ∧ (∀ i, i < line.length → at0 line i < n ∧ pat place (at0 line i) = (i : Int)) ∧ (∀ t, t < n → pat place t = -1 ∨ ∃ i, i < line.length ∧ pat place t = (i : Int) ∧ at0 line i = t)
theorem at0_set (l : List Nat) (i v k : Nat) (h : i < l.length) : at0 (l.set i v) k = if k = i then v else at0 l k := by
  unfold at0
  rw [List.getElem?_set]
  by_cases e : i = k
  · subst e; simp [h]
  · rw [if_neg e, if_neg (fun h => e h.symm)]
theorem pat_set (l : List Int) (i : Nat) (v : Int) (k : Nat) (h : i < l.length) : pat (l.set i v) k = if k = i then v else pat l k := by
  unfold pat
  rw [List.getElem?_set]
  by_cases e : i = k
  · subst e; simp [h]
  · rw [if_neg e, if_neg (fun h => e h.symm)]
theorem Wf.inj {n : Nat} {line : List Nat} {place : List Int} (h : Wf n line place) {i j : Nat} (hi : i < line.length) (hj : j < line.length) (e : at0 line i = at0 line j) : i = j := by
  have h1 := (h.2.1 i hi).2
  have h2 := (h.2.1 j hj).2
  rw [e, h2] at h1
  omega
/-- The line, two of it in each other's place. -/
def swl (line : List Nat) (i j : Nat) : List Nat := (line.set i (at0 line j)).set j (at0 line i)
def swp (line : List Nat) (place : List Int) (i j : Nat) : List Int := (place.set (at0 (swl line i j) i) (i : Int)).set (at0 (swl line i j) j) (j : Int)
theorem swl_len (line : List Nat) (i j : Nat) : (swl line i j).length = line.length := by simp [swl]
theorem swp_len (line : List Nat) (place : List Int) (i j : Nat) : (swp line place i j).length = place.length := by simp [swp]
theorem swl_at (line : List Nat) (i j : Nat) (hi : i < line.length) (hj : j < line.length) (k : Nat) : at0 (swl line i j) k = sw (at0 line) i j k := by
  unfold swl sw
  rw [at0_set _ _ _ _ (by simpa using hj), at0_set _ _ _ _ hi]
  by_cases e1 : k = j
  · subst e1
    by_cases e2 : k = i
    · subst e2; simp
    · simp [e2]
  · simp [e1]
theorem swp_at {n : Nat} {line : List Nat} {place : List Int} (h : Wf n line place) (i j : Nat) (hi : i < line.length) (hj : j < line.length) (t : Nat) :
    pat (swp line place i j) t = if t = at0 line i then (j : Int) else if t = at0 line j then (i : Int) else pat place t := by
  have e1 : at0 (swl line i j) i = at0 line j := by rw [swl_at _ _ _ hi hj]; simp [sw]
  have e2 : at0 (swl line i j) j = at0 line i := by
    rw [swl_at _ _ _ hi hj]
    unfold sw
    by_cases e : j = i
    · subst e; simp
    · simp [e]
  unfold swp
  rw [e1, e2, pat_set _ _ _ _ (by rw [List.length_set, h.1]; exact (h.2.1 i hi).1), pat_set _ _ _ _ (by rw [h.1]; exact (h.2.1 j hj).1)]
theorem Wf.swap {n : Nat} {line : List Nat} {place : List Int} (h : Wf n line place) {i j : Nat} (hi : i < line.length) (hj : j < line.length) : Wf n (swl line i j) (swp line place i j) := by
  refine ⟨by rw [swp_len]; exact h.1, fun k hk => ?_, fun t ht => ?_⟩
  · rw [swl_len] at hk
    rw [swp_at h i j hi hj, swl_at _ _ _ hi hj]
    have hki := h.inj hk hi
    have hkj := h.inj hk hj
    have hij := h.inj hi hj
    unfold sw
    by_cases e1 : k = i
    · subst e1
      rw [if_pos rfl]
      refine ⟨(h.2.1 j hj).1, ?_⟩
      by_cases e2 : at0 line j = at0 line k
      · rw [if_pos e2, hij e2.symm]
      · rw [if_neg e2, if_pos rfl]
    · rw [if_neg e1]
      by_cases e2 : k = j
      · subst e2
        rw [if_pos rfl, if_pos rfl]
        exact ⟨(h.2.1 i hi).1, rfl⟩
      · rw [if_neg e2, if_neg (fun e => e1 (hki e)), if_neg (fun e => e2 (hkj e))]
        exact h.2.1 k hk
  · rw [swp_at h i j hi hj]
    by_cases e1 : t = at0 line i
    · refine .inr ⟨j, by rw [swl_len]; exact hj, by rw [if_pos e1], ?_⟩
      rw [swl_at _ _ _ hi hj, e1]
      unfold sw
      by_cases e : j = i
      · subst e; simp
      · simp [e]
    · rw [if_neg e1]
      by_cases e2 : t = at0 line j
      · refine .inr ⟨i, by rw [swl_len]; exact hi, by rw [if_pos e2], ?_⟩
        rw [swl_at _ _ _ hi hj, e2]
        simp [sw]
      · rw [if_neg e2]
        rcases h.2.2 t ht with h' | ⟨k, hk, h1, h2⟩
        · exact .inl h'
        · refine .inr ⟨k, by rw [swl_len]; exact hk, h1, ?_⟩
          rw [swl_at _ _ _ hi hj]
          unfold sw
          rw [if_neg (by rintro rfl; exact e1 h2.symm), if_neg (by rintro rfl; exact e2 h2.symm), h2]
/-- A new one, at the end. -/
theorem Wf.push {n : Nat} {line : List Nat} {place : List Int} (h : Wf n line place) {t : Nat} (ht : t < n) (hout : pat place t = -1) : Wf n (line ++ [t]) (place.set t (line.length : Int)) := by
  have hat : ∀ k, at0 (line ++ [t]) k = if k < line.length then at0 line k else if k = line.length then t else 0 := by
    intro k
    unfold at0
    rw [List.getElem?_append]
    by_cases e : k < line.length
    · simp [e]
    · rw [if_neg e, if_neg e]
      by_cases e2 : k = line.length
      · subst e2; simp
      · rw [if_neg e2, List.getElem?_eq_none (by simp; omega)]; rfl
  refine ⟨by simpa using h.1, fun k hk => ?_, fun u hu => ?_⟩
  · rw [List.length_append, List.length_singleton] at hk
    rw [pat_set _ _ _ _ (by rw [h.1]; exact ht), hat]
    by_cases e : k < line.length
    · rw [if_pos e]
      have h1 := h.2.1 k e
      refine ⟨h1.1, ?_⟩
      rw [if_neg]
      · exact h1.2
      · intro e2
        rw [e2, hout] at h1
        omega
    · rw [if_neg e, if_pos (by omega), if_pos rfl]
      exact ⟨ht, by omega⟩
  · rw [pat_set _ _ _ _ (by rw [h.1]; exact ht)]
    by_cases e : u = t
    · rw [if_pos e]
      exact .inr ⟨line.length, by simp, rfl, by rw [hat]; simp [e]⟩
    · rw [if_neg e]
      rcases h.2.2 u hu with h' | ⟨k, hk, h1, h2⟩
      · exact .inl h'
      · exact .inr ⟨k, by simp; omega, h1, by rw [hat, if_pos hk]; exact h2⟩
theorem at0_push (line : List Nat) (t k : Nat) (h : k < line.length) : at0 (line ++ [t]) k = at0 line k := by
  unfold at0
  rw [List.getElem?_append_left h]
theorem at0_last (line : List Nat) (t : Nat) : at0 (line ++ [t]) line.length = t := by simp [at0]
theorem at0_take (line : List Nat) (m k : Nat) (h : k < m) : at0 (line.take m) k = at0 line k := by
  unfold at0
  rw [List.getElem?_take_of_lt h]
/-- The last one goes. -/
theorem Wf.drop {n : Nat} {line : List Nat} {place : List Int} (h : Wf n line place) {m : Nat} (hm : line.length = m + 1) : Wf n (line.take m) (place.set (at0 line m) (-1)) := by
  have hl : (line.take m).length = m := by rw [List.length_take]; omega
  have hn := (h.2.1 m (by omega)).1
  refine ⟨by simpa using h.1, fun k hk => ?_, fun u hu => ?_⟩
  · rw [hl] at hk
    rw [pat_set _ _ _ _ (by rw [h.1]; exact hn), at0_take _ _ _ hk]
    have h1 := h.2.1 k (by omega)
    refine ⟨h1.1, ?_⟩
    rw [if_neg]
    · exact h1.2
    · intro e
      have := h.inj (by omega) (by omega) e
      omega
  · rw [pat_set _ _ _ _ (by rw [h.1]; exact hn)]
    by_cases e : u = at0 line m
    · rw [if_pos e]; exact .inl rfl
    · rw [if_neg e]
      rcases h.2.2 u hu with h' | ⟨k, hk, h1, h2⟩
      · exact .inl h'
      · have : k ≠ m := by rintro rfl; exact e h2.symm
        exact .inr ⟨k, by omega, h1, by rw [at0_take _ _ _ (by omega)]; exact h2⟩

/-! What a heap is of. -/
def cat (d : α) (l : List α) (i : Nat) : α := l[i]?.getD d
theorem cat_set (d : α) (l : List α) (i : Nat) (v : α) (k : Nat) (h : i < l.length) : cat d (l.set i v) k = if k = i then v else cat d l k := by
  unfold cat
  rw [List.getElem?_set]
  by_cases e : i = k
  · subst e; simp [h]
  · rw [if_neg e, if_neg (fun h => e h.symm)]
variable (O)
/-- Of each thing, whether it is in the heap, and with which priority. -/
def Rep (d : α) (n : Nat) (m : Nat → Option α) (line : List Nat) (place : List Int) (come : List α) : Prop :=
  Wf n line place ∧ come.length = n ∧ All O (cat d come) (at0 line) line.length ∧ ∀ t, m t = if t < n ∧ pat place t ≠ -1 then some (cat d come t) else none
/-- The same, but for one that may have to go up. -/
def RepUp (d : α) (n i : Nat) (m : Nat → Option α) (line : List Nat) (place : List Int) (come : List α) : Prop :=
  Wf n line place ∧ come.length = n ∧ i < line.length ∧ Up O (cat d come) (at0 line) line.length i ∧ ∀ t, m t = if t < n ∧ pat place t ≠ -1 then some (cat d come t) else none
/-- The same, but for one that may have to go down. -/
def RepDn (d : α) (n i : Nat) (m : Nat → Option α) (line : List Nat) (place : List Int) (come : List α) : Prop :=
  Wf n line place ∧ come.length = n ∧ Dn O (cat d come) (at0 line) line.length i ∧ ∀ t, m t = if t < n ∧ pat place t ≠ -1 then some (cat d come t) else none
variable {O}
def upd (m : Nat → Option α) (t : Nat) (v : Option α) (u : Nat) : Option α := if u = t then v else m u
theorem swp_in {n : Nat} {line : List Nat} {place : List Int} (h : Wf n line place) {i j : Nat} (hi : i < line.length) (hj : j < line.length) (t : Nat) : pat (swp line place i j) t ≠ -1 ↔ pat place t ≠ -1 := by
  rw [swp_at h i j hi hj]
  by_cases e1 : t = at0 line i
  · rw [if_pos e1, e1, (h.2.1 i hi).2]; omega
  · rw [if_neg e1]
    by_cases e2 : t = at0 line j
    · rw [if_pos e2, e2, (h.2.1 j hj).2]; omega
    · rw [if_neg e2]
theorem All.congr {c : Nat → α} {f g : Nat → Nat} {n : Nat} (h : All O c f n) (e : ∀ k, k < n → g k = f k) : All O c g n := by
  intro k hp hk
  rw [e k hk, e _ (by omega)]; exact h k hp hk
theorem RepUp.step {d : α} {n i : Nat} {m : Nat → Option α} {line : List Nat} {place : List Int} {come : List α} (h : RepUp O d n i m line place come) (hp : 0 < i) (hr : R O (cat d come) (at0 line i) (at0 line ((i - 1) / 2))) :
    RepUp O d n ((i - 1) / 2) m (swl line i ((i - 1) / 2)) (swp line place i ((i - 1) / 2)) come := by
  obtain ⟨h1, h2, h3, h4, h5⟩ := h
  have hj : (i - 1) / 2 < line.length := by omega
  refine ⟨h1.swap h3 hj, h2, by rw [swl_len]; exact hj, ?_, fun t => ?_⟩
  · have := h4.step hp hr
    rw [swl_len]
    rw [show at0 (swl line i ((i - 1) / 2)) = sw (at0 line) i ((i - 1) / 2) from funext (swl_at _ _ _ h3 hj)]
    exact this
  · rw [h5 t]
    simp only [swp_in h1 h3 hj]
theorem RepUp.done {d : α} {n i : Nat} {m : Nat → Option α} {line : List Nat} {place : List Int} {come : List α} (h : RepUp O d n i m line place come) (hi : i = 0 ∨ ¬ R O (cat d come) (at0 line i) (at0 line ((i - 1) / 2))) : Rep O d n m line place come := by
  obtain ⟨h1, h2, h3, h4, h5⟩ := h
  refine ⟨h1, h2, ?_, h5⟩
  rcases hi with rfl | hi
  · exact h4.done0
  · exact h4.done hi
theorem RepDn.step {d : α} {n i b : Nat} {m : Nat → Option α} {line : List Nat} {place : List Int} {come : List α} (h : RepDn O d n i m line place come) (hb : b = 2 * i + 1 ∨ b = 2 * i + 2) (hbn : b < line.length) (hr : R O (cat d come) (at0 line b) (at0 line i))
    (hl : ∀ k, k = 2 * i + 1 ∨ k = 2 * i + 2 → k < line.length → ¬ R O (cat d come) (at0 line k) (at0 line b)) : RepDn O d n b m (swl line i b) (swp line place i b) come := by
  obtain ⟨h1, h2, h4, h5⟩ := h
  have hj : i < line.length := by omega
  refine ⟨h1.swap hj hbn, h2, ?_, fun t => ?_⟩
  · have := h4.step (by omega) hbn (by omega) hr (fun k kp kn ke => hl k (by omega) kn)
    rw [swl_len]
    rw [show at0 (swl line i b) = sw (at0 line) i b from funext (swl_at _ _ _ hj hbn)]
    exact this
  · rw [h5 t]
    simp only [swp_in h1 hj hbn]
theorem RepDn.done {d : α} {n i : Nat} {m : Nat → Option α} {line : List Nat} {place : List Int} {come : List α} (h : RepDn O d n i m line place come)
    (hi : ∀ k, k = 2 * i + 1 ∨ k = 2 * i + 2 → k < line.length → ¬ R O (cat d come) (at0 line k) (at0 line i)) : Rep O d n m line place come := by
  obtain ⟨h1, h2, h4, h5⟩ := h
  exact ⟨h1, h2, h4.done (fun k kp kn ke => hi k (by omega) kn), h5⟩
/-- A thing that is in it comes to less. -/
theorem Rep.lessen {d : α} {n t : Nat} {p : α} {m : Nat → Option α} {line : List Nat} {place : List Int} {come : List α} (h : Rep O d n m line place come) (ht : t < n) {i : Nat} (hi : pat place t = (i : Int)) (hp : O.lt p (cat d come t) = true) :
    RepUp O d n i (upd m t (some p)) line place (come.set t p) := by
  obtain ⟨h1, h2, h3, h5⟩ := h
  obtain ⟨hil, hit⟩ : i < line.length ∧ at0 line i = t := by
    rcases h1.2.2 t ht with h | ⟨k, hk, e1, e2⟩
    · omega
    · have : i = k := by omega
      subst this
      exact ⟨hk, e2⟩
  have hc : ∀ k, cat d (come.set t p) k = if k = t then p else cat d come k := fun k => cat_set d come t p k (by omega)
  have hne : ∀ k, k < line.length → k ≠ i → at0 line k ≠ t := by
    intro k hk hki e
    exact hki (h1.inj hk hil (e.trans hit.symm))
  have hco : ∀ k, k < line.length → k ≠ i → cat d (come.set t p) (at0 line k) = cat d come (at0 line k) := fun k hk hki => by rw [hc, if_neg (hne k hk hki)]
  refine ⟨h1, by simpa using h2, hil, ⟨fun k kp kn ki => ?_, fun k kp kn ke ip => ?_⟩, fun u => ?_⟩
  · by_cases e : (k - 1) / 2 = i
    · rw [e, hit]
      have := h3 k kp kn
      rw [e, hit] at this
      intro hr
      refine this ?_
      rcases hr with hr | ⟨e1, hr⟩
      · rw [hco k kn ki, hc, if_pos rfl] at hr
        exact .inl (O.tr _ _ _ hr hp)
      · rw [hco k kn ki, hc, if_pos rfl] at e1
        exact .inl (by rw [e1]; exact hp)
    · rw [R.congr (hco k kn ki) (hco _ (by omega) e)]
      exact h3 k kp kn
  · rw [R.congr (hco k kn (by omega)) (hco _ (by omega) (by omega))]
    have a1 := h3 k kp kn
    rw [ke] at a1
    exact R.le_tr (h3 i ip hil) a1
  · unfold upd
    by_cases e : u = t
    · subst e
      rw [if_pos rfl, if_pos ⟨ht, by omega⟩, hc, if_pos rfl]
    · rw [if_neg e, h5 u, hc, if_neg e]
/-- A thing that isn't in it is put. -/
theorem Rep.push {d : α} {n t : Nat} {p : α} {m : Nat → Option α} {line : List Nat} {place : List Int} {come : List α} (h : Rep O d n m line place come) (ht : t < n) (hout : pat place t = -1) :
    RepUp O d n line.length (upd m t (some p)) (line ++ [t]) (place.set t (line.length : Int)) (come.set t p) := by
  obtain ⟨h1, h2, h3, h5⟩ := h
  have hc : ∀ k, cat d (come.set t p) k = if k = t then p else cat d come k := fun k => cat_set d come t p k (by omega)
  have hne : ∀ k, k < line.length → at0 line k ≠ t := by
    intro k hk e
    have := (h1.2.1 k hk).2
    rw [e, hout] at this
    omega
  have hco : ∀ k, k < line.length → cat d (come.set t p) (at0 line k) = cat d come (at0 line k) := fun k hk => by rw [hc, if_neg (hne k hk)]
  refine ⟨h1.push ht hout, by simpa using h2, by simp, ⟨fun k kp kn ki => ?_, fun k kp kn ke ip => ?_⟩, fun u => ?_⟩
  · rw [List.length_append, List.length_singleton] at kn
    rw [at0_push _ _ _ (by omega), at0_push _ _ _ (by omega), R.congr (hco k (by omega)) (hco _ (by omega))]
    exact h3 k kp (by omega)
  · rw [List.length_append, List.length_singleton] at kn
    omega
  · unfold upd
    rw [pat_set _ _ _ _ (by rw [h1.1]; exact ht)]
    by_cases e : u = t
    · subst e
      rw [if_pos rfl, if_pos ⟨ht, by rw [if_pos rfl]; omega⟩, hc, if_pos rfl]
    · rw [if_neg e, h5 u, hc, if_neg e, if_neg e]
/-- The first one goes. -/
theorem Rep.pop {d z : α} {n k : Nat} {m : Nat → Option α} {line : List Nat} {place : List Int} {come : List α} (h : Rep O d n m line place come) (hk : line.length = k + 1) :
    RepDn O d n 0 (upd m (at0 line 0) none) ((swl line 0 k).take k) ((swp line place 0 k).set (at0 line 0) (-1)) (come.set (at0 line 0) z) := by
  obtain ⟨h1, h2, h3, h5⟩ := h
  have hs := h1.swap (i := 0) (j := k) (by omega) (by omega)
  have hl : (swl line 0 k).length = k + 1 := by rw [swl_len]; exact hk
  have hat : ∀ j, at0 (swl line 0 k) j = sw (at0 line) 0 k j := swl_at line 0 k (by omega) (by omega)
  have hlast : at0 (swl line 0 k) k = at0 line 0 := by
    rw [hat]
    unfold sw
    by_cases e : k = 0
    · subst e; simp
    · simp [e]
  have hd := hs.drop hl
  rw [hlast] at hd
  have h0n := (h1.2.1 0 (by omega)).1
  have hc : ∀ j, cat d (come.set (at0 line 0) z) j = if j = at0 line 0 then z else cat d come j := fun j => cat_set d come _ z j (by omega)
  have hlen : ((swl line 0 k).take k).length = k := by rw [List.length_take]; omega
  refine ⟨hd, by simpa using h2, ⟨fun j jp jn je => ?_, fun j jp jn je i0 => by omega⟩, fun u => ?_⟩
  · rw [hlen] at jn
    rw [at0_take _ _ _ jn, at0_take _ _ _ (by omega), hat, hat]
    unfold sw
    rw [if_neg (by omega), if_neg (by omega), if_neg je, if_neg (by omega)]
    have hne : ∀ i, i < line.length → i ≠ 0 → at0 line i ≠ at0 line 0 := fun i hi h0 e => h0 (h1.inj hi (by omega) e)
    have hco : ∀ i, i < line.length → i ≠ 0 → cat d (come.set (at0 line 0) z) (at0 line i) = cat d come (at0 line i) := fun i hi h0 => by rw [hc, if_neg (hne i hi h0)]
    rw [R.congr (hco j (by omega) (by omega)) (hco _ (by omega) je)]
    exact h3 j jp (by omega)
  · unfold upd
    rw [pat_set _ _ _ _ (by rw [swp_len, h1.1]; exact h0n)]
    by_cases e : u = at0 line 0
    · simp [e]
    · rw [if_neg e, h5 u, hc, if_neg e, if_neg e]
      simp only [swp_in h1 (i := 0) (j := k) (by omega) (by omega)]
/-- The first of a heap. -/
def IsFirst (O : Tot α) (m : Nat → Option α) (x : Nat × α) : Prop := m x.1 = some x.2 ∧ ∀ u r, m u = some r → ¬ (O.lt r x.2 = true ∨ (r = x.2 ∧ u < x.1))
theorem IsFirst.one {m : Nat → Option α} {x y : Nat × α} (h1 : IsFirst O m x) (h2 : IsFirst O m y) : x = y := by
  obtain ⟨t, q⟩ := x
  obtain ⟨u, r⟩ := y
  have a1 := h1.2 u r h2.1
  have a2 := h2.2 t q h1.1
  rw [not_or] at a1 a2
  have e : r = q := O.tri _ _ (Bool.eq_false_iff.2 a1.1) (Bool.eq_false_iff.2 a2.1)
  have h3 := a1.2
  have h4 := a2.2
  simp only [e, true_and] at h3 h4
  simp only [Prod.mk.injEq]
  exact ⟨by omega, e.symm⟩
open Classical in
noncomputable def firstOf (O : Tot α) (m : Nat → Option α) : Option (Nat × α) := if h : ∃ x, IsFirst O m x then some h.choose else none
theorem firstOf_eq {m : Nat → Option α} {x : Nat × α} (h : IsFirst O m x) : firstOf O m = some x := by
  unfold firstOf
  have hx : ∃ x, IsFirst O m x := ⟨x, h⟩
  rw [dif_pos hx]
  exact congrArg some (hx.choose_spec.one h)
theorem firstOf_none {m : Nat → Option α} (h : ∀ t, m t = none) : firstOf O m = none := by
  unfold firstOf
  rw [dif_neg]
  rintro ⟨x, hx⟩
  have := hx.1
  rw [h] at this
  cases this
theorem firstOf_some {m : Nat → Option α} {x : Nat × α} (h : firstOf O m = some x) : IsFirst O m x := by
  unfold firstOf at h
  split at h
  · rename_i hx
    rw [← Option.some.inj h]
    exact hx.choose_spec
  · cases h
theorem Rep.out {d : α} {n t : Nat} {m : Nat → Option α} {line : List Nat} {place : List Int} {come : List α} (h : Rep O d n m line place come) : m t = none ↔ (n ≤ t ∨ pat place t = -1) := by
  rw [h.2.2.2 t]
  by_cases e : t < n ∧ pat place t ≠ -1
  · simp only [if_pos e]
    constructor
    · intro h; cases h
    · intro h; omega
  · simp only [if_neg e, true_iff]
    by_cases e1 : t < n
    · exact .inr (by simpa [e1] using e)
    · exact .inl (by omega)
theorem Rep.mem {d : α} {n t : Nat} {q : α} {m : Nat → Option α} {line : List Nat} {place : List Int} {come : List α} (h : Rep O d n m line place come) (ht : m t = some q) : t < n ∧ q = cat d come t ∧ ∃ i, i < line.length ∧ pat place t = (i : Int) ∧ at0 line i = t := by
  rw [h.2.2.2 t] at ht
  split at ht
  · rename_i h'
    refine ⟨h'.1, (Option.some.inj ht).symm, ?_⟩
    rcases h.1.2.2 t h'.1 with h2 | h2
    · exact absurd h2 h'.2
    · exact h2
  · cases ht
theorem Rep.at {d : α} {n i : Nat} {m : Nat → Option α} {line : List Nat} {place : List Int} {come : List α} (h : Rep O d n m line place come) (hi : i < line.length) : m (at0 line i) = some (cat d come (at0 line i)) := by
  obtain ⟨h1, h2⟩ := h.1.2.1 i hi
  rw [h.2.2.2, if_pos ⟨h1, by omega⟩]
theorem Rep.first {d : α} {n : Nat} {m : Nat → Option α} {line : List Nat} {place : List Int} {come : List α} (h : Rep O d n m line place come) (hi : 0 < line.length) : IsFirst O m (at0 line 0, cat d come (at0 line 0)) := by
  refine ⟨h.at hi, fun u r hu hr => ?_⟩
  obtain ⟨_, hq, i, hi, _, e⟩ := h.mem hu
  refine h.2.2.1.root i hi ?_
  rw [e]
  subst hq
  exact hr
theorem Rep.empty {d : α} {n : Nat} {m : Nat → Option α} {line : List Nat} {place : List Int} {come : List α} (h : Rep O d n m line place come) (hi : line.length = 0) (t : Nat) : m t = none := by
  cases hm : m t with
  | none => rfl
  | some q =>
    obtain ⟨_, _, i, hi', _⟩ := h.mem hm
    omega
/-- How many are in it. -/
def cnt (n : Nat) (m : Nat → Option α) : Nat := ((List.range n).filter (fun t => (m t).isSome)).length
theorem Rep.len {d : α} {n : Nat} {m : Nat → Option α} {line : List Nat} {place : List Int} {come : List α} (h : Rep O d n m line place come) : line.length = cnt n m := by
  refine List.Perm.length_eq ((List.perm_ext_iff_of_nodup ?_ (List.nodup_range.filter _)).2 fun a => ?_)
  · refine List.pairwise_iff_getElem.2 fun i j hi hj hij e => ?_
    have := h.1.inj hi hj (by simpa [at0, hi, hj] using e)
    omega
  · rw [List.mem_filter, List.mem_range]
    constructor
    · intro ha
      obtain ⟨i, hi, e⟩ := List.mem_iff_getElem.1 ha
      have e2 : at0 line i = a := by simp [at0, hi, e]
      have := h.at hi
      rw [e2] at this
      exact ⟨(h.mem this).1, by rw [this]; rfl⟩
    · rintro ⟨h1, h2⟩
      obtain ⟨q, hq⟩ := Option.isSome_iff_exists.1 h2
      obtain ⟨_, _, i, hi, _, e⟩ := h.mem hq
      rw [← e]
      simp only [at0, List.getElem?_eq_getElem hi, Option.getD_some]
      exact List.getElem_mem hi
theorem cnt_upd_none {n t : Nat} {m : Nat → Option α} (ht : t < n) (hm : (m t).isSome) : cnt n m = cnt n (upd m t none) + 1 := by
  unfold cnt
  rw [← List.countP_eq_length_filter, ← List.countP_eq_length_filter]
  induction n with
  | zero => omega
  | succ n ih =>
    rw [List.range_succ, List.countP_append, List.countP_append]
    by_cases e : t = n
    · subst e
      have : List.countP (fun u => (upd m t none u).isSome) (List.range t) = List.countP (fun u => (m u).isSome) (List.range t) := by
        refine List.countP_congr fun u hu => ?_
        rw [List.mem_range] at hu
        unfold upd
        rw [if_neg (by omega)]
      rw [this]
      simp [upd, hm]
    · rw [ih (by omega)]
      have : upd m t none n = m n := by unfold upd; rw [if_neg (fun h => e h.symm)]
      simp only [List.countP_singleton, this]
      omega
theorem cnt_upd_some {n t : Nat} {q : α} {m : Nat → Option α} (ht : t < n) (hm : m t = none) : cnt n (upd m t (some q)) = cnt n m + 1 := by
  have := cnt_upd_none (m := upd m t (some q)) ht (by simp [upd])
  rw [this]
  congr 2
  funext u
  unfold upd
  split
  · rename_i h; rw [h, hm]
  · rfl
theorem cnt_le (n : Nat) (m : Nat → Option α) : cnt n m ≤ n := by
  have := List.length_filter_le (fun t => (m t).isSome) (List.range n)
  rw [List.length_range] at this
  exact this
theorem Rep.le {d : α} {n : Nat} {m : Nat → Option α} {line : List Nat} {place : List Int} {come : List α} (h : Rep O d n m line place come) : line.length ≤ n := by rw [h.len]; exact cnt_le n m
/-- What a thing has come to. -/
def look (m : Nat → Option α) (t : Int) : Option α := if 0 ≤ t then m t.toNat else none
/-- What Put answers, and what is in the heap behind it. -/
def code (O : Tot α) (n : Nat) (m : Nat → Option α) (t : Int) (p : α) : Int :=
  if 0 ≤ t ∧ t < (n : Int) then (match m t.toNat with | some q => if O.lt p q = true then 0 else 5 | none => 0) else 1
def put (O : Tot α) (n : Nat) (m : Nat → Option α) (t : Int) (p : α) : Nat → Option α := if code O n m t p = 0 then upd m t.toNat (some p) else m
/-- What is in the heap behind Pop. -/
noncomputable def popped (O : Tot α) (m : Nat → Option α) : Nat → Option α := match firstOf O m with | some x => upd m x.1 none | none => m
theorem cnt_zero {n : Nat} {m : Nat → Option α} (h : ∀ t, m t = none) : cnt n m = 0 := by simp [cnt, h]
end
end HM
end Go.Proofs.Ytmkpcidgiobpeaa
end

section
/-
  Meshes: how far it is by any steps; a vertex that is contracted; a table of how far it is, by ever more vertices. Nothing of the program.
-/
namespace Go.Proofs.Ytmkpcidgiobpeaa
namespace XM
open NM (two_cases two_mono two_l two_r two_comm two_assoc two_zero zero_two)

/-- Where these steps end. -/
def endOf (u : Nat) : List Nat → Nat
  | [] => u
  | v :: vs => endOf v vs
/-- How long they are. -/
def cost (D : Nat → Nat → Int) (u : Nat) : List Nat → Int
  | [] => 0
  | v :: vs => DM.two (D u v) (cost D v vs)
theorem cost_bd (D : Nat → Nat → Int) (u : Nat) : ∀ vs, 0 ≤ cost D u vs ∧ cost D u vs ≤ 4611686018427387906
  | [] => by unfold cost; decide
  | _ :: _ => DM.two_bd _ _
theorem endOf_append (u : Nat) : ∀ (xs ys : List Nat), endOf u (xs ++ ys) = endOf (endOf u xs) ys
  | [], _ => rfl
  | x :: xs, ys => endOf_append x xs ys
theorem cost_append (D : Nat → Nat → Int) (u : Nat) : ∀ (xs ys : List Nat), cost D u (xs ++ ys) = DM.two (cost D u xs) (cost D (endOf u xs) ys)
  | [], ys => by
    have b := cost_bd D u ys
    show cost D u ys = DM.two 0 (cost D u ys)
    rw [zero_two b.1 b.2]
  | x :: xs, ys => by
    show DM.two (D u x) (cost D x (xs ++ ys)) = DM.two (DM.two (D u x) (cost D x xs)) (cost D (endOf x xs) ys)
    rw [cost_append D x xs ys, two_assoc]
/-- Steps among the vertices below N, from u to b. -/
def Go (N u b : Nat) (vs : List Nat) : Prop := endOf u vs = b ∧ ∀ x ∈ vs, x < N
theorem go_nil (N u : Nat) : Go N u u [] := ⟨rfl, fun _ h => by cases h⟩
theorem go_cons {N u b v : Nat} {vs : List Nat} : Go N u b (v :: vs) ↔ v < N ∧ Go N v b vs :=
  ⟨fun h => ⟨h.2 v (by simp), h.1, fun x hx => h.2 x (by simp [hx])⟩, fun h => ⟨h.2.1, fun x hx => by
    rcases List.mem_cons.1 hx with e | e
    · rw [e]; exact h.1
    · exact h.2.2 x e⟩⟩
theorem go_append {N u b c : Nat} {xs ys : List Nat} (h : Go N u b xs) (k : Go N b c ys) : Go N u c (xs ++ ys) :=
  ⟨by rw [endOf_append, h.1, k.1], fun x hx => by
    rcases List.mem_append.1 hx with e | e
    · exact h.2 x e
    · exact k.2 x e⟩
/-- How far it is from u to b, by any steps. -/
structure Far (D : Nat → Nat → Int) (N u b : Nat) (x : Int) : Prop where
  lo : 0 ≤ x
  hi : x ≤ 4611686018427387906
  le : ∀ vs, Go N u b vs → x ≤ cost D u vs
  is : x = 4611686018427387906 ∨ ∃ vs, Go N u b vs ∧ cost D u vs = x
theorem Far.le_of {D : Nat → Nat → Int} {N u b : Nat} {x y : Int} (h : Far D N u b x) (hy : y = 4611686018427387906 ∨ ∃ vs, Go N u b vs ∧ cost D u vs ≤ y) : x ≤ y := by
  rcases hy with e | ⟨vs, h1, h2⟩
  · rw [e]; exact h.hi
  · exact Int.le_trans (h.le vs h1) h2
theorem Far.unique {D : Nat → Nat → Int} {N u b : Nat} {x y : Int} (h : Far D N u b x) (k : Far D N u b y) : x = y := by
  refine Int.le_antisymm (h.le_of ?_) (k.le_of ?_)
  · rcases k.is with e | ⟨vs, h1, h2⟩
    · exact .inl e
    · exact .inr ⟨vs, h1, by omega⟩
  · rcases h.is with e | ⟨vs, h1, h2⟩
    · exact .inl e
    · exact .inr ⟨vs, h1, by omega⟩
/-- Where each way of the one is no shorter than one of the other, and the other way round, it is as far. -/
theorem Far.same {D D' : Nat → Nat → Int} {N u b : Nat} {x : Int} (h : Far D N u b x) (h1 : ∀ vs, Go N u b vs → ∃ ws, Go N u b ws ∧ cost D' u ws ≤ cost D u vs) (h2 : ∀ vs, Go N u b vs → ∃ ws, Go N u b ws ∧ cost D u ws ≤ cost D' u vs) : Far D' N u b x := by
  have le : ∀ vs, Go N u b vs → x ≤ cost D' u vs := fun vs hv => by
    obtain ⟨ws, w1, w2⟩ := h2 vs hv
    exact Int.le_trans (h.le ws w1) w2
  refine ⟨h.lo, h.hi, le, ?_⟩
  rcases h.is with e | ⟨vs, v1, v2⟩
  · exact .inl e
  · obtain ⟨ws, w1, w2⟩ := h1 vs v1
    have := le ws w1
    exact .inr ⟨ws, w1, by omega⟩
/-- A mesh: lengths from 0 to None, none from a vertex to itself. -/
structure Ok (D : Nat → Nat → Int) : Prop where
  bd : ∀ u w, 0 ≤ D u w ∧ D u w ≤ 4611686018427387906
  self : ∀ u, D u u = 4611686018427387906
/-- Vertex v is contracted. -/
def con (D : Nat → Nat → Int) (v : Nat) : Nat → Nat → Int := fun u w =>
  if u = v ∨ w = v then 4611686018427387906 else if u ≠ w ∧ DM.two (D u v) (D v w) < D u w then DM.two (D u v) (D v w) else D u w
section
variable {D : Nat → Nat → Int}
theorem Ok.con (h : Ok D) (v : Nat) : Ok (con D v) := by
  refine ⟨fun u w => ?_, fun u => ?_⟩
  · unfold XM.con
    split
    · decide
    · split
      · exact DM.two_bd _ _
      · exact h.bd u w
  · unfold XM.con
    split
    · rfl
    · rw [if_neg (fun e => e.1 rfl)]
      exact h.self u
theorem con_le {v u w : Nat} (hu : u ≠ v) (hw : w ≠ v) : con D v u w ≤ D u w := by
  unfold con
  rw [if_neg (by omega)]
  split <;> omega
theorem con_two {v u w : Nat} (hu : u ≠ v) (hw : w ≠ v) (hn : u ≠ w) : con D v u w ≤ DM.two (D u v) (D v w) := by
  unfold con
  rw [if_neg (by omega)]
  split <;> omega
theorem con_is (v u w : Nat) : con D v u w = 4611686018427387906 ∨ con D v u w = D u w ∨ con D v u w = DM.two (D u v) (D v w) := by
  unfold con
  split
  · exact .inl rfl
  · split
    · exact .inr (.inr rfl)
    · exact .inr (.inl rfl)
theorem none_two {a b : Int} (hb : 0 ≤ b ∧ b ≤ 4611686018427387906) (ha : a = 4611686018427387906) : DM.two a b = 4611686018427387906 := by
  rw [ha]
  rcases two_cases (show (0 : Int) ≤ 4611686018427387906 by decide) (Int.le_refl _) hb.1 hb.2 with c | c | c <;> omega
/-- Each way among what is left stands for one of the whole mesh that is as long. -/
theorem con_up (h : Ok D) {N v b : Nat} (hv : v < N) : ∀ (vs : List Nat) (u : Nat), Go N u b vs → ∃ ws, Go N u b ws ∧ cost D u ws ≤ cost (con D v) u vs
  | [], u, hg => ⟨[], hg, Int.le_refl _⟩
  | w :: vs, u, hg => by
    obtain ⟨g1, g2⟩ := go_cons.1 hg
    obtain ⟨ws, k1, k2⟩ := con_up h hv vs w g2
    have bw := cost_bd D w ws
    have bv := cost_bd (con D v) w vs
    rcases con_is (D := D) v u w with e | e | e
    · refine ⟨w :: vs, hg, ?_⟩
      show _ ≤ DM.two (con D v u w) (cost (con D v) w vs)
      rw [none_two bv e]
      exact (cost_bd D u (w :: vs)).2
    · refine ⟨w :: ws, go_cons.2 ⟨g1, k1⟩, ?_⟩
      show DM.two (D u w) (cost D w ws) ≤ DM.two (con D v u w) (cost (con D v) w vs)
      rw [e]
      exact two_mono (h.bd u w).1 (Int.le_refl _) (h.bd u w).2 bw.1 k2 bv.2
    · refine ⟨v :: w :: ws, go_cons.2 ⟨hv, go_cons.2 ⟨g1, k1⟩⟩, ?_⟩
      show DM.two (D u v) (DM.two (D v w) (cost D w ws)) ≤ DM.two (con D v u w) (cost (con D v) w vs)
      rw [e, ← two_assoc]
      have b2 := DM.two_bd (D u v) (D v w)
      exact two_mono b2.1 (Int.le_refl _) b2.2 bw.1 k2 bv.2
/-- Each way of the whole mesh between two that are left has one among what is left that is no longer. -/
theorem con_down (h : Ok D) {N v b : Nat} (hb : b ≠ v) : ∀ (n : Nat) (vs : List Nat) (u : Nat), vs.length ≤ n → u ≠ v → Go N u b vs → ∃ ws, Go N u b ws ∧ cost (con D v) u ws ≤ cost D u vs
  | 0, vs, u, hn, hu, hg => by
    have h0 : vs.length = 0 := by omega
    obtain rfl := List.eq_nil_of_length_eq_zero h0
    exact ⟨[], hg, Int.le_refl _⟩
  | n + 1, [], u, hn, hu, hg => ⟨[], hg, Int.le_refl _⟩
  | n + 1, w :: vs, u, hn, hu, hg => by
    obtain ⟨g1, g2⟩ := go_cons.1 hg
    have hl : vs.length ≤ n := by simpa using hn
    have bv := cost_bd D w vs
    by_cases hw : w = v
    · subst hw
      match vs, hl, g2, bv with
      | [], _, g2, _ => exact absurd g2.1.symm hb
      | x :: xs, hl, g2, bv =>
        obtain ⟨g3, g4⟩ := go_cons.1 g2
        have bx := cost_bd D x xs
        have hc : cost D u (w :: x :: xs) = DM.two (DM.two (D u w) (D w x)) (cost D x xs) := by
          show DM.two (D u w) (DM.two (D w x) (cost D x xs)) = _
          rw [two_assoc]
        rw [hc]
        have b2 := DM.two_bd (D u w) (D w x)
        by_cases hx : x = w
        · -- from the vertex to itself there is none
          refine ⟨w :: x :: xs, hg, ?_⟩
          have e : DM.two (DM.two (D u w) (D w x)) (cost D x xs) = 4611686018427387906 := by
            refine none_two bx ?_
            rw [two_comm]
            exact none_two (h.bd u w) (by rw [hx]; exact h.self w)
          rw [e]
          exact (cost_bd _ _ _).2
        · by_cases hxu : x = u
          · -- there and back
            subst hxu
            obtain ⟨ws, k1, k2⟩ := con_down h hb n xs x (by simp at hl; omega) hu g4
            exact ⟨ws, k1, Int.le_trans k2 (two_r b2.1 b2.2 bx.1 bx.2)⟩
          · obtain ⟨ws, k1, k2⟩ := con_down h hb n xs x (by simp at hl; omega) hx g4
            have bw := cost_bd (con D w) x ws
            have h1 := con_two (D := D) hu hx (fun e => hxu e.symm)
            refine ⟨x :: ws, go_cons.2 ⟨g3, k1⟩, ?_⟩
            show DM.two (con D w u x) (cost (con D w) x ws) ≤ _
            exact two_mono ((h.con w).bd u x).1 h1 b2.2 bw.1 k2 bx.2
    · obtain ⟨ws, k1, k2⟩ := con_down h hb n vs w hl hw g2
      have bw := cost_bd (con D v) w ws
      refine ⟨w :: ws, go_cons.2 ⟨g1, k1⟩, ?_⟩
      show DM.two (con D v u w) (cost (con D v) w ws) ≤ DM.two (D u w) (cost D w vs)
      exact two_mono ((h.con v).bd u w).1 (con_le hu hw) (h.bd u w).2 bw.1 k2 bv.2
/-- P12.4: between two that are left it is as far as before. -/
theorem Far.con (h : Ok D) {N v u b : Nat} {x : Int} (hv : v < N) (hu : u ≠ v) (hb : b ≠ v) (hf : Far D N u b x) : Far (con D v) N u b x :=
  hf.same (fun vs hg => con_down h hb vs.length vs u (Nat.le_refl _) hu hg) (fun vs hg => con_up h hv vs u hg)
/-- Where all but two are contracted, the step is how far it is. -/
theorem Far.last (h : Ok D) {N a b : Nat} (hbN : b < N) (hab : a ≠ b) (hn : ∀ w, w ≠ b → D a w = 4611686018427387906) : Far D N a b (D a b) := by
  refine ⟨(h.bd a b).1, (h.bd a b).2, fun vs hg => ?_, .inr ⟨[b], go_cons.2 ⟨hbN, go_nil N b⟩, ?_⟩⟩
  · match vs, hg with
    | [], hg => exact absurd hg.1 hab
    | w :: ws, hg =>
      have bw := cost_bd D w ws
      show _ ≤ DM.two (D a w) (cost D w ws)
      by_cases e : w = b
      · rw [e] at bw ⊢
        exact two_l (h.bd a b).1 (h.bd a b).2 bw.1 bw.2
      · rw [none_two bw (hn w e)]
        exact (h.bd a b).2
  · show DM.two (D a b) 0 = D a b
    exact two_zero (h.bd a b).1 (h.bd a b).2
end

/-! By way of ever more vertices. -/
/-- All vertices in between are less than k. -/
def Mid (k : Nat) : List Nat → Prop
  | [] => True
  | [_] => True
  | v :: w :: vs => v < k ∧ Mid k (w :: vs)
theorem mid_cons {k v : Nat} (hv : v < k) : ∀ {p : List Nat}, Mid k p → Mid k (v :: p)
  | [], _ => trivial
  | _ :: _, h => ⟨hv, h⟩
theorem split {D : Nat → Nat → Int} (hD : ∀ u w, 0 ≤ D u w ∧ D u w ≤ 4611686018427387906) {N k b : Nat} : ∀ (vs : List Nat) {u : Nat}, Go N u b vs → Mid (k + 1) vs → Mid k vs ∨ ∃ p q, Go N u k p ∧ Mid k p ∧ Go N k b q ∧ Mid k q ∧ DM.two (cost D u p) (cost D k q) ≤ cost D u vs
  | [], _, _, _ => .inl trivial
  | [_], _, _, _ => .inl trivial
  | v :: w :: vs, u, h, hm => by
    obtain ⟨h1, h2⟩ := go_cons.1 h
    have ih := split hD (w :: vs) h2 hm.2
    have br := cost_bd D v (w :: vs)
    have bd := hD u v
    have e1 : cost D u [v] = D u v := by
      show DM.two (D u v) 0 = D u v
      exact two_zero bd.1 bd.2
    by_cases e : v = k
    · subst e
      rcases ih with h3 | ⟨p, q, p1, p2, q1, q2, hs⟩
      · refine .inr ⟨[v], w :: vs, go_cons.2 ⟨h1, go_nil N v⟩, trivial, h2, h3, ?_⟩
        rw [e1]
        exact Int.le_refl _
      · refine .inr ⟨[v], q, go_cons.2 ⟨h1, go_nil N v⟩, trivial, q1, q2, ?_⟩
        have bp := cost_bd D v p
        have bq := cost_bd D v q
        rw [e1]
        exact two_mono bd.1 (Int.le_refl _) bd.2 bq.1 (Int.le_trans (two_r bp.1 bp.2 bq.1 bq.2) hs) br.2
    · have hlt : v < k := by have := hm.1; omega
      rcases ih with h3 | ⟨p, q, p1, p2, q1, q2, hs⟩
      · exact .inl ⟨hlt, h3⟩
      · refine .inr ⟨v :: p, q, go_cons.2 ⟨h1, p1⟩, mid_cons hlt p2, q1, q2, ?_⟩
        have b2 := DM.two_bd (cost D v p) (cost D k q)
        show DM.two (DM.two (D u v) (cost D v p)) (cost D k q) ≤ DM.two (D u v) (cost D v (w :: vs))
        rw [two_assoc]
        exact two_mono bd.1 (Int.le_refl _) bd.2 b2.1 hs br.2
/-- A table of how far it is: each entry is a way's length, or None; none is more than a way by vertices below k, and, of those ahead of (s, t), by way of k too. -/
structure Fw (D : Nat → Nat → Int) (N k s t : Nat) (T : Nat → Nat → Int) : Prop where
  bd : ∀ a b, 0 ≤ T a b ∧ T a b ≤ 4611686018427387906
  is : ∀ a b : Nat, a < N → b < N → T a b = 4611686018427387906 ∨ ∃ vs, Go N a b vs ∧ cost D a vs = T a b
  le : ∀ a b : Nat, a < N → b < N → ∀ vs, Go N a b vs → Mid k vs → T a b ≤ cost D a vs
  up : ∀ a b : Nat, a < N → b < N → (a < s ∨ a = s ∧ b < t) → ∀ vs, Go N a b vs → Mid (k + 1) vs → T a b ≤ cost D a vs
section
variable {D T : Nat → Nat → Int} {N k s t : Nat}
theorem Fw.step (hD : ∀ u w, 0 ≤ D u w ∧ D u w ≤ 4611686018427387906) (h : Fw D N k s t T) (hk : k < N) (hs : s < N) (ht : t < N) (x : Int) (hx : x = if DM.two (T s k) (T k t) < T s t then DM.two (T s k) (T k t) else T s t) : Fw D N k s (t + 1) (NM.set2 T s t x) := by
  have b1 := h.bd s k
  have b2 := h.bd k t
  have b3 := DM.two_bd (T s k) (T k t)
  have b4 := h.bd s t
  have hle : x ≤ T s t := by rw [hx]; split <;> omega
  have hle2 : x ≤ DM.two (T s k) (T k t) := by rw [hx]; split <;> omega
  have hl : ∀ a b, NM.set2 T s t x a b ≤ T a b := fun a b => by
    unfold NM.set2
    split
    · rename_i e
      rw [e.1, e.2]
      exact hle
    · exact Int.le_refl _
  refine ⟨fun a b => ?_, fun a b ha hb => ?_, fun a b ha hb vs h1 h2 => Int.le_trans (hl a b) (h.le a b ha hb vs h1 h2), fun a b ha hb hab vs h1 h2 => ?_⟩
  · unfold NM.set2
    split
    · rw [hx]; split <;> omega
    · exact h.bd a b
  · unfold NM.set2
    split
    · rename_i e
      rw [e.1, e.2, hx]
      split
      · rename_i hlt
        rcases h.is s k hs hk with e1 | ⟨p, p1, p2⟩
        · rcases two_cases b1.1 b1.2 b2.1 b2.2 with c | c | c <;> omega
        · rcases h.is k t hk ht with e2 | ⟨q, q1, q2⟩
          · rcases two_cases b1.1 b1.2 b2.1 b2.2 with c | c | c <;> omega
          · exact .inr ⟨p ++ q, go_append p1 q1, by rw [cost_append, p2, p1.1, q2]⟩
      · exact h.is s t hs ht
    · exact h.is a b ha hb
  · by_cases e : a = s ∧ b = t
    · obtain ⟨rfl, rfl⟩ := e
      have e2 : NM.set2 T a b x a b = x := by unfold NM.set2; rw [if_pos ⟨rfl, rfl⟩]
      rw [e2]
      rcases split hD vs h1 h2 with h3 | ⟨p, q, p1, p2, q1, q2, hsum⟩
      · exact Int.le_trans hle (h.le a b ha hb vs h1 h3)
      · refine Int.le_trans hle2 (Int.le_trans ?_ hsum)
        exact two_mono b1.1 (h.le a k ha hk p p1 p2) (cost_bd D a p).2 b2.1 (h.le k b hk hb q q1 q2) (cost_bd D k q).2
    · refine Int.le_trans (hl a b) (h.up a b ha hb ?_ vs h1 h2)
      omega
theorem Fw.row (h : Fw D N k s N T) : Fw D N k (s + 1) 0 T := ⟨h.bd, h.is, h.le, fun a b ha hb hab => h.up a b ha hb (by omega)⟩
theorem Fw.phase (h : Fw D N k N 0 T) : Fw D N (k + 1) 0 0 T := ⟨h.bd, h.is, fun a b ha hb vs h1 h2 => h.up a b ha hb (.inl ha) vs h1 h2, fun a b _ _ hab => by omega⟩
theorem mid_all {N u b : Nat} : ∀ (vs : List Nat), Go N u b vs → Mid N vs := by
  intro vs
  induction vs generalizing u with
  | nil => intro _; trivial
  | cons v vs ih =>
    intro h
    obtain ⟨h1, h2⟩ := go_cons.1 h
    exact mid_cons h1 (ih h2)
theorem Fw.done (h : Fw D N N 0 0 T) {a b : Nat} (ha : a < N) (hb : b < N) : Far D N a b (T a b) :=
  ⟨(h.bd a b).1, (h.bd a b).2, fun vs hw => h.le a b ha hb vs hw (mid_all vs hw), h.is a b ha hb⟩
/-- The table at the beginning: the steps, and 0 from each vertex to itself. -/
theorem Fw.begin (hD : ∀ u w, 0 ≤ D u w ∧ D u w ≤ 4611686018427387906) : Fw D N 0 0 0 (fun a b => if a = b then 0 else D a b) := by
  refine ⟨fun a b => ?_, fun a b _ hb => ?_, fun a b _ _ vs h1 h2 => ?_, fun a b _ _ hab => by omega⟩
  · split
    · decide
    · exact hD a b
  · split
    · rename_i e
      exact .inr ⟨[], e ▸ go_nil N a, rfl⟩
    · exact .inr ⟨[b], go_cons.2 ⟨hb, go_nil N b⟩, by
        show DM.two (D a b) 0 = D a b
        exact two_zero (hD a b).1 (hD a b).2⟩
  · split
    · exact (cost_bd D a vs).1
    · rename_i hne
      match vs, h1, h2 with
      | [], h1, _ => exact absurd h1.1 hne
      | [v], h1, _ =>
        have e : v = b := h1.1
        subst e
        show D a v ≤ DM.two (D a v) 0
        rw [two_zero (hD a v).1 (hD a v).2]
        exact Int.le_refl _
      | v :: w :: ws, _, h2 => exact absurd h2.1 (by omega)
end
end XM
end Go.Proofs.Ytmkpcidgiobpeaa
end

section
/-
  Meshes in numbers: what Put, At, Out, In, Detours and Contract make of them. Nothing of the program.
-/
namespace Go.Proofs.Ytmkpcidgiobpeaa
namespace XM
open NM (two_cases two_mono two_l two_r two_comm two_assoc two_zero zero_two)

/-- A mesh of N vertices. -/
structure Mesh (N : Nat) (D : Nat → Nat → Int) : Prop where
  ok : Ok D
  lo : ∀ u w, 1 ≤ D u w
  out : ∀ u w, N ≤ u ∨ N ≤ w → D u w = 4611686018427387906
/-- No steps. -/
def empty : Nat → Nat → Int := fun _ _ => 4611686018427387906
theorem Mesh.empty (N : Nat) : Mesh N empty := ⟨⟨fun _ _ => by unfold XM.empty; decide, fun _ => rfl⟩, fun _ _ => by unfold XM.empty; decide, fun _ _ _ => rfl⟩
/-- What At tells. -/
def atE (N : Nat) (D : Nat → Nat → Int) (u w : Int) : Int := if GM.vert N u = true ∧ GM.vert N w = true then D u.toNat w.toNat else 4611686018427387906
def putCode (N : Nat) (u w x : Int) : Int := if GM.vert N u = true ∧ GM.vert N w = true ∧ u ≠ w ∧ 1 ≤ x ∧ x ≤ 4611686018427387906 then 0 else 1
def put (N : Nat) (D : Nat → Nat → Int) (u w x : Int) : Nat → Nat → Int := if putCode N u w x = 0 then NM.set2 D u.toNat w.toNat x else D
/-- No step from v, or to it. -/
def leave (D : Nat → Nat → Int) (v : Nat) : Nat → Nat → Int := fun u w => if u = v ∨ w = v then 4611686018427387906 else D u w
/-- The same, as far as others less than k go. -/
def leaveTo (D : Nat → Nat → Int) (v k : Nat) : Nat → Nat → Int := fun u w => if (u = v ∧ w < k) ∨ (w = v ∧ u < k) then 4611686018427387906 else D u w
theorem leaveTo_zero (D : Nat → Nat → Int) (v : Nat) : leaveTo D v 0 = D := by
  funext u w
  unfold leaveTo
  rw [if_neg (by omega)]
theorem leaveTo_step (D : Nat → Nat → Int) (v k : Nat) : NM.set2 (NM.set2 (leaveTo D v k) v k 4611686018427387906) k v 4611686018427387906 = leaveTo D v (k + 1) := by
  funext u w
  simp only [leaveTo, NM.set2]
  repeat' split
  all_goals first | rfl | omega
theorem leaveTo_step' (D : Nat → Nat → Int) (v k : Nat) : NM.set2 (NM.set2 (leaveTo D v k) k v 4611686018427387906) v k 4611686018427387906 = leaveTo D v (k + 1) := by
  funext u w
  simp only [leaveTo, NM.set2]
  repeat' split
  all_goals first | rfl | omega
theorem leaveTo_all (D : Nat → Nat → Int) (v : Nat) (hv : v < 24) (s t : Nat) (hs : s < 24) (ht : t < 24) : leaveTo D v 24 s t = leave D v s t := by
  unfold leaveTo leave
  repeat' split
  all_goals first | rfl | omega
theorem leave_out {N : Nat} {D : Nat → Nat → Int} (h : Mesh N D) (v : Nat) : Mesh N (leave D v) := by
  refine ⟨⟨fun u w => ?_, fun u => ?_⟩, fun u w => ?_, fun u w e => ?_⟩
  · unfold leave
    split
    · decide
    · exact h.ok.bd u w
  · unfold leave
    split
    · rfl
    · exact h.ok.self u
  · unfold leave
    split
    · decide
    · exact h.lo u w
  · unfold leave
    split
    · rfl
    · exact h.out u w e
theorem vert_nat {N : Nat} {v : Int} (h : GM.vert N v = true) : ∃ i : Nat, v = i ∧ i < N := by
  have := of_decide_eq_true h
  exact ⟨v.toNat, by omega, by omega⟩
theorem atE_nat {N : Nat} {D : Nat → Nat → Int} (h : Mesh N D) (u w : Nat) : atE N D u w = D u w := by
  unfold atE
  split
  · simp
  · rename_i hn
    refine (h.out u w ?_).symm
    by_cases h1 : u < N
    · by_cases h2 : w < N
      · exact absurd ⟨decide_eq_true (by omega), decide_eq_true (by omega)⟩ hn
      · exact .inr (by omega)
    · exact .inl (by omega)
theorem atE_bd {N : Nat} {D : Nat → Nat → Int} (h : Mesh N D) (u w : Int) : 0 ≤ atE N D u w ∧ atE N D u w ≤ 4611686018427387906 := by
  unfold atE
  split
  · exact h.ok.bd _ _
  · decide
theorem atE_self {N : Nat} {D : Nat → Nat → Int} (h : Mesh N D) (u : Int) : atE N D u u = 4611686018427387906 := by
  unfold atE
  split
  · exact h.ok.self _
  · rfl
theorem put_mesh {N : Nat} {D : Nat → Nat → Int} (h : Mesh N D) (u w x : Int) : Mesh N (put N D u w x) := by
  unfold put
  split
  · rename_i hc
    unfold putCode at hc
    split at hc
    · rename_i hh
      obtain ⟨h1, h2, h3, h4, h5⟩ := hh
      obtain ⟨i, rfl, hi⟩ := vert_nat h1
      obtain ⟨j, rfl, hj⟩ := vert_nat h2
      simp only [Int.toNat_natCast]
      refine ⟨⟨fun a b => ?_, fun a => ?_⟩, fun a b => ?_, fun a b e => ?_⟩
      · unfold NM.set2
        split
        · omega
        · exact h.ok.bd a b
      · unfold NM.set2
        rw [if_neg (by omega)]
        exact h.ok.self a
      · unfold NM.set2
        split
        · omega
        · exact h.lo a b
      · unfold NM.set2
        rw [if_neg (by omega)]
        exact h.out a b e
    · cases hc
  · exact h

/-! The steps at a vertex. -/
/-- From v to k, or (back) from k to v. -/
def dirE (N : Nat) (D : Nat → Nat → Int) (v : Int) (back : Bool) (k : Int) : Int := if back then atE N D k v else atE N D v k
/-- The steps to (from) the vertices below k, rising. -/
def steps (N : Nat) (D : Nat → Nat → Int) (v : Int) (back : Bool) : Nat → List (Nat × Int)
  | 0 => []
  | k + 1 => steps N D v back k ++ (if dirE N D v back (k : Nat) = 4611686018427387906 then [] else [(k, dirE N D v back (k : Nat))])
section
variable {N : Nat} {D : Nat → Nat → Int} {v : Int} {back : Bool}
theorem steps_skip {k : Nat} (h : dirE N D v back (k : Nat) = 4611686018427387906) : steps N D v back (k + 1) = steps N D v back k := by
  show _ ++ _ = _
  rw [if_pos h, List.append_nil]
theorem steps_take {k : Nat} (h : dirE N D v back (k : Nat) ≠ 4611686018427387906) : steps N D v back (k + 1) = steps N D v back k ++ [(k, dirE N D v back (k : Nat))] := by
  show _ ++ _ = _
  rw [if_neg h]
theorem steps_pre : ∀ {a b : Nat}, a ≤ b → steps N D v back a <+: steps N D v back b
  | a, 0, h => by
    obtain rfl : a = 0 := by omega
    exact List.prefix_refl _
  | a, b + 1, h => by
    by_cases e : a = b + 1
    · rw [e]; exact List.prefix_refl _
    · exact (steps_pre (show a ≤ b by omega)).trans (List.prefix_append _ _)
theorem steps_len : ∀ k, (steps N D v back k).length ≤ k
  | 0 => by simp [steps]
  | k + 1 => by
    have := steps_len k
    unfold steps
    rw [List.length_append]
    split <;> simp <;> omega
theorem steps_mem : ∀ {k : Nat} {x : Nat × Int}, x ∈ steps N D v back k → x.1 < k ∧ x.2 = dirE N D v back (x.1 : Nat) ∧ x.2 ≠ 4611686018427387906
  | 0, x, h => by simp [steps] at h
  | k + 1, x, h => by
    unfold steps at h
    rcases List.mem_append.1 h with h | h
    · have := steps_mem h
      exact ⟨by omega, this.2⟩
    · split at h
      · simp at h
      · rename_i hn
        simp at h
        subst h
        exact ⟨by simp, rfl, hn⟩
end

/-! Detours. -/
/-- A detour: from where, to where, how long. -/
structure Det where
  u : Nat
  w : Nat
  x : Int
/-- Those from u by a step of length `to', of the steps that are told. -/
def rowOf (x : Nat × Int) (ys : List (Nat × Int)) : List Det := (ys.filter (fun y => decide (x.1 ≠ y.1))).map (fun y => ⟨x.1, y.1, DM.two x.2 y.2⟩)
def detsOf (ys : List (Nat × Int)) (xs : List (Nat × Int)) : List Det := xs.flatMap (fun x => rowOf x ys)
theorem rowOf_nil (x : Nat × Int) : rowOf x [] = [] := rfl
theorem rowOf_take {x y : Nat × Int} (ys : List (Nat × Int)) (h : x.1 ≠ y.1) : rowOf x (ys ++ [y]) = rowOf x ys ++ [⟨x.1, y.1, DM.two x.2 y.2⟩] := by
  unfold rowOf
  rw [List.filter_append, List.map_append]
  simp [h]
theorem rowOf_skip {x y : Nat × Int} (ys : List (Nat × Int)) (h : x.1 = y.1) : rowOf x (ys ++ [y]) = rowOf x ys := by
  unfold rowOf
  rw [List.filter_append, List.map_append]
  simp [h]
theorem rowOf_len (x : Nat × Int) (ys : List (Nat × Int)) : (rowOf x ys).length ≤ ys.length := by
  unfold rowOf
  rw [List.length_map]
  exact List.length_filter_le _ _
theorem detsOf_snoc (ys xs : List (Nat × Int)) (x : Nat × Int) : detsOf ys (xs ++ [x]) = detsOf ys xs ++ rowOf x ys := by
  unfold detsOf
  rw [List.flatMap_append]
  simp
theorem detsOf_len (ys : List (Nat × Int)) : ∀ xs, (detsOf ys xs).length ≤ xs.length * ys.length
  | [] => by simp [detsOf]
  | x :: xs => by
    have h1 := detsOf_len ys xs
    have h2 := rowOf_len x ys
    have e : detsOf ys (x :: xs) = rowOf x ys ++ detsOf ys xs := by simp [detsOf]
    rw [e, List.length_append, List.length_cons, Nat.succ_mul]
    omega
/-- The document's: by rising u, those of one u by rising w, as far as w goes below j. -/
def detRow (N : Nat) (D : Nat → Nat → Int) (v : Int) (u : Nat) : Nat → List Det
  | 0 => []
  | j + 1 => detRow N D v u j ++ (if u ≠ j ∧ DM.two (atE N D u v) (atE N D v j) < 4611686018427387906 then [⟨u, j, DM.two (atE N D u v) (atE N D v j)⟩] else [])
def dets (N : Nat) (D : Nat → Nat → Int) (v : Int) : Nat → List Det
  | 0 => []
  | k + 1 => dets N D v k ++ detRow N D v k N
section
variable {N : Nat} {D : Nat → Nat → Int} {v : Int}
theorem detRow_len (u : Nat) : ∀ j, (detRow N D v u j).length ≤ j
  | 0 => by simp [detRow]
  | j + 1 => by
    have := detRow_len u j
    unfold detRow
    rw [List.length_append]
    split <;> simp <;> omega
theorem dets_len : ∀ k, (dets N D v k).length ≤ k * N
  | 0 => by simp [dets]
  | k + 1 => by
    have h1 := dets_len k
    have h2 := detRow_len (N := N) (D := D) (v := v) k N
    unfold dets
    rw [List.length_append, Nat.succ_mul]
    omega
theorem two_told {a b : Int} (ha : 0 ≤ a ∧ a ≤ 4611686018427387906) (hb : 0 ≤ b ∧ b ≤ 4611686018427387906) : DM.two a b < 4611686018427387906 ↔ a ≠ 4611686018427387906 ∧ b ≠ 4611686018427387906 := by
  rcases two_cases ha.1 ha.2 hb.1 hb.2 with c | c | c <;> omega
theorem detRow_none (h : Mesh N D) (u : Nat) (hu : atE N D u v = 4611686018427387906) : ∀ j, detRow N D v u j = []
  | 0 => rfl
  | j + 1 => by
    unfold detRow
    rw [detRow_none h u hu j, if_neg (fun e => ((two_told (atE_bd h u v) (atE_bd h v j)).1 e.2).1 hu)]
    rfl
theorem detRow_some (h : Mesh N D) (u : Nat) (hu : atE N D u v ≠ 4611686018427387906) : ∀ j, detRow N D v u j = rowOf (u, atE N D u v) (steps N D v false j)
  | 0 => rfl
  | j + 1 => by
    have ht := two_told (atE_bd h u v) (atE_bd h v j)
    unfold detRow
    rw [detRow_some h u hu j]
    by_cases hj : atE N D v j = 4611686018427387906
    · rw [steps_skip (show dirE N D v false (j : Nat) = _ from hj), if_neg (fun e => (ht.1 e.2).2 hj), List.append_nil]
    · rw [steps_take (show dirE N D v false (j : Nat) ≠ _ from hj)]
      by_cases e : u = j
      · rw [rowOf_skip _ (show u = j from e), if_neg (fun e' => e'.1 e), List.append_nil]
      · rw [rowOf_take _ (show u ≠ j from e), if_pos ⟨e, ht.2 ⟨hu, hj⟩⟩]
        rfl
theorem dets_eq (h : Mesh N D) : ∀ k, dets N D v k = detsOf (steps N D v false N) (steps N D v true k)
  | 0 => rfl
  | k + 1 => by
    unfold dets
    rw [dets_eq h k]
    by_cases hk : atE N D k v = 4611686018427387906
    · rw [detRow_none h k hk, List.append_nil, steps_skip (show dirE N D v true (k : Nat) = _ from hk)]
    · rw [detRow_some h k hk, steps_take (show dirE N D v true (k : Nat) ≠ _ from hk), detsOf_snoc]
      rfl
end

/-! Contract. -/
/-- One detour is taken: what becomes of the steps, and how many became shorter. -/
def app (s : (Nat → Nat → Int) × Nat) (d : Det) : (Nat → Nat → Int) × Nat := if d.x < s.1 d.u d.w then (NM.set2 s.1 d.u d.w d.x, s.2 + 1) else s
def appAll (D : Nat → Nat → Int) (l : List Det) : (Nat → Nat → Int) × Nat := l.foldl app (D, 0)
theorem appAll_take (D : Nat → Nat → Int) (l : List Det) {k : Nat} (hk : k < l.length) : appAll D (l.take (k + 1)) = app (appAll D (l.take k)) l[k] := by
  unfold appAll
  rw [List.take_succ_eq_append_getElem hk, List.foldl_append]
  rfl
theorem appAll_le (D : Nat → Nat → Int) : ∀ (l : List Det) (s : (Nat → Nat → Int) × Nat), (l.foldl app s).2 ≤ s.2 + l.length
  | [], s => by simp
  | d :: l, s => by
    have := appAll_le D l (app s d)
    have h2 : (app s d).2 ≤ s.2 + 1 := by unfold app; split <;> simp
    rw [List.foldl_cons, List.length_cons]
    omega
/-- The detours are numbers that may be. -/
def Fit (N : Nat) (l : List Det) : Prop := ∀ d ∈ l, d.u < N ∧ d.w < N ∧ d.u ≠ d.w ∧ 1 ≤ d.x ∧ d.x < 4611686018427387906
theorem atE_lo {N : Nat} {D : Nat → Nat → Int} (h : Mesh N D) (u w : Int) : 1 ≤ atE N D u w := by
  unfold atE
  split
  · exact h.lo _ _
  · decide
theorem detRow_fit {N : Nat} {D : Nat → Nat → Int} (hm : Mesh N D) {v : Int} {u : Nat} (hu : u < N) : ∀ j, j ≤ N → Fit N (detRow N D v u j)
  | 0, _, d, hd => by simp [detRow] at hd
  | j + 1, hj, d, hd => by
    unfold detRow at hd
    rcases List.mem_append.1 hd with h | h
    · exact detRow_fit hm hu j (by omega) d h
    · split at h
      · rename_i e
        simp at h
        subst h
        exact ⟨hu, by show j < N; omega, e.1, Int.le_trans (atE_lo hm u v) (two_l (atE_bd hm u v).1 (atE_bd hm u v).2 (atE_bd hm v j).1 (atE_bd hm v j).2), e.2⟩
      · simp at h
theorem dets_fit {N : Nat} {D : Nat → Nat → Int} (hm : Mesh N D) {v : Int} : ∀ k, k ≤ N → Fit N (dets N D v k)
  | 0, _, d, hd => by simp [dets] at hd
  | k + 1, hk, d, hd => by
    unfold dets at hd
    rcases List.mem_append.1 hd with h | h
    · exact dets_fit hm k (by omega) d h
    · exact detRow_fit hm (by omega) N (Nat.le_refl _) d h
theorem app_mesh {N : Nat} {s : (Nat → Nat → Int) × Nat} {d : Det} (h : Mesh N s.1) (hd : d.u < N ∧ d.w < N ∧ d.u ≠ d.w ∧ 1 ≤ d.x ∧ d.x < 4611686018427387906) : Mesh N (app s d).1 := by
  unfold app
  split
  · show Mesh N (NM.set2 s.1 d.u d.w d.x)
    refine ⟨⟨fun a b => ?_, fun a => ?_⟩, fun a b => ?_, fun a b e => ?_⟩
    · unfold NM.set2
      split
      · omega
      · exact h.ok.bd a b
    · unfold NM.set2
      rw [if_neg (by omega)]
      exact h.ok.self a
    · unfold NM.set2
      split
      · omega
      · exact h.lo a b
    · unfold NM.set2
      rw [if_neg (by omega)]
      exact h.out a b e
  · exact h
theorem app_put {N : Nat} {s : (Nat → Nat → Int) × Nat} {d : Det} (hd : d.u < N ∧ d.w < N ∧ d.u ≠ d.w ∧ 1 ≤ d.x ∧ d.x < 4611686018427387906) (h : d.x < s.1 d.u d.w) : (app s d).1 = put N s.1 (d.u : Nat) (d.w : Nat) d.x ∧ (app s d).2 = s.2 + 1 := by
  have hc : putCode N (d.u : Nat) (d.w : Nat) d.x = 0 := if_pos ⟨decide_eq_true (by omega), decide_eq_true (by omega), by omega, hd.2.2.2.1, by omega⟩
  unfold app put
  rw [if_pos h, if_pos hc]
  exact ⟨rfl, rfl⟩
theorem app_no {s : (Nat → Nat → Int) × Nat} {d : Det} (h : ¬ d.x < s.1 d.u d.w) : app s d = s := if_neg h
theorem foldl_mesh {N : Nat} : ∀ (l : List Det) (s : (Nat → Nat → Int) × Nat), Mesh N s.1 → Fit N l → Mesh N (l.foldl app s).1
  | [], _, h, _ => h
  | d :: l, s, h, hf => by
    rw [List.foldl_cons]
    exact foldl_mesh l _ (app_mesh h (hf d (by simp))) (fun d' hd' => hf d' (by simp [hd']))
/-- A step, or the detour by v, where that is shorter. -/
def nearer (D : Nat → Nat → Int) (v a b : Nat) : Int := if a ≠ b ∧ DM.two (D a v) (D v b) < D a b then DM.two (D a v) (D v b) else D a b
/-- What lies there where all from vertices less than k, and those from k to vertices less than j, are taken. -/
def part (N : Nat) (D : Nat → Nat → Int) (v : Nat) (k j : Nat) : Nat → Nat → Int := fun a b => if (a < k ∨ a = k ∧ b < j) ∧ b < N then nearer D v a b else D a b
section
variable {N : Nat} {D : Nat → Nat → Int} {v : Nat}
theorem part_row (k : Nat) : part N D v (k + 1) 0 = part N D v k N := by
  funext a b
  unfold part
  by_cases e : (a < k + 1 ∨ a = k + 1 ∧ b < 0) ∧ b < N
  · rw [if_pos e, if_pos (by omega)]
  · rw [if_neg e, if_neg (by omega)]
theorem part_zero : part N D v 0 0 = D := by
  funext a b
  unfold part
  rw [if_neg (by omega)]
theorem part_cell {k j : Nat} : part N D v k j k j = D k j := by
  unfold part
  rw [if_neg (by omega)]
theorem part_step {k j : Nat} (hj : j < N) : part N D v k (j + 1) = NM.set2 (part N D v k j) k j (nearer D v k j) := by
  funext a b
  simp only [part, NM.set2]
  by_cases e : a = k ∧ b = j
  · rw [if_pos (by omega), if_pos e, e.1, e.2]
  · rw [if_neg e]
    by_cases e2 : (a < k ∨ a = k ∧ b < j + 1) ∧ b < N
    · rw [if_pos e2, if_pos (by omega)]
    · rw [if_neg e2, if_neg (by omega)]
theorem set2_same {T : Nat → Nat → Int} {k j : Nat} {x : Int} (h : T k j = x) : NM.set2 T k j x = T := by
  funext a b
  unfold NM.set2
  by_cases e : a = k ∧ b = j
  · rw [if_pos e, e.1, e.2, h]
  · rw [if_neg e]
theorem part_row_fold (h : Mesh N D) (k : Nat) : ∀ (j n : Nat), j ≤ N → ((detRow N D v k j).foldl app (part N D v k 0, n)).1 = part N D v k j
  | 0, _, _ => rfl
  | j + 1, n, hj => by
    unfold detRow
    rw [List.foldl_append]
    have ih := part_row_fold h k j n (by omega)
    rw [atE_nat h k v, atE_nat h v j]
    generalize (detRow N D v k j).foldl app (part N D v k 0, n) = s at *
    rw [part_step (show j < N by omega)]
    have hb := (h.ok.bd k j).2
    by_cases hh : k ≠ j ∧ DM.two (D k v) (D v j) < 4611686018427387906
    · rw [if_pos hh]
      show (app s _).1 = _
      unfold app
      dsimp only
      rw [ih, part_cell]
      by_cases hl : DM.two (D k v) (D v j) < D k j
      · rw [if_pos hl, show nearer D v k j = DM.two (D k v) (D v j) from if_pos ⟨hh.1, hl⟩]
      · rw [if_neg hl, ih, show nearer D v k j = D k j from if_neg (fun c => hl c.2)]
        exact (set2_same part_cell).symm
    · rw [if_neg hh]
      show s.1 = _
      rw [ih, show nearer D v k j = D k j from if_neg (fun c => hh ⟨c.1, by have := c.2; omega⟩)]
      exact (set2_same part_cell).symm
theorem part_fold (h : Mesh N D) : ∀ k, k ≤ N → (appAll D (dets N D v k)).1 = part N D v k 0
  | 0, _ => by
    show D = _
    rw [part_zero]
  | k + 1, hk => by
    have ih := part_fold h k (by omega)
    have e : appAll D (dets N D v (k + 1)) = (detRow N D v k N).foldl app (appAll D (dets N D v k)) := by
      unfold appAll
      rw [show dets N D v (k + 1) = dets N D v k ++ detRow N D v k N from rfl, List.foldl_append]
    rw [e]
    generalize appAll D (dets N D v k) = s at *
    obtain ⟨s1, s2⟩ := s
    have ih : s1 = part N D v k 0 := ih
    subst ih
    rw [part_row_fold h k N s2 (Nat.le_refl _), part_row]
/-- All detours by v, and v is left: v is contracted. -/
theorem leave_con (h : Mesh N D) : leave (appAll D (dets N D v N)).1 v = con D v := by
  rw [part_fold h N (Nat.le_refl _)]
  funext a b
  unfold leave con part
  split
  · rfl
  · rename_i hne
    by_cases e : (a < N ∨ a = N ∧ b < 0) ∧ b < N
    · rw [if_pos e]
      rfl
    · rw [if_neg e]
      have ba := h.ok.bd a b
      have b1 := h.ok.bd a v
      have b2 := h.ok.bd v b
      have ht := two_told b1 b2
      refine (if_neg (fun c => ?_)).symm
      have h2 := ht.1 (by omega)
      by_cases ha : a < N
      · exact h2.2 (h.out v b (.inr (by omega)))
      · exact h2.1 (h.out a v (.inl (by omega)))
theorem Mesh.con (h : Mesh N D) : Mesh N (con D v) := by
  rw [← leave_con h]
  exact leave_out (foldl_mesh _ _ h (dets_fit h N (Nat.le_refl _))) v
/-- A vertex that is gone stays so. -/
def Gone (D : Nat → Nat → Int) (v : Nat) : Prop := ∀ u, D u v = 4611686018427387906 ∧ D v u = 4611686018427387906
theorem gone_con (D : Nat → Nat → Int) (v : Nat) : Gone (XM.con D v) v := fun u => ⟨by unfold XM.con; rw [if_pos (.inr rfl)], by unfold XM.con; rw [if_pos (.inl rfl)]⟩
theorem Gone.con (h : Ok D) {x : Nat} (hg : Gone D x) (v : Nat) : Gone (XM.con D v) x := fun u => by
  have g1 := hg u
  have g2 := hg v
  have t1 : DM.two (D u v) (D v x) = 4611686018427387906 := by
    rw [two_comm]
    exact none_two (h.bd u v) g2.1
  have t2 : DM.two (D x v) (D v u) = 4611686018427387906 := none_two (h.bd v u) g2.2
  have b1 := h.bd u x
  have b2 := h.bd x u
  refine ⟨?_, ?_⟩
  · unfold XM.con
    split
    · rfl
    · rw [if_neg (fun c => by omega)]
      exact g1.1
  · unfold XM.con
    split
    · rfl
    · rw [if_neg (fun c => by omega)]
      exact g1.2
end
end XM
end Go.Proofs.Ytmkpcidgiobpeaa
end

section
/-
  Searches that leave out vertices, and stop (layer 13): what is settled, as a list of vertices with how far each is. Nothing of the program.
  sum: the least sum over what is settled. Next: the one that is settled next. Got: what is settled when the search is over (unique; a smaller search's is where a greater one's begins; distances rise; without end it is how far it is by any steps). Wait: what waits, part way through the steps of the one settled last.
-/
namespace Go.Proofs.Ytmkpcidgiobpeaa
namespace WM
open NM (two_cases two_mono two_l two_r two_comm two_assoc two_zero zero_two)

/-- So many unlike numbers below N. -/
theorem nodup_lenN : ∀ (N : Nat) (l : List Nat), l.Nodup → (∀ x ∈ l, x < N) → l.length ≤ N
  | 0, [], _, _ => Nat.le_refl _
  | 0, x :: l, _, h => absurd (h x (by simp)) (by omega)
  | N + 1, l, hd, h => by
    by_cases hm : N ∈ l
    · have h1 := nodup_lenN N (l.erase N) (hd.erase N) (fun x hx => by
        obtain ⟨h2, h3⟩ := hd.mem_erase_iff.1 hx
        have := h x h3
        omega)
      rw [List.length_erase_of_mem hm] at h1
      omega
    · have := nodup_lenN N l hd (fun x hx => by
        have h1 := h x hx
        have h2 : x ≠ N := fun e => hm (e ▸ hx)
        omega)
      omega
/-- A number, or another one where that is less. -/
def low (m x : Int) : Int := if x < m then x else m
theorem low_le (m x : Int) : low m x ≤ m ∧ low m x ≤ x := by unfold low; split <;> omega
theorem low_is (m x : Int) : low m x = m ∨ low m x = x := by unfold low; split <;> simp
/-- The least sum of how far it is to a settled one, and the step from that to w. -/
def sum (D : Nat → Nat → Int) (L : List (Nat × Int)) (w : Nat) : Int := L.foldl (fun m x => low m (DM.two x.2 (D x.1 w))) 4611686018427387906
theorem sum_snoc (D : Nat → Nat → Int) (L : List (Nat × Int)) (x : Nat × Int) (w : Nat) : sum D (L ++ [x]) w = low (sum D L w) (DM.two x.2 (D x.1 w)) := by
  unfold sum
  rw [List.foldl_append]
  rfl
theorem sum_nil (D : Nat → Nat → Int) (w : Nat) : sum D [] w = 4611686018427387906 := rfl
theorem low_bd {m x : Int} (hm : 0 ≤ m ∧ m ≤ 4611686018427387906) (hx : 0 ≤ x) : 0 ≤ low m x ∧ low m x ≤ 4611686018427387906 := by unfold low; split <;> omega
theorem sum_bd (D : Nat → Nat → Int) (w : Nat) (L : List (Nat × Int)) : 0 ≤ sum D L w ∧ sum D L w ≤ 4611686018427387906 := by
  unfold sum
  suffices h : ∀ (L : List (Nat × Int)) (m : Int), 0 ≤ m ∧ m ≤ 4611686018427387906 → 0 ≤ L.foldl (fun m x => low m (DM.two x.2 (D x.1 w))) m ∧ L.foldl (fun m x => low m (DM.two x.2 (D x.1 w))) m ≤ 4611686018427387906 by
    exact h L _ (by decide)
  intro L
  induction L with
  | nil => exact fun m h => h
  | cons x L ih => exact fun m h => ih _ (low_bd h (DM.two_bd _ _).1)
theorem foldl_low (D : Nat → Nat → Int) (w : Nat) : ∀ (L : List (Nat × Int)) (m : Int), L.foldl (fun m x => low m (DM.two x.2 (D x.1 w))) m ≤ m ∧ ∀ x ∈ L, L.foldl (fun m x => low m (DM.two x.2 (D x.1 w))) m ≤ DM.two x.2 (D x.1 w)
  | [], m => ⟨Int.le_refl _, fun x h => by cases h⟩
  | y :: L, m => by
    obtain ⟨h1, h2⟩ := foldl_low D w L (low m (DM.two y.2 (D y.1 w)))
    have h3 := low_le m (DM.two y.2 (D y.1 w))
    rw [List.foldl_cons]
    refine ⟨Int.le_trans h1 h3.1, fun x hx => ?_⟩
    rcases List.mem_cons.1 hx with e | e
    · rw [e]; exact Int.le_trans h1 h3.2
    · exact h2 x e
theorem sum_le {D : Nat → Nat → Int} {L : List (Nat × Int)} {w : Nat} {x : Nat × Int} (h : x ∈ L) : sum D L w ≤ DM.two x.2 (D x.1 w) := (foldl_low D w L _).2 x h
theorem foldl_is (D : Nat → Nat → Int) (w : Nat) : ∀ (L : List (Nat × Int)) (m : Int), L.foldl (fun m x => low m (DM.two x.2 (D x.1 w))) m = m ∨ ∃ x ∈ L, L.foldl (fun m x => low m (DM.two x.2 (D x.1 w))) m = DM.two x.2 (D x.1 w)
  | [], m => .inl rfl
  | y :: L, m => by
    rw [List.foldl_cons]
    rcases foldl_is D w L (low m (DM.two y.2 (D y.1 w))) with h | ⟨x, h1, h2⟩
    · rcases low_is m (DM.two y.2 (D y.1 w)) with e | e
      · exact .inl (h.trans e)
      · exact .inr ⟨y, by simp, h.trans e⟩
    · exact .inr ⟨x, by simp [h1], h2⟩
theorem sum_is (D : Nat → Nat → Int) (L : List (Nat × Int)) (w : Nat) : sum D L w = 4611686018427387906 ∨ ∃ x ∈ L, sum D L w = DM.two x.2 (D x.1 w) := foldl_is D w L _
/-- How far it is to w, as far as is known: 0 to the first one. -/
def key (D : Nat → Nat → Int) (s : Nat) (L : List (Nat × Int)) (w : Nat) : Int := if L = [] ∧ w = s then 0 else sum D L w
theorem key_bd (D : Nat → Nat → Int) (s : Nat) (L : List (Nat × Int)) (w : Nat) : 0 ≤ key D s L w ∧ key D s L w ≤ 4611686018427387906 := by
  unfold key
  split
  · decide
  · exact sum_bd D w L
theorem key_ne {D : Nat → Nat → Int} {s : Nat} {L : List (Nat × Int)} (w : Nat) (h : L ≠ []) : key D s L w = sum D L w := if_neg fun e => h e.1
/-- Is a vertex settled? -/
def has (L : List (Nat × Int)) (w : Nat) : Bool := L.any (fun x => x.1 == w)
theorem has_iff {L : List (Nat × Int)} {w : Nat} : has L w = true ↔ ∃ x ∈ L, x.1 = w := by
  unfold has
  rw [List.any_eq_true]
  simp
theorem has_snoc (L : List (Nat × Int)) (x : Nat × Int) (w : Nat) : has (L ++ [x]) w = (has L w || x.1 == w) := by
  unfold has
  rw [List.any_append]
  simp
theorem has_nil (w : Nat) : has [] w = false := rfl
/-- It may be settled, and isn't. -/
def Free (N : Nat) (W : Nat → Bool) (L : List (Nat × Int)) (w : Nat) : Prop := w < N ∧ W w = false ∧ has L w = false
/-- What is settled next: the nearest, of like ones the least. -/
structure Next (N : Nat) (D : Nat → Nat → Int) (s : Nat) (W : Nat → Bool) (L : List (Nat × Int)) (v : Nat) (d : Int) : Prop where
  free : Free N W L v
  is : key D s L v = d
  lt : d < 4611686018427387906
  le : ∀ w, Free N W L w → d ≤ key D s L w
  first : ∀ w, Free N W L w → key D s L w = d → v ≤ w
section
variable {N : Nat} {D : Nat → Nat → Int} {s : Nat} {W : Nat → Bool} {L : List (Nat × Int)} {v u : Nat} {d e : Int}
theorem Next.one (h : Next N D s W L v d) (k : Next N D s W L u e) : v = u ∧ d = e := by
  have h1 := h.le u k.free
  have h2 := k.le v h.free
  rw [k.is] at h1
  rw [h.is] at h2
  have he : d = e := by omega
  have h3 := h.first u k.free (by rw [k.is, he])
  have h4 := k.first v h.free (by rw [h.is, he])
  exact ⟨by omega, he⟩
end
/-- So far settled, up to X. -/
inductive Seq (N : Nat) (D : Nat → Nat → Int) (s : Nat) (W : Nat → Bool) (X : Int) : List (Nat × Int) → Prop
  | nil : Seq N D s W X []
  | snoc {L : List (Nat × Int)} {v : Nat} {d : Int} : Seq N D s W X L → Next N D s W L v d → d ≤ X → Seq N D s W X (L ++ [(v, d)])
/-- Nothing more may be settled. -/
def Stuck (N : Nat) (D : Nat → Nat → Int) (s : Nat) (W : Nat → Bool) (X : Int) (L : List (Nat × Int)) : Prop := ∀ v d, Next N D s W L v d → ¬ d ≤ X
/-- What is settled when the search is over: k vertices at most. -/
structure Got (N : Nat) (D : Nat → Nat → Int) (s : Nat) (W : Nat → Bool) (X : Int) (k : Nat) (L : List (Nat × Int)) : Prop where
  seq : Seq N D s W X L
  len : L.length ≤ k
  full : L.length = k ∨ Stuck N D s W X L
section
variable {N : Nat} {D : Nat → Nat → Int} {s : Nat} {W : Nat → Bool} {X Y : Int} {L M : List (Nat × Int)} {j k : Nat}
theorem Seq.mono (h : Seq N D s W X L) (hX : X ≤ Y) : Seq N D s W Y L := by
  induction h with
  | nil => exact .nil
  | snoc _ hn hd ih => exact .snoc ih hn (Int.le_trans hd hX)
/-- Of two of them the one is where the other begins. -/
theorem Seq.either (h : Seq N D s W X L) (k : Seq N D s W X M) : L <+: M ∨ M <+: L := by
  induction h with
  | nil => exact .inl (List.nil_prefix)
  | @snoc L v d hs hn hd ih =>
    rcases ih with h1 | h1
    · clear hs hd
      induction k with
      | nil =>
        have : L = [] := List.prefix_nil.1 h1
        exact .inr (List.nil_prefix)
      | @snoc M u e ks kn kd ik =>
        rcases List.prefix_concat_iff.1 (by simpa using h1) with e1 | e1
        · subst e1
          exact .inr (List.prefix_append _ _)
        · rcases ik e1 with h2 | h2
          · exact .inl (h2.trans (List.prefix_append _ _))
          · rcases List.prefix_concat_iff.1 (by simpa using h2) with e2 | e2
            · subst e2
              exact .inl (List.prefix_append _ _)
            · have : L = M := List.IsPrefix.eq_of_length_le e1 e2.length_le
              subst this
              obtain ⟨r1, r2⟩ := hn.one kn
              subst r1; subst r2
              exact .inl (List.prefix_refl _)
    · exact .inr (h1.trans (List.prefix_append _ _))
theorem next_of_longer (h : Seq N D s W X M) (hp : L <+: M) (hl : L.length < M.length) : ∃ v d, Next N D s W L v d ∧ d ≤ X := by
  induction h with
  | nil => simp at hl
  | @snoc M u e ks kn kd ik =>
    rcases List.prefix_concat_iff.1 (by simpa using hp) with e1 | e1
    · subst e1; omega
    · by_cases e2 : L.length < M.length
      · exact ik e1 e2
      · have : L = M := List.IsPrefix.eq_of_length_le e1 (by omega)
        subst this
        exact ⟨u, e, kn, kd⟩
/-- A search of fewer vertices, or up to less, settles what the greater one settles first. -/
theorem Got.pre (h : Got N D s W X j L) (g : Got N D s W Y k M) (hj : j ≤ k) (hX : X ≤ Y) : L <+: M := by
  rcases (h.seq.mono hX).either g.seq with e | e
  · exact e
  · rcases g.full with f | f
    · have h1 := h.len
      have h2 := e.length_le
      have : M = L := List.IsPrefix.eq_of_length_le e (by omega)
      subst this
      exact List.prefix_refl _
    · by_cases hl : M.length < L.length
      · obtain ⟨v, d, n1, n2⟩ := next_of_longer (h.seq.mono hX) e hl
        exact absurd n2 (f v d n1)
      · have : M = L := List.IsPrefix.eq_of_length_le e (by omega)
        subst this
        exact List.prefix_refl _
theorem Got.one (h : Got N D s W X k L) (g : Got N D s W X k M) : L = M := by
  have h1 := h.pre g (Nat.le_refl _) (Int.le_refl _)
  have h2 := g.pre h (Nat.le_refl _) (Int.le_refl _)
  exact List.IsPrefix.eq_of_length_le h1 h2.length_le
/-- How many the smaller one settles. -/
theorem Got.min_len (h : Got N D s W X j L) (g : Got N D s W X k M) (hj : j ≤ k) : L.length = min M.length j := by
  have hp := h.pre g hj (Int.le_refl _)
  have h1 := hp.length_le
  have h2 := h.len
  rcases h.full with f | f
  · omega
  · by_cases hl : L.length < M.length
    · obtain ⟨v, d, n1, n2⟩ := next_of_longer g.seq hp hl
      exact absurd n2 (f v d n1)
    · omega
theorem Got.take (h : Got N D s W X j L) (g : Got N D s W X k M) (hj : j ≤ k) : L = M.take L.length := (List.prefix_iff_eq_take.1 (h.pre g hj (Int.le_refl _)))
/-- What is settled. -/
structure Fine (N : Nat) (s : Nat) (W : Nat → Bool) (X : Int) (L : List (Nat × Int)) : Prop where
  free : ∀ x ∈ L, x.1 < N ∧ W x.1 = false ∧ 0 ≤ x.2 ∧ x.2 < 4611686018427387906 ∧ x.2 ≤ X
  nodup : (L.map (·.1)).Nodup
  head : ∀ x, L[0]? = some x → x = (s, 0)
theorem Seq.fine (hs : s < N) (hW : W s = false) (h : Seq N D s W X L) : Fine N s W X L := by
  induction h with
  | nil => exact ⟨fun x h => (by cases h), List.nodup_nil, fun x h => (by cases h)⟩
  | @snoc L v d _ hn hd ih =>
    have hb := key_bd D s L v
    rw [hn.is] at hb
    refine ⟨fun x hx => ?_, ?_, fun x hx => ?_⟩
    · rcases List.mem_append.1 hx with e | e
      · exact ih.free x e
      · rw [List.mem_singleton.1 e]
        exact ⟨hn.free.1, hn.free.2.1, hb.1, hn.lt, hd⟩
    · rw [List.map_append, List.nodup_append]
      refine ⟨ih.nodup, by simp, fun a ha b hb' e => ?_⟩
      obtain ⟨x, hx, rfl⟩ := List.mem_map.1 ha
      have hb2 : b = v := by simpa using hb'
      have := hn.free.2.2
      rw [has_iff.2 ⟨x, hx, e.trans hb2⟩] at this
      cases this
    · cases L with
      | nil =>
        have hx : (v, d) = x := by simpa using hx
        have h0 : key D s [] s = 0 := if_pos ⟨rfl, rfl⟩
        have h1 := hn.le s ⟨hs, hW, rfl⟩
        have h2 := hn.is
        rw [h0] at h1
        have hv : v = s := by
          unfold key at h2
          split at h2
          · rename_i e; exact e.2
          · rw [sum_nil] at h2
            omega
        have hd0 : d = 0 := by rw [hv] at h2; omega
        rw [← hx, hv, hd0]
      | cons y L => exact ih.head x hx
theorem Seq.len (hs : s < N) (hW : W s = false) (h : Seq N D s W X L) : L.length ≤ N := by
  have hf := h.fine hs hW
  have h1 := nodup_lenN N _ hf.nodup (fun x hx => by
    obtain ⟨y, hy, rfl⟩ := List.mem_map.1 hx
    exact (hf.free y hy).1)
  simpa using h1
/-- What is left is no nearer than what is settled. -/
theorem Seq.beneath (h : Seq N D s W X L) : ∀ x ∈ L, ∀ w, Free N W L w → x.2 ≤ key D s L w := by
  induction h with
  | nil => exact fun x h => by cases h
  | @snoc L v d hs hn hd ih =>
    intro x hx w hw
    rw [key_ne _ (by simp), sum_snoc]
    have hwL : Free N W L w := by
      refine ⟨hw.1, hw.2.1, ?_⟩
      have := hw.2.2
      rw [has_snoc, Bool.or_eq_false_iff] at this
      exact this.1
    have hkv := key_bd D s L v
    rw [hn.is] at hkv
    have hxd : x.2 ≤ d := by
      rcases List.mem_append.1 hx with e | e
      · have := ih x e v hn.free
        rwa [hn.is] at this
      · rw [List.mem_singleton.1 e]
        exact Int.le_refl _
    have h1 : d ≤ sum D L w := by
      have h2 := hn.le w hwL
      unfold key at h2
      split at h2
      · rename_i e
        rw [e.1, sum_nil]
        omega
      · exact h2
    have h3 : d ≤ DM.two d (D v w) := by
      have ht : DM.two d (D v w) = DM.two d (DM.norm (D v w)) := by rw [two_comm d, two_comm d, NM.norm_two]
      rw [ht]
      have hb := DM.norm_bd (D v w)
      exact two_l hkv.1 hkv.2 hb.1 hb.2
    rcases low_is (sum D L w) (DM.two d (D v w)) with e | e
    · rw [e]; omega
    · rw [e]; omega
/-- Distances rise. -/
theorem Seq.rises (h : Seq N D s W X L) : L.Pairwise (fun x y => x.2 ≤ y.2) := by
  induction h with
  | nil => exact .nil
  | @snoc L v d hs hn hd ih =>
    rw [List.pairwise_append]
    refine ⟨ih, by simp, fun x hx y hy => ?_⟩
    rw [List.mem_singleton.1 hy]
    have := hs.beneath x hx v hn.free
    rwa [hn.is] at this
/-- What is touched. -/
def Tch (N : Nat) (D : Nat → Nat → Int) (W : Nat → Bool) (L : List (Nat × Int)) (w : Nat) : Prop := w < N ∧ (has L w = true ∨ (W w = false ∧ ∃ x ∈ L, D x.1 w < 4611686018427387906))
theorem Tch.pre (hp : L <+: M) {w : Nat} (h : Tch N D W L w) : Tch N D W M w := by
  refine ⟨h.1, ?_⟩
  rcases h.2 with e | ⟨e, x, hx, hd⟩
  · obtain ⟨x, hx, hw⟩ := has_iff.1 e
    exact .inl (has_iff.2 ⟨x, hp.subset hx, hw⟩)
  · exact .inr ⟨e, x, hp.subset hx, hd⟩
/-- Touched, and not settled: there is a sum. -/
theorem tch_sum (hm : ∀ u w, 0 ≤ D u w ∧ D u w ≤ 4611686018427387906) (hL : ∀ x ∈ L, 0 ≤ x.2 ∧ x.2 < 4611686018427387906) {w : Nat} : (∃ x ∈ L, D x.1 w < 4611686018427387906) ↔ sum D L w < 4611686018427387906 := by
  constructor
  · rintro ⟨x, hx, hd⟩
    have h1 := sum_le (D := D) (w := w) hx
    have h2 := hL x hx
    have h3 := hm x.1 w
    have h4 := (XM.two_told (a := x.2) (b := D x.1 w) ⟨h2.1, by omega⟩ h3).2 ⟨by omega, by omega⟩
    omega
  · intro h
    rcases sum_is D L w with e | ⟨x, hx, e⟩
    · omega
    · have h2 := hL x hx
      have h3 := hm x.1 w
      have h4 := (XM.two_told (a := x.2) (b := D x.1 w) ⟨h2.1, by omega⟩ h3).1 (by omega)
      exact ⟨x, hx, by omega⟩
end

/-! Without end, and with nothing left out: how far it is by any steps. -/
section
variable {N : Nat} {D : Nat → Nat → Int} {s : Nat} {X : Int} {L : List (Nat × Int)}
def none' : Nat → Bool := fun _ => false
/-- A way out of what is settled: its first vertex that isn't has a sum that is no greater. -/
theorem leaves (hm : ∀ u w, 0 ≤ D u w ∧ D u w ≤ 4611686018427387906) (hL : ∀ x ∈ L, x.1 < N ∧ XM.Far D N s x.1 x.2) {b : Nat} (hb : has L b = false) : ∀ (vs : List Nat) (u : Nat), has L u = true → XM.Go N u b vs →
    ∀ us, XM.Go N s u us → ∃ w, w < N ∧ has L w = false ∧ sum D L w ≤ DM.two (XM.cost D s us) (XM.cost D u vs)
  | [], u, hu, hg, _, _ => by
    have e : u = b := hg.1
    rw [e, hb] at hu
    cases hu
  | v :: vs, u, hu, hg, us, hus => by
    obtain ⟨g1, g2⟩ := XM.go_cons.1 hg
    have bu := XM.cost_bd D s us
    have bv := XM.cost_bd D v vs
    by_cases hv : has L v = true
    · have hus2 : XM.Go N s v (us ++ [v]) := XM.go_append hus (XM.go_cons.2 ⟨g1, XM.go_nil _ _⟩)
      obtain ⟨w, w1, w2, w3⟩ := leaves hm hL hb vs v hv g2 _ hus2
      refine ⟨w, w1, w2, Int.le_trans w3 ?_⟩
      have e1 : XM.cost D s (us ++ [v]) = DM.two (XM.cost D s us) (D u v) := by
        rw [XM.cost_append, hus.1]
        show DM.two _ (DM.two (D u v) 0) = _
        rw [two_zero (hm u v).1 (hm u v).2]
      rw [e1, two_assoc]
      exact Int.le_refl _
    · refine ⟨v, g1, by simpa using hv, ?_⟩
      obtain ⟨x, hx, rfl⟩ := has_iff.1 hu
      refine Int.le_trans (sum_le hx) ?_
      obtain ⟨_, hf⟩ := hL x hx
      have h1 := hf.le us hus
      show _ ≤ DM.two (XM.cost D s us) (DM.two (D x.1 v) (XM.cost D v vs))
      refine two_mono hf.lo h1 bu.2 (hm x.1 v).1 ?_ (DM.two_bd _ _).2
      exact two_l (hm x.1 v).1 (hm x.1 v).2 bv.1 bv.2
/-- Each that is settled is as far as it is by any steps. -/
theorem Seq.far (hm : ∀ u w, 0 ≤ D u w ∧ D u w ≤ 4611686018427387906) (hs : s < N) (h : Seq N D s none' X L) : ∀ x ∈ L, x.1 < N ∧ XM.Far D N s x.1 x.2 := by
  induction h with
  | nil => exact fun x h => by cases h
  | @snoc L v d hq hn hd ih =>
    intro x hx
    rcases List.mem_append.1 hx with e | e
    · exact ih x e
    rw [List.mem_singleton.1 e]
    have hb := key_bd D s L v
    rw [hn.is] at hb
    refine ⟨hn.free.1, ?_⟩
    have hfine := hq.fine hs rfl
    by_cases hn0 : L = []
    · subst hn0
      have hf2 := (Seq.snoc hq hn hd).fine hs rfl
      have e0 := hf2.head (v, d) (by simp)
      obtain ⟨rfl, rfl⟩ := Prod.mk.inj e0
      exact ⟨Int.le_refl _, by show (0 : Int) ≤ _; decide, fun vs _ => (XM.cost_bd D _ vs).1, .inr ⟨[], XM.go_nil _ _, rfl⟩⟩
    · have hs0 : has L s = true := by
        cases L with
        | nil => exact absurd rfl hn0
        | cons y L =>
          have := hfine.head y rfl
          exact has_iff.2 ⟨y, by simp, by rw [this]⟩
      refine ⟨hb.1, hb.2, fun vs hg => ?_, .inr ?_⟩
      · obtain ⟨w, w1, w2, w3⟩ := leaves hm ih hn.free.2.2 vs s hs0 hg [] (XM.go_nil _ _)
        have h1 := hn.le w ⟨w1, rfl, w2⟩
        rw [key_ne _ hn0] at h1
        have bc := XM.cost_bd D s vs
        have e1 : DM.two (XM.cost D s []) (XM.cost D s vs) = XM.cost D s vs := zero_two bc.1 bc.2
        rw [e1] at w3
        show d ≤ _
        omega
      · have hi := hn.is
        rw [key_ne _ hn0] at hi
        rcases sum_is D L v with e1 | ⟨y, hy, e1⟩
        · have := hn.lt
          omega
        · obtain ⟨y1, hf⟩ := ih y hy
          have hlt := (hfine.free y hy).2.2.2.1
          rcases hf.is with e2 | ⟨us, u1, u2⟩
          · omega
          · refine ⟨us ++ [v], XM.go_append u1 (XM.go_cons.2 ⟨hn.free.1, XM.go_nil _ _⟩), ?_⟩
            rw [XM.cost_append, u1.1, u2]
            show DM.two y.2 (DM.two (D y.1 v) 0) = d
            rw [two_zero (hm y.1 v).1 (hm y.1 v).2, ← e1, hi]
/-- Some may be settled next, unless there is no sum at all. -/
theorem exists_next {N : Nat} {D : Nat → Nat → Int} {s : Nat} {W : Nat → Bool} {L : List (Nat × Int)} {w : Nat} (hw : Free N W L w) (hk : key D s L w < 4611686018427387906) : ∃ v d, Next N D s W L v d := by
  classical
  have hb : ∀ (n : Nat) (w : Nat), (key D s L w).toNat * (N + 1) + w ≤ n → Free N W L w → key D s L w < 4611686018427387906 → ∃ v d, Next N D s W L v d := by
    intro n
    induction n with
    | zero =>
      intro w hn hf hl
      refine ⟨w, key D s L w, hf, rfl, hl, fun u hu => ?_, fun u hu he => ?_⟩
      · have h1 := key_bd D s L w
        have h2 := key_bd D s L u
        rcases Nat.eq_zero_or_pos (key D s L w).toNat with e | e
        · omega
        · have : 1 * (N + 1) ≤ (key D s L w).toNat * (N + 1) := Nat.mul_le_mul_right _ e
          omega
      · omega
    | succ n ih =>
      intro w hn hf hl
      by_cases hx : ∃ u, Free N W L u ∧ (key D s L u < key D s L w ∨ (key D s L u = key D s L w ∧ u < w))
      · obtain ⟨u, hu, hlt⟩ := hx
        have h1 := key_bd D s L w
        have h2 := key_bd D s L u
        refine ih u ?_ hu (by omega)
        rcases hlt with e | ⟨e, e2⟩
        · have h3 : ((key D s L u).toNat + 1) * (N + 1) ≤ (key D s L w).toNat * (N + 1) := Nat.mul_le_mul_right _ (by omega)
          rw [Nat.succ_mul] at h3
          have := hu.1
          omega
        · rw [e]
          omega
      · refine ⟨w, key D s L w, hf, rfl, hl, fun u hu => ?_, fun u hu he => ?_⟩
        · exact Int.not_lt.1 fun c => hx ⟨u, hu, .inl c⟩
        · exact Nat.not_lt.1 fun c => hx ⟨u, hu, .inr ⟨he, c⟩⟩
  exact hb _ w (Nat.le_refl _) hw hk
/-- Where nothing more may be settled, nothing else can be come to. -/
theorem Stuck.far (hm : ∀ u w, 0 ≤ D u w ∧ D u w ≤ 4611686018427387906) (hs : s < N) (hX : 4611686018427387905 ≤ X) (h : Seq N D s none' X L) (hk : Stuck N D s none' X L) {b : Nat} (hb : has L b = false) : XM.Far D N s b 4611686018427387906 := by
  have hkey : ∀ w, Free N none' L w → key D s L w = 4611686018427387906 := by
    intro w hw
    have h1 := key_bd D s L w
    rcases Int.lt_or_le (key D s L w) 4611686018427387906 with c | c
    · obtain ⟨v, d, hn⟩ := exists_next hw c
      have := hk v d hn
      have := hn.lt
      omega
    · omega
  have hn0 : L ≠ [] := by
    rintro rfl
    have := hkey s ⟨hs, rfl, rfl⟩
    rw [show key D s [] s = 0 from if_pos ⟨rfl, rfl⟩] at this
    cases this
  have hs0 : has L s = true := by
    have hfine := h.fine hs rfl
    cases L with
    | nil => exact absurd rfl hn0
    | cons y L =>
      have := hfine.head y rfl
      exact has_iff.2 ⟨y, by simp, by rw [this]⟩
  refine ⟨by decide, Int.le_refl _, fun vs hg => ?_, .inl rfl⟩
  obtain ⟨w, w1, w2, w3⟩ := leaves hm (h.far hm hs) hb vs s hs0 hg [] (XM.go_nil _ _)
  have h1 := hkey w ⟨w1, rfl, w2⟩
  rw [key_ne _ hn0] at h1
  have bc := XM.cost_bd D s vs
  have e1 : DM.two (XM.cost D s []) (XM.cost D s vs) = XM.cost D s vs := zero_two bc.1 bc.2
  rw [e1] at w3
  omega
/-- A search without end, from which nothing is left out, settles just what can be come to. -/
theorem Got.far (hm : ∀ u w, 0 ≤ D u w ∧ D u w ≤ 4611686018427387906) (hs : s < N) (hX : 4611686018427387905 ≤ X) {k : Nat} (hk : N ≤ k) (h : Got N D s none' X k L) {b : Nat} (hb : b < N) {y : Int} (hy : XM.Far D N s b y) : has L b = true ↔ y < 4611686018427387906 := by
  have hfine := h.seq.fine hs rfl
  constructor
  · intro h1
    obtain ⟨x, hx, rfl⟩ := has_iff.1 h1
    have := (h.seq.far hm hs x hx).2.unique hy
    have := (hfine.free x hx).2.2.2.1
    omega
  · intro h1
    cases hc : has L b with
    | true => rfl
    | false =>
      rcases h.full with f | f
      · exfalso
        have hl := h.seq.len hs rfl
        have hcons : (b :: L.map (·.1)).Nodup := List.nodup_cons.2 ⟨fun hm' => by
          obtain ⟨x, hx, e⟩ := List.mem_map.1 hm'
          rw [has_iff.2 ⟨x, hx, e⟩] at hc
          exact absurd hc (by decide), hfine.nodup⟩
        have h2 := nodup_lenN N _ hcons (fun x hx => by
          rcases List.mem_cons.1 hx with e | e
          · rw [e]; exact hb
          · obtain ⟨z, hz, rfl⟩ := List.mem_map.1 e
            exact (hfine.free z hz).1)
        simp at h2
        omega
      · have := (f.far hm hs hX h.seq hc).unique hy
        omega
/-- A touched one is settled, where the search is without end and nothing is left out. -/
theorem Got.tch (hm : ∀ u w, 0 ≤ D u w ∧ D u w ≤ 4611686018427387906) (hs : s < N) (hX : 4611686018427387905 ≤ X) {k : Nat} (hk : N ≤ k) (h : Got N D s none' X k L) {b : Nat} (hb : b < N) : Tch N D none' L b ↔ has L b = true := by
  refine ⟨fun ht => ?_, fun e => ⟨hb, .inl e⟩⟩
  rcases ht.2 with e | ⟨_, x, hx, hd⟩
  · exact e
  · cases hc : has L b with
    | true => rfl
    | false =>
      exfalso
      have hfine := h.seq.fine hs rfl
      have hx2 := (hfine.free x hx).2.2
      have hlt := (tch_sum (w := b) hm (fun x hx => ⟨(hfine.free x hx).2.2.1, (hfine.free x hx).2.2.2.1⟩)).1 ⟨x, hx, hd⟩
      rcases h.full with f | f
      · have hcons : (b :: L.map (·.1)).Nodup := List.nodup_cons.2 ⟨fun hm' => by
          obtain ⟨x, hx, e⟩ := List.mem_map.1 hm'
          rw [has_iff.2 ⟨x, hx, e⟩] at hc
          exact absurd hc (by decide), hfine.nodup⟩
        have h2 := nodup_lenN N _ hcons (fun x hx => by
          rcases List.mem_cons.1 hx with e | e
          · rw [e]; exact hb
          · obtain ⟨z, hz, rfl⟩ := List.mem_map.1 e
            exact (hfine.free z hz).1)
        simp at h2
        omega
      · have hne : L ≠ [] := fun e => by rw [e] at hx; cases hx
        obtain ⟨v, d, hn⟩ := exists_next (s := s) (w := b) (W := none') ⟨hb, rfl, hc⟩ (by rw [key_ne _ hne]; exact hlt)
        have h1 := f v d hn
        have h2 := hn.lt
        omega
end
end WM
end Go.Proofs.Ytmkpcidgiobpeaa
end

section
/-
  What waits while a search goes on (layer 13): each that may be settled, at its least sum; part way through the steps of the one settled last. Nothing of the program.
-/
namespace Go.Proofs.Ytmkpcidgiobpeaa
namespace WM
/-- Between the rounds: what waits, and how far each is. -/
def Waits (N : Nat) (D : Nat → Nat → Int) (s : Nat) (W : Nat → Bool) (L : List (Nat × Int)) (hm : Nat → Option Int) : Prop :=
  ∀ w, (Free N W L w ∧ key D s L w < 4611686018427387906 → hm w = some (key D s L w)) ∧ (¬ (Free N W L w ∧ key D s L w < 4611686018427387906) → hm w = none)
section
variable {N : Nat} {D : Nat → Nat → Int} {s : Nat} {W : Nat → Bool} {L : List (Nat × Int)} {hm : Nat → Option Int} {v : Nat} {d : Int}
theorem Waits.some_of (h : Waits N D s W L hm) {w : Nat} {r : Int} (e : hm w = some r) : Free N W L w ∧ key D s L w = r ∧ r < 4611686018427387906 := by
  by_cases c : Free N W L w ∧ key D s L w < 4611686018427387906
  · have := (h w).1 c
    rw [e] at this
    have hr : r = key D s L w := Option.some.inj this
    exact ⟨c.1, hr.symm, by rw [hr]; exact c.2⟩
  · rw [(h w).2 c] at e
    cases e
theorem Waits.begin (hs : s < N) (hW : W s = false) : Waits N D s W [] (HM.upd (fun _ => none) s (some 0)) := by
  intro w
  unfold HM.upd key
  by_cases e : w = s
  · subst e
    rw [if_pos rfl, if_pos ⟨rfl, rfl⟩]
    exact ⟨fun _ => rfl, fun h => absurd ⟨⟨hs, hW, has_nil w⟩, by decide⟩ h⟩
  · rw [if_neg e, if_neg (fun c => e c.2)]
    exact ⟨fun h => absurd h.2 (by rw [sum_nil]; decide), fun _ => rfl⟩
/-- The first one that waits is settled next. -/
theorem Waits.next (h : Waits N D s W L hm) (hf : HM.IsFirst HM.TI hm (v, d)) : Next N D s W L v d := by
  obtain ⟨h1, h2⟩ := hf
  dsimp only at h1 h2
  obtain ⟨f, k, l⟩ := h.some_of h1
  have hle : ∀ w, Free N W L w → d ≤ key D s L w := fun w hw => by
    by_cases c : key D s L w < 4611686018427387906
    · have := h2 w _ ((h w).1 ⟨hw, c⟩)
      rw [not_or] at this
      have h3 : ¬ key D s L w < d := by simpa [HM.TI] using this.1
      omega
    · have := key_bd D s L w
      omega
  refine ⟨f, k, l, hle, fun w hw he => ?_⟩
  have := h2 w _ ((h w).1 ⟨hw, by omega⟩)
  rw [not_or] at this
  exact Nat.not_lt.1 fun c => this.2 ⟨he, c⟩
/-- Where none waits, nothing more may be settled. -/
theorem Waits.stuck (h : Waits N D s W L hm) (h0 : ∀ w, hm w = none) (X : Int) : Stuck N D s W X L := by
  intro v d hn
  have := (h v).1 ⟨hn.free, by rw [hn.is]; exact hn.lt⟩
  rw [h0] at this
  cases this
/-- Part way through the steps of the one settled last: the vertices in G have come. -/
def Mid (N : Nat) (D : Nat → Nat → Int) (W : Nat → Bool) (L : List (Nat × Int)) (x : Nat × Int) (G : Nat → Prop) (hm : Nat → Option Int) : Prop :=
  ∀ w, (Free N W (L ++ [x]) w → (G w → hm w = if sum D (L ++ [x]) w < 4611686018427387906 then some (sum D (L ++ [x]) w) else none) ∧ (¬ G w → hm w = if sum D L w < 4611686018427387906 then some (sum D L w) else none)) ∧ (¬ Free N W (L ++ [x]) w → hm w = none)
theorem free_snoc {x : Nat × Int} {w : Nat} : Free N W (L ++ [x]) w ↔ Free N W L w ∧ x.1 ≠ w := by
  unfold Free
  rw [has_snoc, Bool.or_eq_false_iff]
  constructor
  · rintro ⟨a, b, c, e⟩
    exact ⟨⟨a, b, c⟩, by simpa using e⟩
  · rintro ⟨⟨a, b, c⟩, e⟩
    exact ⟨a, b, c, by simpa using e⟩
/-- The first one comes out, and is settled; none of its steps has come. -/
theorem Waits.out (h : Waits N D s W L hm) (hn : Next N D s W L v d) (hs : s < N) (hW : W s = false) : Mid N D W L (v, d) (fun _ => False) (HM.upd hm v none) := by
  intro w
  unfold HM.upd
  refine ⟨fun hf => ⟨fun g => g.elim, fun _ => ?_⟩, fun hf => ?_⟩
  · rw [free_snoc] at hf
    rw [if_neg (fun e => hf.2 e.symm)]
    have hk : key D s L w = sum D L w := by
      unfold key
      split
      · rename_i e
        exfalso
        -- the first one is settled first
        have h0 : key D s L s = 0 := if_pos ⟨e.1, rfl⟩
        have h1 := hn.le s ⟨hs, hW, by rw [e.1]; rfl⟩
        have h2 := hn.is
        have h3 := key_bd D s L v
        rw [h0] at h1
        have hv : key D s L v = 0 := by omega
        unfold key at hv
        split at hv
        · rename_i e2
          exact hf.2 (e2.2.trans e.2.symm)
        · rw [e.1, sum_nil] at hv
          cases hv
      · rfl
    have := h w
    rw [hk] at this
    by_cases c : sum D L w < 4611686018427387906
    · rw [if_pos c]; exact this.1 ⟨hf.1, c⟩
    · rw [if_neg c]; exact this.2 (fun e => c e.2)
  · by_cases e : w = v
    · rw [if_pos e]
    · rw [if_neg e]
      exact (h w).2 (fun c => hf (free_snoc.2 ⟨c.1, fun e2 => e e2.symm⟩))
/-- All its steps have come. -/
theorem Mid.done {x : Nat × Int} {G : Nat → Prop} (h : Mid N D W L x G hm) (hx : 0 ≤ x.2 ∧ x.2 ≤ 4611686018427387906) (hG : ∀ w, w < N → ¬ G w → D x.1 w = 4611686018427387906) : Waits N D s W (L ++ [x]) hm := by
  intro w
  rw [key_ne w (by simp : L ++ [x] ≠ [])]
  by_cases hf : Free N W (L ++ [x]) w
  · have hh := (h w).1 hf
    have he : hm w = if sum D (L ++ [x]) w < 4611686018427387906 then some (sum D (L ++ [x]) w) else none := by
      by_cases g : G w
      · exact hh.1 g
      · have hs : sum D (L ++ [x]) w = sum D L w := by
          rw [sum_snoc, hG w hf.1 g]
          have ht : DM.two x.2 4611686018427387906 = 4611686018427387906 := by
            rw [NM.two_comm]
            exact XM.none_two hx rfl
          rw [ht]
          unfold low
          have := (sum_bd D w L).2
          rw [if_neg (by omega)]
        rw [hs]
        exact hh.2 g
    refine ⟨fun c => by rw [he, if_pos c.2], fun c => by rw [he, if_neg (fun c2 => c ⟨hf, c2⟩)]⟩
  · exact ⟨fun c => absurd c.1 hf, fun _ => (h w).2 hf⟩
/-- One step more comes, to a vertex that may be settled: it waits at the less of both. -/
theorem Mid.come {x : Nat × Int} {G : Nat → Prop} (h : Mid N D W L x G hm) {u : Nat} (hu : ¬ G u) (hf : Free N W (L ++ [x]) u) : hm u = (if sum D L u < 4611686018427387906 then some (sum D L u) else none) ∧ Mid N D W L x (fun w => G w ∨ w = u) (HM.upd hm u (if sum D (L ++ [x]) u < 4611686018427387906 then some (sum D (L ++ [x]) u) else none)) := by
  refine ⟨((h u).1 hf).2 hu, fun w => ?_⟩
  unfold HM.upd
  by_cases e : w = u
  · subst e
    rw [if_pos rfl]
    exact ⟨fun _ => ⟨fun _ => rfl, fun c => absurd (.inr rfl) c⟩, fun c => absurd hf c⟩
  · rw [if_neg e]
    refine ⟨fun c => ⟨fun g => ((h w).1 c).1 (g.resolve_right e), fun g => ((h w).1 c).2 (fun g' => g (.inl g'))⟩, fun c => (h w).2 c⟩
/-- One step more comes, to one that may not, or is settled. -/
theorem Mid.skip {x : Nat × Int} {G : Nat → Prop} (h : Mid N D W L x G hm) {u : Nat} (hf : ¬ Free N W (L ++ [x]) u) : Mid N D W L x (fun w => G w ∨ w = u) hm := by
  intro w
  refine ⟨fun c => ?_, (h w).2⟩
  have e : w ≠ u := fun e => hf (e ▸ c)
  exact ⟨fun g => ((h w).1 c).1 (g.resolve_right e), fun g => ((h w).1 c).2 (fun g' => g (.inl g'))⟩
end
end WM
end Go.Proofs.Ytmkpcidgiobpeaa
end
