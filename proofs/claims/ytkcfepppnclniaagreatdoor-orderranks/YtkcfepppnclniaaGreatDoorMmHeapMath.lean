/-
  The arithmetic of heaps: things by what they have come to, in a line in which none stands behind one that comes out behind it. Nothing of any program.
-/
import Derived.Laws.Strings
namespace Go.Proofs.YtkcfepppnclniaaGreatDoor
namespace HM

/-- An order in which of two unlike ones one is less. -/
structure Tot (α : Type) where
  lt : α → α → Bool
  irr : ∀ a, lt a a = false
  tr : ∀ a b c, lt a b = true → lt b c = true → lt a c = true
  tri : ∀ a b, lt a b = false → lt b a = false → a = b

/-- Integers. -/
def TI : Tot Int where
  lt a b := decide (a < b)
  irr a := by simp
  tr a b c h1 h2 := by simp only [decide_eq_true_eq] at *; omega
  tri a b h1 h2 := by simp only [decide_eq_false_iff_not] at *; omega
theorem bl_eq : ∀ x y : List UInt8, Op.bytesLess x y = decide (x < y)
  | [], [] => by simp [Op.bytesLess]
  | [], _ :: _ => by simp [Op.bytesLess]
  | _ :: _, [] => by simp [Op.bytesLess]
  | a :: x, b :: y => by
    have e : (a == b) = decide (a = b) := by by_cases h : a = b <;> simp [h]
    rw [Op.bytesLess, bl_eq x y, e]
    simp [List.cons_lt_cons_iff]
/-- Texts, byte by byte. -/
def TS : Tot ByteArray where
  lt a b := Op.bytesLess a.toList b.toList
  irr a := by rw [bl_eq]; simp
  tr a b c h1 h2 := by
    rw [bl_eq, decide_eq_true_eq] at *
    exact List.lt_trans h1 h2
  tri a b h1 h2 := by
    rw [bl_eq, decide_eq_false_iff_not] at *
    have h : a.toList = b.toList := List.le_antisymm (by rw [List.not_lt] at h2; exact h2) (by rw [List.not_lt] at h1; exact h1)
    apply ByteArray.ext
    rw [← Array.toList_inj]
    simpa [ByteArray.toList_eq] using h

section
variable {α : Type} (O : Tot α)

/-- The one thing comes out ahead of the other. -/
def R (c : Nat → α) (a b : Nat) : Prop := O.lt (c a) (c b) = true ∨ (c a = c b ∧ a < b)
variable {O}
theorem R.irr {c : Nat → α} {a : Nat} : ¬ R O c a a := by
  rintro (h | ⟨_, h⟩)
  · rw [O.irr] at h; cases h
  · omega
theorem R.tr {c : Nat → α} {x y z : Nat} (h1 : R O c x y) (h2 : R O c y z) : R O c x z := by
  rcases h1 with h1 | ⟨e1, h1⟩ <;> rcases h2 with h2 | ⟨e2, h2⟩
  · exact .inl (O.tr _ _ _ h1 h2)
  · exact .inl (e2 ▸ h1)
  · exact .inl (e1 ▸ h2)
  · exact .inr ⟨e1.trans e2, by omega⟩
theorem R.as {c : Nat → α} {x y : Nat} (h1 : R O c x y) : ¬ R O c y x := fun h2 => R.irr (h1.tr h2)
theorem R.tot {c : Nat → α} {x y : Nat} (h : x ≠ y) : R O c x y ∨ R O c y x := by
  rcases h1 : O.lt (c x) (c y) with _ | _
  · rcases h2 : O.lt (c y) (c x) with _ | _
    · have e := O.tri _ _ h1 h2
      rcases Nat.lt_or_gt_of_ne h with h | h
      · exact .inl (.inr ⟨e, h⟩)
      · exact .inr (.inr ⟨e.symm, h⟩)
    · exact .inr (.inl h2)
  · exact .inl (.inl h1)
/-- Not behind, twice. -/
theorem R.le_tr {c : Nat → α} {x y z : Nat} (h1 : ¬ R O c y x) (h2 : ¬ R O c z y) : ¬ R O c z x := by
  intro h
  by_cases e : x = y
  · subst e; exact h2 h
  · rcases R.tot (O := O) (c := c) e with h3 | h3
    · exact h2 (h.tr h3)
    · exact h1 h3
theorem R.congr {c c' : Nat → α} {x y : Nat} (hx : c x = c' x) (hy : c y = c' y) : R O c x y ↔ R O c' x y := by unfold R; rw [hx, hy]

variable (O)
/-- None comes out ahead of the one above it. -/
def All (c : Nat → α) (f : Nat → Nat) (n : Nat) : Prop := ∀ k, 0 < k → k < n → ¬ R O c (f k) (f ((k - 1) / 2))
/-- But for the one at i, which may have to go up. -/
def Up (c : Nat → α) (f : Nat → Nat) (n i : Nat) : Prop :=
  (∀ k, 0 < k → k < n → k ≠ i → ¬ R O c (f k) (f ((k - 1) / 2))) ∧ (∀ k, 0 < k → k < n → (k - 1) / 2 = i → 0 < i → ¬ R O c (f k) (f ((i - 1) / 2)))
/-- But for the one at i, which may have to go down. -/
def Dn (c : Nat → α) (f : Nat → Nat) (n i : Nat) : Prop :=
  (∀ k, 0 < k → k < n → (k - 1) / 2 ≠ i → ¬ R O c (f k) (f ((k - 1) / 2))) ∧ (∀ k, 0 < k → k < n → (k - 1) / 2 = i → 0 < i → ¬ R O c (f k) (f ((i - 1) / 2)))
variable {O}
/-- Two change places. -/
def sw (f : Nat → Nat) (i j k : Nat) : Nat := if k = i then f j else if k = j then f i else f k

theorem All.root {c : Nat → α} {f : Nat → Nat} {n : Nat} (h : All O c f n) : ∀ k, k < n → ¬ R O c (f k) (f 0) := by
  intro k
  induction k using Nat.strongRecOn with
  | _ k ih =>
    intro hk
    rcases Nat.eq_zero_or_pos k with rfl | hp
    · exact R.irr
    · exact R.le_tr (ih ((k - 1) / 2) (by omega) (by omega)) (h k hp hk)
theorem Up.done0 {c : Nat → α} {f : Nat → Nat} {n : Nat} (h : Up O c f n 0) : All O c f n := fun k hp hk => h.1 k hp hk (by omega)
theorem Up.done {c : Nat → α} {f : Nat → Nat} {n i : Nat} (h : Up O c f n i) (hi : ¬ R O c (f i) (f ((i - 1) / 2))) : All O c f n := by
  intro k hp hk
  by_cases e : k = i
  · subst e; exact hi
  · exact h.1 k hp hk e
theorem Up.step {c : Nat → α} {f : Nat → Nat} {n i : Nat} (h : Up O c f n i) (hp : 0 < i) (hr : R O c (f i) (f ((i - 1) / 2))) : Up O c (sw f i ((i - 1) / 2)) n ((i - 1) / 2) := by
  obtain ⟨h1, h2⟩ := h
  have hne : (i - 1) / 2 ≠ i := by omega
  generalize hq : (i - 1) / 2 = q at *
  refine ⟨fun k kp kn kq => ?_, fun k kp kn ke q0 => ?_⟩
  · by_cases ki : k = i
    · subst ki
      simp only [sw, hq, if_true, if_neg hne]
      exact hr.as
    · simp only [sw, if_neg ki, if_neg kq]
      by_cases e1 : (k - 1) / 2 = i
      · rw [if_pos e1]; exact h2 k kp kn e1 hp
      · rw [if_neg e1]
        by_cases e2 : (k - 1) / 2 = q
        · rw [if_pos e2]
          intro h
          have := h1 k kp kn ki
          rw [e2] at this
          exact this (h.tr hr)
        · rw [if_neg e2]; exact h1 k kp kn ki
  · have a1 : (q - 1) / 2 ≠ i := by omega
    have a2 : (q - 1) / 2 ≠ q := by omega
    have hqn : ¬ R O c (f q) (f ((q - 1) / 2)) := h1 q q0 (by omega) (by omega)
    simp only [sw, if_neg a1, if_neg a2]
    by_cases ki : k = i
    · rw [if_pos ki]; exact hqn
    · rw [if_neg ki, if_neg (by omega)]
      have := h1 k kp kn ki
      rw [ke] at this
      exact R.le_tr hqn this
theorem Dn.done {c : Nat → α} {f : Nat → Nat} {n i : Nat} (h : Dn O c f n i) (hi : ∀ k, 0 < k → k < n → (k - 1) / 2 = i → ¬ R O c (f k) (f i)) : All O c f n := by
  intro k hp hk
  by_cases e : (k - 1) / 2 = i
  · rw [e]; exact hi k hp hk e
  · exact h.1 k hp hk e
theorem Dn.step {c : Nat → α} {f : Nat → Nat} {n i b : Nat} (h : Dn O c f n i) (hb : 0 < b) (hbn : b < n) (hbi : (b - 1) / 2 = i) (hr : R O c (f b) (f i)) (hl : ∀ k, 0 < k → k < n → (k - 1) / 2 = i → ¬ R O c (f k) (f b)) :
    Dn O c (sw f i b) n b := by
  obtain ⟨h1, h2⟩ := h
  have hne : b ≠ i := by omega
  refine ⟨fun k kp kn kq => ?_, fun k kp kn ke b0 => ?_⟩
  · by_cases ki : k = i
    · subst ki
      have a1 : (k - 1) / 2 ≠ k := by omega
      simp only [sw, if_true, if_neg a1, if_neg kq]
      exact h2 b hb hbn hbi kp
    · by_cases kb : k = b
      · subst kb
        simp only [sw, hbi, if_neg ki, if_true]
        exact hr.as
      · simp only [sw, if_neg ki, if_neg kb]
        by_cases e1 : (k - 1) / 2 = i
        · rw [if_pos e1]; exact hl k kp kn e1
        · rw [if_neg e1, if_neg kq]; exact h1 k kp kn e1
  · have a1 : k ≠ i := by omega
    have a2 : k ≠ b := by omega
    simp only [sw, hbi, if_neg a1, if_neg a2, if_true]
    have := h1 k kp kn (by omega)
    rw [ke] at this
    exact this

/-! Lines and places. -/
def at0 (l : List Nat) (i : Nat) : Nat := l[i]?.getD 0
def pat (l : List Int) (i : Nat) : Int := l[i]?.getD 0
/-- Where each thing stands. -/
def Wf (n : Nat) (line : List Nat) (place : List Int) : Prop :=
  place.length = n ∧ (∀ i, i < line.length → at0 line i < n ∧ pat place (at0 line i) = (i : Int)) ∧ (∀ t, t < n → pat place t = -1 ∨ ∃ i, i < line.length ∧ pat place t = (i : Int) ∧ at0 line i = t)
theorem at0_set (l : List Nat) (i v k : Nat) (h : i < l.length) : at0 (l.set i v) k = if k = i then v else at0 l k := by
  unfold at0
  rw [List.getElem?_set]
  by_cases e : i = k
  · subst e; simp [h]
  · rw [if_neg e, if_neg (fun h => e h.symm)]
theorem pat_set (l : List Int) (i : Nat) (v : Int) (k : Nat) (h : i < l.length) : pat (l.set i v) k = if k = i then v else pat l k := by
  unfold pat
  rw [List.getElem?_set]
  by_cases e : i = k
  · subst e; simp [h]
  · rw [if_neg e, if_neg (fun h => e h.symm)]
theorem Wf.inj {n : Nat} {line : List Nat} {place : List Int} (h : Wf n line place) {i j : Nat} (hi : i < line.length) (hj : j < line.length) (e : at0 line i = at0 line j) : i = j := by
  have h1 := (h.2.1 i hi).2
  have h2 := (h.2.1 j hj).2
  rw [e, h2] at h1
  omega
/-- The line, two of it in each other's place. -/
def swl (line : List Nat) (i j : Nat) : List Nat := (line.set i (at0 line j)).set j (at0 line i)
def swp (line : List Nat) (place : List Int) (i j : Nat) : List Int := (place.set (at0 (swl line i j) i) (i : Int)).set (at0 (swl line i j) j) (j : Int)
theorem swl_len (line : List Nat) (i j : Nat) : (swl line i j).length = line.length := by simp [swl]
theorem swp_len (line : List Nat) (place : List Int) (i j : Nat) : (swp line place i j).length = place.length := by simp [swp]
theorem swl_at (line : List Nat) (i j : Nat) (hi : i < line.length) (hj : j < line.length) (k : Nat) : at0 (swl line i j) k = sw (at0 line) i j k := by
  unfold swl sw
  rw [at0_set _ _ _ _ (by simpa using hj), at0_set _ _ _ _ hi]
  by_cases e1 : k = j
  · subst e1
    by_cases e2 : k = i
    · subst e2; simp
    · simp [e2]
  · simp [e1]
theorem swp_at {n : Nat} {line : List Nat} {place : List Int} (h : Wf n line place) (i j : Nat) (hi : i < line.length) (hj : j < line.length) (t : Nat) :
    pat (swp line place i j) t = if t = at0 line i then (j : Int) else if t = at0 line j then (i : Int) else pat place t := by
  have e1 : at0 (swl line i j) i = at0 line j := by rw [swl_at _ _ _ hi hj]; simp [sw]
  have e2 : at0 (swl line i j) j = at0 line i := by
    rw [swl_at _ _ _ hi hj]
    unfold sw
    by_cases e : j = i
    · subst e; simp
    · simp [e]
  unfold swp
  rw [e1, e2, pat_set _ _ _ _ (by rw [List.length_set, h.1]; exact (h.2.1 i hi).1), pat_set _ _ _ _ (by rw [h.1]; exact (h.2.1 j hj).1)]
theorem Wf.swap {n : Nat} {line : List Nat} {place : List Int} (h : Wf n line place) {i j : Nat} (hi : i < line.length) (hj : j < line.length) : Wf n (swl line i j) (swp line place i j) := by
  refine ⟨by rw [swp_len]; exact h.1, fun k hk => ?_, fun t ht => ?_⟩
  · rw [swl_len] at hk
    rw [swp_at h i j hi hj, swl_at _ _ _ hi hj]
    have hki := h.inj hk hi
    have hkj := h.inj hk hj
    have hij := h.inj hi hj
    unfold sw
    by_cases e1 : k = i
    · subst e1
      rw [if_pos rfl]
      refine ⟨(h.2.1 j hj).1, ?_⟩
      by_cases e2 : at0 line j = at0 line k
      · rw [if_pos e2, hij e2.symm]
      · rw [if_neg e2, if_pos rfl]
    · rw [if_neg e1]
      by_cases e2 : k = j
      · subst e2
        rw [if_pos rfl, if_pos rfl]
        exact ⟨(h.2.1 i hi).1, rfl⟩
      · rw [if_neg e2, if_neg (fun e => e1 (hki e)), if_neg (fun e => e2 (hkj e))]
        exact h.2.1 k hk
  · rw [swp_at h i j hi hj]
    by_cases e1 : t = at0 line i
    · refine .inr ⟨j, by rw [swl_len]; exact hj, by rw [if_pos e1], ?_⟩
      rw [swl_at _ _ _ hi hj, e1]
      unfold sw
      by_cases e : j = i
      · subst e; simp
      · simp [e]
    · rw [if_neg e1]
      by_cases e2 : t = at0 line j
      · refine .inr ⟨i, by rw [swl_len]; exact hi, by rw [if_pos e2], ?_⟩
        rw [swl_at _ _ _ hi hj, e2]
        simp [sw]
      · rw [if_neg e2]
        rcases h.2.2 t ht with h' | ⟨k, hk, h1, h2⟩
        · exact .inl h'
        · refine .inr ⟨k, by rw [swl_len]; exact hk, h1, ?_⟩
          rw [swl_at _ _ _ hi hj]
          unfold sw
          rw [if_neg (by rintro rfl; exact e1 h2.symm), if_neg (by rintro rfl; exact e2 h2.symm), h2]
/-- A new one, at the end. -/
theorem Wf.push {n : Nat} {line : List Nat} {place : List Int} (h : Wf n line place) {t : Nat} (ht : t < n) (hout : pat place t = -1) : Wf n (line ++ [t]) (place.set t (line.length : Int)) := by
  have hat : ∀ k, at0 (line ++ [t]) k = if k < line.length then at0 line k else if k = line.length then t else 0 := by
    intro k
    unfold at0
    rw [List.getElem?_append]
    by_cases e : k < line.length
    · simp [e]
    · rw [if_neg e, if_neg e]
      by_cases e2 : k = line.length
      · subst e2; simp
      · rw [if_neg e2, List.getElem?_eq_none (by simp; omega)]; rfl
  refine ⟨by simpa using h.1, fun k hk => ?_, fun u hu => ?_⟩
  · rw [List.length_append, List.length_singleton] at hk
    rw [pat_set _ _ _ _ (by rw [h.1]; exact ht), hat]
    by_cases e : k < line.length
    · rw [if_pos e]
      have h1 := h.2.1 k e
      refine ⟨h1.1, ?_⟩
      rw [if_neg]
      · exact h1.2
      · intro e2
        rw [e2, hout] at h1
        omega
    · rw [if_neg e, if_pos (by omega), if_pos rfl]
      exact ⟨ht, by omega⟩
  · rw [pat_set _ _ _ _ (by rw [h.1]; exact ht)]
    by_cases e : u = t
    · rw [if_pos e]
      exact .inr ⟨line.length, by simp, rfl, by rw [hat]; simp [e]⟩
    · rw [if_neg e]
      rcases h.2.2 u hu with h' | ⟨k, hk, h1, h2⟩
      · exact .inl h'
      · exact .inr ⟨k, by simp; omega, h1, by rw [hat, if_pos hk]; exact h2⟩
theorem at0_push (line : List Nat) (t k : Nat) (h : k < line.length) : at0 (line ++ [t]) k = at0 line k := by
  unfold at0
  rw [List.getElem?_append_left h]
theorem at0_last (line : List Nat) (t : Nat) : at0 (line ++ [t]) line.length = t := by simp [at0]
theorem at0_take (line : List Nat) (m k : Nat) (h : k < m) : at0 (line.take m) k = at0 line k := by
  unfold at0
  rw [List.getElem?_take_of_lt h]
/-- The last one goes. -/
theorem Wf.drop {n : Nat} {line : List Nat} {place : List Int} (h : Wf n line place) {m : Nat} (hm : line.length = m + 1) : Wf n (line.take m) (place.set (at0 line m) (-1)) := by
  have hl : (line.take m).length = m := by rw [List.length_take]; omega
  have hn := (h.2.1 m (by omega)).1
  refine ⟨by simpa using h.1, fun k hk => ?_, fun u hu => ?_⟩
  · rw [hl] at hk
    rw [pat_set _ _ _ _ (by rw [h.1]; exact hn), at0_take _ _ _ hk]
    have h1 := h.2.1 k (by omega)
    refine ⟨h1.1, ?_⟩
    rw [if_neg]
    · exact h1.2
    · intro e
      have := h.inj (by omega) (by omega) e
      omega
  · rw [pat_set _ _ _ _ (by rw [h.1]; exact hn)]
    by_cases e : u = at0 line m
    · rw [if_pos e]; exact .inl rfl
    · rw [if_neg e]
      rcases h.2.2 u hu with h' | ⟨k, hk, h1, h2⟩
      · exact .inl h'
      · have : k ≠ m := by rintro rfl; exact e h2.symm
        exact .inr ⟨k, by omega, h1, by rw [at0_take _ _ _ (by omega)]; exact h2⟩

/-! What a heap is of. -/
def cat (d : α) (l : List α) (i : Nat) : α := l[i]?.getD d
theorem cat_set (d : α) (l : List α) (i : Nat) (v : α) (k : Nat) (h : i < l.length) : cat d (l.set i v) k = if k = i then v else cat d l k := by
  unfold cat
  rw [List.getElem?_set]
  by_cases e : i = k
  · subst e; simp [h]
  · rw [if_neg e, if_neg (fun h => e h.symm)]
variable (O)
/-- Of each thing, whether it is in the heap, and with which priority. -/
def Rep (d : α) (n : Nat) (m : Nat → Option α) (line : List Nat) (place : List Int) (come : List α) : Prop :=
  Wf n line place ∧ come.length = n ∧ All O (cat d come) (at0 line) line.length ∧ ∀ t, m t = if t < n ∧ pat place t ≠ -1 then some (cat d come t) else none
/-- The same, but for one that may have to go up. -/
def RepUp (d : α) (n i : Nat) (m : Nat → Option α) (line : List Nat) (place : List Int) (come : List α) : Prop :=
  Wf n line place ∧ come.length = n ∧ i < line.length ∧ Up O (cat d come) (at0 line) line.length i ∧ ∀ t, m t = if t < n ∧ pat place t ≠ -1 then some (cat d come t) else none
/-- The same, but for one that may have to go down. -/
def RepDn (d : α) (n i : Nat) (m : Nat → Option α) (line : List Nat) (place : List Int) (come : List α) : Prop :=
  Wf n line place ∧ come.length = n ∧ Dn O (cat d come) (at0 line) line.length i ∧ ∀ t, m t = if t < n ∧ pat place t ≠ -1 then some (cat d come t) else none
variable {O}
def upd (m : Nat → Option α) (t : Nat) (v : Option α) (u : Nat) : Option α := if u = t then v else m u
theorem swp_in {n : Nat} {line : List Nat} {place : List Int} (h : Wf n line place) {i j : Nat} (hi : i < line.length) (hj : j < line.length) (t : Nat) : pat (swp line place i j) t ≠ -1 ↔ pat place t ≠ -1 := by
  rw [swp_at h i j hi hj]
  by_cases e1 : t = at0 line i
  · rw [if_pos e1, e1, (h.2.1 i hi).2]; omega
  · rw [if_neg e1]
    by_cases e2 : t = at0 line j
    · rw [if_pos e2, e2, (h.2.1 j hj).2]; omega
    · rw [if_neg e2]
theorem All.congr {c : Nat → α} {f g : Nat → Nat} {n : Nat} (h : All O c f n) (e : ∀ k, k < n → g k = f k) : All O c g n := by
  intro k hp hk
  rw [e k hk, e _ (by omega)]; exact h k hp hk
theorem RepUp.step {d : α} {n i : Nat} {m : Nat → Option α} {line : List Nat} {place : List Int} {come : List α} (h : RepUp O d n i m line place come) (hp : 0 < i) (hr : R O (cat d come) (at0 line i) (at0 line ((i - 1) / 2))) :
    RepUp O d n ((i - 1) / 2) m (swl line i ((i - 1) / 2)) (swp line place i ((i - 1) / 2)) come := by
  obtain ⟨h1, h2, h3, h4, h5⟩ := h
  have hj : (i - 1) / 2 < line.length := by omega
  refine ⟨h1.swap h3 hj, h2, by rw [swl_len]; exact hj, ?_, fun t => ?_⟩
  · have := h4.step hp hr
    rw [swl_len]
    rw [show at0 (swl line i ((i - 1) / 2)) = sw (at0 line) i ((i - 1) / 2) from funext (swl_at _ _ _ h3 hj)]
    exact this
  · rw [h5 t]
    simp only [swp_in h1 h3 hj]
theorem RepUp.done {d : α} {n i : Nat} {m : Nat → Option α} {line : List Nat} {place : List Int} {come : List α} (h : RepUp O d n i m line place come) (hi : i = 0 ∨ ¬ R O (cat d come) (at0 line i) (at0 line ((i - 1) / 2))) : Rep O d n m line place come := by
  obtain ⟨h1, h2, h3, h4, h5⟩ := h
  refine ⟨h1, h2, ?_, h5⟩
  rcases hi with rfl | hi
  · exact h4.done0
  · exact h4.done hi
theorem RepDn.step {d : α} {n i b : Nat} {m : Nat → Option α} {line : List Nat} {place : List Int} {come : List α} (h : RepDn O d n i m line place come) (hb : b = 2 * i + 1 ∨ b = 2 * i + 2) (hbn : b < line.length) (hr : R O (cat d come) (at0 line b) (at0 line i))
    (hl : ∀ k, k = 2 * i + 1 ∨ k = 2 * i + 2 → k < line.length → ¬ R O (cat d come) (at0 line k) (at0 line b)) : RepDn O d n b m (swl line i b) (swp line place i b) come := by
  obtain ⟨h1, h2, h4, h5⟩ := h
  have hj : i < line.length := by omega
  refine ⟨h1.swap hj hbn, h2, ?_, fun t => ?_⟩
  · have := h4.step (by omega) hbn (by omega) hr (fun k kp kn ke => hl k (by omega) kn)
    rw [swl_len]
    rw [show at0 (swl line i b) = sw (at0 line) i b from funext (swl_at _ _ _ hj hbn)]
    exact this
  · rw [h5 t]
    simp only [swp_in h1 hj hbn]
theorem RepDn.done {d : α} {n i : Nat} {m : Nat → Option α} {line : List Nat} {place : List Int} {come : List α} (h : RepDn O d n i m line place come)
    (hi : ∀ k, k = 2 * i + 1 ∨ k = 2 * i + 2 → k < line.length → ¬ R O (cat d come) (at0 line k) (at0 line i)) : Rep O d n m line place come := by
  obtain ⟨h1, h2, h4, h5⟩ := h
  exact ⟨h1, h2, h4.done (fun k kp kn ke => hi k (by omega) kn), h5⟩
/-- A thing that is in it comes to less. -/
theorem Rep.lessen {d : α} {n t : Nat} {p : α} {m : Nat → Option α} {line : List Nat} {place : List Int} {come : List α} (h : Rep O d n m line place come) (ht : t < n) {i : Nat} (hi : pat place t = (i : Int)) (hp : O.lt p (cat d come t) = true) :
    RepUp O d n i (upd m t (some p)) line place (come.set t p) := by
  obtain ⟨h1, h2, h3, h5⟩ := h
  obtain ⟨hil, hit⟩ : i < line.length ∧ at0 line i = t := by
    rcases h1.2.2 t ht with h | ⟨k, hk, e1, e2⟩
    · omega
    · have : i = k := by omega
      subst this
      exact ⟨hk, e2⟩
  have hc : ∀ k, cat d (come.set t p) k = if k = t then p else cat d come k := fun k => cat_set d come t p k (by omega)
  have hne : ∀ k, k < line.length → k ≠ i → at0 line k ≠ t := by
    intro k hk hki e
    exact hki (h1.inj hk hil (e.trans hit.symm))
  have hco : ∀ k, k < line.length → k ≠ i → cat d (come.set t p) (at0 line k) = cat d come (at0 line k) := fun k hk hki => by rw [hc, if_neg (hne k hk hki)]
  refine ⟨h1, by simpa using h2, hil, ⟨fun k kp kn ki => ?_, fun k kp kn ke ip => ?_⟩, fun u => ?_⟩
  · by_cases e : (k - 1) / 2 = i
    · rw [e, hit]
      have := h3 k kp kn
      rw [e, hit] at this
      intro hr
      refine this ?_
      rcases hr with hr | ⟨e1, hr⟩
      · rw [hco k kn ki, hc, if_pos rfl] at hr
        exact .inl (O.tr _ _ _ hr hp)
      · rw [hco k kn ki, hc, if_pos rfl] at e1
        exact .inl (by rw [e1]; exact hp)
    · rw [R.congr (hco k kn ki) (hco _ (by omega) e)]
      exact h3 k kp kn
  · rw [R.congr (hco k kn (by omega)) (hco _ (by omega) (by omega))]
    have a1 := h3 k kp kn
    rw [ke] at a1
    exact R.le_tr (h3 i ip hil) a1
  · unfold upd
    by_cases e : u = t
    · subst e
      rw [if_pos rfl, if_pos ⟨ht, by omega⟩, hc, if_pos rfl]
    · rw [if_neg e, h5 u, hc, if_neg e]
/-- A thing that isn't in it is put. -/
theorem Rep.push {d : α} {n t : Nat} {p : α} {m : Nat → Option α} {line : List Nat} {place : List Int} {come : List α} (h : Rep O d n m line place come) (ht : t < n) (hout : pat place t = -1) :
    RepUp O d n line.length (upd m t (some p)) (line ++ [t]) (place.set t (line.length : Int)) (come.set t p) := by
  obtain ⟨h1, h2, h3, h5⟩ := h
  have hc : ∀ k, cat d (come.set t p) k = if k = t then p else cat d come k := fun k => cat_set d come t p k (by omega)
  have hne : ∀ k, k < line.length → at0 line k ≠ t := by
    intro k hk e
    have := (h1.2.1 k hk).2
    rw [e, hout] at this
    omega
  have hco : ∀ k, k < line.length → cat d (come.set t p) (at0 line k) = cat d come (at0 line k) := fun k hk => by rw [hc, if_neg (hne k hk)]
  refine ⟨h1.push ht hout, by simpa using h2, by simp, ⟨fun k kp kn ki => ?_, fun k kp kn ke ip => ?_⟩, fun u => ?_⟩
  · rw [List.length_append, List.length_singleton] at kn
    rw [at0_push _ _ _ (by omega), at0_push _ _ _ (by omega), R.congr (hco k (by omega)) (hco _ (by omega))]
    exact h3 k kp (by omega)
  · rw [List.length_append, List.length_singleton] at kn
    omega
  · unfold upd
    rw [pat_set _ _ _ _ (by rw [h1.1]; exact ht)]
    by_cases e : u = t
    · subst e
      rw [if_pos rfl, if_pos ⟨ht, by rw [if_pos rfl]; omega⟩, hc, if_pos rfl]
    · rw [if_neg e, h5 u, hc, if_neg e, if_neg e]
/-- The first one goes. -/
theorem Rep.pop {d z : α} {n k : Nat} {m : Nat → Option α} {line : List Nat} {place : List Int} {come : List α} (h : Rep O d n m line place come) (hk : line.length = k + 1) :
    RepDn O d n 0 (upd m (at0 line 0) none) ((swl line 0 k).take k) ((swp line place 0 k).set (at0 line 0) (-1)) (come.set (at0 line 0) z) := by
  obtain ⟨h1, h2, h3, h5⟩ := h
  have hs := h1.swap (i := 0) (j := k) (by omega) (by omega)
  have hl : (swl line 0 k).length = k + 1 := by rw [swl_len]; exact hk
  have hat : ∀ j, at0 (swl line 0 k) j = sw (at0 line) 0 k j := swl_at line 0 k (by omega) (by omega)
  have hlast : at0 (swl line 0 k) k = at0 line 0 := by
    rw [hat]
    unfold sw
    by_cases e : k = 0
    · subst e; simp
    · simp [e]
  have hd := hs.drop hl
  rw [hlast] at hd
  have h0n := (h1.2.1 0 (by omega)).1
  have hc : ∀ j, cat d (come.set (at0 line 0) z) j = if j = at0 line 0 then z else cat d come j := fun j => cat_set d come _ z j (by omega)
  have hlen : ((swl line 0 k).take k).length = k := by rw [List.length_take]; omega
  refine ⟨hd, by simpa using h2, ⟨fun j jp jn je => ?_, fun j jp jn je i0 => by omega⟩, fun u => ?_⟩
  · rw [hlen] at jn
    rw [at0_take _ _ _ jn, at0_take _ _ _ (by omega), hat, hat]
    unfold sw
    rw [if_neg (by omega), if_neg (by omega), if_neg je, if_neg (by omega)]
    have hne : ∀ i, i < line.length → i ≠ 0 → at0 line i ≠ at0 line 0 := fun i hi h0 e => h0 (h1.inj hi (by omega) e)
    have hco : ∀ i, i < line.length → i ≠ 0 → cat d (come.set (at0 line 0) z) (at0 line i) = cat d come (at0 line i) := fun i hi h0 => by rw [hc, if_neg (hne i hi h0)]
    rw [R.congr (hco j (by omega) (by omega)) (hco _ (by omega) je)]
    exact h3 j jp (by omega)
  · unfold upd
    rw [pat_set _ _ _ _ (by rw [swp_len, h1.1]; exact h0n)]
    by_cases e : u = at0 line 0
    · simp [e]
    · rw [if_neg e, h5 u, hc, if_neg e, if_neg e]
      simp only [swp_in h1 (i := 0) (j := k) (by omega) (by omega)]
/-- The first of a heap. -/
def IsFirst (O : Tot α) (m : Nat → Option α) (x : Nat × α) : Prop := m x.1 = some x.2 ∧ ∀ u r, m u = some r → ¬ (O.lt r x.2 = true ∨ (r = x.2 ∧ u < x.1))
theorem IsFirst.one {m : Nat → Option α} {x y : Nat × α} (h1 : IsFirst O m x) (h2 : IsFirst O m y) : x = y := by
  obtain ⟨t, q⟩ := x
  obtain ⟨u, r⟩ := y
  have a1 := h1.2 u r h2.1
  have a2 := h2.2 t q h1.1
  rw [not_or] at a1 a2
  have e : r = q := O.tri _ _ (Bool.eq_false_iff.2 a1.1) (Bool.eq_false_iff.2 a2.1)
  have h3 := a1.2
  have h4 := a2.2
  simp only [e, true_and] at h3 h4
  simp only [Prod.mk.injEq]
  exact ⟨by omega, e.symm⟩
open Classical in
noncomputable def firstOf (O : Tot α) (m : Nat → Option α) : Option (Nat × α) := if h : ∃ x, IsFirst O m x then some h.choose else none
theorem firstOf_eq {m : Nat → Option α} {x : Nat × α} (h : IsFirst O m x) : firstOf O m = some x := by
  unfold firstOf
  have hx : ∃ x, IsFirst O m x := ⟨x, h⟩
  rw [dif_pos hx]
  exact congrArg some (hx.choose_spec.one h)
theorem firstOf_none {m : Nat → Option α} (h : ∀ t, m t = none) : firstOf O m = none := by
  unfold firstOf
  rw [dif_neg]
  rintro ⟨x, hx⟩
  have := hx.1
  rw [h] at this
  cases this
theorem firstOf_some {m : Nat → Option α} {x : Nat × α} (h : firstOf O m = some x) : IsFirst O m x := by
  unfold firstOf at h
  split at h
  · rename_i hx
    rw [← Option.some.inj h]
    exact hx.choose_spec
  · cases h
theorem Rep.out {d : α} {n t : Nat} {m : Nat → Option α} {line : List Nat} {place : List Int} {come : List α} (h : Rep O d n m line place come) : m t = none ↔ (n ≤ t ∨ pat place t = -1) := by
  rw [h.2.2.2 t]
  by_cases e : t < n ∧ pat place t ≠ -1
  · simp only [if_pos e]
    constructor
    · intro h; cases h
    · intro h; omega
  · simp only [if_neg e, true_iff]
    by_cases e1 : t < n
    · exact .inr (by simpa [e1] using e)
    · exact .inl (by omega)
theorem Rep.mem {d : α} {n t : Nat} {q : α} {m : Nat → Option α} {line : List Nat} {place : List Int} {come : List α} (h : Rep O d n m line place come) (ht : m t = some q) : t < n ∧ q = cat d come t ∧ ∃ i, i < line.length ∧ pat place t = (i : Int) ∧ at0 line i = t := by
  rw [h.2.2.2 t] at ht
  split at ht
  · rename_i h'
    refine ⟨h'.1, (Option.some.inj ht).symm, ?_⟩
    rcases h.1.2.2 t h'.1 with h2 | h2
    · exact absurd h2 h'.2
    · exact h2
  · cases ht
theorem Rep.at {d : α} {n i : Nat} {m : Nat → Option α} {line : List Nat} {place : List Int} {come : List α} (h : Rep O d n m line place come) (hi : i < line.length) : m (at0 line i) = some (cat d come (at0 line i)) := by
  obtain ⟨h1, h2⟩ := h.1.2.1 i hi
  rw [h.2.2.2, if_pos ⟨h1, by omega⟩]
theorem Rep.first {d : α} {n : Nat} {m : Nat → Option α} {line : List Nat} {place : List Int} {come : List α} (h : Rep O d n m line place come) (hi : 0 < line.length) : IsFirst O m (at0 line 0, cat d come (at0 line 0)) := by
  refine ⟨h.at hi, fun u r hu hr => ?_⟩
  obtain ⟨_, hq, i, hi, _, e⟩ := h.mem hu
  refine h.2.2.1.root i hi ?_
  rw [e]
  subst hq
  exact hr
theorem Rep.empty {d : α} {n : Nat} {m : Nat → Option α} {line : List Nat} {place : List Int} {come : List α} (h : Rep O d n m line place come) (hi : line.length = 0) (t : Nat) : m t = none := by
  cases hm : m t with
  | none => rfl
  | some q =>
    obtain ⟨_, _, i, hi', _⟩ := h.mem hm
    omega
/-- How many are in it. -/
def cnt (n : Nat) (m : Nat → Option α) : Nat := ((List.range n).filter (fun t => (m t).isSome)).length
theorem Rep.len {d : α} {n : Nat} {m : Nat → Option α} {line : List Nat} {place : List Int} {come : List α} (h : Rep O d n m line place come) : line.length = cnt n m := by
  refine List.Perm.length_eq ((List.perm_ext_iff_of_nodup ?_ (List.nodup_range.filter _)).2 fun a => ?_)
  · refine List.pairwise_iff_getElem.2 fun i j hi hj hij e => ?_
    have := h.1.inj hi hj (by simpa [at0, hi, hj] using e)
    omega
  · rw [List.mem_filter, List.mem_range]
    constructor
    · intro ha
      obtain ⟨i, hi, e⟩ := List.mem_iff_getElem.1 ha
      have e2 : at0 line i = a := by simp [at0, hi, e]
      have := h.at hi
      rw [e2] at this
      exact ⟨(h.mem this).1, by rw [this]; rfl⟩
    · rintro ⟨h1, h2⟩
      obtain ⟨q, hq⟩ := Option.isSome_iff_exists.1 h2
      obtain ⟨_, _, i, hi, _, e⟩ := h.mem hq
      rw [← e]
      simp only [at0, List.getElem?_eq_getElem hi, Option.getD_some]
      exact List.getElem_mem hi
theorem cnt_upd_none {n t : Nat} {m : Nat → Option α} (ht : t < n) (hm : (m t).isSome) : cnt n m = cnt n (upd m t none) + 1 := by
  unfold cnt
  rw [← List.countP_eq_length_filter, ← List.countP_eq_length_filter]
  induction n with
  | zero => omega
  | succ n ih =>
    rw [List.range_succ, List.countP_append, List.countP_append]
    by_cases e : t = n
    · subst e
      have : List.countP (fun u => (upd m t none u).isSome) (List.range t) = List.countP (fun u => (m u).isSome) (List.range t) := by
        refine List.countP_congr fun u hu => ?_
        rw [List.mem_range] at hu
        unfold upd
        rw [if_neg (by omega)]
      rw [this]
      simp [upd, hm]
    · rw [ih (by omega)]
      have : upd m t none n = m n := by unfold upd; rw [if_neg (fun h => e h.symm)]
      simp only [List.countP_singleton, this]
      omega
theorem cnt_upd_some {n t : Nat} {q : α} {m : Nat → Option α} (ht : t < n) (hm : m t = none) : cnt n (upd m t (some q)) = cnt n m + 1 := by
  have := cnt_upd_none (m := upd m t (some q)) ht (by simp [upd])
  rw [this]
  congr 2
  funext u
  unfold upd
  split
  · rename_i h; rw [h, hm]
  · rfl
theorem cnt_le (n : Nat) (m : Nat → Option α) : cnt n m ≤ n := by
  have := List.length_filter_le (fun t => (m t).isSome) (List.range n)
  rw [List.length_range] at this
  exact this
theorem Rep.le {d : α} {n : Nat} {m : Nat → Option α} {line : List Nat} {place : List Int} {come : List α} (h : Rep O d n m line place come) : line.length ≤ n := by rw [h.len]; exact cnt_le n m
/-- What a thing has come to. -/
def look (m : Nat → Option α) (t : Int) : Option α := if 0 ≤ t then m t.toNat else none
/-- What Put answers, and what is in the heap behind it. -/
def code (O : Tot α) (n : Nat) (m : Nat → Option α) (t : Int) (p : α) : Int :=
  if 0 ≤ t ∧ t < (n : Int) then (match m t.toNat with | some q => if O.lt p q = true then 0 else 5 | none => 0) else 1
def put (O : Tot α) (n : Nat) (m : Nat → Option α) (t : Int) (p : α) : Nat → Option α := if code O n m t p = 0 then upd m t.toNat (some p) else m
/-- What is in the heap behind Pop. -/
noncomputable def popped (O : Tot α) (m : Nat → Option α) : Nat → Option α := match firstOf O m with | some x => upd m x.1 none | none => m
theorem cnt_zero {n : Nat} {m : Nat → Option α} (h : ∀ t, m t = none) : cnt n m = 0 := by simp [cnt, h]
end
end HM
end Go.Proofs.YtkcfepppnclniaaGreatDoor
