/-
  Rows that are emptied at once: what is at each place, as a map; stamps. Nothing of the program.
-/
import Derived.Test.YtfkfbpkhdneeeaaMem
namespace Go.Proofs.Ytfkfbpkhdneeeaa
namespace SM

def at0 (l : List Nat) (i : Nat) : Nat := l[i]?.getD 0
theorem at0_set (l : List Nat) (i v k : Nat) (h : i < l.length) : at0 (l.set i v) k = if k = i then v else at0 l k := by
  unfold at0
  rw [List.getElem?_set]
  by_cases e : i = k
  · subst e; simp [h]
  · rw [if_neg e, if_neg (fun h => e h.symm)]
theorem at0_rep (n k : Nat) : at0 (List.replicate n 0) k = 0 := by
  unfold at0
  rw [List.getElem?_replicate]
  split <;> rfl
section
variable {α : Type}
def upd (m : Nat → Option α) (k : Nat) (v : Option α) (t : Nat) : Option α := if t = k then v else m t
/-- What is at a place, of any number. -/
def look (m : Nat → Option α) (t : Int) : Option α := if 0 ≤ t then m t.toNat else none
/-- At how many of the first n places something is. -/
def cnt (n : Nat) (m : Nat → Option α) : Nat := ((List.range n).filter (fun t => (m t).isSome)).length
theorem cnt_succ (k : Nat) (m : Nat → Option α) : cnt (k + 1) m = cnt k m + if (m k).isSome then 1 else 0 := by
  unfold cnt
  rw [List.range_succ, List.filter_append]
  by_cases h : (m k).isSome <;> simp [h]
theorem cnt_le (n : Nat) (m : Nat → Option α) : cnt n m ≤ n := by
  have := List.length_filter_le (fun t => (m t).isSome) (List.range n)
  unfold cnt
  simpa using this
theorem cnt_none (n : Nat) : cnt n (fun _ => (none : Option α)) = 0 := by simp [cnt]
theorem cnt_one {m : Nat → Option α} {i : Nat} (hi : ∀ t, (m t).isSome = true ↔ t = i) : ∀ n, cnt n m = if i < n then 1 else 0
  | 0 => by simp [cnt]
  | n + 1 => by
    rw [cnt_succ, cnt_one hi n]
    by_cases e : n = i
    · rw [if_neg (by omega), if_pos ((hi n).2 e), if_pos (by omega)]
    · have h : ¬ (m n).isSome = true := fun h => e ((hi n).1 h)
      rw [if_neg h]
      by_cases h2 : i < n
      · rw [if_pos h2, if_pos (by omega)]
      · rw [if_neg h2, if_neg (by omega)]
/-- What Set answers, and what it leaves. -/
def code (n : Nat) (t : Int) : Int := if 0 ≤ t ∧ t < (n : Int) then 0 else 1
def put (n : Nat) (m : Nat → Option α) (t : Int) (v : α) : Nat → Option α := if 0 ≤ t ∧ t < (n : Int) then upd m t.toNat (some v) else m

/-- The stamps st and the cells xs tell the map m; At: which thing lies at a place of the cells. -/
structure Rep (At : List Value → Nat → α → Prop) (n : Nat) (m : Nat → Option α) (xs : List Value) (st : List Nat) (now : Nat) : Prop where
  len : st.length = n
  lo : 1 ≤ now
  hi : now ≤ 255
  old : ∀ t, t < n → at0 st t ≤ now
  is : ∀ t, t < n → ∃ v, At xs t v ∧ m t = if at0 st t = now then some v else none
  out : ∀ t, n ≤ t → m t = none
variable {At : List Value → Nat → α → Prop} {n : Nat} {m : Nat → Option α} {xs xs' : List Value} {st : List Nat} {now : Nat}
theorem rep_new (n : Nat) {xs : List Value} (h : ∀ t, t < n → ∃ v, At xs t v) : Rep At n (fun _ => none) xs (List.replicate n 0) 1 where
  len := by simp
  lo := by decide
  hi := by decide
  old := fun t _ => by rw [at0_rep]; decide
  is := fun t ht => by
    obtain ⟨v, hv⟩ := h t ht
    exact ⟨v, hv, by rw [at0_rep, if_neg (by decide)]⟩
  out := fun _ _ => rfl
theorem Rep.put (h : Rep At n m xs st now) {k : Nat} (hk : k < n) {v : α} (h1 : At xs' k v) (h2 : ∀ t, t ≠ k → t < n → ∀ u, At xs t u → At xs' t u) : Rep At n (upd m k (some v)) xs' (st.set k now) now where
  len := by simpa using h.len
  lo := h.lo
  hi := h.hi
  old := fun t ht => by
    rw [at0_set _ _ _ _ (by rw [h.len]; exact hk)]
    split
    · exact Nat.le_refl _
    · exact h.old t ht
  is := fun t ht => by
    rw [at0_set _ _ _ _ (by rw [h.len]; exact hk)]
    unfold upd
    by_cases e : t = k
    · subst e
      exact ⟨v, h1, by simp⟩
    · obtain ⟨u, hu, hm⟩ := h.is t ht
      exact ⟨u, h2 t e ht u hu, by rw [if_neg e, if_neg e]; exact hm⟩
  out := fun t ht => by
    unfold upd
    rw [if_neg (by omega)]
    exact h.out t ht
theorem Rep.next (h : Rep At n m xs st now) (hn : now < 255) : Rep At n (fun _ => none) xs st (now + 1) where
  len := h.len
  lo := by omega
  hi := by omega
  old := fun t ht => by have := h.old t ht; omega
  is := fun t ht => by
    obtain ⟨u, hu, _⟩ := h.is t ht
    have := h.old t ht
    exact ⟨u, hu, by rw [if_neg (by omega)]⟩
  out := fun _ _ => rfl
theorem Rep.some (h : Rep At n m xs st now) {k : Nat} (hk : k < n) : (m k).isSome = decide (at0 st k = now) := by
  obtain ⟨v, _, hm⟩ := h.is k hk
  rw [hm]
  by_cases e : at0 st k = now <;> simp [e]
end
end SM
end Go.Proofs.Ytfkfbpkhdneeeaa
