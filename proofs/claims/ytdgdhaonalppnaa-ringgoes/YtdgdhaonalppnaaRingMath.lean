/-
  Stacks with room for some, whose things lie in a ring of cells: what lies on one, from the oldest on. Nothing of the program.
-/
import Derived.Test.YtdgdhaonalppnaaMem
namespace Go.Proofs.Ytdgdhaonalppnaa
namespace RK

theorem md {n o j : Nat} (ho : o < n) (hj : j ≤ n) : (o + j) % n = if o + j < n then o + j else o + j - n := by
  split
  · rename_i h
    exact Nat.mod_eq_of_lt h
  · rename_i h
    rw [Nat.mod_eq_sub_mod (by omega), Nat.mod_eq_of_lt (by omega)]
theorem md_inj {n o j k : Nat} (ho : o < n) (hj : j < n) (hk : k < n) (h : (o + j) % n = (o + k) % n) : j = k := by
  rw [md ho (by omega), md ho (by omega)] at h
  split at h <;> split at h <;> omega
theorem md_lt {n : Nat} (h : 1 ≤ n) (k : Nat) : k % n < n := Nat.mod_lt _ (by omega)

/-- The n cells xs, the oldest at o, hold the things of L. -/
structure Rep {α : Type} (enc : α → Value) (n o : Nat) (xs : List Value) (L : List α) : Prop where
  len : L.length ≤ n
  lo : 1 ≤ n
  ho : o < n
  xl : xs.length = n
  is : ∀ j v, L[j]? = some v → xs[(o + j) % n]? = some (enc v)
section
variable {α : Type} {enc : α → Value} {n o : Nat} {xs : List Value} {L : List α}
theorem rep_new (h1 : 1 ≤ n) (hx : xs.length = n) : Rep enc n 0 xs [] := ⟨by simp, h1, by omega, hx, fun j v h => by simp at h⟩
theorem Rep.push (h : Rep enc n o xs L) (hl : L.length < n) (v : α) : Rep enc n o (xs.set ((o + L.length) % n) (enc v)) (L ++ [v]) where
  len := by simp; omega
  lo := h.lo
  ho := h.ho
  xl := by simpa using h.xl
  is := fun j u hj => by
    have hjl : j < (L ++ [v]).length := (List.getElem?_eq_some_iff.1 hj).1
    simp only [List.length_append, List.length_cons, List.length_nil] at hjl
    rw [List.getElem?_set]
    by_cases e : j = L.length
    · subst e
      rw [List.getElem?_append_right (Nat.le_refl _)] at hj
      simp at hj
      subst hj
      rw [if_pos rfl, if_pos (by rw [h.xl]; exact md_lt h.lo _)]
    · rw [List.getElem?_append_left (by omega)] at hj
      rw [if_neg (fun he => e (md_inj h.ho (by omega) hl he.symm))]
      exact h.is j u hj
theorem Rep.last {v : α} (h : Rep enc n o xs (L ++ [v])) (z : Value) : Rep enc n o (xs.set ((o + L.length) % n) z) L where
  len := by have := h.len; simp at this; omega
  lo := h.lo
  ho := h.ho
  xl := by simpa using h.xl
  is := fun j u hj => by
    have hjl : j < L.length := (List.getElem?_eq_some_iff.1 hj).1
    have hl := h.len
    simp at hl
    rw [List.getElem?_set, if_neg (fun he => by have := md_inj h.ho (by omega) (by omega) he; omega)]
    exact h.is j u (by rw [List.getElem?_append_left hjl]; exact hj)
theorem Rep.first {v : α} (h : Rep enc n o xs (v :: L)) (z : Value) : Rep enc n ((o + 1) % n) (xs.set o z) L where
  len := by have := h.len; simp at this; omega
  lo := h.lo
  ho := md_lt h.lo _
  xl := by simpa using h.xl
  is := fun j u hj => by
    have hjl : j < L.length := (List.getElem?_eq_some_iff.1 hj).1
    have hl := h.len
    simp at hl
    have e : ((o + 1) % n + j) % n = (o + (j + 1)) % n := by rw [Nat.mod_add_mod]; congr 1; omega
    have hne : o ≠ (o + (j + 1)) % n := fun he => by
      have h0 : (o + 0) % n = o := Nat.mod_eq_of_lt h.ho
      have := md_inj h.ho (j := 0) (k := j + 1) (by omega) (by omega) (by rw [h0]; exact he)
      omega
    rw [e, List.getElem?_set, if_neg hne]
    exact h.is (j + 1) u (by simpa using hj)
theorem Rep.top {v : α} (h : Rep enc n o xs (L ++ [v])) : xs[(o + L.length) % n]? = some (enc v) := h.is L.length v (by simp)
theorem Rep.old {v : α} (h : Rep enc n o xs (v :: L)) : xs[o]? = some (enc v) := by
  have := h.is 0 v (by simp)
  rwa [Nat.add_zero, Nat.mod_eq_of_lt h.ho] at this
end

section
variable {α : Type}
/-- What lies on a stack with room for n behind Push, and what goes. -/
def pushed (n : Nat) (L : List α) (v : α) : List α := (if L.length = n then L.drop 1 else L) ++ [v]
def went (n : Nat) (d : α) (L : List α) : α := if L.length = n then L.headD d else d
theorem pushed_room {n : Nat} {L : List α} (h : L.length < n) (v : α) : pushed n L v = L ++ [v] := by rw [pushed, if_neg (by omega)]
theorem pushed_full {n : Nat} {u : α} {L : List α} (h : L.length + 1 = n) (v : α) : pushed n (u :: L) v = L ++ [v] := by rw [pushed, if_pos (by simpa using h)]; simp
theorem went_room {n : Nat} {L : List α} (h : L.length < n) (d : α) : went n d L = d := by rw [went, if_neg (by omega)]
theorem went_full {n : Nat} {u : α} {L : List α} (h : L.length + 1 = n) (d : α) : went n d (u :: L) = u := by rw [went, if_pos (by simpa using h)]; rfl
theorem pushed_len {n : Nat} {L : List α} (h1 : 1 ≤ n) (h : L.length ≤ n) (v : α) : (pushed n L v).length ≤ n ∧ 1 ≤ (pushed n L v).length := by
  unfold pushed
  split <;> simp <;> omega
/-- All is empty, or has a last one. -/
theorem last_cases (L : List α) : L = [] ∨ ∃ l v, L = l ++ [v] := by
  rcases List.eq_nil_or_concat L with h | ⟨l, v, h⟩
  · exact .inl h
  · exact .inr ⟨l, v, by rw [h]; simp⟩
end
end RK
end Go.Proofs.Ytdgdhaonalppnaa
