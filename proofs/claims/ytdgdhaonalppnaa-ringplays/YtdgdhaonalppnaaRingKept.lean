/-
  What lies on a stack behind the first so many things of a list. Nothing of the program.
-/
import Derived.Test.YtdgdhaonalppnaaRingMath
namespace Go.Proofs.Ytdgdhaonalppnaa
namespace RK
section
variable {α : Type}
/-- The thing at a place of a list. -/
def el (d : α) (zs : List α) (i : Nat) : α := zs[i]?.getD d
theorem el_eq {d : α} {zs : List α} {i : Nat} (h : i < zs.length) : el d zs i = zs[i] := by simp [el, h]
/-- The last n of the first i. -/
def kept (n : Nat) (zs : List α) (i : Nat) : List α := (zs.take i).drop (i - n)
theorem kept_zero (n : Nat) (zs : List α) : kept n zs 0 = [] := by simp [kept]
theorem kept_len {n : Nat} {zs : List α} {i : Nat} (hi : i ≤ zs.length) : (kept n zs i).length = min i n := by
  simp [kept]
  omega
theorem kept_push {n : Nat} (h1 : 1 ≤ n) {zs : List α} {i : Nat} (hi : i < zs.length) (d : α) : pushed n (kept n zs i) (el d zs i) = kept n zs (i + 1) := by
  have hl := kept_len (n := n) (Nat.le_of_lt hi)
  rw [el_eq hi]
  have ht : zs.take (i + 1) = zs.take i ++ [zs[i]] := by rw [List.take_add_one, List.getElem?_eq_getElem hi]; rfl
  have htl : (zs.take i).length = i := by simp; omega
  unfold pushed
  by_cases h : i < n
  · rw [if_neg (by omega)]
    unfold kept
    rw [ht, show i - n = 0 by omega, show i + 1 - n = 0 by omega]
    rfl
  · rw [if_pos (by omega)]
    unfold kept
    rw [ht, List.drop_drop, List.drop_append_of_le_length (by omega), show i - n + 1 = i + 1 - n by omega]
theorem kept_room {n : Nat} {zs : List α} {i : Nat} (hi : i < zs.length) (h : i < n) (d : α) : went n d (kept n zs i) = d ∧ ¬ (kept n zs i).length = n := by
  have hl := kept_len (n := n) (Nat.le_of_lt hi)
  exact ⟨went_room (by omega) d, by omega⟩
theorem kept_full {n : Nat} (h1 : 1 ≤ n) {zs : List α} {j : Nat} (hi : n + j < zs.length) (d : α) : went n d (kept n zs (n + j)) = el d zs j ∧ (kept n zs (n + j)).length = n := by
  have hl := kept_len (n := n) (Nat.le_of_lt hi)
  have hn : (kept n zs (n + j)).length = n := by omega
  refine ⟨?_, hn⟩
  unfold went
  rw [if_pos hn]
  unfold kept el
  rw [show n + j - n = j by omega, List.headD_eq_head?_getD, List.head?_drop, List.getElem?_take, if_pos (by omega)]
/-- What is left of it when it is taken off down to the m-th. -/
def left (n : Nat) (zs : List α) (m : Nat) : List α := (zs.take m).drop (zs.length - n)
theorem left_all (n : Nat) (zs : List α) : left n zs zs.length = kept n zs zs.length := rfl
theorem left_none {n : Nat} {zs : List α} {m : Nat} (h : m ≤ zs.length - n) : left n zs m = [] := by
  unfold left
  apply List.drop_eq_nil_of_le
  simp
  omega
theorem left_succ {n : Nat} {zs : List α} {j : Nat} (h : zs.length - n ≤ j) (hj : j < zs.length) (d : α) : left n zs (j + 1) = left n zs j ++ [el d zs j] := by
  unfold left
  rw [el_eq hj, List.take_add_one, List.getElem?_eq_getElem hj, List.drop_append_of_le_length (by simp; omega)]
  rfl
theorem left_last {n : Nat} {zs : List α} {j : Nat} (h : zs.length - n ≤ j) (hj : j < zs.length) (d : α) : (left n zs (j + 1)).getLast? = some (el d zs j) ∧ (left n zs (j + 1)).dropLast = left n zs j := by
  rw [left_succ h hj d]
  simp
theorem kept_last {n : Nat} (h1 : 1 ≤ n) {zs : List α} {i : Nat} (hi : i < zs.length) (d : α) : (kept n zs (i + 1)).getLast? = some (el d zs i) := by
  rw [← kept_push h1 hi d]
  simp [pushed]
end
end RK
end Go.Proofs.Ytdgdhaonalppnaa
