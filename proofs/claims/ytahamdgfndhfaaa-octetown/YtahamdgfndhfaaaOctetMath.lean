/-
  Plain mathematics of numbers as bytes, the highest first, and of bytes as digits. Nothing of any program.
-/
import Derived.WalkKit
namespace Go.Proofs.Ytahamdgfndhfaaa
namespace OM

/-- So many bytes are laid. -/
def wide (n : Int) : Nat := if n < 0 then 0 else if 8 < n then 8 else n.toNat
theorem wide_le (n : Int) : wide n ≤ 8 := by unfold wide; split; omega; split <;> omega
theorem wide_of {n : Nat} (h : n ≤ 8) : wide n = n := by unfold wide; rw [if_neg (by omega), if_neg (by omega)]; omega
/-- Byte i of the n lowest ones of x, the highest first. -/
def byteOf (n : Nat) (x : Int) (i : Nat) : Int := x / 2 ^ (8 * (n - 1 - i)) % 256
def lowN (n : Nat) (x : Int) : List Int := (List.range n).map (byteOf n x)
def low (n x : Int) : List Int := lowN (wide n) x
theorem lowN_length (n : Nat) (x : Int) : (lowN n x).length = n := by simp [lowN]
theorem byteOf_bd (n : Nat) (x : Int) (i : Nat) : 0 ≤ byteOf n x i ∧ byteOf n x i ≤ 255 := by unfold byteOf; omega
theorem lowN_bd (n : Nat) (x : Int) : ∀ z ∈ lowN n x, 0 ≤ z ∧ z ≤ 255 := by
  intro z hz
  obtain ⟨i, _, rfl⟩ := List.mem_map.1 hz
  exact byteOf_bd n x i
theorem take_succ (n : Nat) (x : Int) (k : Nat) (h : k < n) : (lowN n x).take (k + 1) = (lowN n x).take k ++ [byteOf n x k] := by
  rw [List.take_succ_eq_append_getElem (by rw [lowN_length]; exact h)]
  simp [lowN]
/-- One byte more, ahead. -/
theorem lowN_succ (k : Nat) (x : Int) : lowN (k + 1) x = (x / 2 ^ (8 * k) % 256) :: lowN k x := by
  unfold lowN
  rw [List.range_succ_eq_map]
  simp only [List.map_cons, List.map_map]
  congr 1
  apply List.map_congr_left
  intro i hi
  have hi := List.mem_range.1 hi
  simp only [Function.comp, byteOf]
  rw [show k + 1 - 1 - (i + 1) = k - 1 - i by omega]
theorem div_step (x : Int) (k : Nat) : x / 2 ^ (8 * k) / 256 = x / 2 ^ (8 * (k + 1)) := by
  have h : (0 : Int) ≤ 2 ^ (8 * k) := Int.pow_nonneg (by decide)
  rw [Int.ediv_ediv_of_nonneg h, Nat.mul_add, Int.pow_add]
  rfl

theorem div_le {x : Int} (h : 0 ≤ x) (k : Nat) : x / 2 ^ k ≤ x := by
  have hp : (0 : Int) < 2 ^ k := Int.pow_pos (by decide)
  exact Int.ediv_le_self _ h

/-- The number whose bytes these are. -/
def num (l : List Int) : Int := l.foldl (fun v z => 256 * v + z) 0
theorem num_snoc (l : List Int) (z : Int) : num (l ++ [z]) = 256 * num l + z := by simp [num]
theorem num_take (l : List Int) (k : Nat) (h : k < l.length) : num (l.take (k + 1)) = 256 * num (l.take k) + l[k] := by
  rw [List.take_succ_eq_append_getElem h, num_snoc]
theorem num_bd (l : List Int) (h : ∀ z ∈ l, 0 ≤ z ∧ z ≤ 255) (k : Nat) (hk : k ≤ l.length) : 0 ≤ num (l.take k) ∧ num (l.take k) + 1 ≤ 256 ^ k := by
  induction k with
  | zero => simp [num]
  | succ k ih =>
    have ih := ih (by omega)
    rw [num_take l k (by omega), Int.pow_succ]
    have hz := h l[k] (List.getElem_mem _)
    omega
theorem pow_le7 {k : Nat} (h : k ≤ 7) : (256 : Int) ^ k ≤ 72057594037927936 := by
  match k, h with
  | 0, _ | 1, _ | 2, _ | 3, _ | 4, _ | 5, _ | 6, _ | 7, _ => decide
/-- Seven bytes at most: there is room for one more. -/
theorem num_small (l : List Int) (h : ∀ z ∈ l, 0 ≤ z ∧ z ≤ 255) (k : Nat) (hk : k ≤ l.length) (h7 : k ≤ 7) : 0 ≤ num (l.take k) ∧ num (l.take k) ≤ 72057594037927935 := by
  have := num_bd l h k hk
  have := pow_le7 h7
  omega
theorem or8 {q z : Int} (h0 : 0 ≤ q) (h1 : q ≤ 72057594037927935) (h2 : 0 ≤ z) (h3 : z ≤ 255) : bits .or .u64 (q * 256) z = 256 * q + z := by
  rw [u64_or _ _ (by omega) (by omega) (by omega) (by omega)]
  have e : (q * 256).toNat = 2 ^ 8 * q.toNat := by omega
  rw [e, ← Nat.two_pow_add_eq_or_of_lt (by omega : z.toNat < 2 ^ 8)]
  omega
theorem or4 {q z : Int} (h0 : 0 ≤ q) (h1 : q ≤ 15) (h2 : 0 ≤ z) (h3 : z ≤ 15) : bits .or .u8 (q * 16) z = 16 * q + z := by
  rw [u8_or _ _ (by omega) (by omega) (by omega) (by omega)]
  have e : (q * 16).toNat = 2 ^ 4 * q.toNat := by omega
  rw [e, ← Nat.two_pow_add_eq_or_of_lt (by omega : z.toNat < 2 ^ 4)]
  omega
end OM
end Go.Proofs.Ytahamdgfndhfaaa
