/-
  Plain mathematics of bytes as digits. Nothing of any program.
-/
import Derived.Test.YtahamdgfndhfaaaOctetMath
namespace Go.Proofs.Ytahamdgfndhfaaa
namespace OM
/-- A digit. -/
def dig (d : Int) : UInt8 := if d < 10 then UInt8.ofNat (48 + d.toNat) else UInt8.ofNat (87 + d.toNat)
/-- The digits of bytes. -/
def hexL (l : List Int) : List UInt8 := l.flatMap fun z => [dig (z / 16), dig (z % 16)]
def hexI (l : List Int) : List Int := (hexL l).map fun c => (c.toNat : Int)
theorem hexL_length (l : List Int) : (hexL l).length = 2 * l.length := by
  unfold hexL
  induction l with
  | nil => rfl
  | cons z l ih => simp [List.flatMap_cons, ih]; omega
theorem hexI_length (l : List Int) : (hexI l).length = 2 * l.length := by rw [hexI, List.length_map, hexL_length]
theorem hexL_snoc (l : List Int) (k : Nat) (h : k < l.length) : hexL (l.take (k + 1)) = hexL (l.take k) ++ [dig (l[k] / 16), dig (l[k] % 16)] := by
  rw [List.take_succ_eq_append_getElem h, hexL, List.flatMap_append]; rfl
theorem hexI_snoc (l : List Int) (k : Nat) (h : k < l.length) : hexI (l.take (k + 1)) = hexI (l.take k) ++ [((dig (l[k] / 16)).toNat : Int), ((dig (l[k] % 16)).toNat : Int)] := by
  simp [hexI, hexL_snoc l k h]
theorem hexI_str (l : List Int) : strOfNums (hexI l) = ⟨(hexL l).toArray⟩ := by
  have e : (hexI l).map (fun n => UInt8.ofNat n.toNat) = hexL l := by
    rw [hexI, List.map_map]
    conv => rhs; rw [← List.map_id (hexL l)]
    apply List.map_congr_left
    intro c _
    simp
  unfold strOfNums; rw [e]
def digs : ByteArray := ⟨#[48, 49, 50, 51, 52, 53, 54, 55, 56, 57, 97, 98, 99, 100, 101, 102]⟩
theorem digs_at (d : Int) (h0 : 0 ≤ d) (h1 : d < 16) (h : d.toNat < digs.size) : digs[d.toNat] = dig d := by
  obtain ⟨n, rfl⟩ := Int.eq_ofNat_of_zero_le h0
  have hn : n < 16 := by omega
  match n, hn with
  | 0, _ | 1, _ | 2, _ | 3, _ | 4, _ | 5, _ | 6, _ | 7, _ | 8, _ | 9, _ | 10, _ | 11, _ | 12, _ | 13, _ | 14, _ | 15, _ => rfl
theorem and15 {z : Int} (h0 : 0 ≤ z) (h1 : z ≤ 255) : bits .and .u8 z 15 = z % 16 := by
  rw [u8_and _ _ (by omega) (by omega) (by omega) (by omega)]
  have e : z.toNat &&& (15 : Int).toNat = z.toNat % 16 := by
    show z.toNat &&& 15 = _
    exact Nat.and_two_pow_sub_one_eq_mod z.toNat 4
  rw [e]; omega
theorem digs_ext (d : Int) (h0 : 0 ≤ d) (h1 : d < 16) : digs.extract d.toNat (d + 1).toNat = ⟨#[dig d]⟩ := by
  obtain ⟨n, rfl⟩ := Int.eq_ofNat_of_zero_le h0
  have hn : n < 16 := by omega
  match n, hn with
  | 0, _ | 1, _ | 2, _ | 3, _ | 4, _ | 5, _ | 6, _ | 7, _ | 8, _ | 9, _ | 10, _ | 11, _ | 12, _ | 13, _ | 14, _ | 15, _ => decide
theorem str_snoc2 (l : List UInt8) (a b : UInt8) : (⟨l.toArray⟩ : ByteArray) ++ ⟨#[a]⟩ ++ ⟨#[b]⟩ = ⟨(l ++ [a, b]).toArray⟩ := by
  apply ByteArray.ext
  simp [ByteArray.data_append]

/-- What a digit counts; below 0: it is none. -/
def dv (r : Int) : Int := if 48 ≤ r ∧ r ≤ 57 then r - 48 else if 97 ≤ r ∧ r ≤ 102 then r - 87 else -1
theorem dv_bd (r : Int) : -1 ≤ dv r ∧ dv r ≤ 15 := by unfold dv; split; omega; split <;> omega
theorem dv_ascii {r : Int} (h : 0 ≤ dv r) : 48 ≤ r ∧ r ≤ 102 := by
  unfold dv at h; split at h; omega; split at h <;> omega
theorem dv_high {r : Int} (h : 128 ≤ r) : dv r = -1 := by unfold dv; rw [if_neg (by omega), if_neg (by omega)]
theorem dv_dig {d : Int} (h0 : 0 ≤ d) (h1 : d < 16) : dv ((dig d).toNat : Int) = d := by
  obtain ⟨n, rfl⟩ := Int.eq_ofNat_of_zero_le h0
  have hn : n < 16 := by omega
  match n, hn with
  | 0, _ | 1, _ | 2, _ | 3, _ | 4, _ | 5, _ | 6, _ | 7, _ | 8, _ | 9, _ | 10, _ | 11, _ | 12, _ | 13, _ | 14, _ | 15, _ => decide
/-- What byte i of a text counts. -/
def at' (l : List UInt8) (i : Nat) : Int := dv ((l.getD i 0).toNat : Int)
theorem at_bd (l : List UInt8) (i : Nat) : -1 ≤ at' l i ∧ at' l i ≤ 15 := dv_bd _
/-- A text of digits, two a byte. -/
def good (l : List UInt8) : Prop := l.length % 2 = 0 ∧ ∀ i, i < l.length → 0 ≤ at' l i
def pairs (l : List UInt8) : List Int := (List.range (l.length / 2)).map fun j => 16 * at' l (2 * j) + at' l (2 * j + 1)
theorem pairs_length (l : List UInt8) : (pairs l).length = l.length / 2 := by simp [pairs]
theorem pairs_snoc (l : List UInt8) (k : Nat) (h : k < l.length / 2) : (pairs l).take (k + 1) = (pairs l).take k ++ [16 * at' l (2 * k) + at' l (2 * k + 1)] := by
  rw [List.take_succ_eq_append_getElem (by rw [pairs_length]; exact h)]
  simp [pairs]
/-- What lies in memory when i bytes have been read. -/
def sofar (l : List UInt8) (i : Nat) : List Int := (List.range (l.length / 2)).map fun j => if 2 * j + 1 < i then 16 * at' l (2 * j) + at' l (2 * j + 1) else if 2 * j < i then at' l (2 * j) else 0
theorem sofar_length (l : List UInt8) (i : Nat) : (sofar l i).length = l.length / 2 := by simp [sofar]
theorem sofar_zero (l : List UInt8) : sofar l 0 = List.replicate (l.length / 2) 0 := by
  unfold sofar
  apply List.ext_getElem
  · simp
  · intro i h1 h2; simp
theorem sofar_all (l : List UInt8) (_h : l.length % 2 = 0) : sofar l l.length = pairs l := by
  unfold sofar pairs
  apply List.map_congr_left
  intro j hj
  have := List.mem_range.1 hj
  rw [if_pos (by omega)]
theorem sofar_at (l : List UInt8) (i : Nat) (h : i < l.length) (_he : l.length % 2 = 0) : (sofar l i)[i / 2]?.getD 0 = if i % 2 = 0 then 0 else at' l (i - 1) := by
  have hj : i / 2 < l.length / 2 := by omega
  simp only [sofar, List.getElem?_map, List.getElem?_range hj, Option.map_some, Option.getD_some]
  split
  · omega
  · split
    · rw [if_neg (by omega)]; congr 1; omega
    · rw [if_pos (by omega)]
theorem sofar_step (l : List UInt8) (i : Nat) (h : i < l.length) (he : l.length % 2 = 0) : sofar l (i + 1) = (sofar l i).set (i / 2) (16 * (sofar l i)[i / 2]?.getD 0 + at' l i) := by
  rw [sofar_at l i h he]
  apply List.ext_getElem
  · simp [sofar]
  · intro j h1 h2
    simp only [sofar_length] at h1
    rw [List.getElem_set]
    simp only [sofar, List.getElem_map, List.getElem_range]
    by_cases hj : i / 2 = j
    · subst hj
      rw [if_pos rfl]
      by_cases h0 : i % 2 = 0
      · rw [if_neg (by omega), if_pos (by omega), if_pos h0, show 2 * (i / 2) = i by omega]; omega
      · rw [if_pos (by omega), if_neg h0, show 2 * (i / 2) = i - 1 by omega, show i - 1 + 1 = i by omega]
    · rw [if_neg hj]
      by_cases h1 : 2 * j + 1 < i
      · rw [if_pos h1, if_pos (by omega)]
      · rw [if_neg h1, if_neg (by omega)]
        by_cases h2 : 2 * j < i
        · rw [if_pos h2, if_pos (by omega)]
        · rw [if_neg h2, if_neg (by omega)]
theorem sofar_bd (l : List UInt8) (i : Nat) (h : i < l.length) (he : l.length % 2 = 0) (hg : ∀ j, j < i → 0 ≤ at' l j) : 0 ≤ (sofar l i)[i / 2]?.getD 0 ∧ (sofar l i)[i / 2]?.getD 0 ≤ 15 := by
  rw [sofar_at l i h he]
  split
  · omega
  · have h1 := hg (i - 1) (by omega)
    have h2 := at_bd l (i - 1)
    omega
/-- Digits of bytes are read as these bytes. -/
theorem hexL_at : ∀ (zs : List Int) (j : Nat) (h : j < zs.length), (hexL zs).getD (2 * j) 0 = dig (zs[j] / 16) ∧ (hexL zs).getD (2 * j + 1) 0 = dig (zs[j] % 16)
  | z :: zs, 0, _ => by simp [hexL]
  | z :: zs, j + 1, h => by
    have ih := hexL_at zs j (by simpa using h)
    have e : hexL (z :: zs) = dig (z / 16) :: dig (z % 16) :: hexL zs := rfl
    rw [e, show 2 * (j + 1) = 2 * j + 1 + 1 by omega]
    simpa using ih
theorem hexL_good (zs : List Int) (hb : ∀ z ∈ zs, 0 ≤ z ∧ z ≤ 255) : good (hexL zs) := by
  refine ⟨by rw [hexL_length]; omega, fun i hi => ?_⟩
  rw [hexL_length] at hi
  have hj : i / 2 < zs.length := by omega
  have hz := hb zs[i / 2] (List.getElem_mem _)
  have ha := hexL_at zs (i / 2) hj
  unfold at'
  by_cases h : i % 2 = 0
  · rw [show i = 2 * (i / 2) by omega, ha.1, dv_dig (by omega) (by omega)]; omega
  · rw [show i = 2 * (i / 2) + 1 by omega, ha.2, dv_dig (by omega) (by omega)]; omega
theorem hexL_back (zs : List Int) (hb : ∀ z ∈ zs, 0 ≤ z ∧ z ≤ 255) : pairs (hexL zs) = zs := by
  apply List.ext_getElem
  · rw [pairs_length, hexL_length]; omega
  · intro j h1 h2
    have hz := hb zs[j] (List.getElem_mem _)
    have ha := hexL_at zs j h2
    simp only [pairs, List.getElem_map, List.getElem_range, at', ha.1, ha.2]
    rw [dv_dig (by omega) (by omega), dv_dig (by omega) (by omega)]
    omega
theorem pairs_bd (l : List UInt8) (hg : good l) : ∀ z ∈ pairs l, 0 ≤ z ∧ z ≤ 255 := by
  intro z hz
  obtain ⟨j, hj, rfl⟩ := List.mem_map.1 hz
  have := List.mem_range.1 hj
  have a1 := hg.2 (2 * j) (by omega)
  have a2 := hg.2 (2 * j + 1) (by omega)
  have b1 := at_bd l (2 * j)
  have b2 := at_bd l (2 * j + 1)
  omega
end OM
end Go.Proofs.Ytahamdgfndhfaaa
