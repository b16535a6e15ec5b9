/-
  Plain mathematics of distances' texts: decimal digits there and back. Nothing of any program.
-/
import Derived.Test.YtnjhnfppblojcaaDoorDistMath
import Derived.Lib.AtoiAllCases
import Derived.Lib.ItoaNum
import Derived.Lib.ItoaMem
namespace Go.Proofs.YtnjhnfppblojcaaDoor
namespace DM

def isDig (c : UInt8) : Bool := decide (48 ≤ c.toNat ∧ c.toNat ≤ 57)
def val (acc : Nat) (l : List UInt8) : Nat := l.foldl (fun a c => 10 * a + (c.toNat - 48)) acc
def allDig (l : List UInt8) : Bool := l.all isDig

theorem val_nil (acc : Nat) : val acc [] = acc := rfl
theorem val_cons (acc : Nat) (c : UInt8) (r : List UInt8) : val acc (c :: r) = val (10 * acc + (c.toNat - 48)) r := by unfold val; rw [List.foldl_cons]
theorem val_snoc (acc : Nat) (l : List UInt8) (c : UInt8) : val acc (l ++ [c]) = 10 * val acc l + (c.toNat - 48) := by simp [val, List.foldl_append]
theorem val_ge : ∀ (l : List UInt8) (acc : Nat), acc ≤ val acc l
  | [], _ => Nat.le_refl _
  | c :: r, acc => Nat.le_trans (by omega) (val_ge r (10 * acc + (c.toNat - 48)))

/-- The document's way: digit by digit, and no further than Most. -/
def digs (acc : Nat) : List UInt8 → Option Nat
  | [] => some acc
  | c :: r => if isDig c then if (4611686018427387904 - (c.toNat - 48)) / 10 < acc then none else digs (10 * acc + (c.toNat - 48)) r else none

theorem digs_some : ∀ (l : List UInt8) (acc n : Nat), acc ≤ 4611686018427387904 → digs acc l = some n → allDig l = true ∧ n = val acc l ∧ n ≤ 4611686018427387904
  | [], acc, n, ha, h => by
    simp only [digs, Option.some.injEq] at h
    subst h
    exact ⟨rfl, rfl, ha⟩
  | c :: r, acc, n, ha, h => by
    simp only [digs] at h
    split at h
    · rename_i hc
      split at h
      · cases h
      · have hd : 48 ≤ c.toNat ∧ c.toNat ≤ 57 := by simpa [isDig] using hc
        obtain ⟨h1, h2, h3⟩ := digs_some r _ n (by omega) h
        exact ⟨by simp [allDig, hc] at *; exact h1, by rw [val_cons]; exact h2, h3⟩
    · cases h
theorem digs_of : ∀ (l : List UInt8) (acc : Nat), allDig l = true → val acc l ≤ 4611686018427387904 → digs acc l = some (val acc l)
  | [], _, _, _ => rfl
  | c :: r, acc, hd, hv => by
    have hc : isDig c = true := by simp [allDig] at hd; exact hd.1
    have hr : allDig r = true := by simp [allDig] at hd ⊢; exact hd.2
    have hc' : 48 ≤ c.toNat ∧ c.toNat ≤ 57 := by simpa [isDig] using hc
    have hg := val_ge r (10 * acc + (c.toNat - 48))
    rw [val_cons] at hv ⊢
    simp only [digs, hc, if_true]
    rw [if_neg (by omega)]
    exact digs_of r _ hr hv
theorem parseUint_of : ∀ (l : List UInt8) (acc : Nat), allDig l = true → val acc l ≤ 4611686018427387904 → Lib.parseUint10 acc l = .ok (val acc l)
  | [], _, _, _ => rfl
  | c :: r, acc, hd, hv => by
    have hc : isDig c = true := by simp [allDig] at hd; exact hd.1
    have hr : allDig r = true := by simp [allDig] at hd ⊢; exact hd.2
    have hc' : 48 ≤ c.toNat ∧ c.toNat ≤ 57 := by simpa [isDig] using hc
    have hg := val_ge r (10 * acc + (c.toNat - 48))
    rw [val_cons] at hv ⊢
    simp only [Lib.parseUint10]
    rw [if_pos hc', if_neg (by omega), if_neg (by omega), Nat.mul_comm acc 10]
    exact parseUint_of r _ hr hv

theorem u8_dig {d : Nat} (h : d < 10) : (UInt8.ofNat (48 + d)).toNat = 48 + d := by simp; omega
theorem isDig_dig {d : Nat} (h : d < 10) : isDig (UInt8.ofNat (48 + d)) = true := by
  simp only [isDig, decide_eq_true_eq]; rw [u8_dig h]; omega

/-- The digits of a number: they are digits, they come to it, none is lacking, and no nought stands ahead. -/
theorem dec_facts (u : Nat) : allDig (Lib.decDigits u) = true ∧ val 0 (Lib.decDigits u) = u ∧ Lib.decDigits u ≠ [] ∧ (10 ≤ u → ∃ c r, Lib.decDigits u = c :: r ∧ c.toNat ≠ 48) ∧ (1 ≤ u → ∃ c r, Lib.decDigits u = c :: r ∧ c.toNat ≠ 48) := by
  induction u using Nat.strongRecOn with
  | _ u ih =>
    by_cases h : u < 10
    · rw [Lib.decDigits_one h]
      refine ⟨by simp only [allDig, List.all_cons, List.all_nil, isDig_dig h, Bool.and_true], by simp only [val, List.foldl]; rw [u8_dig h]; omega, by simp, by omega, fun h1 => ⟨_, _, rfl, by rw [u8_dig h]; omega⟩⟩
    · have e : Lib.decDigits u = Lib.decDigits (u / 10) ++ [UInt8.ofNat (48 + u % 10)] := by rw [Lib.decDigits, dif_neg h]
      have hm : u % 10 < 10 := Nat.mod_lt _ (by omega)
      obtain ⟨i1, i2, i3, _, i5⟩ := ih (u / 10) (by omega)
      obtain ⟨c, r, hcr, hc⟩ := i5 (by omega)
      have hx : ∃ c r, Lib.decDigits u = c :: r ∧ c.toNat ≠ 48 := ⟨c, r ++ [UInt8.ofNat (48 + u % 10)], by rw [e, hcr]; rfl, hc⟩
      refine ⟨?_, ?_, ?_, fun _ => hx, fun _ => hx⟩
      · rw [e]; simp only [allDig, List.all_append, List.all_cons, List.all_nil, isDig_dig hm, Bool.and_true]; exact i1
      · rw [e, val_snoc, i2, u8_dig hm]; omega
      · rw [e]; simp

/-- Digits without a nought ahead are those of what they come to. -/
theorem dec_val (l : List UInt8) (hd : allDig l = true) (hn : l ≠ []) (hz : ∀ c r, l = c :: r → r ≠ [] → c.toNat ≠ 48) : Lib.decDigits (val 0 l) = l ∧ ((∀ c r, l = c :: r → c.toNat ≠ 48) → 1 ≤ val 0 l) := by
  induction hl : l.length generalizing l with
  | zero => exact absurd (List.eq_nil_of_length_eq_zero hl) hn
  | succ k ih =>
    have e : l = l.dropLast ++ [l.getLast hn] := (List.dropLast_concat_getLast hn).symm
    generalize l.dropLast = p at e
    generalize l.getLast hn = c at e
    subst e
    have hc : isDig c = true := by simp [allDig] at hd; exact hd.2
    have hp : allDig p = true := by simp [allDig] at hd ⊢; exact hd.1
    have hc' : 48 ≤ c.toNat ∧ c.toNat ≤ 57 := by simpa [isDig] using hc
    have hcc : UInt8.ofNat (48 + (c.toNat - 48)) = c := by
      rw [show 48 + (c.toNat - 48) = c.toNat by omega]; simp
    cases p with
    | nil =>
      simp only [List.nil_append, val, List.foldl]
      refine ⟨?_, fun hh => ?_⟩
      · rw [show 10 * 0 + (c.toNat - 48) = c.toNat - 48 by omega, Lib.decDigits_one (by omega), hcc]
      · have := hh c [] rfl; omega
    | cons a p =>
      have ha : a.toNat ≠ 48 := hz a (p ++ [c]) rfl (by simp)
      have ha' : ∀ x r, a :: p = x :: r → x.toNat ≠ 48 := fun x r e => by injection e with e1 _; rw [← e1]; exact ha
      obtain ⟨i1, i2⟩ := ih (a :: p) hp (by simp) (fun x r e _ => ha' x r e) (by simp at hl ⊢; omega)
      have hv := i2 ha'
      rw [val_snoc]
      refine ⟨?_, fun _ => by omega⟩
      rw [Lib.decDigits, dif_neg (by omega), show (10 * val 0 (a :: p) + (c.toNat - 48)) / 10 = val 0 (a :: p) by omega, show (10 * val 0 (a :: p) + (c.toNat - 48)) % 10 = c.toNat - 48 by omega, i1, hcc]

theorem nDigits_le : ∀ (k u : Nat), u < 10 ^ (k + 1) → Lib.nDigits u ≤ k + 1
  | 0, u, h => by rw [Lib.nDigits_small (by simpa using h)]; omega
  | k + 1, u, h => by
    by_cases hs : u < 10
    · rw [Lib.nDigits_small hs]; omega
    · rw [Lib.nDigits_big hs]
      have := nDigits_le k (u / 10) (by rw [Nat.pow_succ] at h; omega)
      omega
theorem dec_len (u : Nat) (h : u ≤ 4611686018427387904) : (Lib.decDigits u).length ≤ 19 := by
  rw [Lib.decDigits_length]
  exact nDigits_le 18 u (Nat.lt_of_le_of_lt h (by decide))

def farT : List UInt8 := [102, 97, 114]
def noneT : List UInt8 := [110, 111, 110, 101]

/-- A distance's text. -/
def text (a : Int) : List UInt8 := if norm a = 4611686018427387905 then farT else if norm a = 4611686018427387906 then noneT else Lib.decDigits (norm a).toNat

/-- The document's reading of a text. -/
def parse (l : List UInt8) : Option Int :=
  if l = farT then some 4611686018427387905 else if l = noneT then some 4611686018427387906
  else if l.length < 1 ∨ 19 < l.length ∨ (1 < l.length ∧ l.head?.map (·.toNat) = some 48) then none
  else (digs 0 l).map fun (n : Nat) => (n : Int)

/-- The program's way. -/
def parseVia (l : List UInt8) : Option Int :=
  if l = farT then some 4611686018427387905 else if l = noneT then some 4611686018427387906
  else match Lib.atoiAll l with
    | .ok v => if text v = l then some v else none
    | _ => none

theorem atoi_dec (u : Nat) (h : u ≤ 4611686018427387904) : Lib.atoiAll (Lib.decDigits u) = .ok (u : Int) := by
  obtain ⟨h1, h2, h3, _, _⟩ := dec_facts u
  generalize hl : Lib.decDigits u = l at *
  cases l with
  | nil => exact absurd rfl h3
  | cons c r =>
    have hc : isDig c = true := by simp [allDig] at h1; exact h1.1
    have hc' : 48 ≤ c.toNat ∧ c.toNat ≤ 57 := by simpa [isDig] using hc
    rw [Lib.atoiAll_plain c r (by omega) (by omega), Lib.parseMag, if_neg (by simp), parseUint_of (c :: r) 0 h1 (by rw [h2]; exact h), h2]
    simp [Lib.signless]; omega
theorem parse_dec (u : Nat) (h : u ≤ 4611686018427387904) (hf : Lib.decDigits u ≠ farT) (hn : Lib.decDigits u ≠ noneT) : parse (Lib.decDigits u) = some (u : Int) := by
  obtain ⟨h1, h2, h3, h4, _⟩ := dec_facts u
  have hlen := dec_len u h
  unfold parse
  rw [if_neg hf, if_neg hn, if_neg, digs_of _ 0 h1 (by rw [h2]; exact h), h2]
  · rfl
  · rintro (hh | hh | ⟨hh, hz⟩)
    · have := List.length_pos_iff.2 h3; omega
    · omega
    · by_cases hu : u < 10
      · rw [Lib.decDigits_one hu] at hh; simp at hh
      · obtain ⟨c, r, hcr, hc⟩ := h4 (by omega)
        rw [hcr] at hz
        simp at hz
        exact hc hz
theorem dec_ne_far (u : Nat) : Lib.decDigits u ≠ farT := fun e => by
  have := (dec_facts u).1
  rw [e] at this
  exact absurd this (by decide)
theorem dec_ne_none (u : Nat) : Lib.decDigits u ≠ noneT := fun e => by
  have := (dec_facts u).1
  rw [e] at this
  exact absurd this (by decide)
theorem text_told (u : Nat) (h : u ≤ 4611686018427387904) : text (u : Int) = Lib.decDigits u := by
  unfold text
  rw [norm_of (by omega) (by omega), if_neg (by omega), if_neg (by omega)]; simp

theorem parse_eq (l : List UInt8) : parseVia l = parse l := by
  by_cases hf : l = farT
  · simp [parseVia, parse, hf]
  by_cases hn : l = noneT
  · simp [parseVia, parse, hn]
  by_cases hc : ∃ u : Nat, u ≤ 4611686018427387904 ∧ l = Lib.decDigits u
  · obtain ⟨u, hu, rfl⟩ := hc
    rw [parse_dec u hu hf hn]
    unfold parseVia
    rw [if_neg hf, if_neg hn, atoi_dec u hu]
    simp [text_told u hu]
  · have e1 : parseVia l = none := by
      unfold parseVia
      rw [if_neg hf, if_neg hn]
      split
      · rename_i v _
        split
        · rename_i ht
          exfalso
          have hb := norm_bd v
          unfold text at ht
          split at ht
          · exact hf ht.symm
          · split at ht
            · exact hn ht.symm
            · exact hc ⟨(norm v).toNat, by omega, ht.symm⟩
        · rfl
      · rfl
    have e2 : parse l = none := by
      unfold parse
      rw [if_neg hf, if_neg hn]
      split
      · rfl
      · rename_i hg
        cases hd : digs 0 l with
        | none => rfl
        | some n =>
          exfalso
          obtain ⟨h1, h2, h3⟩ := digs_some l 0 n (by omega) hd
          refine hc ⟨n, h3, ?_⟩
          rw [h2]
          refine (dec_val l h1 (fun e => hg (by left; simp [e])) (fun c r e hr hz => hg ?_)).1.symm
          right; right
          subst e
          refine ⟨by have := List.length_pos_iff.2 hr; simp; omega, by simp [hz]⟩
    rw [e1, e2]
theorem parse_text (a : Int) : parse (text a) = some (norm a) := by
  have hb := norm_bd a
  unfold text
  split
  · rename_i h; rw [h]; rfl
  · split
    · rename_i h; rw [h]; rfl
    · rw [parse_dec _ (by omega) (dec_ne_far _) (dec_ne_none _)]
      simp; omega
theorem digit_fin : ∀ d : Fin 10, ByteArray.extract ⟨#[48, 49, 50, 51, 52, 53, 54, 55, 56, 57]⟩ d.val (d.val + 1) = ⟨#[UInt8.ofNat (48 + d.val)]⟩ := by decide +kernel
theorem digit_str (q : Nat) (l : List UInt8) : ByteArray.extract ⟨#[48, 49, 50, 51, 52, 53, 54, 55, 56, 57]⟩ (q % 10) (q % 10 + 1) ++ (⟨l.toArray⟩ : ByteArray) = ⟨(UInt8.ofNat (48 + q % 10) :: l).toArray⟩ := by
  rw [digit_fin ⟨q % 10, Nat.mod_lt _ (by omega)⟩]
  apply ByteArray.ext
  rw [ByteArray.data_append]
  apply Array.ext'
  rw [Array.toList_append]
  rfl
theorem dec_split (q : Nat) : Lib.decDigits q = (if q / 10 = 0 then [] else Lib.decDigits (q / 10)) ++ [UInt8.ofNat (48 + q % 10)] := by
  by_cases h : q < 10
  · rw [Lib.decDigits_one h, if_pos (by omega), Nat.mod_eq_of_lt h]; rfl
  · rw [Lib.decDigits, dif_neg h, if_neg (by omega)]
theorem digit_step {n k q : Nat} {l : List UInt8} (h : (k = 0 ∧ q = n) ∨ (0 < k ∧ Lib.decDigits n = (if q = 0 then [] else Lib.decDigits q) ++ l)) (hl : l.length = k) (hgo : 0 < q ∨ k = 0) :
    Lib.decDigits n = (if q / 10 = 0 then [] else Lib.decDigits (q / 10)) ++ UInt8.ofNat (48 + q % 10) :: l := by
  rcases h with ⟨h1, h2⟩ | ⟨h1, h2⟩
  · subst h2
    have : l = [] := List.eq_nil_of_length_eq_zero (by omega)
    subst this
    exact dec_split q
  · rw [h2, if_neg (by omega), dec_split q, List.append_assoc]; rfl
theorem pow_step (q k : Nat) : q / 10 * 10 ^ (k + 1) ≤ q * 10 ^ k := by
  rw [Nat.pow_succ, Nat.mul_comm (10 ^ k) 10, ← Nat.mul_assoc]
  exact Nat.mul_le_mul_right _ (Nat.div_mul_le_self q 10)
theorem head_of (s : ByteArray) (h : 0 < s.size) (h1 : s[0].toNat = 48) : s.data.toList.head?.map (·.toNat) = some 48 := by
  have e : s.data.toList.head? = some s[0] := by
    rw [List.head?_eq_getElem?, Array.getElem?_toList, Array.getElem?_eq_getElem h]; rfl
  rw [e]; simp [h1]
theorem of_head (s : ByteArray) (h : 0 < s.size) (h1 : s.data.toList.head?.map (·.toNat) = some 48) : s[0].toNat = 48 := by
  have e : s.data.toList.head? = some s[0] := by
    rw [List.head?_eq_getElem?, Array.getElem?_toList, Array.getElem?_eq_getElem h]; rfl
  rw [e] at h1; simpa using h1
theorem toList_ne {s : ByteArray} {l : List UInt8} (h : s.data.toList ≠ l) : (s.toList == l) = false := by
  rw [ByteArray.toList_eq]; simpa using h
theorem drop_at (s : ByteArray) (k : Nat) (h : k < s.size) : s.data.toList.drop k = s[k] :: s.data.toList.drop (k + 1) := by
  rw [List.drop_eq_getElem_cons (by simpa using h)]; rfl
theorem digs_bad (s : ByteArray) (k acc : Nat) (h : k < s.size) (hc : s[k].toNat < 48 ∨ 57 < s[k].toNat) : digs acc (s.data.toList.drop k) = none := by
  rw [drop_at s k h, digs, if_neg (by simp [isDig]; omega)]
theorem digs_over (s : ByteArray) (k acc : Nat) (h : k < s.size) (ho : (4611686018427387904 - (s[k].toNat - 48)) / 10 < acc) : digs acc (s.data.toList.drop k) = none := by
  rw [drop_at s k h, digs, if_pos ho]
  split <;> rfl
theorem digs_on (s : ByteArray) (k acc : Nat) (h : k < s.size) (hc : 48 ≤ s[k].toNat ∧ s[k].toNat ≤ 57) (ho : ¬ (4611686018427387904 - (s[k].toNat - 48)) / 10 < acc) : digs acc (s.data.toList.drop k) = digs (10 * acc + (s[k].toNat - 48)) (s.data.toList.drop (k + 1)) := by
  rw [drop_at s k h, digs, if_pos (by simp [isDig]; omega), if_neg ho]
theorem digs_end (s : ByteArray) (k acc : Nat) (h : ¬ k < s.size) : digs acc (s.data.toList.drop k) = some acc := by
  rw [List.drop_of_length_le (by simp; omega)]; rfl
theorem parse_ok {l : List UInt8} {v : Int} (hf : l ≠ farT) (hn : l ≠ noneT) (ha : Lib.atoiAll l = .ok v) : parse l = if text v = l then some v else none := by
  rw [← parse_eq, parseVia, if_neg hf, if_neg hn, ha]
theorem parse_bad {l : List UInt8} (hf : l ≠ farT) (hn : l ≠ noneT) (ha : ∀ v, Lib.atoiAll l ≠ .ok v) : parse l = none := by
  rw [← parse_eq, parseVia, if_neg hf, if_neg hn]
  split
  · rename_i v h; exact absurd h (ha v)
  · rfl
theorem text_len (a : Int) : (text a).length ≤ 19 := by
  have hb := norm_bd a
  unfold text
  split
  · decide
  · split
    · decide
    · exact dec_len _ (by omega)
theorem pow_bound {q k n : Nat} (h : 0 < q) (hq : q * 10 ^ k ≤ n) (hn : n ≤ 4611686018427387904) : k < 20 := by
  rcases Nat.lt_or_ge k 20 with h' | h'
  · exact h'
  · exfalso
    have h1 : 10 ^ 20 ≤ 10 ^ k := Nat.pow_le_pow_right (by omega) h'
    have h2 : 10 ^ k ≤ q * 10 ^ k := Nat.le_mul_of_pos_left _ h
    have h3 : (10 : Nat) ^ 20 = 100000000000000000000 := by decide
    omega
end DM
end Go.Proofs.YtnjhnfppblojcaaDoor
