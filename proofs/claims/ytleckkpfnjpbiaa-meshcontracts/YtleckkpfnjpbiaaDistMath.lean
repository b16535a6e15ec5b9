/-
  Plain mathematics of distances: what a number counts as, sums and least ones that stop at their end. Nothing of any program.
-/
import Derived.WalkKit
namespace Go.Proofs.Ytleckkpfnjpbiaa
namespace DM

def norm (a : Int) : Int := if a < 0 then 0 else if 4611686018427387906 < a then 4611686018427387906 else a
def told (a : Int) : Bool := decide (norm a ≤ 4611686018427387904)
/-- The sum of two distances. -/
def two (a b : Int) : Int :=
  if norm a = 4611686018427387906 ∨ norm b = 4611686018427387906 then 4611686018427387906
  else if norm a = 4611686018427387905 ∨ norm b = 4611686018427387905 ∨ 4611686018427387904 < norm a + norm b then 4611686018427387905
  else norm a + norm b
def low (a b : Int) : Int := min a (norm b)
def addl (l : List Int) : Int := l.foldl two 0
def minl (l : List Int) : Int := l.foldl low 4611686018427387906

theorem told_cases (a : Int) : (told a = true ∧ norm a ≤ 4611686018427387904) ∨ (told a = false ∧ 4611686018427387904 < norm a) := by
  unfold told; by_cases h : norm a ≤ 4611686018427387904
  · left; simp [h]
  · right; simp [h]; omega
theorem norm_bd (a : Int) : 0 ≤ norm a ∧ norm a ≤ 4611686018427387906 := by
  unfold norm; split
  · omega
  · split <;> omega
theorem norm_of {a : Int} (h0 : 0 ≤ a) (h1 : a ≤ 4611686018427387906) : norm a = a := by
  unfold norm; rw [if_neg (by omega), if_neg (by omega)]
theorem norm_norm (a : Int) : norm (norm a) = norm a := norm_of (norm_bd a).1 (norm_bd a).2
theorem two_bd (a b : Int) : 0 ≤ two a b ∧ two a b ≤ 4611686018427387906 := by
  have ha := norm_bd a; have hb := norm_bd b
  unfold two; split
  · omega
  · split <;> omega
theorem low_bd {a : Int} (b : Int) (h0 : 0 ≤ a) (h1 : a ≤ 4611686018427387906) : 0 ≤ low a b ∧ low a b ≤ 4611686018427387906 := by
  have hb := norm_bd b
  unfold low; omega
theorem foldl_bd (f : Int → Int → Int) (hf : ∀ a b, 0 ≤ a → a ≤ 4611686018427387906 → 0 ≤ f a b ∧ f a b ≤ 4611686018427387906) :
    ∀ (l : List Int) (s : Int), 0 ≤ s → s ≤ 4611686018427387906 → 0 ≤ l.foldl f s ∧ l.foldl f s ≤ 4611686018427387906
  | [], _, h0, h1 => ⟨h0, h1⟩
  | x :: l, s, h0, h1 => foldl_bd f hf l (f s x) (hf s x h0 h1).1 (hf s x h0 h1).2
theorem addl_bd (l : List Int) : 0 ≤ addl l ∧ addl l ≤ 4611686018427387906 := foldl_bd two (fun a b _ _ => two_bd a b) l 0 (by omega) (by omega)
theorem minl_bd (l : List Int) : 0 ≤ minl l ∧ minl l ≤ 4611686018427387906 := foldl_bd low (fun a b h0 h1 => low_bd b h0 h1) l _ (by omega) (by omega)
theorem foldl_take_succ (f : Int → Int → Int) (l : List Int) (s : Int) (k : Nat) (h : k < l.length) : (l.take (k + 1)).foldl f s = f ((l.take k).foldl f s) l[k] := by
  rw [List.take_succ_eq_append_getElem h, List.foldl_append]
  rfl
/-- The sum of two that are distances already. -/
def plus (x y : Int) : Int := if x = 4611686018427387906 ∨ y = 4611686018427387906 then 4611686018427387906 else if x = 4611686018427387905 ∨ y = 4611686018427387905 ∨ 4611686018427387904 < x + y then 4611686018427387905 else x + y
theorem two_plus (a b : Int) : two a b = plus (norm a) (norm b) := rfl
theorem plus_bd {x y : Int} (hx : 0 ≤ x) (hx' : x ≤ 4611686018427387906) (hy : 0 ≤ y) (hy' : y ≤ 4611686018427387906) : 0 ≤ plus x y ∧ plus x y ≤ 4611686018427387906 := by
  unfold plus; split
  · omega
  · split <;> omega
theorem plus_zero {x : Int} (hx : 0 ≤ x) (hx' : x ≤ 4611686018427387906) : plus 0 x = x := by
  unfold plus; split
  · omega
  · split <;> omega
theorem plus_cases (x y : Int) : ((x = 4611686018427387906 ∨ y = 4611686018427387906) ∧ plus x y = 4611686018427387906) ∨ (x ≠ 4611686018427387906 ∧ y ≠ 4611686018427387906 ∧ (x = 4611686018427387905 ∨ y = 4611686018427387905 ∨ 4611686018427387904 < x + y) ∧ plus x y = 4611686018427387905) ∨ (x ≠ 4611686018427387906 ∧ y ≠ 4611686018427387906 ∧ x ≠ 4611686018427387905 ∧ y ≠ 4611686018427387905 ∧ x + y ≤ 4611686018427387904 ∧ plus x y = x + y) := by
  unfold plus; (repeat' split) <;> omega
theorem plus_comm (x y : Int) : plus x y = plus y x := by
  have h1 := plus_cases x y; have h2 := plus_cases y x
  generalize plus x y = u at *; generalize plus y x = v at *
  omega
theorem plus_assoc {x y z : Int} (hx : 0 ≤ x) (hy : 0 ≤ y) (hz : 0 ≤ z) : plus x (plus y z) = plus (plus x y) z := by
  have h1 := plus_cases y z; have h2 := plus_cases x y; have h3 := plus_cases x (plus y z); have h4 := plus_cases (plus x y) z
  generalize plus x (plus y z) = p at *; generalize plus (plus x y) z = q at *
  generalize plus y z = u at *; generalize plus x y = v at *
  omega
theorem plus_min {x y z : Int} (hx : 0 ≤ x) (hy : 0 ≤ y) (hy' : y ≤ 4611686018427387906) (hz : 0 ≤ z) (hz' : z ≤ 4611686018427387906) : plus x (min y z) = min (plus x y) (plus x z) := by
  have key : ∀ u v : Int, 0 ≤ u → u ≤ v → v ≤ 4611686018427387906 → plus x u ≤ plus x v := by
    intro u v h0 huv hv
    have h1 := plus_cases x u; have h2 := plus_cases x v
    generalize plus x u = p at *; generalize plus x v = q at *
    omega
  rcases Int.le_total y z with h | h
  · rw [Int.min_eq_left h, Int.min_eq_left (key y z hy h hz')]
  · rw [Int.min_eq_right h, Int.min_eq_right (key z y hz h hy')]
theorem plus_ge {x y : Int} (hx : 0 ≤ x) (hx' : x ≤ 4611686018427387906) (hy : 0 ≤ y) : x ≤ plus x y := by
  unfold plus; split
  · omega
  · split <;> omega

theorem addl1 (a : Int) : two 0 a = norm a := by
  have h := norm_bd a
  rw [two_plus, norm_of (by omega) (by omega), plus_zero h.1 h.2]
theorem addl2 (a b : Int) : addl [a, b] = plus (norm a) (norm b) := by
  show two (two 0 a) b = _
  rw [addl1, two_plus, norm_norm]
theorem addl3 (a b c : Int) : addl [a, b, c] = plus (plus (norm a) (norm b)) (norm c) := by
  show two (two (two 0 a) b) c = _
  rw [addl1, two_plus, norm_of (two_bd _ _).1 (two_bd _ _).2, two_plus, norm_norm]
theorem norm_plus (a b : Int) : norm (plus (norm a) (norm b)) = plus (norm a) (norm b) := by
  have ha := norm_bd a; have hb := norm_bd b
  have h := plus_bd ha.1 ha.2 hb.1 hb.2
  exact norm_of h.1 h.2
theorem norm_min (a b : Int) : norm (min (norm a) (norm b)) = min (norm a) (norm b) := by
  have ha := norm_bd a; have hb := norm_bd b
  exact norm_of (by omega) (by omega)
theorem minl2 (a b : Int) : minl [a, b] = min (norm a) (norm b) := by
  have ha := norm_bd a; have hb := norm_bd b
  show low (low 4611686018427387906 a) b = _
  unfold low
  rw [Int.min_eq_right ha.2]

theorem ring1 (a b : Int) : addl [a, b] = addl [b, a] := by rw [addl2, addl2, plus_comm]
theorem ring2 (a b c : Int) : addl [a, addl [b, c]] = addl [addl [a, b], c] := by
  have ha := norm_bd a; have hb := norm_bd b; have hc := norm_bd c
  simp only [addl2, norm_plus]
  exact plus_assoc ha.1 hb.1 hc.1
theorem ring3 (a b c : Int) : addl [a, minl [b, c]] = minl [addl [a, b], addl [a, c]] := by
  have ha := norm_bd a; have hb := norm_bd b; have hc := norm_bd c
  simp only [addl2, minl2, norm_plus, norm_min]
  exact plus_min ha.1 hb.1 hb.2 hc.1 hc.2
theorem ring4 (a b c : Int) : addl [a, b, c] = addl [addl [a, b], c] := by
  simp only [addl3, addl2, norm_plus]
theorem order1 (a b : Int) : ¬ norm a < norm (minl [a, b]) := by
  have ha := norm_bd a; have hb := norm_bd b
  rw [minl2, norm_min]; omega
theorem order2 (a b : Int) : ¬ norm (addl [a, b]) < norm a := by
  have ha := norm_bd a; have hb := norm_bd b
  have := plus_ge ha.1 ha.2 hb.1
  rw [addl2, norm_plus]; omega
theorem order3 (a b : Int) : ¬ norm (addl [a, b]) < norm b := by rw [ring1]; exact order2 b a
end DM
end Go.Proofs.Ytleckkpfnjpbiaa
