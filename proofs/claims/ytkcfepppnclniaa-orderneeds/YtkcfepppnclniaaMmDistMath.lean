/-
  DistMath, WalkMath.
-/
import Derived.Test.YtkcfepppnclniaaMmGraphMath
import Derived.WalkKit
section
/-
  Plain mathematics of distances: what a number counts as, sums and least ones that stop at their end. Nothing of any program.
-/
namespace Go.Proofs.Ytkcfepppnclniaa
namespace DM

def norm (a : Int) : Int := if a < 0 then 0 else if 4611686018427387906 < a then 4611686018427387906 else a
def told (a : Int) : Bool := decide (norm a ≤ 4611686018427387904)
/-- The sum of two distances. -/
def two (a b : Int) : Int :=
  if norm a = 4611686018427387906 ∨ norm b = 4611686018427387906 then 4611686018427387906
  else if norm a = 4611686018427387905 ∨ norm b = 4611686018427387905 ∨ 4611686018427387904 < norm a + norm b then 4611686018427387905
  else norm a + norm b
def low (a b : Int) : Int := min a (norm b)
def addl (l : List Int) : Int := l.foldl two 0
def minl (l : List Int) : Int := l.foldl low 4611686018427387906

theorem told_cases (a : Int) : (told a = true ∧ norm a ≤ 4611686018427387904) ∨ (told a = false ∧ 4611686018427387904 < norm a) := by
  unfold told; by_cases h : norm a ≤ 4611686018427387904
  · left; simp [h]
  · right; simp [h]; omega
theorem norm_bd (a : Int) : 0 ≤ norm a ∧ norm a ≤ 4611686018427387906 := by
  unfold norm; split
  · omega
  · split <;> omega
theorem norm_of {a : Int} (h0 : 0 ≤ a) (h1 : a ≤ 4611686018427387906) : norm a = a := by
  unfold norm; rw [if_neg (by omega), if_neg (by omega)]
theorem norm_norm (a : Int) : norm (norm a) = norm a := norm_of (norm_bd a).1 (norm_bd a).2
theorem two_bd (a b : Int) : 0 ≤ two a b ∧ two a b ≤ 4611686018427387906 := by
  have ha := norm_bd a; have hb := norm_bd b
  unfold two; split
  · omega
  · split <;> omega
theorem low_bd {a : Int} (b : Int) (h0 : 0 ≤ a) (h1 : a ≤ 4611686018427387906) : 0 ≤ low a b ∧ low a b ≤ 4611686018427387906 := by
  have hb := norm_bd b
  unfold low; omega
theorem foldl_bd (f : Int → Int → Int) (hf : ∀ a b, 0 ≤ a → a ≤ 4611686018427387906 → 0 ≤ f a b ∧ f a b ≤ 4611686018427387906) :
    ∀ (l : List Int) (s : Int), 0 ≤ s → s ≤ 4611686018427387906 → 0 ≤ l.foldl f s ∧ l.foldl f s ≤ 4611686018427387906
  | [], _, h0, h1 => ⟨h0, h1⟩
  | x :: l, s, h0, h1 => foldl_bd f hf l (f s x) (hf s x h0 h1).1 (hf s x h0 h1).2
theorem addl_bd (l : List Int) : 0 ≤ addl l ∧ addl l ≤ 4611686018427387906 := foldl_bd two (fun a b _ _ => two_bd a b) l 0 (by omega) (by omega)
theorem minl_bd (l : List Int) : 0 ≤ minl l ∧ minl l ≤ 4611686018427387906 := foldl_bd low (fun a b h0 h1 => low_bd b h0 h1) l _ (by omega) (by omega)
theorem foldl_take_succ (f : Int → Int → Int) (l : List Int) (s : Int) (k : Nat) (h : k < l.length) : (l.take (k + 1)).foldl f s = f ((l.take k).foldl f s) l[k] := by
  rw [List.take_succ_eq_append_getElem h, List.foldl_append]
  rfl
/-- The sum of two that are distances already. -/
def plus (x y : Int) : Int := if x = 4611686018427387906 ∨ y = 4611686018427387906 then 4611686018427387906 else if x = 4611686018427387905 ∨ y = 4611686018427387905 ∨ 4611686018427387904 < x + y then 4611686018427387905 else x + y
theorem two_plus (a b : Int) : two a b = plus (norm a) (norm b) := rfl
theorem plus_bd {x y : Int} (hx : 0 ≤ x) (hx' : x ≤ 4611686018427387906) (hy : 0 ≤ y) (hy' : y ≤ 4611686018427387906) : 0 ≤ plus x y ∧ plus x y ≤ 4611686018427387906 := by
  unfold plus; split
  · omega
  · split <;> omega
theorem plus_zero {x : Int} (hx : 0 ≤ x) (hx' : x ≤ 4611686018427387906) : plus 0 x = x := by
  unfold plus; split
  · omega
  · split <;> omega
theorem plus_cases (x y : Int) : ((x = 4611686018427387906 ∨ y = 4611686018427387906) ∧ plus x y = 4611686018427387906) ∨ (x ≠ 4611686018427387906 ∧ y ≠ 4611686018427387906 ∧ (x = 4611686018427387905 ∨ y = 4611686018427387905 ∨ 4611686018427387904 < x + y) ∧ plus x y = 4611686018427387905) ∨ (x ≠ 4611686018427387906 ∧ y ≠ 4611686018427387906 ∧ x ≠ 4611686018427387905 ∧ y ≠ 4611686018427387905 ∧ x + y ≤ 4611686018427387904 ∧ plus x y = x + y) := by
  unfold plus; (repeat' split) <;> omega
theorem plus_comm (x y : Int) : plus x y = plus y x := by
  have h1 := plus_cases x y; have h2 := plus_cases y x
  generalize plus x y = u at *; generalize plus y x = v at *
  omega
theorem plus_assoc {x y z : Int} (hx : 0 ≤ x) (hy : 0 ≤ y) (hz : 0 ≤ z) : plus x (plus y z) = plus (plus x y) z := by
  have h1 := plus_cases y z; have h2 := plus_cases x y; have h3 := plus_cases x (plus y z); have h4 := plus_cases (plus x y) z
  generalize plus x (plus y z) = p at *; generalize plus (plus x y) z = q at *
  generalize plus y z = u at *; generalize plus x y = v at *
  omega
theorem plus_min {x y z : Int} (hx : 0 ≤ x) (hy : 0 ≤ y) (hy' : y ≤ 4611686018427387906) (hz : 0 ≤ z) (hz' : z ≤ 4611686018427387906) : plus x (min y z) = min (plus x y) (plus x z) := by
  have key : ∀ u v : Int, 0 ≤ u → u ≤ v → v ≤ 4611686018427387906 → plus x u ≤ plus x v := by
    intro u v h0 huv hv
    have h1 := plus_cases x u; have h2 := plus_cases x v
    generalize plus x u = p at *; generalize plus x v = q at *
    omega
  rcases Int.le_total y z with h | h
  · rw [Int.min_eq_left h, Int.min_eq_left (key y z hy h hz')]
  · rw [Int.min_eq_right h, Int.min_eq_right (key z y hz h hy')]
theorem plus_ge {x y : Int} (hx : 0 ≤ x) (hx' : x ≤ 4611686018427387906) (hy : 0 ≤ y) : x ≤ plus x y := by
  unfold plus; split
  · omega
  · split <;> omega

theorem addl1 (a : Int) : two 0 a = norm a := by
  have h := norm_bd a
  rw [two_plus, norm_of (by omega) (by omega), plus_zero h.1 h.2]
theorem addl2 (a b : Int) : addl [a, b] = plus (norm a) (norm b) := by
  show two (two 0 a) b = _
  rw [addl1, two_plus, norm_norm]
theorem addl3 (a b c : Int) : addl [a, b, c] = plus (plus (norm a) (norm b)) (norm c) := by
  show two (two (two 0 a) b) c = _
  rw [addl1, two_plus, norm_of (two_bd _ _).1 (two_bd _ _).2, two_plus, norm_norm]
theorem norm_plus (a b : Int) : norm (plus (norm a) (norm b)) = plus (norm a) (norm b) := by
  have ha := norm_bd a; have hb := norm_bd b
  have h := plus_bd ha.1 ha.2 hb.1 hb.2
  exact norm_of h.1 h.2
theorem norm_min (a b : Int) : norm (min (norm a) (norm b)) = min (norm a) (norm b) := by
  have ha := norm_bd a; have hb := norm_bd b
  exact norm_of (by omega) (by omega)
theorem minl2 (a b : Int) : minl [a, b] = min (norm a) (norm b) := by
  have ha := norm_bd a; have hb := norm_bd b
  show low (low 4611686018427387906 a) b = _
  unfold low
  rw [Int.min_eq_right ha.2]

theorem ring1 (a b : Int) : addl [a, b] = addl [b, a] := by rw [addl2, addl2, plus_comm]
theorem ring2 (a b c : Int) : addl [a, addl [b, c]] = addl [addl [a, b], c] := by
  have ha := norm_bd a; have hb := norm_bd b; have hc := norm_bd c
  simp only [addl2, norm_plus]
  exact plus_assoc ha.1 hb.1 hc.1
theorem ring3 (a b c : Int) : addl [a, minl [b, c]] = minl [addl [a, b], addl [a, c]] := by
  have ha := norm_bd a; have hb := norm_bd b; have hc := norm_bd c
  simp only [addl2, minl2, norm_plus, norm_min]
  exact plus_min ha.1 hb.1 hb.2 hc.1 hc.2
theorem ring4 (a b c : Int) : addl [a, b, c] = addl [addl [a, b], c] := by
  simp only [addl3, addl2, norm_plus]
theorem order1 (a b : Int) : ¬ norm a < norm (minl [a, b]) := by
  have ha := norm_bd a; have hb := norm_bd b
  rw [minl2, norm_min]; omega
theorem order2 (a b : Int) : ¬ norm (addl [a, b]) < norm a := by
  have ha := norm_bd a; have hb := norm_bd b
  have := plus_ge ha.1 ha.2 hb.1
  rw [addl2, norm_plus]; omega
theorem order3 (a b : Int) : ¬ norm (addl [a, b]) < norm b := by rw [ring1]; exact order2 b a
end DM
end Go.Proofs.Ytkcfepppnclniaa
end

section
/-
  Lists of arcs that lead on from one another: where they go, what is wrong, what they come to. Nothing of the program.
-/
namespace Go.Proofs.Ytkcfepppnclniaa
namespace WK

/-- An arc of a number, with what is wrong with it wherever it stands. -/
def code1 (x : Arc × Bool) : Int := if x.2 = true then (if x.1.closed = true then 5 else 0) else 3
def arcOf (m : GM.M) (id : Int) : Arc × Int := ((GM.look m id).1, code1 (GM.look m id))
def list (m : GM.M) (zs : List Int) : List (Arc × Int) := zs.map (arcOf m)
/-- What is wrong with it where the walk is. -/
def codeAt (u : Int) (x : Arc × Int) : Int := if x.2 = 0 ∧ x.1.tail ≠ u then 8 else x.2
def run : Int → List (Arc × Int) → List (Int × Int)
  | _, [] => []
  | u, x :: xs => (x.1.head, codeAt u x) :: (if codeAt u x = 0 then run x.1.head xs else [])
/-- Where the walk is behind them all. -/
def ends : Int → List (Arc × Int) → Option Int
  | u, [] => some u
  | u, x :: xs => if codeAt u x = 0 then ends x.1.head xs else none
def tcode : Int → List (Arc × Int) → Int
  | _, [] => 0
  | u, x :: xs => if codeAt u x = 0 then tcode x.1.head xs else codeAt u x
def stops (n : Nat) (u : Int) (xs : List (Arc × Int)) : List (Int × Int) := if GM.vert n u = true then (u, 0) :: run u xs else [(u, 1)]
/-- What Visits says: the code, the vertices. -/
def vcode (n : Nat) (u : Int) (xs : List (Arc × Int)) : Int := if GM.vert n u = true then tcode u xs else 1
def heads (xs : List (Arc × Int)) : List Int := xs.map (fun x => x.1.head)
def vlist (n : Nat) (u : Int) (xs : List (Arc × Int)) : List Int := if vcode n u xs = 0 then u :: heads xs else []
def last (u : Int) (xs : List (Arc × Int)) : Int := (heads xs).getLastD u
def ccode (n : Nat) (u v : Int) (xs : List (Arc × Int)) : Int := if GM.vert n v = true then (if vcode n u xs = 0 then (if last u xs = v then 0 else 8) else vcode n u xs) else 1
def simple (n : Nat) (u : Int) (xs : List (Arc × Int)) : Bool := decide (vcode n u xs = 0 ∧ (u :: heads xs).Nodup)
def gone (xs : List (Arc × Int)) : Bool := xs.any (fun x => decide (x.2 = 3))
def wsum (xs : List (Arc × Int)) : Int := if gone xs = true then 4611686018427387906 else (xs.map (fun x => x.1.weight)).foldl DM.two 0
def first : List (Int × Int) → Int
  | [] => 0
  | y :: ys => if y.2 = 0 then first ys else y.2

theorem run_snoc {u b : Int} {x : Arc × Int} : ∀ {pre : List (Arc × Int)}, ends u pre = some b → run u (pre ++ [x]) = run u pre ++ [(x.1.head, codeAt b x)] ∧ ends u (pre ++ [x]) = (if codeAt b x = 0 then some x.1.head else none) := by
  intro pre
  induction pre generalizing u with
  | nil =>
    intro h
    simp only [ends, Option.some.injEq] at h
    subst h
    simp [run, ends]
  | cons y ys ih =>
    intro h
    simp only [ends] at h
    split at h
    · rename_i h0
      have := ih h
      simp only [List.cons_append, run, ends, if_pos h0, this.1, this.2]
      exact ⟨trivial, trivial⟩
    · cases h
theorem run_stop {u : Int} (ys : List (Arc × Int)) : ∀ {pre : List (Arc × Int)}, ends u pre = none → run u (pre ++ ys) = run u pre := by
  intro pre
  induction pre generalizing u with
  | nil => intro h; simp [ends] at h
  | cons y zs ih =>
    intro h
    simp only [ends] at h
    simp only [List.cons_append, run]
    split at h
    · rename_i h0
      rw [if_pos h0, if_pos h0, ih h]
    · rename_i h0
      rw [if_neg h0, if_neg h0]
theorem run_pre {pre l : List (Arc × Int)} (h : pre <+: l) (u : Int) : run u pre <+: run u l := by
  obtain ⟨t, rfl⟩ := h
  induction pre generalizing u with
  | nil => exact List.nil_prefix
  | cons y ys ih =>
    rw [List.cons_append, run, run, List.prefix_cons_inj]
    split
    · exact ih _
    · exact List.prefix_rfl
theorem ends_last : ∀ {xs : List (Arc × Int)} {u b : Int}, ends u xs = some b → last u xs = b ∧ tcode u xs = 0
  | [], u, b, h => by
    simp only [ends, Option.some.injEq] at h
    exact ⟨h, rfl⟩
  | x :: xs, u, b, h => by
    simp only [ends] at h
    split at h
    · rename_i h0
      obtain ⟨h1, h2⟩ := ends_last h
      refine ⟨?_, by rw [tcode, if_pos h0, h2]⟩
      rw [← h1]
      unfold last heads
      rw [List.map_cons, List.getLastD_cons]
    · cases h
theorem ends_none : ∀ {xs : List (Arc × Int)} {u : Int}, ends u xs = none → tcode u xs ≠ 0
  | [], u, h => by simp [ends] at h
  | x :: xs, u, h => by
    simp only [ends] at h
    rw [tcode]
    split at h
    · rename_i h0
      rw [if_pos h0]
      exact ends_none h
    · rename_i h0
      rw [if_neg h0]
      exact h0
theorem tcode_ends {xs : List (Arc × Int)} {u : Int} (h : tcode u xs = 0) : ends u xs = some (last u xs) := by
  cases he : ends u xs with
  | none => exact absurd h (ends_none he)
  | some b => rw [(ends_last he).1]
/-- The first one that is wrong tells. -/
theorem tcode_at {ys : List (Arc × Int)} {x : Arc × Int} : ∀ {pre : List (Arc × Int)} {u b : Int}, ends u pre = some b → codeAt b x ≠ 0 → tcode u (pre ++ x :: ys) = codeAt b x
  | [], u, b, h, h0 => by
    simp only [ends, Option.some.injEq] at h
    subst h
    rw [List.nil_append, tcode, if_neg h0]
  | y :: pre, u, b, h, h0 => by
    simp only [ends] at h
    split at h
    · rename_i h1
      rw [List.cons_append, tcode, if_pos h1]
      exact tcode_at h h0
    · cases h
theorem ends_snoc {u b : Int} {pre : List (Arc × Int)} {x : Arc × Int} (h : ends u pre = some b) (h0 : codeAt b x = 0) : ends u (pre ++ [x]) = some x.1.head := by rw [(run_snoc h).2, if_pos h0]
theorem codeAt_zero {u : Int} {x : Arc × Int} : codeAt u x = 0 ↔ x.2 = 0 ∧ x.1.tail = u := by
  unfold codeAt
  split
  · rename_i h
    constructor
    · intro h'; cases h'
    · rintro ⟨h1, h2⟩; exact absurd h2 h.2
  · rename_i h
    constructor
    · intro h1
      refine ⟨h1, ?_⟩
      by_cases e : x.1.tail = u
      · exact e
      · exact absurd ⟨h1, e⟩ h
    · exact fun h1 => h1.1
theorem ends_append : ∀ {xs ys : List (Arc × Int)} {u b : Int}, ends u xs = some b → ends u (xs ++ ys) = ends b ys
  | [], ys, u, b, h => by
    simp only [ends, Option.some.injEq] at h
    subst h
    rfl
  | x :: xs, ys, u, b, h => by
    simp only [ends] at h
    split at h
    · rename_i h0
      rw [List.cons_append, ends, if_pos h0]
      exact ends_append h
    · cases h

/-! The stops, gone through. -/
theorem first_ok {l : List (Int × Int)} (h : ∀ y ∈ l, y.2 = 0) : first l = 0 := by
  induction l with
  | nil => rfl
  | cons y ys ih =>
    rw [first, if_pos (h y (by simp))]
    exact ih (fun z hz => h z (by simp [hz]))
theorem first_bad {p : List (Int × Int)} {y : Int × Int} {l : List (Int × Int)} (hp : ∀ z ∈ p, z.2 = 0) (hy : y.2 ≠ 0) (h : p ++ [y] <+: l) : first l = y.2 := by
  obtain ⟨t, rfl⟩ := h
  induction p with
  | nil => simp [first, hy]
  | cons z zs ih =>
    rw [List.cons_append, List.cons_append, first, if_pos (hp z (by simp))]
    exact ih (fun a ha => hp a (by simp [ha]))
theorem first_run : ∀ (xs : List (Arc × Int)) (u : Int), first (run u xs) = tcode u xs
  | [], _ => rfl
  | x :: xs, u => by
    rw [run, first, tcode]
    split
    · rename_i h0
      exact first_run xs _
    · rfl
theorem first_stops (n : Nat) (u : Int) (xs : List (Arc × Int)) : first (stops n u xs) = vcode n u xs := by
  unfold stops vcode
  split
  · rw [first, if_pos rfl, first_run]
  · rfl
theorem run_heads : ∀ (xs : List (Arc × Int)) (u : Int), tcode u xs = 0 → (run u xs).map Prod.fst = heads xs
  | [], _, _ => rfl
  | x :: xs, u, h => by
    rw [tcode] at h
    split at h
    · rename_i h0
      rw [run, if_pos h0, List.map_cons, run_heads xs _ h]
      rfl
    · rename_i h0
      exact absurd h h0
theorem stops_heads {n : Nat} {u : Int} {xs : List (Arc × Int)} (h : vcode n u xs = 0) : (stops n u xs).map Prod.fst = u :: heads xs := by
  unfold vcode at h
  unfold stops
  split at h
  · rename_i hv
    rw [if_pos hv, List.map_cons, run_heads xs u h]
  · cases h
theorem stops_last {n : Nat} {u : Int} {xs : List (Arc × Int)} (h : vcode n u xs = 0) : ((stops n u xs).map Prod.fst).getLastD u = last u xs := by
  rw [stops_heads h, List.getLastD_cons]
  rfl
theorem run_len : ∀ (xs : List (Arc × Int)) (u : Int), (run u xs).length ≤ xs.length
  | [], _ => Nat.le_refl _
  | x :: xs, u => by
    rw [run]
    have := run_len xs x.1.head
    split
    · simp; omega
    · simp
theorem stops_len (n : Nat) (u : Int) (xs : List (Arc × Int)) : (stops n u xs).length ≤ xs.length + 1 := by
  unfold stops
  split
  · have := run_len xs u; simp; omega
  · simp
/-- Simple, by what has come. -/
theorem simple_yes {n : Nat} {u : Int} {xs : List (Arc × Int)} (h : ∀ y ∈ stops n u xs, y.2 = 0) (hd : ((stops n u xs).map Prod.fst).Nodup) : simple n u xs = true := by
  have h0 : vcode n u xs = 0 := by rw [← first_stops]; exact first_ok h
  rw [stops_heads h0] at hd
  exact decide_eq_true ⟨h0, hd⟩
theorem simple_no {n : Nat} {u : Int} {xs : List (Arc × Int)} {p : List (Int × Int)} {y : Int × Int} (hp : ∀ z ∈ p, z.2 = 0) (h : p ++ [y] <+: stops n u xs) (hy : y.2 ≠ 0 ∨ y.1 ∈ p.map Prod.fst) : simple n u xs = false := by
  refine decide_eq_false ?_
  rintro ⟨h0, hd⟩
  rcases hy with hy | hy
  · rw [← first_stops, first_bad hp hy h] at h0
    exact hy h0
  · rw [← stops_heads h0] at hd
    obtain ⟨t, ht⟩ := h
    rw [← ht, List.map_append, List.map_append] at hd
    have := (List.nodup_append.1 (List.nodup_append.1 hd).1).2.2
    exact this _ hy _ (by simp) rfl

/-! Sums. -/
theorem two_norm (a b : Int) : DM.addl [a, b] = DM.two a b := by rw [DM.addl2, DM.two_plus]
def tsum (xs : List (Arc × Int)) : Int := (xs.map (fun x => x.1.weight)).foldl DM.two 0
theorem tsum_snoc (xs : List (Arc × Int)) (x : Arc × Int) : tsum (xs ++ [x]) = DM.two (tsum xs) x.1.weight := by
  unfold tsum
  rw [List.map_append, List.foldl_append]
  rfl
theorem tsum_bd (xs : List (Arc × Int)) : 0 ≤ tsum xs ∧ tsum xs ≤ 4611686018427387906 := DM.addl_bd _
theorem gone_snoc (xs : List (Arc × Int)) (x : Arc × Int) : gone (xs ++ [x]) = (gone xs || decide (x.2 = 3)) := by
  unfold gone
  rw [List.any_append]
  simp
theorem gone_pre {xs ys : List (Arc × Int)} (h : xs <+: ys) (hg : gone xs = true) : gone ys = true := by
  obtain ⟨t, rfl⟩ := h
  unfold gone at *
  rw [List.any_append, hg]
  rfl
theorem wsum_gone {xs ys : List (Arc × Int)} (h : xs <+: ys) (hg : gone xs = true) : wsum ys = 4611686018427387906 := by
  unfold wsum
  rw [if_pos (gone_pre h hg)]
theorem wsum_all {xs : List (Arc × Int)} (hg : gone xs = false) : wsum xs = tsum xs := by
  unfold wsum
  rw [hg, if_neg (by decide)]
  rfl
theorem list_len (m : GM.M) (zs : List Int) : (list m zs).length = zs.length := by simp [list]
theorem list_take (m : GM.M) (zs : List Int) (k : Nat) : list m (zs.take k) = (list m zs).take k := by simp [list, List.map_take]
theorem list_snoc (m : GM.M) (zs : List Int) (k : Nat) (hk : k < zs.length) : list m (zs.take (k + 1)) = list m (zs.take k) ++ [arcOf m zs[k]] := by
  unfold list
  rw [List.take_succ_eq_append_getElem hk, List.map_append]
  rfl
theorem list_pre (m : GM.M) (zs : List Int) (k : Nat) : list m (zs.take k) <+: list m zs := by
  rw [list_take]
  exact List.take_prefix _ _
end WK
end Go.Proofs.Ytkcfepppnclniaa
end
