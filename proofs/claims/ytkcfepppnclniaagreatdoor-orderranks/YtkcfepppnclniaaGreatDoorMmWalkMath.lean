/-
  WalkMath, NearMath.
-/
import Derived.Test.YtkcfepppnclniaaGreatDoorMmGraphMath
section
/-
  Lists of arcs that lead on from one another: where they go, what is wrong, what they come to. Nothing of the program.
-/
namespace Go.Proofs.YtkcfepppnclniaaGreatDoor
namespace WK

/-- An arc of a number, with what is wrong with it wherever it stands. -/
def code1 (x : Arc × Bool) : Int := if x.2 = true then (if x.1.closed = true then 5 else 0) else 3
def arcOf (m : GM.M) (id : Int) : Arc × Int := ((GM.look m id).1, code1 (GM.look m id))
def list (m : GM.M) (zs : List Int) : List (Arc × Int) := zs.map (arcOf m)
/-- What is wrong with it where the walk is. -/
def codeAt (u : Int) (x : Arc × Int) : Int := if x.2 = 0 ∧ x.1.tail ≠ u then 8 else x.2
def run : Int → List (Arc × Int) → List (Int × Int)
  | _, [] => []
  | u, x :: xs => (x.1.head, codeAt u x) :: (if codeAt u x = 0 then run x.1.head xs else [])
/-- Where the walk is behind them all. -/
def ends : Int → List (Arc × Int) → Option Int
  | u, [] => some u
  | u, x :: xs => if codeAt u x = 0 then ends x.1.head xs else none
def tcode : Int → List (Arc × Int) → Int
  | _, [] => 0
  | u, x :: xs => if codeAt u x = 0 then tcode x.1.head xs else codeAt u x
def stops (n : Nat) (u : Int) (xs : List (Arc × Int)) : List (Int × Int) := if GM.vert n u = true then (u, 0) :: run u xs else [(u, 1)]
/-- What Visits says: the code, the vertices. -/
def vcode (n : Nat) (u : Int) (xs : List (Arc × Int)) : Int := if GM.vert n u = true then tcode u xs else 1
def heads (xs : List (Arc × Int)) : List Int := xs.map (fun x => x.1.head)
def vlist (n : Nat) (u : Int) (xs : List (Arc × Int)) : List Int := if vcode n u xs = 0 then u :: heads xs else []
def last (u : Int) (xs : List (Arc × Int)) : Int := (heads xs).getLastD u
def ccode (n : Nat) (u v : Int) (xs : List (Arc × Int)) : Int := if GM.vert n v = true then (if vcode n u xs = 0 then (if last u xs = v then 0 else 8) else vcode n u xs) else 1
def simple (n : Nat) (u : Int) (xs : List (Arc × Int)) : Bool := decide (vcode n u xs = 0 ∧ (u :: heads xs).Nodup)
def gone (xs : List (Arc × Int)) : Bool := xs.any (fun x => decide (x.2 = 3))
def wsum (xs : List (Arc × Int)) : Int := if gone xs = true then 4611686018427387906 else (xs.map (fun x => x.1.weight)).foldl DM.two 0
def first : List (Int × Int) → Int
  | [] => 0
  | y :: ys => if y.2 = 0 then first ys else y.2

theorem run_snoc {u b : Int} {x : Arc × Int} : ∀ {pre : List (Arc × Int)}, ends u pre = some b → run u (pre ++ [x]) = run u pre ++ [(x.1.head, codeAt b x)] ∧ ends u (pre ++ [x]) = (if codeAt b x = 0 then some x.1.head else none) := by
  intro pre
  induction pre generalizing u with
  | nil =>
    intro h
    simp only [ends, Option.some.injEq] at h
    subst h
    simp [run, ends]
  | cons y ys ih =>
    intro h
    simp only [ends] at h
    split at h
    · rename_i h0
      have := ih h
      simp only [List.cons_append, run, ends, if_pos h0, this.1, this.2]
      exact ⟨trivial, trivial⟩
    · cases h
theorem run_stop {u : Int} (ys : List (Arc × Int)) : ∀ {pre : List (Arc × Int)}, ends u pre = none → run u (pre ++ ys) = run u pre := by
  intro pre
  induction pre generalizing u with
  | nil => intro h; simp [ends] at h
  | cons y zs ih =>
    intro h
    simp only [ends] at h
    simp only [List.cons_append, run]
    split at h
    · rename_i h0
      rw [if_pos h0, if_pos h0, ih h]
    · rename_i h0
      rw [if_neg h0, if_neg h0]
theorem run_pre {pre l : List (Arc × Int)} (h : pre <+: l) (u : Int) : run u pre <+: run u l := by
  obtain ⟨t, rfl⟩ := h
  induction pre generalizing u with
  | nil => exact List.nil_prefix
  | cons y ys ih =>
    rw [List.cons_append, run, run, List.prefix_cons_inj]
    split
    · exact ih _
    · exact List.prefix_rfl
theorem ends_last : ∀ {xs : List (Arc × Int)} {u b : Int}, ends u xs = some b → last u xs = b ∧ tcode u xs = 0
  | [], u, b, h => by
    simp only [ends, Option.some.injEq] at h
    exact ⟨h, rfl⟩
  | x :: xs, u, b, h => by
    simp only [ends] at h
    split at h
    · rename_i h0
      obtain ⟨h1, h2⟩ := ends_last h
      refine ⟨?_, by rw [tcode, if_pos h0, h2]⟩
      rw [← h1]
      unfold last heads
      rw [List.map_cons, List.getLastD_cons]
    · cases h
theorem ends_none : ∀ {xs : List (Arc × Int)} {u : Int}, ends u xs = none → tcode u xs ≠ 0
  | [], u, h => by simp [ends] at h
  | x :: xs, u, h => by
    simp only [ends] at h
    rw [tcode]
    split at h
    · rename_i h0
      rw [if_pos h0]
      exact ends_none h
    · rename_i h0
      rw [if_neg h0]
      exact h0
theorem tcode_ends {xs : List (Arc × Int)} {u : Int} (h : tcode u xs = 0) : ends u xs = some (last u xs) := by
  cases he : ends u xs with
  | none => exact absurd h (ends_none he)
  | some b => rw [(ends_last he).1]
/-- The first one that is wrong tells. -/
theorem tcode_at {ys : List (Arc × Int)} {x : Arc × Int} : ∀ {pre : List (Arc × Int)} {u b : Int}, ends u pre = some b → codeAt b x ≠ 0 → tcode u (pre ++ x :: ys) = codeAt b x
  | [], u, b, h, h0 => by
    simp only [ends, Option.some.injEq] at h
    subst h
    rw [List.nil_append, tcode, if_neg h0]
  | y :: pre, u, b, h, h0 => by
    simp only [ends] at h
    split at h
    · rename_i h1
      rw [List.cons_append, tcode, if_pos h1]
      exact tcode_at h h0
    · cases h
theorem ends_snoc {u b : Int} {pre : List (Arc × Int)} {x : Arc × Int} (h : ends u pre = some b) (h0 : codeAt b x = 0) : ends u (pre ++ [x]) = some x.1.head := by rw [(run_snoc h).2, if_pos h0]
theorem codeAt_zero {u : Int} {x : Arc × Int} : codeAt u x = 0 ↔ x.2 = 0 ∧ x.1.tail = u := by
  unfold codeAt
  split
  · rename_i h
    constructor
    · intro h'; cases h'
    · rintro ⟨h1, h2⟩; exact absurd h2 h.2
  · rename_i h
    constructor
    · intro h1
      refine ⟨h1, ?_⟩
      by_cases e : x.1.tail = u
      · exact e
      · exact absurd ⟨h1, e⟩ h
    · exact fun h1 => h1.1
theorem ends_append : ∀ {xs ys : List (Arc × Int)} {u b : Int}, ends u xs = some b → ends u (xs ++ ys) = ends b ys
  | [], ys, u, b, h => by
    simp only [ends, Option.some.injEq] at h
    subst h
    rfl
  | x :: xs, ys, u, b, h => by
    simp only [ends] at h
    split at h
    · rename_i h0
      rw [List.cons_append, ends, if_pos h0]
      exact ends_append h
    · cases h

/-! The stops, gone through. -/
theorem first_ok {l : List (Int × Int)} (h : ∀ y ∈ l, y.2 = 0) : first l = 0 := by
  induction l with
  | nil => rfl
  | cons y ys ih =>
    rw [first, if_pos (h y (by simp))]
    exact ih (fun z hz => h z (by simp [hz]))
theorem first_bad {p : List (Int × Int)} {y : Int × Int} {l : List (Int × Int)} (hp : ∀ z ∈ p, z.2 = 0) (hy : y.2 ≠ 0) (h : p ++ [y] <+: l) : first l = y.2 := by
  obtain ⟨t, rfl⟩ := h
  induction p with
  | nil => simp [first, hy]
  | cons z zs ih =>
    rw [List.cons_append, List.cons_append, first, if_pos (hp z (by simp))]
    exact ih (fun a ha => hp a (by simp [ha]))
theorem first_run : ∀ (xs : List (Arc × Int)) (u : Int), first (run u xs) = tcode u xs
  | [], _ => rfl
  | x :: xs, u => by
    rw [run, first, tcode]
    split
    · rename_i h0
      exact first_run xs _
    · rfl
theorem first_stops (n : Nat) (u : Int) (xs : List (Arc × Int)) : first (stops n u xs) = vcode n u xs := by
  unfold stops vcode
  split
  · rw [first, if_pos rfl, first_run]
  · rfl
theorem run_heads : ∀ (xs : List (Arc × Int)) (u : Int), tcode u xs = 0 → (run u xs).map Prod.fst = heads xs
  | [], _, _ => rfl
  | x :: xs, u, h => by
    rw [tcode] at h
    split at h
    · rename_i h0
      rw [run, if_pos h0, List.map_cons, run_heads xs _ h]
      rfl
    · rename_i h0
      exact absurd h h0
theorem stops_heads {n : Nat} {u : Int} {xs : List (Arc × Int)} (h : vcode n u xs = 0) : (stops n u xs).map Prod.fst = u :: heads xs := by
  unfold vcode at h
  unfold stops
  split at h
  · rename_i hv
    rw [if_pos hv, List.map_cons, run_heads xs u h]
  · cases h
theorem stops_last {n : Nat} {u : Int} {xs : List (Arc × Int)} (h : vcode n u xs = 0) : ((stops n u xs).map Prod.fst).getLastD u = last u xs := by
  rw [stops_heads h, List.getLastD_cons]
  rfl
theorem run_len : ∀ (xs : List (Arc × Int)) (u : Int), (run u xs).length ≤ xs.length
  | [], _ => Nat.le_refl _
  | x :: xs, u => by
    rw [run]
    have := run_len xs x.1.head
    split
    · simp; omega
    · simp
theorem stops_len (n : Nat) (u : Int) (xs : List (Arc × Int)) : (stops n u xs).length ≤ xs.length + 1 := by
  unfold stops
  split
  · have := run_len xs u; simp; omega
  · simp
/-- Simple, by what has come. -/
theorem simple_yes {n : Nat} {u : Int} {xs : List (Arc × Int)} (h : ∀ y ∈ stops n u xs, y.2 = 0) (hd : ((stops n u xs).map Prod.fst).Nodup) : simple n u xs = true := by
  have h0 : vcode n u xs = 0 := by rw [← first_stops]; exact first_ok h
  rw [stops_heads h0] at hd
  exact decide_eq_true ⟨h0, hd⟩
theorem simple_no {n : Nat} {u : Int} {xs : List (Arc × Int)} {p : List (Int × Int)} {y : Int × Int} (hp : ∀ z ∈ p, z.2 = 0) (h : p ++ [y] <+: stops n u xs) (hy : y.2 ≠ 0 ∨ y.1 ∈ p.map Prod.fst) : simple n u xs = false := by
  refine decide_eq_false ?_
  rintro ⟨h0, hd⟩
  rcases hy with hy | hy
  · rw [← first_stops, first_bad hp hy h] at h0
    exact hy h0
  · rw [← stops_heads h0] at hd
    obtain ⟨t, ht⟩ := h
    rw [← ht, List.map_append, List.map_append] at hd
    have := (List.nodup_append.1 (List.nodup_append.1 hd).1).2.2
    exact this _ hy _ (by simp) rfl

/-! Sums. -/
theorem two_norm (a b : Int) : DM.addl [a, b] = DM.two a b := by rw [DM.addl2, DM.two_plus]
def tsum (xs : List (Arc × Int)) : Int := (xs.map (fun x => x.1.weight)).foldl DM.two 0
theorem tsum_snoc (xs : List (Arc × Int)) (x : Arc × Int) : tsum (xs ++ [x]) = DM.two (tsum xs) x.1.weight := by
  unfold tsum
  rw [List.map_append, List.foldl_append]
  rfl
theorem tsum_bd (xs : List (Arc × Int)) : 0 ≤ tsum xs ∧ tsum xs ≤ 4611686018427387906 := DM.addl_bd _
theorem gone_snoc (xs : List (Arc × Int)) (x : Arc × Int) : gone (xs ++ [x]) = (gone xs || decide (x.2 = 3)) := by
  unfold gone
  rw [List.any_append]
  simp
theorem gone_pre {xs ys : List (Arc × Int)} (h : xs <+: ys) (hg : gone xs = true) : gone ys = true := by
  obtain ⟨t, rfl⟩ := h
  unfold gone at *
  rw [List.any_append, hg]
  rfl
theorem wsum_gone {xs ys : List (Arc × Int)} (h : xs <+: ys) (hg : gone xs = true) : wsum ys = 4611686018427387906 := by
  unfold wsum
  rw [if_pos (gone_pre h hg)]
theorem wsum_all {xs : List (Arc × Int)} (hg : gone xs = false) : wsum xs = tsum xs := by
  unfold wsum
  rw [hg, if_neg (by decide)]
  rfl
theorem list_len (m : GM.M) (zs : List Int) : (list m zs).length = zs.length := by simp [list]
theorem list_take (m : GM.M) (zs : List Int) (k : Nat) : list m (zs.take k) = (list m zs).take k := by simp [list, List.map_take]
theorem list_snoc (m : GM.M) (zs : List Int) (k : Nat) (hk : k < zs.length) : list m (zs.take (k + 1)) = list m (zs.take k) ++ [arcOf m zs[k]] := by
  unfold list
  rw [List.take_succ_eq_append_getElem hk, List.map_append]
  rfl
theorem list_pre (m : GM.M) (zs : List Int) (k : Nat) : list m (zs.take k) <+: list m zs := by
  rw [list_take]
  exact List.take_prefix _ _
end WK
end Go.Proofs.YtkcfepppnclniaaGreatDoor
end

section
/-
  How far it is: the least sum of a walk. Nothing of the program.
-/
namespace Go.Proofs.YtkcfepppnclniaaGreatDoor
namespace NM

/-! Sums of two. -/
theorem two_cases {a b : Int} (ha : 0 ≤ a) (ha' : a ≤ 4611686018427387906) (hb : 0 ≤ b) (hb' : b ≤ 4611686018427387906) :
    ((a = 4611686018427387906 ∨ b = 4611686018427387906) ∧ DM.two a b = 4611686018427387906) ∨ (a ≠ 4611686018427387906 ∧ b ≠ 4611686018427387906 ∧ 4611686018427387904 < a + b ∧ DM.two a b = 4611686018427387905) ∨ (a + b ≤ 4611686018427387904 ∧ DM.two a b = a + b) := by
  rw [DM.two_plus, DM.norm_of ha ha', DM.norm_of hb hb']
  rcases DM.plus_cases a b with h | h | h <;> omega
theorem two_mono {a b c d : Int} (ha : 0 ≤ a) (hac : a ≤ c) (hc : c ≤ 4611686018427387906) (hb : 0 ≤ b) (hbd : b ≤ d) (hd : d ≤ 4611686018427387906) : DM.two a b ≤ DM.two c d := by
  rcases two_cases ha (by omega) hb (by omega) with h | h | h <;> rcases two_cases (show 0 ≤ c by omega) hc (show 0 ≤ d by omega) hd with k | k | k <;> omega
theorem two_l {a b : Int} (ha : 0 ≤ a) (ha' : a ≤ 4611686018427387906) (hb : 0 ≤ b) (hb' : b ≤ 4611686018427387906) : a ≤ DM.two a b := by
  rcases two_cases ha ha' hb hb' with h | h | h <;> omega
theorem two_r {a b : Int} (ha : 0 ≤ a) (ha' : a ≤ 4611686018427387906) (hb : 0 ≤ b) (hb' : b ≤ 4611686018427387906) : b ≤ DM.two a b := by
  rcases two_cases ha ha' hb hb' with h | h | h <;> omega
theorem two_comm (a b : Int) : DM.two a b = DM.two b a := by rw [DM.two_plus, DM.two_plus, DM.plus_comm]
theorem two_assoc (a b c : Int) : DM.two (DM.two a b) c = DM.two a (DM.two b c) := by
  have := DM.ring2 a b c
  rw [WK.two_norm, WK.two_norm, WK.two_norm, WK.two_norm] at this
  exact this.symm
theorem two_zero {s : Int} (h0 : 0 ≤ s) (h1 : s ≤ 4611686018427387906) : DM.two s 0 = s := by
  rw [DM.two_plus, DM.norm_of h0 h1, DM.norm_of (by decide) (by decide), DM.plus_comm, DM.plus_zero h0 h1]
theorem zero_two {s : Int} (h0 : 0 ≤ s) (h1 : s ≤ 4611686018427387906) : DM.two 0 s = s := by rw [two_comm, two_zero h0 h1]
theorem norm_two (a b : Int) : DM.two (DM.norm a) b = DM.two a b := by rw [DM.two_plus, DM.two_plus, DM.norm_norm]
theorem fold_two : ∀ (l : List Int) (s : Int), 0 ≤ s → s ≤ 4611686018427387906 → l.foldl DM.two s = DM.two s (l.foldl DM.two 0)
  | [], s, h0, h1 => (two_zero h0 h1).symm
  | a :: l, s, h0, h1 => by
    have b1 := DM.two_bd s a
    have b2 := DM.two_bd 0 a
    rw [List.foldl_cons, List.foldl_cons, fold_two l _ b1.1 b1.2, fold_two l _ b2.1 b2.2, two_assoc, two_assoc 0 a]
    have b3 := DM.two_bd a (l.foldl DM.two 0)
    rw [DM.addl1, DM.norm_of b3.1 b3.2]

/-! Walks. -/
/-- These numbers' arcs lead from u to b. -/
def Wk (m : GM.M) (u b : Int) (ids : List Int) : Prop := WK.ends u (WK.list m ids) = some b
/-- What they come to. -/
def csum (m : GM.M) (ids : List Int) : Int := WK.tsum (WK.list m ids)
/-- An arc of that number goes on from u, open. -/
def opn (m : GM.M) (u z : Int) : Prop := WK.codeAt u (WK.arcOf m z) = 0
def hd (m : GM.M) (z : Int) : Int := (WK.arcOf m z).1.head
def wt (m : GM.M) (z : Int) : Int := (WK.arcOf m z).1.weight
theorem csum_bd (m : GM.M) (ids : List Int) : 0 ≤ csum m ids ∧ csum m ids ≤ 4611686018427387906 := WK.tsum_bd _
theorem csum_nil (m : GM.M) : csum m [] = 0 := rfl
theorem csum_cons (m : GM.M) (z : Int) (ids : List Int) : csum m (z :: ids) = DM.two (wt m z) (csum m ids) := by
  have e : csum m (z :: ids) = ((WK.list m ids).map (fun x => x.1.weight)).foldl DM.two (DM.two 0 (wt m z)) := rfl
  have b := DM.two_bd 0 (wt m z)
  rw [e, fold_two _ _ b.1 b.2, DM.addl1, norm_two]
  rfl
theorem csum_consN (m : GM.M) (z : Int) (ids : List Int) : csum m (z :: ids) = DM.two (DM.norm (wt m z)) (csum m ids) := by rw [csum_cons, norm_two]
theorem csum_append (m : GM.M) : ∀ (xs ys : List Int), csum m (xs ++ ys) = DM.two (csum m xs) (csum m ys)
  | [], ys => by
    have b := csum_bd m ys
    rw [List.nil_append, csum_nil, zero_two b.1 b.2]
  | x :: xs, ys => by rw [List.cons_append, csum_cons, csum_cons, csum_append m xs ys, two_assoc]
theorem wk_nil (m : GM.M) (u : Int) : Wk m u u [] := rfl
theorem wk_nil_iff {m : GM.M} {u b : Int} : Wk m u b [] ↔ u = b := by
  unfold Wk
  show some u = some b ↔ u = b
  exact Option.some_inj
theorem wk_cons {m : GM.M} {u b z : Int} {ids : List Int} : Wk m u b (z :: ids) ↔ opn m u z ∧ Wk m (hd m z) b ids := by
  unfold Wk opn hd
  have e : WK.list m (z :: ids) = WK.arcOf m z :: WK.list m ids := rfl
  rw [e, WK.ends]
  split
  · rename_i h
    exact ⟨fun k => ⟨h, k⟩, fun k => k.2⟩
  · rename_i h
    exact ⟨(fun k => by cases k), fun k => absurd k.1 h⟩
theorem wk_append {m : GM.M} {u b c : Int} : ∀ {xs ys : List Int}, Wk m u b xs → Wk m b c ys → Wk m u c (xs ++ ys) := fun {xs ys} h1 h2 => by
  unfold Wk at *
  have e : WK.list m (xs ++ ys) = WK.list m xs ++ WK.list m ys := by simp [WK.list]
  rw [e, WK.ends_append h1, h2]
theorem wk_one {m : GM.M} {u z : Int} (h : opn m u z) : Wk m u (hd m z) [z] := wk_cons.2 ⟨h, wk_nil _ _⟩
theorem csum_one (m : GM.M) (z : Int) : csum m [z] = DM.norm (wt m z) := by
  have b := DM.norm_bd (wt m z)
  rw [csum_cons, csum_nil, ← norm_two, two_zero b.1 b.2]

/-! How far it is. -/
/-- From u to b it is x. -/
structure Dst (m : GM.M) (u b x : Int) : Prop where
  lo : 0 ≤ x
  hi : x ≤ 4611686018427387906
  le : ∀ ids, Wk m u b ids → x ≤ csum m ids
  is : x = 4611686018427387906 ∨ ∃ ids, Wk m u b ids ∧ csum m ids = x
theorem Dst.le_of {m : GM.M} {u b x y : Int} (h : Dst m u b x) (hy : y = 4611686018427387906 ∨ ∃ ids, Wk m u b ids ∧ csum m ids = y) : x ≤ y := by
  rcases hy with e | ⟨ids, h1, h2⟩
  · rw [e]; exact h.hi
  · rw [← h2]; exact h.le ids h1
theorem Dst.unique {m : GM.M} {u b x y : Int} (h : Dst m u b x) (k : Dst m u b y) : x = y := Int.le_antisymm (h.le_of k.is) (k.le_of h.is)
theorem Dst.self {m : GM.M} (u : Int) : Dst m u u 0 := ⟨Int.le_refl _, by decide, fun ids _ => (csum_bd m ids).1, .inr ⟨[], wk_nil _ _, rfl⟩⟩
theorem Dst.third {m : GM.M} {u v b x y z : Int} (h : Dst m u b x) (h1 : Dst m u v y) (h2 : Dst m v b z) : x ≤ DM.two y z := by
  rcases h1.is with e | ⟨p, p1, p2⟩
  · rcases two_cases h1.lo h1.hi h2.lo h2.hi with k | k | k
    · rw [k.2]; exact h.hi
    · exact absurd e k.1
    · have := h2.lo; omega
  · rcases h2.is with e | ⟨q, q1, q2⟩
    · rcases two_cases h1.lo h1.hi h2.lo h2.hi with k | k | k
      · rw [k.2]; exact h.hi
      · exact absurd e k.2.1
      · have := h1.lo; omega
    · rw [← p2, ← q2, ← csum_append]
      exact h.le _ (wk_append p1 q1)
/-- By one more arc. -/
theorem Dst.arc {m : GM.M} {u v x y z : Int} (h1 : Dst m u v x) (h2 : Dst m u (hd m z) y) (hz : opn m v z) : y ≤ DM.two x (wt m z) := by
  rcases h1.is with e | ⟨p, p1, p2⟩
  · have b := DM.norm_bd (wt m z)
    rw [two_comm, ← norm_two, two_comm]
    rcases two_cases h1.lo h1.hi b.1 b.2 with k | k | k
    · rw [k.2]; exact h2.hi
    · exact absurd e k.1
    · omega
  · have := h2.le _ (wk_append p1 (wk_one hz))
    rw [csum_append, csum_one, p2, two_comm, norm_two, two_comm] at this
    exact this
theorem Dst.one {m : GM.M} {u y z : Int} (h : Dst m u (hd m z) y) (hz : opn m u z) : y ≤ DM.norm (wt m z) := by
  have := h.le _ (wk_one hz)
  rwa [csum_one] at this

/-! Vertices in between. -/
/-- All vertices in between are less than k. -/
def Mid (m : GM.M) (k : Int) : List Int → Prop
  | [] => True
  | [_] => True
  | z :: y :: zs => hd m z < k ∧ Mid m k (y :: zs)
theorem mid_cons {m : GM.M} {k z : Int} (hz : hd m z < k) : ∀ {p : List Int}, Mid m k p → Mid m k (z :: p)
  | [], _ => trivial
  | _ :: _, h => ⟨hz, h⟩
theorem split {m : GM.M} {k : Int} : ∀ (ids : List Int) {u b : Int}, Wk m u b ids → Mid m (k + 1) ids → Mid m k ids ∨ ∃ p q, Wk m u k p ∧ Mid m k p ∧ Wk m k b q ∧ Mid m k q ∧ DM.two (csum m p) (csum m q) ≤ csum m ids
  | [], _, _, _, _ => .inl trivial
  | [_], _, _, _, _ => .inl trivial
  | z :: y :: zs, u, b, h, hm => by
    obtain ⟨h1, h2⟩ := wk_cons.1 h
    have ih := split (y :: zs) h2 hm.2
    have bz := DM.norm_bd (wt m z)
    have br := csum_bd m (y :: zs)
    have ez := csum_consN m z (y :: zs)
    by_cases e : hd m z = k
    · rcases ih with h3 | ⟨p, q, p1, p2, q1, q2, hs⟩
      · refine .inr ⟨[z], y :: zs, e ▸ wk_one h1, trivial, e ▸ h2, h3, ?_⟩
        rw [csum_one, ez]
        exact Int.le_refl _
      · refine .inr ⟨[z], q, e ▸ wk_one h1, trivial, q1, q2, ?_⟩
        have bp := csum_bd m p
        have bq := csum_bd m q
        rw [csum_one, ez]
        exact two_mono bz.1 (Int.le_refl _) bz.2 bq.1 (Int.le_trans (two_r bp.1 bp.2 bq.1 bq.2) hs) br.2
    · have hlt : hd m z < k := by have := hm.1; omega
      rcases ih with h3 | ⟨p, q, p1, p2, q1, q2, hs⟩
      · exact .inl ⟨hlt, h3⟩
      · refine .inr ⟨z :: p, q, wk_cons.2 ⟨h1, p1⟩, mid_cons hlt p2, q1, q2, ?_⟩
        have b2 := DM.two_bd (csum m p) (csum m q)
        rw [csum_consN, ez, two_assoc]
        exact two_mono bz.1 (Int.le_refl _) bz.2 b2.1 hs br.2

/-! By way of ever more vertices. -/
/-- A table of how far it is: each entry is a walk's sum, or None; none is more than a walk by way of vertices below k, and, of those ahead of (s, t), by way of k too. -/
structure Fw (m : GM.M) (N k s t : Nat) (D : Nat → Nat → Int) : Prop where
  bd : ∀ a b, 0 ≤ D a b ∧ D a b ≤ 4611686018427387906
  is : ∀ a b : Nat, D a b = 4611686018427387906 ∨ ∃ ids, Wk m a b ids ∧ csum m ids = D a b
  le : ∀ a b : Nat, a < N → b < N → ∀ ids, Wk m a b ids → Mid m k ids → D a b ≤ csum m ids
  up : ∀ a b : Nat, a < N → b < N → (a < s ∨ a = s ∧ b < t) → ∀ ids, Wk m a b ids → Mid m ((k : Int) + 1) ids → D a b ≤ csum m ids
def set2 (D : Nat → Nat → Int) (s t : Nat) (x : Int) : Nat → Nat → Int := fun a b => if a = s ∧ b = t then x else D a b
theorem Fw.step {m : GM.M} {N k s t : Nat} {D : Nat → Nat → Int} (h : Fw m N k s t D) (hk : k < N) (hs : s < N) (ht : t < N) (x : Int) (hx : x = if DM.two (D s k) (D k t) < D s t then DM.two (D s k) (D k t) else D s t) : Fw m N k s (t + 1) (set2 D s t x) := by
  have b1 := h.bd s k
  have b2 := h.bd k t
  have b3 := DM.two_bd (D s k) (D k t)
  have b4 := h.bd s t
  have hle : x ≤ D s t := by rw [hx]; split <;> omega
  have hle2 : x ≤ DM.two (D s k) (D k t) := by rw [hx]; split <;> omega
  have hl : ∀ a b, set2 D s t x a b ≤ D a b := fun a b => by
    unfold set2
    split
    · rename_i e
      rw [e.1, e.2]
      exact hle
    · exact Int.le_refl _
  refine ⟨fun a b => ?_, fun a b => ?_, fun a b ha hb ids h1 h2 => Int.le_trans (hl a b) (h.le a b ha hb ids h1 h2), fun a b ha hb hab ids h1 h2 => ?_⟩
  · unfold set2
    split
    · rw [hx]; split <;> omega
    · exact h.bd a b
  · unfold set2
    split
    · rename_i e
      rw [e.1, e.2, hx]
      split
      · rename_i hlt
        rcases h.is s k with e1 | ⟨p, p1, p2⟩
        · rcases two_cases b1.1 b1.2 b2.1 b2.2 with c | c | c <;> omega
        · rcases h.is k t with e2 | ⟨q, q1, q2⟩
          · rcases two_cases b1.1 b1.2 b2.1 b2.2 with c | c | c <;> omega
          · exact .inr ⟨p ++ q, wk_append p1 q1, by rw [csum_append, p2, q2]⟩
      · exact h.is s t
    · exact h.is a b
  · by_cases e : a = s ∧ b = t
    · obtain ⟨rfl, rfl⟩ := e
      have e2 : set2 D a b x a b = x := by unfold set2; rw [if_pos ⟨rfl, rfl⟩]
      rw [e2]
      rcases split ids h1 h2 with h3 | ⟨p, q, p1, p2, q1, q2, hsum⟩
      · exact Int.le_trans hle (h.le a b ha hb ids h1 h3)
      · refine Int.le_trans hle2 (Int.le_trans ?_ hsum)
        exact two_mono b1.1 (h.le a k ha hk p p1 p2) (csum_bd m p).2 b2.1 (h.le k b hk hb q q1 q2) (csum_bd m q).2
    · refine Int.le_trans (hl a b) (h.up a b ha hb ?_ ids h1 h2)
      omega
theorem Fw.row {m : GM.M} {N k s : Nat} {D : Nat → Nat → Int} (h : Fw m N k s N D) : Fw m N k (s + 1) 0 D := ⟨h.bd, h.is, h.le, fun a b ha hb hab => h.up a b ha hb (by omega)⟩
theorem Fw.phase {m : GM.M} {N k : Nat} {D : Nat → Nat → Int} (h : Fw m N k N 0 D) : Fw m N (k + 1) 0 0 D := ⟨h.bd, h.is, fun a b ha hb ids h1 h2 => h.up a b ha hb (.inl ha) ids h1 (by simpa using h2), fun a b _ _ hab => by omega⟩
/-- Open arcs lead to vertices. -/
def Into (m : GM.M) (N : Nat) : Prop := ∀ u z, opn m u z → 0 ≤ hd m z ∧ hd m z < (N : Int)
theorem mid_all {m : GM.M} {N : Nat} (hin : Into m N) : ∀ (ids : List Int) {u b : Int}, Wk m u b ids → Mid m (N : Int) ids
  | [], _, _, _ => trivial
  | [_], _, _, _ => trivial
  | z :: y :: zs, u, b, h => by
    obtain ⟨h1, h2⟩ := wk_cons.1 h
    exact ⟨(hin u z h1).2, mid_all hin (y :: zs) h2⟩
theorem Fw.done {m : GM.M} {N : Nat} {D : Nat → Nat → Int} (h : Fw m N N 0 0 D) (hin : Into m N) {a b : Nat} (ha : a < N) (hb : b < N) : Dst m a b (D a b) :=
  ⟨(h.bd a b).1, (h.bd a b).2, fun ids hw => h.le a b ha hb ids hw (mid_all hin ids hw), h.is a b⟩
/-- The table of the arcs themselves. -/
theorem Fw.begin {m : GM.M} {N : Nat} {D : Nat → Nat → Int} (hin : Into m N) (bd : ∀ a b, 0 ≤ D a b ∧ D a b ≤ 4611686018427387906)
    (is : ∀ a b : Nat, D a b = 4611686018427387906 ∨ ∃ ids, Wk m a b ids ∧ csum m ids = D a b) (self : ∀ a, a < N → D a a = 0)
    (arc : ∀ a b : Nat, a < N → b < N → ∀ z, opn m a z → hd m z = b → D a b ≤ DM.norm (wt m z)) : Fw m N 0 0 0 D := by
  refine ⟨bd, is, fun a b ha hb ids h1 h2 => ?_, fun a b _ _ hab => by omega⟩
  match ids, h1, h2 with
  | [], h1, _ =>
    have e : (a : Int) = b := wk_nil_iff.1 h1
    have e : a = b := by omega
    subst e
    rw [self a ha]
    exact (csum_bd m []).1
  | [z], h1, _ =>
    obtain ⟨h3, h4⟩ := wk_cons.1 h1
    rw [csum_one]
    exact arc a b ha hb z h3 (wk_nil_iff.1 h4)
  | z :: y :: zs, h1, h2 =>
    have h3 := hin a z (wk_cons.1 h1).1
    have h4 : hd m z < ((0 : Nat) : Int) := h2.1
    omega

/-! What is settled, one behind the other. -/
theorem relaxed {m : GM.M} {V X : Int → Prop} {d : Int → Int} {u : Int} (hV : ∀ x z, V x → opn m x z → V (hd m z)) (hd0 : ∀ v, V v → 0 ≤ d v ∧ d v ≤ 4611686018427387906)
    (hr : ∀ x, X x → ∀ z, opn m x z → d (hd m z) ≤ DM.two (d x) (wt m z)) (hu : ∀ v, V v → ¬ X v → d u ≤ d v) (hux : ¬ X u) :
    ∀ (p : List Int) (x c : Int), V x → X x → d x ≤ c → c ≤ 4611686018427387906 → Wk m x u p → d u ≤ DM.two c (csum m p)
  | [], x, c, hv, hx, _, _, hw => absurd (wk_nil_iff.1 hw ▸ hx) hux
  | z :: p, x, c, hv, hx, hc, hc', hw => by
    obtain ⟨h1, h2⟩ := wk_cons.1 hw
    have bx := hd0 x hv
    have bz := DM.norm_bd (wt m z)
    have bp := csum_bd m p
    have b1 := DM.two_bd c (DM.norm (wt m z))
    have e : DM.two c (csum m (z :: p)) = DM.two (DM.two c (DM.norm (wt m z))) (csum m p) := by rw [csum_consN, two_assoc]
    have h3 : d (hd m z) ≤ DM.two c (DM.norm (wt m z)) := by
      refine Int.le_trans (hr x hx z h1) ?_
      rw [two_comm, ← norm_two, two_comm]
      exact two_mono bx.1 hc hc' bz.1 (Int.le_refl _) bz.2
    rw [e]
    by_cases hX : X (hd m z)
    · exact relaxed hV hd0 hr hu hux p _ _ (hV x z hv h1) hX h3 b1.2 h2
    · refine Int.le_trans (hu _ (hV x z hv h1) hX) (Int.le_trans h3 ?_)
      exact two_l b1.1 b1.2 bp.1 bp.2
/-- The nearest that isn't settled is as far as it is told to be. -/
theorem settles {m : GM.M} {V X : Int → Prop} {d : Int → Int} {s u : Int} (hV : ∀ x z, V x → opn m x z → V (hd m z)) (hd0 : ∀ v, V v → 0 ≤ d v ∧ d v ≤ 4611686018427387906)
    (hr : ∀ x, X x → ∀ z, opn m x z → d (hd m z) ≤ DM.two (d x) (wt m z)) (hu : ∀ v, V v → ¬ X v → d u ≤ d v) (hux : ¬ X u) (hs : V s) (hu' : V u) (hs0 : d s = 0)
    (is : d u = 4611686018427387906 ∨ ∃ ids, Wk m s u ids ∧ csum m ids = d u) : Dst m s u (d u) := by
  refine ⟨(hd0 u hu').1, (hd0 u hu').2, fun ids hw => ?_, is⟩
  have b := csum_bd m ids
  by_cases hX : X s
  · have := relaxed hV hd0 hr hu hux ids s 0 hs hX (by omega) (by decide) hw
    rwa [zero_two b.1 b.2] at this
  · have := hu s hs hX
    omega
end NM
end Go.Proofs.YtkcfepppnclniaaGreatDoor
end
