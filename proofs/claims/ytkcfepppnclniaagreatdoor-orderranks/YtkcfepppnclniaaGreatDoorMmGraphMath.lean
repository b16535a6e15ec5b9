/-
  GraphMath, DistMath.
-/
import Derived.Test.YtkcfepppnclniaaGreatDoorMmBase
import Derived.WalkKit
section
/-
  Graphs as maps from places to arcs: what a change does, which arcs there are, which is the best. Nothing of the program.
-/
namespace Go.Proofs.YtkcfepppnclniaaGreatDoor

/-- An arc. -/
structure Arc where
  tail : Int
  head : Int
  weight : Int
  closed : Bool
def noArc : Arc := ⟨0, 0, 0, false⟩
/-- A change: its kind, its place, its arc. -/
structure Chg where
  kind : Int
  id : Int
  arc : Arc
def noChg : Chg := ⟨0, 0, noArc⟩
namespace GM
/-- What lies at each place. -/
abbrev M := Nat → Option Arc
def none0 : M := fun _ => none
def arc (m : M) (i : Nat) : Arc := (m i).getD noArc
def is (m : M) (i : Nat) : Bool := (m i).isSome
def upd (m : M) (i : Nat) (x : Option Arc) : M := fun j => if j = i then x else m j
def okW (x : Int) : Bool := decide (1 ≤ x ∧ x ≤ 4611686018427387904)
def place (id : Int) : Bool := decide (0 ≤ id ∧ id < 64)
def vert (n : Nat) (v : Int) : Bool := decide (0 ≤ v ∧ v < (n : Int))
/-- The places below k that are taken, rising. -/
def ids (m : M) : Nat → List Nat
  | 0 => []
  | k + 1 => ids m k ++ (if is m k then [k] else [])
def cnt (m : M) : Nat := (ids m 64).length
def iids (m : M) (k : Nat) : List Int := (ids m k).map (fun i : Nat => (i : Int))
/-- The arcs at them. -/
def arcs (m : M) (k : Nat) : List (Nat × Arc) := (ids m k).map (fun i => (i, arc m i))

theorem arc_some {m : M} {i : Nat} {a : Arc} (h : m i = some a) : arc m i = a := by simp [arc, h]
theorem arc_none {m : M} {i : Nat} (h : is m i = false) : arc m i = noArc := by
  unfold is at h
  unfold arc
  cases hm : m i with
  | none => rfl
  | some a => rw [hm] at h; cases h
theorem is_upd (m : M) (i : Nat) (x : Option Arc) (j : Nat) : is (upd m i x) j = if j = i then x.isSome else is m j := by
  unfold is upd
  split <;> rfl
theorem arc_upd (m : M) (i : Nat) (x : Option Arc) (j : Nat) : arc (upd m i x) j = if j = i then x.getD noArc else arc m j := by
  unfold arc upd
  split <;> rfl
theorem ids_take {m : M} {k : Nat} (h : is m k = true) : ids m (k + 1) = ids m k ++ [k] := by simp [ids, h]
theorem ids_skip {m : M} {k : Nat} (h : is m k = false) : ids m (k + 1) = ids m k := by simp [ids, h]
theorem iids_take {m : M} {k : Nat} (h : is m k = true) : iids m (k + 1) = iids m k ++ [(k : Int)] := by simp [iids, ids_take h]
theorem iids_skip {m : M} {k : Nat} (h : is m k = false) : iids m (k + 1) = iids m k := by simp [iids, ids_skip h]
theorem arcs_take {m : M} {k : Nat} (h : is m k = true) : arcs m (k + 1) = arcs m k ++ [(k, arc m k)] := by simp [arcs, ids_take h]
theorem arcs_skip {m : M} {k : Nat} (h : is m k = false) : arcs m (k + 1) = arcs m k := by simp [arcs, ids_skip h]
theorem ids_le (m : M) : ∀ k, (ids m k).length ≤ k
  | 0 => Nat.le_refl _
  | k + 1 => by
    have := ids_le m k
    cases h : is m k with
    | true => rw [ids_take h]; simp; omega
    | false => rw [ids_skip h]; omega
theorem cnt_le (m : M) : cnt m ≤ 64 := ids_le m 64
theorem iids_len (m : M) (k : Nat) : (iids m k).length = (ids m k).length := by simp [iids]
theorem arcs_len (m : M) (k : Nat) : (arcs m k).length = (ids m k).length := by simp [arcs]
theorem mem_ids (m : M) (i : Nat) : ∀ k, i ∈ ids m k ↔ i < k ∧ is m i = true
  | 0 => by simp [ids]
  | k + 1 => by
    cases h : is m k with
    | true =>
      rw [ids_take h, List.mem_append, mem_ids m i k, List.mem_singleton]
      constructor
      · rintro (⟨h1, h2⟩ | rfl)
        · exact ⟨by omega, h2⟩
        · exact ⟨by omega, h⟩
      · rintro ⟨h1, h2⟩
        by_cases e : i = k
        · exact .inr e
        · exact .inl ⟨by omega, h2⟩
    | false =>
      rw [ids_skip h, mem_ids m i k]
      constructor
      · rintro ⟨h1, h2⟩
        exact ⟨by omega, h2⟩
      · rintro ⟨h1, h2⟩
        refine ⟨?_, h2⟩
        by_cases e : i = k
        · subst e; rw [h] at h2; cases h2
        · omega
theorem ids_pre (m : M) {j : Nat} : ∀ {k : Nat}, j ≤ k → ids m j <+: ids m k
  | 0, h => by obtain rfl : j = 0 := by omega
               exact List.prefix_rfl
  | k + 1, h => by
    by_cases e : j = k + 1
    · subst e; exact List.prefix_rfl
    · exact (ids_pre m (k := k) (by omega)).trans (by cases h : is m k with
        | true => rw [ids_take h]; exact List.prefix_append _ _
        | false => rw [ids_skip h]; exact List.prefix_rfl)
theorem arcs_pre (m : M) {j k : Nat} (h : j ≤ k) : arcs m j <+: arcs m k := (ids_pre m h).map _
theorem ids_same {m m' : M} (h : ∀ j, is m j = is m' j) : ∀ k, ids m k = ids m' k
  | 0 => rfl
  | k + 1 => by rw [ids, ids, ids_same h k, h k]
theorem ids_put (m : M) (i : Nat) (a : Arc) : ∀ k, (ids (upd m i (some a)) k).length ≤ (ids m k).length + (if i < k then 1 else 0)
  | 0 => by simp [ids]
  | k + 1 => by
    have ih := ids_put m i a k
    have hu := is_upd m i (some a) k
    by_cases e : k = i
    · subst e
      rw [if_pos rfl] at hu
      rw [ids_take hu]
      rw [if_neg (by omega)] at ih
      rw [if_pos (by omega)]
      have : (ids m k).length ≤ (ids m (k + 1)).length := (ids_pre m (by omega)).length_le
      simp
      omega
    · rw [if_neg e] at hu
      have e1 : (if i < k + 1 then 1 else 0) = (if i < k then 1 else 0) := by split <;> split <;> omega
      rw [e1]
      cases h : is m k with
      | true => rw [h] at hu; rw [ids_take h, ids_take hu]; simp; omega
      | false => rw [h] at hu; rw [ids_skip h, ids_skip hu]; exact ih
theorem ids_cut (m : M) (i : Nat) : ∀ k, (ids (upd m i none) k).length ≤ (ids m k).length
  | 0 => by simp [ids]
  | k + 1 => by
    have ih := ids_cut m i k
    have hu := is_upd m i none k
    have hp : (ids m k).length ≤ (ids m (k + 1)).length := (ids_pre m (by omega)).length_le
    by_cases e : k = i
    · rw [if_pos e] at hu
      rw [ids_skip hu]
      omega
    · rw [if_neg e] at hu
      cases h : is m k with
      | true => rw [h] at hu; rw [ids_take h, ids_take hu]; simp; omega
      | false => rw [h] at hu; rw [ids_skip h, ids_skip hu]; exact ih

/-- What holds of each graph: weights that may be, no place beyond, no more than may be. -/
structure Good (most : Nat) (m : M) : Prop where
  ok : ∀ i, is m i = true → okW (arc m i).weight = true
  out : ∀ i, 64 ≤ i → m i = none
  few : cnt m ≤ most
theorem Good.zero (most : Nat) : Good most none0 := ⟨fun i h => by simp [is, none0] at h, fun _ _ => rfl, by simp [cnt, ids, is, none0]⟩
theorem Good.tells {most : Nat} {m : M} (h : Good most m) (i : Nat) : okW (arc m i).weight = is m i := by
  cases hi : is m i with
  | true => exact h.ok i hi
  | false => rw [arc_none hi]; rfl
theorem Good.put {most : Nat} {m : M} (h : Good most m) {i : Nat} (hi : i < 64) {a : Arc} (ha : okW a.weight = true) (hf : is m i = true ∨ cnt m < most) : Good most (upd m i (some a)) where
  ok j hj := by
    rw [arc_upd]
    split
    · exact ha
    · rename_i e
      rw [is_upd, if_neg e] at hj
      exact h.ok j hj
  out j hj := by
    unfold upd
    rw [if_neg (by omega)]
    exact h.out j hj
  few := by
    rcases hf with h1 | h1
    · unfold cnt
      rw [ids_same (m' := m)]
      · exact h.few
      · intro j
        rw [is_upd]
        split
        · rename_i e; rw [e, h1]; rfl
        · rfl
    · have := ids_put m i a 64
      rw [if_pos hi] at this
      unfold cnt at h1 ⊢
      omega
theorem Good.cut {most : Nat} {m : M} (h : Good most m) (i : Nat) : Good most (upd m i none) where
  ok j hj := by
    rw [is_upd] at hj
    split at hj
    · cases hj
    · rename_i e
      rw [arc_upd, if_neg e]
      exact h.ok j hj
  out j hj := by
    unfold upd
    split
    · rfl
    · exact h.out j hj
  few := Nat.le_trans (ids_cut m i 64) h.few

/-! What is answered, and what there is then. -/
def insCode (n most : Nat) (m : M) (id : Int) (a : Arc) : Int := if place id && vert n a.tail && vert n a.head && okW a.weight then (if is m id.toNat then 4 else if cnt m < most then 0 else 2) else 1
def ins (n most : Nat) (m : M) (id : Int) (a : Arc) : M := if insCode n most m id a = 0 then upd m id.toNat (some a) else m
def atCode (m : M) (id : Int) : Int := if place id then (if is m id.toNat then 0 else 3) else 1
def del (m : M) (id : Int) : M := if atCode m id = 0 then upd m id.toNat none else m
def turnCode (m : M) (id : Int) (c : Bool) : Int := if atCode m id = 0 then (if (arc m id.toNat).closed = c then 5 else 0) else atCode m id
def turn (m : M) (id : Int) (c : Bool) : M := if turnCode m id c = 0 then upd m id.toNat (some { arc m id.toNat with closed := c }) else m
def weighCode (m : M) (id : Int) (x : Int) : Int := if okW x then atCode m id else 1
def weigh (m : M) (id : Int) (x : Int) : M := if weighCode m id x = 0 then upd m id.toNat (some { arc m id.toNat with weight := x }) else m
def code (n most : Nat) (m : M) (c : Chg) : Int := if c.kind = 0 then insCode n most m c.id c.arc else if c.kind = 1 then atCode m c.id else if c.kind = 2 then turnCode m c.id true else if c.kind = 3 then turnCode m c.id false else weighCode m c.id c.arc.weight
def next (n most : Nat) (m : M) (c : Chg) : M := if c.kind = 0 then ins n most m c.id c.arc else if c.kind = 1 then del m c.id else if c.kind = 2 then turn m c.id true else if c.kind = 3 then turn m c.id false else weigh m c.id c.arc.weight

theorem place_nat {id : Int} (h : place id = true) : ∃ i : Nat, id = i ∧ i < 64 := by
  have := of_decide_eq_true h
  exact ⟨id.toNat, by omega, by omega⟩
theorem atCode_zero {m : M} {id : Int} (h : atCode m id = 0) : ∃ i : Nat, id = i ∧ i < 64 ∧ is m i = true := by
  unfold atCode at h
  split at h
  · rename_i hp
    obtain ⟨i, rfl, hi⟩ := place_nat hp
    split at h
    · rename_i hq
      exact ⟨i, rfl, hi, by simpa using hq⟩
    · cases h
  · cases h
theorem good_ins {n most : Nat} {m : M} (h : Good most m) (id : Int) (a : Arc) : Good most (ins n most m id a) := by
  unfold ins
  split
  · rename_i hc
    unfold insCode at hc
    split at hc
    · rename_i hp
      simp only [Bool.and_eq_true] at hp
      obtain ⟨⟨⟨h1, h2⟩, h3⟩, h4⟩ := hp
      obtain ⟨i, rfl, hi⟩ := place_nat h1
      split at hc
      · cases hc
      · split at hc
        · rename_i hm
          exact h.put (by simpa using hi) h4 (.inr hm)
        · cases hc
    · cases hc
  · exact h
theorem good_del {most : Nat} {m : M} (h : Good most m) (id : Int) : Good most (del m id) := by
  unfold del
  split
  · exact h.cut _
  · exact h
theorem turnCode_zero {m : M} {id : Int} {c : Bool} (h : turnCode m id c = 0) : atCode m id = 0 ∧ (arc m id.toNat).closed ≠ c := by
  unfold turnCode at h
  split at h
  · rename_i ha
    split at h
    · cases h
    · rename_i hc
      exact ⟨ha, hc⟩
  · rename_i ha
    exact absurd h ha
theorem good_turn {most : Nat} {m : M} (h : Good most m) (id : Int) (c : Bool) : Good most (turn m id c) := by
  unfold turn
  split
  · rename_i hc
    obtain ⟨i, rfl, hi, hs⟩ := atCode_zero (turnCode_zero hc).1
    rw [Int.toNat_natCast]
    exact h.put hi (h.ok i hs) (.inl hs)
  · exact h
theorem weighCode_zero {m : M} {id : Int} {x : Int} (h : weighCode m id x = 0) : atCode m id = 0 ∧ okW x = true := by
  unfold weighCode at h
  split at h
  · rename_i hx
    exact ⟨h, hx⟩
  · cases h
theorem good_weigh {most : Nat} {m : M} (h : Good most m) (id : Int) (x : Int) : Good most (weigh m id x) := by
  unfold weigh
  split
  · rename_i hc
    obtain ⟨h1, h2⟩ := weighCode_zero hc
    obtain ⟨i, rfl, hi, hs⟩ := atCode_zero h1
    rw [Int.toNat_natCast]
    exact h.put hi h2 (.inl hs)
  · exact h
theorem good_next {n most : Nat} {m : M} (h : Good most m) (c : Chg) : Good most (next n most m c) := by
  unfold next
  split
  · exact good_ins h _ _
  split
  · exact good_del h _
  split
  · exact good_turn h _ _
  split
  · exact good_turn h _ _
  · exact good_weigh h _ _

/-- The arc at a number, and whether there is one. -/
def look (m : M) (id : Int) : Arc × Bool := if place id = true then (arc m id.toNat, is m id.toNat) else (noArc, false)

/-! The best one. -/
def norm (x : Int) : Int := if x < 0 then 0 else if 4611686018427387906 < x then 4611686018427387906 else x
def fits (u v : Int) (a : Arc) : Bool := decide (a.tail = u) && decide (a.head = v) && !a.closed
def better (u v : Int) (b : Int × Int) (x : Nat × Arc) : Int × Int := if (fits u v x.2 && decide (x.2.weight < b.1)) = true then (x.2.weight, (x.1 : Int)) else b
def betterN (u v : Int) (b : Int × Int) (x : Nat × Arc) : Int × Int := if (fits u v x.2 && decide (norm x.2.weight < norm b.1)) = true then (x.2.weight, (x.1 : Int)) else b
def best0 : Int × Int := (4611686018427387906, -1)
def best (m : M) (u v : Int) (k : Nat) : Int × Int := (arcs m k).foldl (better u v) best0
theorem best_bd {u v : Int} : ∀ (l : List (Nat × Arc)) (b : Int × Int), (∀ x ∈ l, okW x.2.weight = true) → 1 ≤ b.1 → b.1 ≤ 4611686018427387906 → 1 ≤ (l.foldl (better u v) b).1 ∧ (l.foldl (better u v) b).1 ≤ 4611686018427387906 ∧ l.foldl (betterN u v) b = l.foldl (better u v) b
  | [], b, _, h1, h2 => ⟨h1, h2, rfl⟩
  | x :: l, b, h, h1, h2 => by
    have hx := of_decide_eq_true (h x (by simp))
    have e : betterN u v b x = better u v b x := by
      unfold betterN better
      have : decide (norm x.2.weight < norm b.1) = decide (x.2.weight < b.1) := by
        rw [decide_eq_decide]
        unfold norm
        rw [if_neg (by omega), if_neg (by omega), if_neg (by omega), if_neg (by omega)]
      rw [this]
    rw [List.foldl_cons, List.foldl_cons, e]
    refine best_bd l _ (fun y hy => h y (by simp [hy])) ?_ ?_
    · unfold better; split
      · exact hx.1
      · exact h1
    · unfold better; split
      · show x.2.weight ≤ _
        omega
      · exact h2
theorem mem_arcs {m : M} {k : Nat} {x : Nat × Arc} (h : x ∈ arcs m k) : x.1 < k ∧ is m x.1 = true ∧ x.2 = arc m x.1 := by
  obtain ⟨i, hi, rfl⟩ := List.mem_map.1 h
  have := (mem_ids m i k).1 hi
  exact ⟨this.1, this.2, rfl⟩
theorem arcs_ok {most : Nat} {m : M} (h : Good most m) (k : Nat) : ∀ x ∈ arcs m k, okW x.2.weight = true := fun x hx => by
  obtain ⟨_, h2, h3⟩ := mem_arcs hx
  rw [h3]
  exact h.ok _ h2
theorem bestN {most : Nat} {m : M} (h : Good most m) (u v : Int) (k : Nat) : (arcs m k).foldl (betterN u v) best0 = best m u v k := (best_bd _ _ (arcs_ok h k) (by decide) (by decide)).2.2
theorem best_take {m : M} {k : Nat} (h : is m k = true) (u v : Int) : best m u v (k + 1) = better u v (best m u v k) (k, arc m k) := by
  unfold best
  rw [arcs_take h, List.foldl_append]
  rfl
theorem best_skip {m : M} {k : Nat} (h : is m k = false) (u v : Int) : best m u v (k + 1) = best m u v k := by
  unfold best
  rw [arcs_skip h]
/-- What the best one is: none that fits, and none is told; or one that fits, none less, none as little ahead of it. -/
theorem best_is {most : Nat} {m : M} (hg : Good most m) (u v : Int) : ∀ k, k ≤ 64 →
    (best m u v k = best0 ∧ ∀ i, i < k → is m i = true → fits u v (arc m i) = false) ∨
    (∃ j, j < k ∧ is m j = true ∧ fits u v (arc m j) = true ∧ best m u v k = ((arc m j).weight, (j : Int)) ∧ ∀ i, i < k → is m i = true → fits u v (arc m i) = true → (arc m j).weight ≤ (arc m i).weight ∧ ((arc m j).weight = (arc m i).weight → j ≤ i))
  | 0, _ => .inl ⟨rfl, fun i h => by omega⟩
  | k + 1, hk => by
    have ih := best_is hg u v k (by omega)
    cases hs : is m k with
    | false =>
      rw [best_skip hs]
      rcases ih with ⟨h1, h2⟩ | ⟨j, h1, h2, h3, h4, h5⟩
      · refine .inl ⟨h1, fun i hi his => ?_⟩
        by_cases e : i = k
        · subst e; rw [hs] at his; cases his
        · exact h2 i (by omega) his
      · refine .inr ⟨j, by omega, h2, h3, h4, fun i hi his => ?_⟩
        by_cases e : i = k
        · subst e; rw [hs] at his; cases his
        · exact h5 i (by omega) his
    | true =>
      rw [best_take hs]
      have hw := of_decide_eq_true (hg.ok k hs)
      unfold better
      cases hf : fits u v (arc m k) with
      | false =>
        rw [Bool.false_and, if_neg (by decide)]
        rcases ih with ⟨h1, h2⟩ | ⟨j, h1, h2, h3, h4, h5⟩
        · refine .inl ⟨h1, fun i hi his => ?_⟩
          by_cases e : i = k
          · subst e; exact hf
          · exact h2 i (by omega) his
        · refine .inr ⟨j, by omega, h2, h3, h4, fun i hi his hif => ?_⟩
          by_cases e : i = k
          · subst e; rw [hf] at hif; cases hif
          · exact h5 i (by omega) his hif
      | true =>
        rw [Bool.true_and]
        rcases ih with ⟨h1, h2⟩ | ⟨j, h1, h2, h3, h4, h5⟩
        · rw [h1, if_pos (by unfold best0; simp; omega)]
          refine .inr ⟨k, by omega, hs, hf, rfl, fun i hi his hif => ?_⟩
          by_cases e : i = k
          · subst e; exact ⟨Int.le_refl _, fun _ => Nat.le_refl _⟩
          · rw [h2 i (by omega) his] at hif; cases hif
        · rw [h4]
          by_cases hl : (arc m k).weight < (arc m j).weight
          · rw [if_pos (by simpa using hl)]
            refine .inr ⟨k, by omega, hs, hf, rfl, fun i hi his hif => ?_⟩
            by_cases e : i = k
            · subst e; exact ⟨Int.le_refl _, fun _ => Nat.le_refl _⟩
            · have := (h5 i (by omega) his hif).1
              exact ⟨by omega, fun h => by omega⟩
          · rw [if_neg (by simpa using hl)]
            refine .inr ⟨j, by omega, h2, h3, rfl, fun i hi his hif => ?_⟩
            by_cases e : i = k
            · subst e; exact ⟨by omega, fun _ => by omega⟩
            · exact h5 i (by omega) his hif

/-! Those whose tail, or head, a vertex is. -/
def end1 (head : Bool) (a : Arc) : Int := if head then a.head else a.tail
def ends (m : M) (v : Int) (head : Bool) : List Nat := (ids m 64).filter (fun i => decide (end1 head (arc m i) = v))
def those (head : Bool) (v : Int) (l : List (Nat × Arc)) : List Nat := (l.filter (fun x => decide (end1 head x.2 = v))).map Prod.fst
theorem those_all (m : M) (v : Int) (head : Bool) : those head v (arcs m 64) = ends m v head := by
  unfold those ends arcs
  generalize ids m 64 = l
  induction l with
  | nil => rfl
  | cons i l ih =>
    simp only [List.map_cons, List.filter_cons]
    split
    · rw [List.map_cons, ih]
    · exact ih
theorem those_snoc (head : Bool) (v : Int) (l : List (Nat × Arc)) (x : Nat × Arc) : those head v (l ++ [x]) = those head v l ++ (if end1 head x.2 = v then [x.1] else []) := by
  unfold those
  rw [List.filter_append, List.map_append]
  congr 1
  by_cases h : end1 head x.2 = v <;> simp [h]
theorem those_pre (head : Bool) (v : Int) {l l' : List (Nat × Arc)} (h : l <+: l') : those head v l <+: those head v l' := by
  obtain ⟨t, rfl⟩ := h
  unfold those
  rw [List.filter_append, List.map_append]
  exact List.prefix_append _ _
end GM
end Go.Proofs.YtkcfepppnclniaaGreatDoor
end

section
/-
  Plain mathematics of distances: what a number counts as, sums and least ones that stop at their end. Nothing of any program.
-/
namespace Go.Proofs.YtkcfepppnclniaaGreatDoor
namespace DM

def norm (a : Int) : Int := if a < 0 then 0 else if 4611686018427387906 < a then 4611686018427387906 else a
def told (a : Int) : Bool := decide (norm a ≤ 4611686018427387904)
/-- The sum of two distances. -/
def two (a b : Int) : Int :=
  if norm a = 4611686018427387906 ∨ norm b = 4611686018427387906 then 4611686018427387906
  else if norm a = 4611686018427387905 ∨ norm b = 4611686018427387905 ∨ 4611686018427387904 < norm a + norm b then 4611686018427387905
  else norm a + norm b
def low (a b : Int) : Int := min a (norm b)
def addl (l : List Int) : Int := l.foldl two 0
def minl (l : List Int) : Int := l.foldl low 4611686018427387906

theorem told_cases (a : Int) : (told a = true ∧ norm a ≤ 4611686018427387904) ∨ (told a = false ∧ 4611686018427387904 < norm a) := by
  unfold told; by_cases h : norm a ≤ 4611686018427387904
  · left; simp [h]
  · right; simp [h]; omega
theorem norm_bd (a : Int) : 0 ≤ norm a ∧ norm a ≤ 4611686018427387906 := by
  unfold norm; split
  · omega
  · split <;> omega
theorem norm_of {a : Int} (h0 : 0 ≤ a) (h1 : a ≤ 4611686018427387906) : norm a = a := by
  unfold norm; rw [if_neg (by omega), if_neg (by omega)]
theorem norm_norm (a : Int) : norm (norm a) = norm a := norm_of (norm_bd a).1 (norm_bd a).2
theorem two_bd (a b : Int) : 0 ≤ two a b ∧ two a b ≤ 4611686018427387906 := by
  have ha := norm_bd a; have hb := norm_bd b
  unfold two; split
  · omega
  · split <;> omega
theorem low_bd {a : Int} (b : Int) (h0 : 0 ≤ a) (h1 : a ≤ 4611686018427387906) : 0 ≤ low a b ∧ low a b ≤ 4611686018427387906 := by
  have hb := norm_bd b
  unfold low; omega
theorem foldl_bd (f : Int → Int → Int) (hf : ∀ a b, 0 ≤ a → a ≤ 4611686018427387906 → 0 ≤ f a b ∧ f a b ≤ 4611686018427387906) :
    ∀ (l : List Int) (s : Int), 0 ≤ s → s ≤ 4611686018427387906 → 0 ≤ l.foldl f s ∧ l.foldl f s ≤ 4611686018427387906
  | [], _, h0, h1 => ⟨h0, h1⟩
  | x :: l, s, h0, h1 => foldl_bd f hf l (f s x) (hf s x h0 h1).1 (hf s x h0 h1).2
theorem addl_bd (l : List Int) : 0 ≤ addl l ∧ addl l ≤ 4611686018427387906 := foldl_bd two (fun a b _ _ => two_bd a b) l 0 (by omega) (by omega)
theorem minl_bd (l : List Int) : 0 ≤ minl l ∧ minl l ≤ 4611686018427387906 := foldl_bd low (fun a b h0 h1 => low_bd b h0 h1) l _ (by omega) (by omega)
theorem foldl_take_succ (f : Int → Int → Int) (l : List Int) (s : Int) (k : Nat) (h : k < l.length) : (l.take (k + 1)).foldl f s = f ((l.take k).foldl f s) l[k] := by
  rw [List.take_succ_eq_append_getElem h, List.foldl_append]
  rfl
/-- The sum of two that are distances already. -/
def plus (x y : Int) : Int := if x = 4611686018427387906 ∨ y = 4611686018427387906 then 4611686018427387906 else if x = 4611686018427387905 ∨ y = 4611686018427387905 ∨ 4611686018427387904 < x + y then 4611686018427387905 else x + y
theorem two_plus (a b : Int) : two a b = plus (norm a) (norm b) := rfl
theorem plus_bd {x y : Int} (hx : 0 ≤ x) (hx' : x ≤ 4611686018427387906) (hy : 0 ≤ y) (hy' : y ≤ 4611686018427387906) : 0 ≤ plus x y ∧ plus x y ≤ 4611686018427387906 := by
  unfold plus; split
  · omega
  · split <;> omega
theorem plus_zero {x : Int} (hx : 0 ≤ x) (hx' : x ≤ 4611686018427387906) : plus 0 x = x := by
  unfold plus; split
  · omega
  · split <;> omega
theorem plus_cases (x y : Int) : ((x = 4611686018427387906 ∨ y = 4611686018427387906) ∧ plus x y = 4611686018427387906) ∨ (x ≠ 4611686018427387906 ∧ y ≠ 4611686018427387906 ∧ (x = 4611686018427387905 ∨ y = 4611686018427387905 ∨ 4611686018427387904 < x + y) ∧ plus x y = 4611686018427387905) ∨ (x ≠ 4611686018427387906 ∧ y ≠ 4611686018427387906 ∧ x ≠ 4611686018427387905 ∧ y ≠ 4611686018427387905 ∧ x + y ≤ 4611686018427387904 ∧ plus x y = x + y) := by
  unfold plus; (repeat' split) <;> omega
theorem plus_comm (x y : Int) : plus x y = plus y x := by
  have h1 := plus_cases x y; have h2 := plus_cases y x
  generalize plus x y = u at *; generalize plus y x = v at *
  omega
theorem plus_assoc {x y z : Int} (hx : 0 ≤ x) (hy : 0 ≤ y) (hz : 0 ≤ z) : plus x (plus y z) = plus (plus x y) z := by
  have h1 := plus_cases y z; have h2 := plus_cases x y; have h3 := plus_cases x (plus y z); have h4 := plus_cases (plus x y) z
  generalize plus x (plus y z) = p at *; generalize plus (plus x y) z = q at *
  generalize plus y z = u at *; generalize plus x y = v at *
  omega
theorem plus_min {x y z : Int} (hx : 0 ≤ x) (hy : 0 ≤ y) (hy' : y ≤ 4611686018427387906) (hz : 0 ≤ z) (hz' : z ≤ 4611686018427387906) : plus x (min y z) = min (plus x y) (plus x z) := by
  have key : ∀ u v : Int, 0 ≤ u → u ≤ v → v ≤ 4611686018427387906 → plus x u ≤ plus x v := by
    intro u v h0 huv hv
    have h1 := plus_cases x u; have h2 := plus_cases x v
    generalize plus x u = p at *; generalize plus x v = q at *
    omega
  rcases Int.le_total y z with h | h
  · rw [Int.min_eq_left h, Int.min_eq_left (key y z hy h hz')]
  · rw [Int.min_eq_right h, Int.min_eq_right (key z y hz h hy')]
theorem plus_ge {x y : Int} (hx : 0 ≤ x) (hx' : x ≤ 4611686018427387906) (hy : 0 ≤ y) : x ≤ plus x y := by
  unfold plus; split
  · omega
  · split <;> omega

theorem addl1 (a : Int) : two 0 a = norm a := by
  have h := norm_bd a
  rw [two_plus, norm_of (by omega) (by omega), plus_zero h.1 h.2]
theorem addl2 (a b : Int) : addl [a, b] = plus (norm a) (norm b) := by
  show two (two 0 a) b = _
  rw [addl1, two_plus, norm_norm]
theorem addl3 (a b c : Int) : addl [a, b, c] = plus (plus (norm a) (norm b)) (norm c) := by
  show two (two (two 0 a) b) c = _
  rw [addl1, two_plus, norm_of (two_bd _ _).1 (two_bd _ _).2, two_plus, norm_norm]
theorem norm_plus (a b : Int) : norm (plus (norm a) (norm b)) = plus (norm a) (norm b) := by
  have ha := norm_bd a; have hb := norm_bd b
  have h := plus_bd ha.1 ha.2 hb.1 hb.2
  exact norm_of h.1 h.2
theorem norm_min (a b : Int) : norm (min (norm a) (norm b)) = min (norm a) (norm b) := by
  have ha := norm_bd a; have hb := norm_bd b
  exact norm_of (by omega) (by omega)
theorem minl2 (a b : Int) : minl [a, b] = min (norm a) (norm b) := by
  have ha := norm_bd a; have hb := norm_bd b
  show low (low 4611686018427387906 a) b = _
  unfold low
  rw [Int.min_eq_right ha.2]

theorem ring1 (a b : Int) : addl [a, b] = addl [b, a] := by rw [addl2, addl2, plus_comm]
theorem ring2 (a b c : Int) : addl [a, addl [b, c]] = addl [addl [a, b], c] := by
  have ha := norm_bd a; have hb := norm_bd b; have hc := norm_bd c
  simp only [addl2, norm_plus]
  exact plus_assoc ha.1 hb.1 hc.1
theorem ring3 (a b c : Int) : addl [a, minl [b, c]] = minl [addl [a, b], addl [a, c]] := by
  have ha := norm_bd a; have hb := norm_bd b; have hc := norm_bd c
  simp only [addl2, minl2, norm_plus, norm_min]
  exact plus_min ha.1 hb.1 hb.2 hc.1 hc.2
theorem ring4 (a b c : Int) : addl [a, b, c] = addl [addl [a, b], c] := by
  simp only [addl3, addl2, norm_plus]
theorem order1 (a b : Int) : ¬ norm a < norm (minl [a, b]) := by
  have ha := norm_bd a; have hb := norm_bd b
  rw [minl2, norm_min]; omega
theorem order2 (a b : Int) : ¬ norm (addl [a, b]) < norm a := by
  have ha := norm_bd a; have hb := norm_bd b
  have := plus_ge ha.1 ha.2 hb.1
  rw [addl2, norm_plus]; omega
theorem order3 (a b : Int) : ¬ norm (addl [a, b]) < norm b := by rw [ring1]; exact order2 b a
end DM
end Go.Proofs.YtkcfepppnclniaaGreatDoor
end
