/-
  GraphMath, DistMath, WalkMath, NearMath.
-/
import Derived.Test.YtmkpcidgiobpeaaMmMem
import Derived.WalkKit
section
/-
  Graphs as maps from places to arcs: what a change does, which arcs there are, which is the best. Nothing of the program.
-/
namespace Go.Proofs.Ytmkpcidgiobpeaa

/-- An arc. -/
structure Arc where
  tail : Int
  head : Int
  weight : Int
  closed : Bool
def noArc : Arc := ⟨0, 0, 0, false⟩
/-- A change: its kind, its place, its arc. -/
structure Chg where
  kind : Int
  id : Int
  arc : Arc
def noChg : Chg := ⟨0, 0, noArc⟩
namespace GM
/-- What lies at each place. -/
abbrev M := Nat → Option Arc
def none0 : M := fun _ => none
def arc (m : M) (i : Nat) : Arc := (m i).getD noArc
def is (m : M) (i : Nat) : Bool := (m i).isSome
def upd (m : M) (i : Nat) (x : Option Arc) : M := fun j => if j = i then x else m j
def okW (x : Int) : Bool := decide (1 ≤ x ∧ x ≤ 4611686018427387904)
def place (id : Int) : Bool := decide (0 ≤ id ∧ id < 64)
def vert (n : Nat) (v : Int) : Bool := decide (0 ≤ v ∧ v < (n : Int))
/-- The places below k that are taken, rising. -/
def ids (m : M) : Nat → List Nat
  | 0 => []
  | k + 1 => ids m k ++ (if is m k then [k] else [])
def cnt (m : M) : Nat := (ids m 64).length
def iids (m : M) (k : Nat) : List Int := (ids m k).map (fun i : Nat => (i : Int))
/-- The arcs at them. -/
def arcs (m : M) (k : Nat) : List (Nat × Arc) := (ids m k).map (fun i => (i, arc m i))

theorem arc_some {m : M} {i : Nat} {a : Arc} (h : m i = some a) : arc m i = a := by simp [arc, h]
theorem arc_none {m : M} {i : Nat} (h : is m i = false) : arc m i = noArc := by
  unfold is at h
  unfold arc
  cases hm : m i with
  | none => rfl
  | some a => rw [hm] at h; cases h
theorem is_upd (m : M) (i : Nat) (x : Option Arc) (j : Nat) : is (upd m i x) j = if j = i then x.isSome else is m j := by
  unfold is upd
  split <;> rfl
theorem arc_upd (m : M) (i : Nat) (x : Option Arc) (j : Nat) : arc (upd m i x) j = if j = i then x.getD noArc else arc m j := by
  unfold arc upd
  split <;> rfl
theorem ids_take {m : M} {k : Nat} (h : is m k = true) : ids m (k + 1) = ids m k ++ [k] := by simp [ids, h]
theorem ids_skip {m : M} {k : Nat} (h : is m k = false) : ids m (k + 1) = ids m k := by simp [ids, h]
theorem iids_take {m : M} {k : Nat} (h : is m k = true) : iids m (k + 1) = iids m k ++ [(k : Int)] := by simp [iids, ids_take h]
theorem iids_skip {m : M} {k : Nat} (h : is m k = false) : iids m (k + 1) = iids m k := by simp [iids, ids_skip h]
theorem arcs_take {m : M} {k : Nat} (h : is m k = true) : arcs m (k + 1) = arcs m k ++ [(k, arc m k)] := by simp [arcs, ids_take h]
theorem arcs_skip {m : M} {k : Nat} (h : is m k = false) : arcs m (k + 1) = arcs m k := by simp [arcs, ids_skip h]
theorem ids_le (m : M) : ∀ k, (ids m k).length ≤ k
  | 0 => Nat.le_refl _
  | k + 1 => by
    have := ids_le m k
    cases h : is m k with
    | true => rw [ids_take h]; simp; omega
    | false => rw [ids_skip h]; omega
theorem cnt_le (m : M) : cnt m ≤ 64 := ids_le m 64
theorem iids_len (m : M) (k : Nat) : (iids m k).length = (ids m k).length := by simp [iids]
theorem arcs_len (m : M) (k : Nat) : (arcs m k).length = (ids m k).length := by simp [arcs]
theorem mem_ids (m : M) (i : Nat) : ∀ k, i ∈ ids m k ↔ i < k ∧ is m i = true
  | 0 => by simp [ids]
  | k + 1 => by
    cases h : is m k with
    | true =>
      rw [ids_take h, List.mem_append, mem_ids m i k, List.mem_singleton]
      constructor
      · rintro (⟨h1, h2⟩ | rfl)
        · exact ⟨by omega, h2⟩
        · exact ⟨by omega, h⟩
      · rintro ⟨h1, h2⟩
        by_cases e : i = k
        · exact .inr e
        · exact .inl ⟨by omega, h2⟩
    | false =>
      rw [ids_skip h, mem_ids m i k]
      constructor
      · rintro ⟨h1, h2⟩
        exact ⟨by omega, h2⟩
      · rintro ⟨h1, h2⟩
        refine ⟨?_, h2⟩
        by_cases e : i = k
        · subst e; rw [h] at h2; cases h2
        · omega
theorem ids_pre (m : M) {j : Nat} : ∀ {k : Nat}, j ≤ k → ids m j <+: ids m k
  | 0, h => by obtain rfl : j = 0 := by omega
               exact List.prefix_rfl
  | k + 1, h => by
    by_cases e : j = k + 1
    · subst e; exact List.prefix_rfl
    · exact (ids_pre m (k := k) (by omega)).trans (by cases h : is m k with
        | true => rw [ids_take h]; exact List.prefix_append _ _
        | false => rw [ids_skip h]; exact List.prefix_rfl)
theorem arcs_pre (m : M) {j k : Nat} (h : j ≤ k) : arcs m j <+: arcs m k := (ids_pre m h).map _
theorem ids_same {m m' : M} (h : ∀ j, is m j = is m' j) : ∀ k, ids m k = ids m' k
  | 0 => rfl
  | k + 1 => by rw [ids, ids, ids_same h k, h k]
theorem ids_put (m : M) (i : Nat) (a : Arc) : ∀ k, (ids (upd m i (some a)) k).length ≤ (ids m k).length + (if i < k then 1 else 0)
  | 0 => by simp [ids]
  | k + 1 => by
    have ih := ids_put m i a k
    have hu := is_upd m i (some a) k
    by_cases e : k = i
    · subst e
      rw [if_pos rfl] at hu
      rw [ids_take hu]
      rw [if_neg (by omega)] at ih
      rw [if_pos (by omega)]
      have : (ids m k).length ≤ (ids m (k + 1)).length := (ids_pre m (by omega)).length_le
      simp
      omega
    · rw [if_neg e] at hu
      have e1 : (if i < k + 1 then 1 else 0) = (if i < k then 1 else 0) := by split <;> split <;> omega
      rw [e1]
      cases h : is m k with
      | true => rw [h] at hu; rw [ids_take h, ids_take hu]; simp; omega
      | false => rw [h] at hu; rw [ids_skip h, ids_skip hu]; exact ih
theorem ids_cut (m : M) (i : Nat) : ∀ k, (ids (upd m i none) k).length ≤ (ids m k).length
  | 0 => by simp [ids]
  | k + 1 => by
    have ih := ids_cut m i k
    have hu := is_upd m i none k
    have hp : (ids m k).length ≤ (ids m (k + 1)).length := (ids_pre m (by omega)).length_le
    by_cases e : k = i
    · rw [if_pos e] at hu
      rw [ids_skip hu]
      omega
    · rw [if_neg e] at hu
      cases h : is m k with
      | true => rw [h] at hu; rw [ids_take h, ids_take hu]; simp; omega
      | false => rw [h] at hu; rw [ids_skip h, ids_skip hu]; exact ih

/-- What holds of each graph: weights that may be, no place beyond, no more than may be. -/
structure Good (most : Nat) (m : M) : Prop where
  ok : ∀ i, is m i = true → okW (arc m i).weight = true
  out : ∀ i, 64 ≤ i → m i = none
  few : cnt m ≤ most
theorem Good.zero (most : Nat) : Good most none0 := ⟨fun i h => by simp [is, none0] at h, fun _ _ => rfl, by simp [cnt, ids, is, none0]⟩
theorem Good.tells {most : Nat} {m : M} (h : Good most m) (i : Nat) : okW (arc m i).weight = is m i := by
  cases hi : is m i with
  | true => exact h.ok i hi
  | false => rw [arc_none hi]; rfl
theorem Good.put {most : Nat} {m : M} (h : Good most m) {i : Nat} (hi : i < 64) {a : Arc} (ha : okW a.weight = true) (hf : is m i = true ∨ cnt m < most) : Good most (upd m i (some a)) where
  ok j hj := by
    rw [arc_upd]
    split
    · exact ha
    · rename_i e
      rw [is_upd, if_neg e] at hj
      exact h.ok j hj
  out j hj := by
    unfold upd
    rw [if_neg (by omega)]
    exact h.out j hj
  few := by
    rcases hf with h1 | h1
    · unfold cnt
      rw [ids_same (m' := m)]
      · exact h.few
      · intro j
        rw [is_upd]
        split
        · rename_i e; rw [e, h1]; rfl
        · rfl
    · have := ids_put m i a 64
      rw [if_pos hi] at this
      unfold cnt at h1 ⊢
      omega
theorem Good.cut {most : Nat} {m : M} (h : Good most m) (i : Nat) : Good most (upd m i none) where
  ok j hj := by
    rw [is_upd] at hj
    split at hj
    · cases hj
    · rename_i e
      rw [arc_upd, if_neg e]
      exact h.ok j hj
  out j hj := by
    unfold upd
    split
    · rfl
    · exact h.out j hj
  few := Nat.le_trans (ids_cut m i 64) h.few

/-! What is answered, and what there is then. -/
def insCode (n most : Nat) (m : M) (id : Int) (a : Arc) : Int := if place id && vert n a.tail && vert n a.head && okW a.weight then (if is m id.toNat then 4 else if cnt m < most then 0 else 2) else 1
def ins (n most : Nat) (m : M) (id : Int) (a : Arc) : M := if insCode n most m id a = 0 then upd m id.toNat (some a) else m
def atCode (m : M) (id : Int) : Int := if place id then (if is m id.toNat then 0 else 3) else 1
def del (m : M) (id : Int) : M := if atCode m id = 0 then upd m id.toNat none else m
def turnCode (m : M) (id : Int) (c : Bool) : Int := if atCode m id = 0 then (if (arc m id.toNat).closed = c then 5 else 0) else atCode m id
def turn (m : M) (id : Int) (c : Bool) : M := if turnCode m id c = 0 then upd m id.toNat (some { arc m id.toNat with closed := c }) else m
def weighCode (m : M) (id : Int) (x : Int) : Int := if okW x then atCode m id else 1
def weigh (m : M) (id : Int) (x : Int) : M := if weighCode m id x = 0 then upd m id.toNat (some { arc m id.toNat with weight := x }) else m
def code (n most : Nat) (m : M) (c : Chg) : Int := if c.kind = 0 then insCode n most m c.id c.arc else if c.kind = 1 then atCode m c.id else if c.kind = 2 then turnCode m c.id true else if c.kind = 3 then turnCode m c.id false else weighCode m c.id c.arc.weight
def next (n most : Nat) (m : M) (c : Chg) : M := if c.kind = 0 then ins n most m c.id c.arc else if c.kind = 1 then del m c.id else if c.kind = 2 then turn m c.id true else if c.kind = 3 then turn m c.id false else weigh m c.id c.arc.weight

theorem place_nat {id : Int} (h : place id = true) : ∃ i : Nat, id = i ∧ i < 64 := by
  have := of_decide_eq_true h
  exact ⟨id.toNat, by omega, by omega⟩
theorem atCode_zero {m : M} {id : Int} (h : atCode m id = 0) : ∃ i : Nat, id = i ∧ i < 64 ∧ is m i = true := by
  unfold atCode at h
  split at h
  · rename_i hp
    obtain ⟨i, rfl, hi⟩ := place_nat hp
    split at h
    · rename_i hq
      exact ⟨i, rfl, hi, by simpa using hq⟩
    · cases h
  · cases h
theorem good_ins {n most : Nat} {m : M} (h : Good most m) (id : Int) (a : Arc) : Good most (ins n most m id a) := by
  unfold ins
  split
  · rename_i hc
    unfold insCode at hc
    split at hc
    · rename_i hp
      simp only [Bool.and_eq_true] at hp
      obtain ⟨⟨⟨h1, h2⟩, h3⟩, h4⟩ := hp
      obtain ⟨i, rfl, hi⟩ := place_nat h1
      split at hc
      · cases hc
      · split at hc
        · rename_i hm
          exact h.put (by simpa using hi) h4 (.inr hm)
        · cases hc
    · cases hc
  · exact h
theorem good_del {most : Nat} {m : M} (h : Good most m) (id : Int) : Good most (del m id) := by
  unfold del
  split
  · exact h.cut _
  · exact h
theorem turnCode_zero {m : M} {id : Int} {c : Bool} (h : turnCode m id c = 0) : atCode m id = 0 ∧ (arc m id.toNat).closed ≠ c := by
  unfold turnCode at h
  split at h
  · rename_i ha
    split at h
    · cases h
    · rename_i hc
      exact ⟨ha, hc⟩
  · rename_i ha
    exact absurd h ha
theorem good_turn {most : Nat} {m : M} (h : Good most m) (id : Int) (c : Bool) : Good most (turn m id c) := by
  unfold turn
  split
  · rename_i hc
    obtain ⟨i, rfl, hi, hs⟩ := atCode_zero (turnCode_zero hc).1
    rw [Int.toNat_natCast]
    exact h.put hi (h.ok i hs) (.inl hs)
  · exact h
theorem weighCode_zero {m : M} {id : Int} {x : Int} (h : weighCode m id x = 0) : atCode m id = 0 ∧ okW x = true := by
  unfold weighCode at h
  split at h
  · rename_i hx
    exact ⟨h, hx⟩
  · cases h
theorem good_weigh {most : Nat} {m : M} (h : Good most m) (id : Int) (x : Int) : Good most (weigh m id x) := by
  unfold weigh
  split
  · rename_i hc
    obtain ⟨h1, h2⟩ := weighCode_zero hc
    obtain ⟨i, rfl, hi, hs⟩ := atCode_zero h1
    rw [Int.toNat_natCast]
    exact h.put hi h2 (.inl hs)
  · exact h
theorem good_next {n most : Nat} {m : M} (h : Good most m) (c : Chg) : Good most (next n most m c) := by
  unfold next
  split
  · exact good_ins h _ _
  split
  · exact good_del h _
  split
  · exact good_turn h _ _
  split
  · exact good_turn h _ _
  · exact good_weigh h _ _

/-- The arc at a number, and whether there is one. -/
def look (m : M) (id : Int) : Arc × Bool := if place id = true then (arc m id.toNat, is m id.toNat) else (noArc, false)

/-! The best one. -/
def norm (x : Int) : Int := if x < 0 then 0 else if 4611686018427387906 < x then 4611686018427387906 else x
def fits (u v : Int) (a : Arc) : Bool := decide (a.tail = u) && decide (a.head = v) && !a.closed
def better (u v : Int) (b : Int × Int) (x : Nat × Arc) : Int × Int := if (fits u v x.2 && decide (x.2.weight < b.1)) = true then (x.2.weight, (x.1 : Int)) else b
def betterN (u v : Int) (b : Int × Int) (x : Nat × Arc) : Int × Int := if (fits u v x.2 && decide (norm x.2.weight < norm b.1)) = true then (x.2.weight, (x.1 : Int)) else b
def best0 : Int × Int := (4611686018427387906, -1)
def best (m : M) (u v : Int) (k : Nat) : Int × Int := (arcs m k).foldl (better u v) best0
theorem best_bd {u v : Int} : ∀ (l : List (Nat × Arc)) (b : Int × Int), (∀ x ∈ l, okW x.2.weight = true) → 1 ≤ b.1 → b.1 ≤ 4611686018427387906 → 1 ≤ (l.foldl (better u v) b).1 ∧ (l.foldl (better u v) b).1 ≤ 4611686018427387906 ∧ l.foldl (betterN u v) b = l.foldl (better u v) b
  | [], b, _, h1, h2 => ⟨h1, h2, rfl⟩
  | x :: l, b, h, h1, h2 => by
    have hx := of_decide_eq_true (h x (by simp))
    have e : betterN u v b x = better u v b x := by
      unfold betterN better
      have : decide (norm x.2.weight < norm b.1) = decide (x.2.weight < b.1) := by
        rw [decide_eq_decide]
        unfold norm
        rw [if_neg (by omega), if_neg (by omega), if_neg (by omega), if_neg (by omega)]
      rw [this]
    rw [List.foldl_cons, List.foldl_cons, e]
    refine best_bd l _ (fun y hy => h y (by simp [hy])) ?_ ?_
    · unfold better; split
      · exact hx.1
      · exact h1
    · unfold better; split
      · show x.2.weight ≤ _
        omega
      · exact h2
theorem mem_arcs {m : M} {k : Nat} {x : Nat × Arc} (h : x ∈ arcs m k) : x.1 < k ∧ is m x.1 = true ∧ x.2 = arc m x.1 := by
  obtain ⟨i, hi, rfl⟩ := List.mem_map.1 h
  have := (mem_ids m i k).1 hi
  exact ⟨this.1, this.2, rfl⟩
theorem arcs_ok {most : Nat} {m : M} (h : Good most m) (k : Nat) : ∀ x ∈ arcs m k, okW x.2.weight = true := fun x hx => by
  obtain ⟨_, h2, h3⟩ := mem_arcs hx
  rw [h3]
  exact h.ok _ h2
theorem bestN {most : Nat} {m : M} (h : Good most m) (u v : Int) (k : Nat) : (arcs m k).foldl (betterN u v) best0 = best m u v k := (best_bd _ _ (arcs_ok h k) (by decide) (by decide)).2.2
theorem best_take {m : M} {k : Nat} (h : is m k = true) (u v : Int) : best m u v (k + 1) = better u v (best m u v k) (k, arc m k) := by
  unfold best
  rw [arcs_take h, List.foldl_append]
  rfl
theorem best_skip {m : M} {k : Nat} (h : is m k = false) (u v : Int) : best m u v (k + 1) = best m u v k := by
  unfold best
  rw [arcs_skip h]
/-- What the best one is: none that fits, and none is told; or one that fits, none less, none as little ahead of it. -/
theorem best_is {most : Nat} {m : M} (hg : Good most m) (u v : Int) : ∀ k, k ≤ 64 →
    (best m u v k = best0 ∧ ∀ i, i < k → is m i = true → fits u v (arc m i) = false) ∨
    (∃ j, j < k ∧ is m j = true ∧ fits u v (arc m j) = true ∧ best m u v k = ((arc m j).weight, (j : Int)) ∧ ∀ i, i < k → is m i = true → fits u v (arc m i) = true → (arc m j).weight ≤ (arc m i).weight ∧ ((arc m j).weight = (arc m i).weight → j ≤ i))
  | 0, _ => .inl ⟨rfl, fun i h => by omega⟩
  | k + 1, hk => by
    have ih := best_is hg u v k (by omega)
    cases hs : is m k with
    | false =>
      rw [best_skip hs]
      rcases ih with ⟨h1, h2⟩ | ⟨j, h1, h2, h3, h4, h5⟩
      · refine .inl ⟨h1, fun i hi his => ?_⟩
        by_cases e : i = k
        · subst e; rw [hs] at his; cases his
        · exact h2 i (by omega) his
      · refine .inr ⟨j, by omega, h2, h3, h4, fun i hi his => ?_⟩
        by_cases e : i = k
        · subst e; rw [hs] at his; cases his
        · exact h5 i (by omega) his
    | true =>
      rw [best_take hs]
      have hw := of_decide_eq_true (hg.ok k hs)
      unfold better
      cases hf : fits u v (arc m k) with
      | false =>
        rw [Bool.false_and, if_neg (by decide)]
        rcases ih with ⟨h1, h2⟩ | ⟨j, h1, h2, h3, h4, h5⟩
        · refine .inl ⟨h1, fun i hi his => ?_⟩
          by_cases e : i = k
          · subst e; exact hf
          · exact h2 i (by omega) his
        · refine .inr ⟨j, by omega, h2, h3, h4, fun i hi his hif => ?_⟩
          by_cases e : i = k
          · subst e; rw [hf] at hif; cases hif
          · exact h5 i (by omega) his hif
      | true =>
        rw [Bool.true_and]
        rcases ih with ⟨h1, h2⟩ | ⟨j, h1, h2, h3, h4, h5⟩
        · rw [h1, if_pos (by unfold best0; simp; omega)]
          refine .inr ⟨k, by omega, hs, hf, rfl, fun i hi his hif => ?_⟩
          by_cases e : i = k
          · subst e; exact ⟨Int.le_refl _, fun _ => Nat.le_refl _⟩
          · rw [h2 i (by omega) his] at hif; cases hif
        · rw [h4]
          by_cases hl : (arc m k).weight < (arc m j).weight
          · rw [if_pos (by simpa using hl)]
            refine .inr ⟨k, by omega, hs, hf, rfl, fun i hi his hif => ?_⟩
            by_cases e : i = k
            · subst e; exact ⟨Int.le_refl _, fun _ => Nat.le_refl _⟩
            · have := (h5 i (by omega) his hif).1
              exact ⟨by omega, fun h => by omega⟩
          · rw [if_neg (by simpa using hl)]
            refine .inr ⟨j, by omega, h2, h3, rfl, fun i hi his hif => ?_⟩
            by_cases e : i = k
            · subst e; exact ⟨by omega, fun _ => by omega⟩
            · exact h5 i (by omega) his hif

/-! Those whose tail, or head, a vertex is. -/
def end1 (head : Bool) (a : Arc) : Int := if head then a.head else a.tail
def ends (m : M) (v : Int) (head : Bool) : List Nat := (ids m 64).filter (fun i => decide (end1 head (arc m i) = v))
def those (head : Bool) (v : Int) (l : List (Nat × Arc)) : List Nat := (l.filter (fun x => decide (end1 head x.2 = v))).map Prod.fst
theorem those_all (m : M) (v : Int) (head : Bool) : those head v (arcs m 64) = ends m v head := by
  unfold those ends arcs
  generalize ids m 64 = l
  induction l with
  | nil => rfl
  | cons i l ih =>
    simp only [List.map_cons, List.filter_cons]
    split
    · rw [List.map_cons, ih]
    · exact ih
theorem those_snoc (head : Bool) (v : Int) (l : List (Nat × Arc)) (x : Nat × Arc) : those head v (l ++ [x]) = those head v l ++ (if end1 head x.2 = v then [x.1] else []) := by
  unfold those
  rw [List.filter_append, List.map_append]
  congr 1
  by_cases h : end1 head x.2 = v <;> simp [h]
theorem those_pre (head : Bool) (v : Int) {l l' : List (Nat × Arc)} (h : l <+: l') : those head v l <+: those head v l' := by
  obtain ⟨t, rfl⟩ := h
  unfold those
  rw [List.filter_append, List.map_append]
  exact List.prefix_append _ _
end GM
end Go.Proofs.Ytmkpcidgiobpeaa
end

section
/-
  Plain mathematics of distances: what a number counts as, sums and least ones that stop at their end. Nothing of any program.
-/
namespace Go.Proofs.Ytmkpcidgiobpeaa
namespace DM

def norm (a : Int) : Int := if a < 0 then 0 else if 4611686018427387906 < a then 4611686018427387906 else a
def told (a : Int) : Bool := decide (norm a ≤ 4611686018427387904)
/-- The sum of two distances. -/
def two (a b : Int) : Int :=
  if norm a = 4611686018427387906 ∨ norm b = 4611686018427387906 then 4611686018427387906
  else if norm a = 4611686018427387905 ∨ norm b = 4611686018427387905 ∨ 4611686018427387904 < norm a + norm b then 4611686018427387905
  else norm a + norm b
def low (a b : Int) : Int := min a (norm b)
def addl (l : List Int) : Int := l.foldl two 0
def minl (l : List Int) : Int := l.foldl low 4611686018427387906

theorem told_cases (a : Int) : (told a = true ∧ norm a ≤ 4611686018427387904) ∨ (told a = false ∧ 4611686018427387904 < norm a) := by
  unfold told; by_cases h : norm a ≤ 4611686018427387904
  · left; simp [h]
  · right; simp [h]; omega
theorem norm_bd (a : Int) : 0 ≤ norm a ∧ norm a ≤ 4611686018427387906 := by
  unfold norm; split
  · omega
  · split <;> omega
theorem norm_of {a : Int} (h0 : 0 ≤ a) (h1 : a ≤ 4611686018427387906) : norm a = a := by
  unfold norm; rw [if_neg (by omega), if_neg (by omega)]
theorem norm_norm (a : Int) : norm (norm a) = norm a := norm_of (norm_bd a).1 (norm_bd a).2
theorem two_bd (a b : Int) : 0 ≤ two a b ∧ two a b ≤ 4611686018427387906 := by
  have ha := norm_bd a; have hb := norm_bd b
  unfold two; split
  · omega
  · split <;> omega
theorem low_bd {a : Int} (b : Int) (h0 : 0 ≤ a) (h1 : a ≤ 4611686018427387906) : 0 ≤ low a b ∧ low a b ≤ 4611686018427387906 := by
  have hb := norm_bd b
  unfold low; omega
theorem foldl_bd (f : Int → Int → Int) (hf : ∀ a b, 0 ≤ a → a ≤ 4611686018427387906 → 0 ≤ f a b ∧ f a b ≤ 4611686018427387906) :
    ∀ (l : List Int) (s : Int), 0 ≤ s → s ≤ 4611686018427387906 → 0 ≤ l.foldl f s ∧ l.foldl f s ≤ 4611686018427387906
  | [], _, h0, h1 => ⟨h0, h1⟩
  | x :: l, s, h0, h1 => foldl_bd f hf l (f s x) (hf s x h0 h1).1 (hf s x h0 h1).2
theorem addl_bd (l : List Int) : 0 ≤ addl l ∧ addl l ≤ 4611686018427387906 := foldl_bd two (fun a b _ _ => two_bd a b) l 0 (by omega) (by omega)
theorem minl_bd (l : List Int) : 0 ≤ minl l ∧ minl l ≤ 4611686018427387906 := foldl_bd low (fun a b h0 h1 => low_bd b h0 h1) l _ (by omega) (by omega)
theorem foldl_take_succ (f : Int → Int → Int) (l : List Int) (s : Int) (k : Nat) (h : k < l.length) : (l.take (k + 1)).foldl f s = f ((l.take k).foldl f s) l[k] := by
  rw [List.take_succ_eq_append_getElem h, List.foldl_append]
  rfl
/-- The sum of two that are distances already. -/
def plus (x y : Int) : Int := if x = 4611686018427387906 ∨ y = 4611686018427387906 then 4611686018427387906 else if x = 4611686018427387905 ∨ y = 4611686018427387905 ∨ 4611686018427387904 < x + y then 4611686018427387905 else x + y
theorem two_plus (a b : Int) : two a b = plus (norm a) (norm b) := rfl
theorem plus_bd {x y : Int} (hx : 0 ≤ x) (hx' : x ≤ 4611686018427387906) (hy : 0 ≤ y) (hy' : y ≤ 4611686018427387906) : 0 ≤ plus x y ∧ plus x y ≤ 4611686018427387906 := by
  unfold plus; split
  · omega
  · split <;> omega
theorem plus_zero {x : Int} (hx : 0 ≤ x) (hx' : x ≤ 4611686018427387906) : plus 0 x = x := by
  unfold plus; split
  · omega
  · split <;> omega
theorem plus_cases (x y : Int) : ((x = 4611686018427387906 ∨ y = 4611686018427387906) ∧ plus x y = 4611686018427387906) ∨ (x ≠ 4611686018427387906 ∧ y ≠ 4611686018427387906 ∧ (x = 4611686018427387905 ∨ y = 4611686018427387905 ∨ 4611686018427387904 < x + y) ∧ plus x y = 4611686018427387905) ∨ (x ≠ 4611686018427387906 ∧ y ≠ 4611686018427387906 ∧ x ≠ 4611686018427387905 ∧ y ≠ 4611686018427387905 ∧ x + y ≤ 4611686018427387904 ∧ plus x y = x + y) := by
  unfold plus; (repeat' split) <;> omega
theorem plus_comm (x y : Int) : plus x y = plus y x := by
  have h1 := plus_cases x y; have h2 := plus_cases y x
  generalize plus x y = u at *; generalize plus y x = v at *
  omega
theorem plus_assoc {x y z : Int} (hx : 0 ≤ x) (hy : 0 ≤ y) (hz : 0 ≤ z) : plus x (plus y z) = plus (plus x y) z := by
  have h1 := plus_cases y z; have h2 := plus_cases x y; have h3 := plus_cases x (plus y z); have h4 := plus_cases (plus x y) z
  generalize plus x (plus y z) = p at *; generalize plus (plus x y) z = q at *
  generalize plus y z = u at *; generalize plus x y = v at *
  omega
theorem plus_min {x y z : Int} (hx : 0 ≤ x) (hy : 0 ≤ y) (hy' : y ≤ 4611686018427387906) (hz : 0 ≤ z) (hz' : z ≤ 4611686018427387906) : plus x (min y z) = min (plus x y) (plus x z) := by
  have key : ∀ u v : Int, 0 ≤ u → u ≤ v → v ≤ 4611686018427387906 → plus x u ≤ plus x v := by
    intro u v h0 huv hv
    have h1 := plus_cases x u; have h2 := plus_cases x v
    generalize plus x u = p at *; generalize plus x v = q at *
    omega
  rcases Int.le_total y z with h | h
  · rw [Int.min_eq_left h, Int.min_eq_left (key y z hy h hz')]
  · rw [Int.min_eq_right h, Int.min_eq_right (key z y hz h hy')]
theorem plus_ge {x y : Int} (hx : 0 ≤ x) (hx' : x ≤ 4611686018427387906) (hy : 0 ≤ y) : x ≤ plus x y := by
  unfold plus; split
  · omega
  · split <;> omega

theorem addl1 (a : Int) : two 0 a = norm a := by
  have h := norm_bd a
  rw [two_plus, norm_of (by omega) (by omega), plus_zero h.1 h.2]
theorem addl2 (a b : Int) : addl [a, b] = plus (norm a) (norm b) := by
  show two (two 0 a) b = _
  rw [addl1, two_plus, norm_norm]
theorem addl3 (a b c : Int) : addl [a, b, c] = plus (plus (norm a) (norm b)) (norm c) := by
  show two (two (two 0 a) b) c = _
  rw [addl1, two_plus, norm_of (two_bd _ _).1 (two_bd _ _).2, two_plus, norm_norm]
theorem norm_plus (a b : Int) : norm (plus (norm a) (norm b)) = plus (norm a) (norm b) := by
  have ha := norm_bd a; have hb := norm_bd b
  have h := plus_bd ha.1 ha.2 hb.1 hb.2
  exact norm_of h.1 h.2
theorem norm_min (a b : Int) : norm (min (norm a) (norm b)) = min (norm a) (norm b) := by
  have ha := norm_bd a; have hb := norm_bd b
  exact norm_of (by omega) (by omega)
theorem minl2 (a b : Int) : minl [a, b] = min (norm a) (norm b) := by
  have ha := norm_bd a; have hb := norm_bd b
  show low (low 4611686018427387906 a) b = _
  unfold low
  rw [Int.min_eq_right ha.2]

theorem ring1 (a b : Int) : addl [a, b] = addl [b, a] := by rw [addl2, addl2, plus_comm]
theorem ring2 (a b c : Int) : addl [a, addl [b, c]] = addl [addl [a, b], c] := by
  have ha := norm_bd a; have hb := norm_bd b; have hc := norm_bd c
  simp only [addl2, norm_plus]
  exact plus_assoc ha.1 hb.1 hc.1
theorem ring3 (a b c : Int) : addl [a, minl [b, c]] = minl [addl [a, b], addl [a, c]] := by
  have ha := norm_bd a; have hb := norm_bd b; have hc := norm_bd c
  simp only [addl2, minl2, norm_plus, norm_min]
  exact plus_min ha.1 hb.1 hb.2 hc.1 hc.2
theorem ring4 (a b c : Int) : addl [a, b, c] = addl [addl [a, b], c] := by
  simp only [addl3, addl2, norm_plus]
theorem order1 (a b : Int) : ¬ norm a < norm (minl [a, b]) := by
  have ha := norm_bd a; have hb := norm_bd b
  rw [minl2, norm_min]; omega
theorem order2 (a b : Int) : ¬ norm (addl [a, b]) < norm a := by
  have ha := norm_bd a; have hb := norm_bd b
  have := plus_ge ha.1 ha.2 hb.1
  rw [addl2, norm_plus]; omega
theorem order3 (a b : Int) : ¬ norm (addl [a, b]) < norm b := by rw [ring1]; exact order2 b a
end DM
end Go.Proofs.Ytmkpcidgiobpeaa
end

section
/-
  Lists of arcs that lead on from one another: where they go, what is wrong, what they come to. Nothing of the program.
-/
namespace Go.Proofs.Ytmkpcidgiobpeaa
namespace WK

/-- An arc of a number, with what is wrong with it wherever it stands. -/
def code1 (x : Arc × Bool) : Int := if x.2 = true then (if x.1.closed = true then 5 else 0) else 3
def arcOf (m : GM.M) (id : Int) : Arc × Int := ((GM.look m id).1, code1 (GM.look m id))
def list (m : GM.M) (zs : List Int) : List (Arc × Int) := zs.map (arcOf m)
/-- What is wrong with it where the walk is. -/
def codeAt (u : Int) (x : Arc × Int) : Int := if x.2 = 0 ∧ x.1.tail ≠ u then 8 else x.2
def run : Int → List (Arc × Int) → List (Int × Int)
  | _, [] => []
  | u, x :: xs => (x.1.head, codeAt u x) :: (if codeAt u x = 0 then run x.1.head xs else [])
/-- Where the walk is behind them all. -/
def ends : Int → List (Arc × Int) → Option Int
  | u, [] => some u
  | u, x :: xs => if codeAt u x = 0 then ends x.1.head xs else none
def tcode : Int → List (Arc × Int) → Int
  | _, [] => 0
  | u, x :: xs => if codeAt u x = 0 then tcode x.1.head xs else codeAt u x
def stops (n : Nat) (u : Int) (xs : List (Arc × Int)) : List (Int × Int) := if GM.vert n u = true then (u, 0) :: run u xs else [(u, 1)]
/-- What Visits says: the code, the vertices. -/
def vcode (n : Nat) (u : Int) (xs : List (Arc × Int)) : Int := if GM.vert n u = true then tcode u xs else 1
def heads (xs : List (Arc × Int)) : List Int := xs.map (fun x => x.1.head)
def vlist (n : Nat) (u : Int) (xs : List (Arc × Int)) : List Int := if vcode n u xs = 0 then u :: heads xs else []
def last (u : Int) (xs : List (Arc × Int)) : Int := (heads xs).getLastD u
def ccode (n : Nat) (u v : Int) (xs : List (Arc × Int)) : Int := if GM.vert n v = true then (if vcode n u xs = 0 then (if last u xs = v then 0 else 8) else vcode n u xs) else 1
def simple (n : Nat) (u : Int) (xs : List (Arc × Int)) : Bool := decide (vcode n u xs = 0 ∧ (u :: heads xs).Nodup)
def gone (xs : List (Arc × Int)) : Bool := xs.any (fun x => decide (x.2 = 3))
def wsum (xs : List (Arc × Int)) : Int := if gone xs = true then 4611686018427387906 else (xs.map (fun x => x.1.weight)).foldl DM.two 0
def first : List (Int × Int) → Int
  | [] => 0
  | y :: ys => if y.2 = 0 then first ys else y.2

theorem run_snoc {u b : Int} {x : Arc × Int} : ∀ {pre : List (Arc × Int)}, ends u pre = some b → run u (pre ++ [x]) = run u pre ++ [(x.1.head, codeAt b x)] ∧ ends u (pre ++ [x]) = (if codeAt b x = 0 then some x.1.head else none) := by
  intro pre
  induction pre generalizing u with
  | nil =>
    intro h
    simp only [ends, Option.some.injEq] at h
    subst h
    simp [run, ends]
  | cons y ys ih =>
    intro h
    simp only [ends] at h
    split at h
    · rename_i h0
      have := ih h
      simp only [List.cons_append, run, ends, if_pos h0, this.1, this.2]
      exact ⟨trivial, trivial⟩
    · cases h
theorem run_stop {u : Int} (ys : List (Arc × Int)) : ∀ {pre : List (Arc × Int)}, ends u pre = none → run u (pre ++ ys) = run u pre := by
  intro pre
  induction pre generalizing u with
  | nil => intro h; simp [ends] at h
  | cons y zs ih =>
    intro h
    simp only [ends] at h
    simp only [List.cons_append, run]
    split at h
    · rename_i h0
      rw [if_pos h0, if_pos h0, ih h]
    · rename_i h0
      rw [if_neg h0, if_neg h0]
theorem run_pre {pre l : List (Arc × Int)} (h : pre <+: l) (u : Int) : run u pre <+: run u l := by
  obtain ⟨t, rfl⟩ := h
  induction pre generalizing u with
  | nil => exact List.nil_prefix
  | cons y ys ih =>
    rw [List.cons_append, run, run, List.prefix_cons_inj]
    split
    · exact ih _
    · exact List.prefix_rfl
theorem ends_last : ∀ {xs : List (Arc × Int)} {u b : Int}, ends u xs = some b → last u xs = b ∧ tcode u xs = 0
  | [], u, b, h => by
    simp only [ends, Option.some.injEq] at h
    exact ⟨h, rfl⟩
  | x :: xs, u, b, h => by
    simp only [ends] at h
    split at h
    · rename_i h0
      obtain ⟨h1, h2⟩ := ends_last h
      refine ⟨?_, by rw [tcode, if_pos h0, h2]⟩
      rw [← h1]
      unfold last heads
      rw [List.map_cons, List.getLastD_cons]
    · cases h
theorem ends_none : ∀ {xs : List (Arc × Int)} {u : Int}, ends u xs = none → tcode u xs ≠ 0
  | [], u, h => by simp [ends] at h
  | x :: xs, u, h => by
    simp only [ends] at h
    rw [tcode]
    split at h
    · rename_i h0
      rw [if_pos h0]
      exact ends_none h
    · rename_i h0
      rw [if_neg h0]
      exact h0
theorem tcode_ends {xs : List (Arc × Int)} {u : Int} (h : tcode u xs = 0) : ends u xs = some (last u xs) := by
  cases he : ends u xs with
  | none => exact absurd h (ends_none he)
  | some b => rw [(ends_last he).1]
/-- The first one that is wrong tells. -/
theorem tcode_at {ys : List (Arc × Int)} {x : Arc × Int} : ∀ {pre : List (Arc × Int)} {u b : Int}, ends u pre = some b → codeAt b x ≠ 0 → tcode u (pre ++ x :: ys) = codeAt b x
  | [], u, b, h, h0 => by
    simp only [ends, Option.some.injEq] at h
    subst h
    rw [List.nil_append, tcode, if_neg h0]
  | y :: pre, u, b, h, h0 => by
    simp only [ends] at h
    split at h
    · rename_i h1
      rw [List.cons_append, tcode, if_pos h1]
      exact tcode_at h h0
    · cases h
theorem ends_snoc {u b : Int} {pre : List (Arc × Int)} {x : Arc × Int} (h : ends u pre = some b) (h0 : codeAt b x = 0) : ends u (pre ++ [x]) = some x.1.head := by rw [(run_snoc h).2, if_pos h0]
theorem codeAt_zero {u : Int} {x : Arc × Int} : codeAt u x = 0 ↔ x.2 = 0 ∧ x.1.tail = u := by
  unfold codeAt
  split
  · rename_i h
    constructor
    · intro h'; cases h'
    · rintro ⟨h1, h2⟩; exact absurd h2 h.2
  · rename_i h
    constructor
    · intro h1
      refine ⟨h1, ?_⟩
      by_cases e : x.1.tail = u
      · exact e
      · exact absurd ⟨h1, e⟩ h
    · exact fun h1 => h1.1
theorem ends_append : ∀ {xs ys : List (Arc × Int)} {u b : Int}, ends u xs = some b → ends u (xs ++ ys) = ends b ys
  | [], ys, u, b, h => by
    simp only [ends, Option.some.injEq] at h
    subst h
    rfl
  | x :: xs, ys, u, b, h => by
    simp only [ends] at h
    split at h
    · rename_i h0
      rw [List.cons_append, ends, if_pos h0]
      exact ends_append h
    · cases h

/-! The stops, gone through. -/
theorem first_ok {l : List (Int × Int)} (h : ∀ y ∈ l, y.2 = 0) : first l = 0 := by
  induction l with
  | nil => rfl
  | cons y ys ih =>
    rw [first, if_pos (h y (by simp))]
    exact ih (fun z hz => h z (by simp [hz]))
theorem first_bad {p : List (Int × Int)} {y : Int × Int} {l : List (Int × Int)} (hp : ∀ z ∈ p, z.2 = 0) (hy : y.2 ≠ 0) (h : p ++ [y] <+: l) : first l = y.2 := by
  obtain ⟨t, rfl⟩ := h
  induction p with
  | nil => simp [first, hy]
  | cons z zs ih =>
    rw [List.cons_append, List.cons_append, first, if_pos (hp z (by simp))]
    exact ih (fun a ha => hp a (by simp [ha]))
theorem first_run : ∀ (xs : List (Arc × Int)) (u : Int), first (run u xs) = tcode u xs
  | [], _ => rfl
  | x :: xs, u => by
    rw [run, first, tcode]
    split
    · rename_i h0
      exact first_run xs _
    · rfl
theorem first_stops (n : Nat) (u : Int) (xs : List (Arc × Int)) : first (stops n u xs) = vcode n u xs := by
  unfold stops vcode
  split
  · rw [first, if_pos rfl, first_run]
  · rfl
theorem run_heads : ∀ (xs : List (Arc × Int)) (u : Int), tcode u xs = 0 → (run u xs).map Prod.fst = heads xs
  | [], _, _ => rfl
  | x :: xs, u, h => by
    rw [tcode] at h
    split at h
    · rename_i h0
      rw [run, if_pos h0, List.map_cons, run_heads xs _ h]
      rfl
    · rename_i h0
      exact absurd h h0
theorem stops_heads {n : Nat} {u : Int} {xs : List (Arc × Int)} (h : vcode n u xs = 0) : (stops n u xs).map Prod.fst = u :: heads xs := by
  unfold vcode at h
  unfold stops
  split at h
  · rename_i hv
    rw [if_pos hv, List.map_cons, run_heads xs u h]
  · cases h
theorem stops_last {n : Nat} {u : Int} {xs : List (Arc × Int)} (h : vcode n u xs = 0) : ((stops n u xs).map Prod.fst).getLastD u = last u xs := by
  rw [stops_heads h, List.getLastD_cons]
  rfl
theorem run_len : ∀ (xs : List (Arc × Int)) (u : Int), (run u xs).length ≤ xs.length
  | [], _ => Nat.le_refl _
  | x :: xs, u => by
    rw [run]
    have := run_len xs x.1.head
    split
    · simp; omega
    · simp
theorem stops_len (n : Nat) (u : Int) (xs : List (Arc × Int)) : (stops n u xs).length ≤ xs.length + 1 := by
  unfold stops
  split
  · have := run_len xs u; simp; omega
  · simp
/-- Simple, by what has come. -/
theorem simple_yes {n : Nat} {u : Int} {xs : List (Arc × Int)} (h : ∀ y ∈ stops n u xs, y.2 = 0) (hd : ((stops n u xs).map Prod.fst).Nodup) : simple n u xs = true := by
  have h0 : vcode n u xs = 0 := by rw [← first_stops]; exact first_ok h
  rw [stops_heads h0] at hd
  exact decide_eq_true ⟨h0, hd⟩
theorem simple_no {n : Nat} {u : Int} {xs : List (Arc × Int)} {p : List (Int × Int)} {y : Int × Int} (hp : ∀ z ∈ p, z.2 = 0) (h : p ++ [y] <+: stops n u xs) (hy : y.2 ≠ 0 ∨ y.1 ∈ p.map Prod.fst) : simple n u xs = false := by
  refine decide_eq_false ?_
  rintro ⟨h0, hd⟩
  rcases hy with hy | hy
  · rw [← first_stops, first_bad hp hy h] at h0
    exact hy h0
  · rw [← stops_heads h0] at hd
    obtain ⟨t, ht⟩ := h
    rw [← ht, List.map_append, List.map_append] at hd
    have := (List.nodup_append.1 (List.nodup_append.1 hd).1).2.2
    exact this _ hy _ (by simp) rfl

/-! Sums. -/
theorem two_norm (a b : Int) : DM.addl [a, b] = DM.two a b := by rw [DM.addl2, DM.two_plus]
def tsum (xs : List (Arc × Int)) : Int := (xs.map (fun x => x.1.weight)).foldl DM.two 0
theorem tsum_snoc (xs : List (Arc × Int)) (x : Arc × Int) : tsum (xs ++ [x]) = DM.two (tsum xs) x.1.weight := by
  unfold tsum
  rw [List.map_append, List.foldl_append]
  rfl
theorem tsum_bd (xs : List (Arc × Int)) : 0 ≤ tsum xs ∧ tsum xs ≤ 4611686018427387906 := DM.addl_bd _
theorem gone_snoc (xs : List (Arc × Int)) (x : Arc × Int) : gone (xs ++ [x]) = (gone xs || decide (x.2 = 3)) := by
  unfold gone
  rw [List.any_append]
  simp
theorem gone_pre {xs ys : List (Arc × Int)} (h : xs <+: ys) (hg : gone xs = true) : gone ys = true := by
  obtain ⟨t, rfl⟩ := h
  unfold gone at *
  rw [List.any_append, hg]
  rfl
theorem wsum_gone {xs ys : List (Arc × Int)} (h : xs <+: ys) (hg : gone xs = true) : wsum ys = 4611686018427387906 := by
  unfold wsum
  rw [if_pos (gone_pre h hg)]
theorem wsum_all {xs : List (Arc × Int)} (hg : gone xs = false) : wsum xs = tsum xs := by
  unfold wsum
  rw [hg, if_neg (by decide)]
  rfl
theorem list_len (m : GM.M) (zs : List Int) : (list m zs).length = zs.length := by simp [list]
theorem list_take (m : GM.M) (zs : List Int) (k : Nat) : list m (zs.take k) = (list m zs).take k := by simp [list, List.map_take]
theorem list_snoc (m : GM.M) (zs : List Int) (k : Nat) (hk : k < zs.length) : list m (zs.take (k + 1)) = list m (zs.take k) ++ [arcOf m zs[k]] := by
  unfold list
  rw [List.take_succ_eq_append_getElem hk, List.map_append]
  rfl
theorem list_pre (m : GM.M) (zs : List Int) (k : Nat) : list m (zs.take k) <+: list m zs := by
  rw [list_take]
  exact List.take_prefix _ _
end WK
end Go.Proofs.Ytmkpcidgiobpeaa
end

section
/-
  How far it is: the least sum of a walk. Nothing of the program.
-/
namespace Go.Proofs.Ytmkpcidgiobpeaa
namespace NM

/-! Sums of two. -/
theorem two_cases {a b : Int} (ha : 0 ≤ a) (ha' : a ≤ 4611686018427387906) (hb : 0 ≤ b) (hb' : b ≤ 4611686018427387906) :
    ((a = 4611686018427387906 ∨ b = 4611686018427387906) ∧ DM.two a b = 4611686018427387906) ∨ (a ≠ 4611686018427387906 ∧ b ≠ 4611686018427387906 ∧ 4611686018427387904 < a + b ∧ DM.two a b = 4611686018427387905) ∨ (a + b ≤ 4611686018427387904 ∧ DM.two a b = a + b) := by
  rw [DM.two_plus, DM.norm_of ha ha', DM.norm_of hb hb']
  rcases DM.plus_cases a b with h | h | h <;> omega
theorem two_mono {a b c d : Int} (ha : 0 ≤ a) (hac : a ≤ c) (hc : c ≤ 4611686018427387906) (hb : 0 ≤ b) (hbd : b ≤ d) (hd : d ≤ 4611686018427387906) : DM.two a b ≤ DM.two c d := by
  rcases two_cases ha (by omega) hb (by omega) with h | h | h <;> rcases two_cases (show 0 ≤ c by omega) hc (show 0 ≤ d by omega) hd with k | k | k <;> omega
theorem two_l {a b : Int} (ha : 0 ≤ a) (ha' : a ≤ 4611686018427387906) (hb : 0 ≤ b) (hb' : b ≤ 4611686018427387906) : a ≤ DM.two a b := by
  rcases two_cases ha ha' hb hb' with h | h | h <;> omega
theorem two_r {a b : Int} (ha : 0 ≤ a) (ha' : a ≤ 4611686018427387906) (hb : 0 ≤ b) (hb' : b ≤ 4611686018427387906) : b ≤ DM.two a b := by
  rcases two_cases ha ha' hb hb' with h | h | h <;> omega
theorem two_comm (a b : Int) : DM.two a b = DM.two b a := by rw [DM.two_plus, DM.two_plus, DM.plus_comm]
theorem two_assoc (a b c : Int) : DM.two (DM.two a b) c = DM.two a (DM.two b c) := by
  have := DM.ring2 a b c
  rw [WK.two_norm, WK.two_norm, WK.two_norm, WK.two_norm] at this
  exact this.symm
theorem two_zero {s : Int} (h0 : 0 ≤ s) (h1 : s ≤ 4611686018427387906) : DM.two s 0 = s := by
  rw [DM.two_plus, DM.norm_of h0 h1, DM.norm_of (by decide) (by decide), DM.plus_comm, DM.plus_zero h0 h1]
theorem zero_two {s : Int} (h0 : 0 ≤ s) (h1 : s ≤ 4611686018427387906) : DM.two 0 s = s := by rw [two_comm, two_zero h0 h1]
theorem norm_two (a b : Int) : DM.two (DM.norm a) b = DM.two a b := by rw [DM.two_plus, DM.two_plus, DM.norm_norm]
theorem fold_two : ∀ (l : List Int) (s : Int), 0 ≤ s → s ≤ 4611686018427387906 → l.foldl DM.two s = DM.two s (l.foldl DM.two 0)
  | [], s, h0, h1 => (two_zero h0 h1).symm
  | a :: l, s, h0, h1 => by
    have b1 := DM.two_bd s a
    have b2 := DM.two_bd 0 a
    rw [List.foldl_cons, List.foldl_cons, fold_two l _ b1.1 b1.2, fold_two l _ b2.1 b2.2, two_assoc, two_assoc 0 a]
    have b3 := DM.two_bd a (l.foldl DM.two 0)
    rw [DM.addl1, DM.norm_of b3.1 b3.2]

/-! Walks. -/
/-- These numbers' arcs lead from u to b. -/
def Wk (m : GM.M) (u b : Int) (ids : List Int) : Prop := WK.ends u (WK.list m ids) = some b
/-- What they come to. -/
def csum (m : GM.M) (ids : List Int) : Int := WK.tsum (WK.list m ids)
/-- An arc of that number goes on from u, open. -/
def opn (m : GM.M) (u z : Int) : Prop := WK.codeAt u (WK.arcOf m z) = 0
def hd (m : GM.M) (z : Int) : Int := (WK.arcOf m z).1.head
def wt (m : GM.M) (z : Int) : Int := (WK.arcOf m z).1.weight
theorem csum_bd (m : GM.M) (ids : List Int) : 0 ≤ csum m ids ∧ csum m ids ≤ 4611686018427387906 := WK.tsum_bd _
theorem csum_nil (m : GM.M) : csum m [] = 0 := rfl
theorem csum_cons (m : GM.M) (z : Int) (ids : List Int) : csum m (z :: ids) = DM.two (wt m z) (csum m ids) := by
  have e : csum m (z :: ids) = ((WK.list m ids).map (fun x => x.1.weight)).foldl DM.two (DM.two 0 (wt m z)) := rfl
  have b := DM.two_bd 0 (wt m z)
  rw [e, fold_two _ _ b.1 b.2, DM.addl1, norm_two]
  rfl
theorem csum_consN (m : GM.M) (z : Int) (ids : List Int) : csum m (z :: ids) = DM.two (DM.norm (wt m z)) (csum m ids) := by rw [csum_cons, norm_two]
theorem csum_append (m : GM.M) : ∀ (xs ys : List Int), csum m (xs ++ ys) = DM.two (csum m xs) (csum m ys)
  | [], ys => by
    have b := csum_bd m ys
    rw [List.nil_append, csum_nil, zero_two b.1 b.2]
  | x :: xs, ys => by rw [List.cons_append, csum_cons, csum_cons, csum_append m xs ys, two_assoc]
theorem wk_nil (m : GM.M) (u : Int) : Wk m u u [] := rfl
theorem wk_nil_iff {m : GM.M} {u b : Int} : Wk m u b [] ↔ u = b := by
  unfold Wk
  show some u = some b ↔ u = b
  exact Option.some_inj
theorem wk_cons {m : GM.M} {u b z : Int} {ids : List Int} : Wk m u b (z :: ids) ↔ opn m u z ∧ Wk m (hd m z) b ids := by
  unfold Wk opn hd
  have e : WK.list m (z :: ids) = WK.arcOf m z :: WK.list m ids := rfl
  rw [e, WK.ends]
  split
  · rename_i h
    exact ⟨fun k => ⟨h, k⟩, fun k => k.2⟩
  · rename_i h
    exact ⟨(fun k => by cases k), fun k => absurd k.1 h⟩
theorem wk_append {m : GM.M} {u b c : Int} : ∀ {xs ys : List Int}, Wk m u b xs → Wk m b c ys → Wk m u c (xs ++ ys) := fun {xs ys} h1 h2 => by
  unfold Wk at *
  have e : WK.list m (xs ++ ys) = WK.list m xs ++ WK.list m ys := by simp [WK.list]
  rw [e, WK.ends_append h1, h2]
theorem wk_one {m : GM.M} {u z : Int} (h : opn m u z) : Wk m u (hd m z) [z] := wk_cons.2 ⟨h, wk_nil _ _⟩
theorem csum_one (m : GM.M) (z : Int) : csum m [z] = DM.norm (wt m z) := by
  have b := DM.norm_bd (wt m z)
  rw [csum_cons, csum_nil, ← norm_two, two_zero b.1 b.2]

/-! How far it is. -/
/-- From u to b it is x. -/
structure Dst (m : GM.M) (u b x : Int) : Prop where
  lo : 0 ≤ x
  hi : x ≤ 4611686018427387906
  le : ∀ ids, Wk m u b ids → x ≤ csum m ids
  is : x = 4611686018427387906 ∨ ∃ ids, Wk m u b ids ∧ csum m ids = x
theorem Dst.le_of {m : GM.M} {u b x y : Int} (h : Dst m u b x) (hy : y = 4611686018427387906 ∨ ∃ ids, Wk m u b ids ∧ csum m ids = y) : x ≤ y := by
  rcases hy with e | ⟨ids, h1, h2⟩
  · rw [e]; exact h.hi
  · rw [← h2]; exact h.le ids h1
theorem Dst.unique {m : GM.M} {u b x y : Int} (h : Dst m u b x) (k : Dst m u b y) : x = y := Int.le_antisymm (h.le_of k.is) (k.le_of h.is)
theorem Dst.self {m : GM.M} (u : Int) : Dst m u u 0 := ⟨Int.le_refl _, by decide, fun ids _ => (csum_bd m ids).1, .inr ⟨[], wk_nil _ _, rfl⟩⟩
theorem Dst.third {m : GM.M} {u v b x y z : Int} (h : Dst m u b x) (h1 : Dst m u v y) (h2 : Dst m v b z) : x ≤ DM.two y z := by
  rcases h1.is with e | ⟨p, p1, p2⟩
  · rcases two_cases h1.lo h1.hi h2.lo h2.hi with k | k | k
    · rw [k.2]; exact h.hi
    · exact absurd e k.1
    · have := h2.lo; omega
  · rcases h2.is with e | ⟨q, q1, q2⟩
    · rcases two_cases h1.lo h1.hi h2.lo h2.hi with k | k | k
      · rw [k.2]; exact h.hi
      · exact absurd e k.2.1
      · have := h1.lo; omega
    · rw [← p2, ← q2, ← csum_append]
      exact h.le _ (wk_append p1 q1)
/-- By one more arc. -/
theorem Dst.arc {m : GM.M} {u v x y z : Int} (h1 : Dst m u v x) (h2 : Dst m u (hd m z) y) (hz : opn m v z) : y ≤ DM.two x (wt m z) := by
  rcases h1.is with e | ⟨p, p1, p2⟩
  · have b := DM.norm_bd (wt m z)
    rw [two_comm, ← norm_two, two_comm]
    rcases two_cases h1.lo h1.hi b.1 b.2 with k | k | k
    · rw [k.2]; exact h2.hi
    · exact absurd e k.1
    · omega
  · have := h2.le _ (wk_append p1 (wk_one hz))
    rw [csum_append, csum_one, p2, two_comm, norm_two, two_comm] at this
    exact this
theorem Dst.one {m : GM.M} {u y z : Int} (h : Dst m u (hd m z) y) (hz : opn m u z) : y ≤ DM.norm (wt m z) := by
  have := h.le _ (wk_one hz)
  rwa [csum_one] at this

/-! Vertices in between. -/
/-- All vertices in between are less than k. -/
def Mid (m : GM.M) (k : Int) : List Int → Prop
  | [] => True
  | [_] => True
  | z :: y :: zs => hd m z < k ∧ Mid m k (y :: zs)
theorem mid_cons {m : GM.M} {k z : Int} (hz : hd m z < k) : ∀ {p : List Int}, Mid m k p → Mid m k (z :: p)
  | [], _ => trivial
  | _ :: _, h => ⟨hz, h⟩
theorem split {m : GM.M} {k : Int} : ∀ (ids : List Int) {u b : Int}, Wk m u b ids → Mid m (k + 1) ids → Mid m k ids ∨ ∃ p q, Wk m u k p ∧ Mid m k p ∧ Wk m k b q ∧ Mid m k q ∧ DM.two (csum m p) (csum m q) ≤ csum m ids
  | [], _, _, _, _ => .inl trivial
  | [_], _, _, _, _ => .inl trivial
  | z :: y :: zs, u, b, h, hm => by
    obtain ⟨h1, h2⟩ := wk_cons.1 h
    have ih := split (y :: zs) h2 hm.2
    have bz := DM.norm_bd (wt m z)
    have br := csum_bd m (y :: zs)
    have ez := csum_consN m z (y :: zs)
    by_cases e : hd m z = k
    · rcases ih with h3 | ⟨p, q, p1, p2, q1, q2, hs⟩
      · refine .inr ⟨[z], y :: zs, e ▸ wk_one h1, trivial, e ▸ h2, h3, ?_⟩
        rw [csum_one, ez]
        exact Int.le_refl _
      · refine .inr ⟨[z], q, e ▸ wk_one h1, trivial, q1, q2, ?_⟩
        have bp := csum_bd m p
        have bq := csum_bd m q
        rw [csum_one, ez]
        exact two_mono bz.1 (Int.le_refl _) bz.2 bq.1 (Int.le_trans (two_r bp.1 bp.2 bq.1 bq.2) hs) br.2
    · have hlt : hd m z < k := by have := hm.1; omega
      rcases ih with h3 | ⟨p, q, p1, p2, q1, q2, hs⟩
      · exact .inl ⟨hlt, h3⟩
      · refine .inr ⟨z :: p, q, wk_cons.2 ⟨h1, p1⟩, mid_cons hlt p2, q1, q2, ?_⟩
        have b2 := DM.two_bd (csum m p) (csum m q)
        rw [csum_consN, ez, two_assoc]
        exact two_mono bz.1 (Int.le_refl _) bz.2 b2.1 hs br.2

/-! By way of ever more vertices. -/
/-- A table of how far it is: each entry is a walk's sum, or None; none is more than a walk by way of vertices below k, and, of those ahead of (s, t), by way of k too. -/
structure Fw (m : GM.M) (N k s t : Nat) (D : Nat → Nat → Int) : Prop where
  bd : ∀ a b, 0 ≤ D a b ∧ D a b ≤ 4611686018427387906
  is : ∀ a b : Nat, D a b = 4611686018427387906 ∨ ∃ ids, Wk m a b ids ∧ csum m ids = D a b
  le : ∀ a b : Nat, a < N → b < N → ∀ ids, Wk m a b ids → Mid m k ids → D a b ≤ csum m ids
  up : ∀ a b : Nat, a < N → b < N → (a < s ∨ a = s ∧ b < t) → ∀ ids, Wk m a b ids → Mid m ((k : Int) + 1) ids → D a b ≤ csum m ids
def set2 (D : Nat → Nat → Int) (s t : Nat) (x : Int) : Nat → Nat → Int := fun a b => if a = s ∧ b = t then x else D a b
theorem Fw.step {m : GM.M} {N k s t : Nat} {D : Nat → Nat → Int} (h : Fw m N k s t D) (hk : k < N) (hs : s < N) (ht : t < N) (x : Int) (hx : x = if DM.two (D s k) (D k t) < D s t then DM.two (D s k) (D k t) else D s t) : Fw m N k s (t + 1) (set2 D s t x) := by
  have b1 := h.bd s k
  have b2 := h.bd k t
  have b3 := DM.two_bd (D s k) (D k t)
  have b4 := h.bd s t
  have hle : x ≤ D s t := by rw [hx]; split <;> omega
  have hle2 : x ≤ DM.two (D s k) (D k t) := by rw [hx]; split <;> omega
  have hl : ∀ a b, set2 D s t x a b ≤ D a b := fun a b => by
    unfold set2
    split
    · rename_i e
      rw [e.1, e.2]
      exact hle
    · exact Int.le_refl _
  refine ⟨fun a b => ?_, fun a b => ?_, fun a b ha hb ids h1 h2 => Int.le_trans (hl a b) (h.le a b ha hb ids h1 h2), fun a b ha hb hab ids h1 h2 => ?_⟩
  · unfold set2
    split
    · rw [hx]; split <;> omega
    · exact h.bd a b
  · unfold set2
    split
    · rename_i e
      rw [e.1, e.2, hx]
      split
      · rename_i hlt
        rcases h.is s k with e1 | ⟨p, p1, p2⟩
        · rcases two_cases b1.1 b1.2 b2.1 b2.2 with c | c | c <;> omega
        · rcases h.is k t with e2 | ⟨q, q1, q2⟩
          · rcases two_cases b1.1 b1.2 b2.1 b2.2 with c | c | c <;> omega
          · exact .inr ⟨p ++ q, wk_append p1 q1, by rw [csum_append, p2, q2]⟩
      · exact h.is s t
    · exact h.is a b
  · by_cases e : a = s ∧ b = t
    · obtain ⟨rfl, rfl⟩ := e
      have e2 : set2 D a b x a b = x := by unfold set2; rw [if_pos ⟨rfl, rfl⟩]
      rw [e2]
      rcases split ids h1 h2 with h3 | ⟨p, q, p1, p2, q1, q2, hsum⟩
      · exact Int.le_trans hle (h.le a b ha hb ids h1 h3)
      · refine Int.le_trans hle2 (Int.le_trans ?_ hsum)
        exact two_mono b1.1 (h.le a k ha hk p p1 p2) (csum_bd m p).2 b2.1 (h.le k b hk hb q q1 q2) (csum_bd m q).2
    · refine Int.le_trans (hl a b) (h.up a b ha hb ?_ ids h1 h2)
      omega
theorem Fw.row {m : GM.M} {N k s : Nat} {D : Nat → Nat → Int} (h : Fw m N k s N D) : Fw m N k (s + 1) 0 D := ⟨h.bd, h.is, h.le, fun a b ha hb hab => h.up a b ha hb (by omega)⟩
theorem Fw.phase {m : GM.M} {N k : Nat} {D : Nat → Nat → Int} (h : Fw m N k N 0 D) : Fw m N (k + 1) 0 0 D := ⟨h.bd, h.is, fun a b ha hb ids h1 h2 => h.up a b ha hb (.inl ha) ids h1 (by simpa using h2), fun a b _ _ hab => by omega⟩
/-- Open arcs lead to vertices. -/
def Into (m : GM.M) (N : Nat) : Prop := ∀ u z, opn m u z → 0 ≤ hd m z ∧ hd m z < (N : Int)
theorem mid_all {m : GM.M} {N : Nat} (hin : Into m N) : ∀ (ids : List Int) {u b : Int}, Wk m u b ids → Mid m (N : Int) ids
  | [], _, _, _ => trivial
  | [_], _, _, _ => trivial
  | z :: y :: zs, u, b, h => by
    obtain ⟨h1, h2⟩ := wk_cons.1 h
    exact ⟨(hin u z h1).2, mid_all hin (y :: zs) h2⟩
theorem Fw.done {m : GM.M} {N : Nat} {D : Nat → Nat → Int} (h : Fw m N N 0 0 D) (hin : Into m N) {a b : Nat} (ha : a < N) (hb : b < N) : Dst m a b (D a b) :=
  ⟨(h.bd a b).1, (h.bd a b).2, fun ids hw => h.le a b ha hb ids hw (mid_all hin ids hw), h.is a b⟩
/-- The table of the arcs themselves. -/
theorem Fw.begin {m : GM.M} {N : Nat} {D : Nat → Nat → Int} (hin : Into m N) (bd : ∀ a b, 0 ≤ D a b ∧ D a b ≤ 4611686018427387906)
    (is : ∀ a b : Nat, D a b = 4611686018427387906 ∨ ∃ ids, Wk m a b ids ∧ csum m ids = D a b) (self : ∀ a, a < N → D a a = 0)
    (arc : ∀ a b : Nat, a < N → b < N → ∀ z, opn m a z → hd m z = b → D a b ≤ DM.norm (wt m z)) : Fw m N 0 0 0 D := by
  refine ⟨bd, is, fun a b ha hb ids h1 h2 => ?_, fun a b _ _ hab => by omega⟩
  match ids, h1, h2 with
  | [], h1, _ =>
    have e : (a : Int) = b := wk_nil_iff.1 h1
    have e : a = b := by omega
    subst e
    rw [self a ha]
    exact (csum_bd m []).1
  | [z], h1, _ =>
    obtain ⟨h3, h4⟩ := wk_cons.1 h1
    rw [csum_one]
    exact arc a b ha hb z h3 (wk_nil_iff.1 h4)
  | z :: y :: zs, h1, h2 =>
    have h3 := hin a z (wk_cons.1 h1).1
    have h4 : hd m z < ((0 : Nat) : Int) := h2.1
    omega

/-! What is settled, one behind the other. -/
theorem relaxed {m : GM.M} {V X : Int → Prop} {d : Int → Int} {u : Int} (hV : ∀ x z, V x → opn m x z → V (hd m z)) (hd0 : ∀ v, V v → 0 ≤ d v ∧ d v ≤ 4611686018427387906)
    (hr : ∀ x, X x → ∀ z, opn m x z → d (hd m z) ≤ DM.two (d x) (wt m z)) (hu : ∀ v, V v → ¬ X v → d u ≤ d v) (hux : ¬ X u) :
    ∀ (p : List Int) (x c : Int), V x → X x → d x ≤ c → c ≤ 4611686018427387906 → Wk m x u p → d u ≤ DM.two c (csum m p)
  | [], x, c, hv, hx, _, _, hw => absurd (wk_nil_iff.1 hw ▸ hx) hux
  | z :: p, x, c, hv, hx, hc, hc', hw => by
    obtain ⟨h1, h2⟩ := wk_cons.1 hw
    have bx := hd0 x hv
    have bz := DM.norm_bd (wt m z)
    have bp := csum_bd m p
    have b1 := DM.two_bd c (DM.norm (wt m z))
    have e : DM.two c (csum m (z :: p)) = DM.two (DM.two c (DM.norm (wt m z))) (csum m p) := by rw [csum_consN, two_assoc]
    have h3 : d (hd m z) ≤ DM.two c (DM.norm (wt m z)) := by
      refine Int.le_trans (hr x hx z h1) ?_
      rw [two_comm, ← norm_two, two_comm]
      exact two_mono bx.1 hc hc' bz.1 (Int.le_refl _) bz.2
    rw [e]
    by_cases hX : X (hd m z)
    · exact relaxed hV hd0 hr hu hux p _ _ (hV x z hv h1) hX h3 b1.2 h2
    · refine Int.le_trans (hu _ (hV x z hv h1) hX) (Int.le_trans h3 ?_)
      exact two_l b1.1 b1.2 bp.1 bp.2
/-- The nearest that isn't settled is as far as it is told to be. -/
theorem settles {m : GM.M} {V X : Int → Prop} {d : Int → Int} {s u : Int} (hV : ∀ x z, V x → opn m x z → V (hd m z)) (hd0 : ∀ v, V v → 0 ≤ d v ∧ d v ≤ 4611686018427387906)
    (hr : ∀ x, X x → ∀ z, opn m x z → d (hd m z) ≤ DM.two (d x) (wt m z)) (hu : ∀ v, V v → ¬ X v → d u ≤ d v) (hux : ¬ X u) (hs : V s) (hu' : V u) (hs0 : d s = 0)
    (is : d u = 4611686018427387906 ∨ ∃ ids, Wk m s u ids ∧ csum m ids = d u) : Dst m s u (d u) := by
  refine ⟨(hd0 u hu').1, (hd0 u hu').2, fun ids hw => ?_, is⟩
  have b := csum_bd m ids
  by_cases hX : X s
  · have := relaxed hV hd0 hr hu hux ids s 0 hs hX (by omega) (by decide) hw
    rwa [zero_two b.1 b.2] at this
  · have := hu s hs hX
    omega
end NM
end Go.Proofs.Ytmkpcidgiobpeaa
end
