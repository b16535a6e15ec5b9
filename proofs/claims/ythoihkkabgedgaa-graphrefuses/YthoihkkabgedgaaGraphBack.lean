/-
  A change that is done, and its counterpart: what was there is there again.
-/
import Derived.Test.YthoihkkabgedgaaGraphMade
namespace Go.Proofs.Ythoihkkabgedgaa
namespace GM

/-- Each arc's ends are vertices. -/
def Ends (N : Nat) (m : M) : Prop := ∀ i, is m i = true → vert N (arc m i).tail = true ∧ vert N (arc m i).head = true
theorem Ends.zero (N : Nat) : Ends N none0 := fun i h => by simp [is, none0] at h
theorem Ends.put {N : Nat} {m : M} (h : Ends N m) (i : Nat) (a : Arc) (ha : vert N a.tail = true ∧ vert N a.head = true) : Ends N (upd m i (some a)) := fun j hj => by
  rw [arc_upd]
  split
  · exact ha
  · rename_i e
    rw [is_upd, if_neg e] at hj
    exact h j hj
theorem Ends.cut {N : Nat} {m : M} (h : Ends N m) (i : Nat) : Ends N (upd m i none) := fun j hj => by
  rw [is_upd] at hj
  split at hj
  · cases hj
  · rename_i e
    rw [arc_upd, if_neg e]
    exact h j hj
theorem ends_next {N most : Nat} {m : M} (h : Ends N m) (c : Chg) : Ends N (next N most m c) := by
  unfold next
  split
  · unfold ins
    split
    · rename_i hc
      unfold insCode at hc
      split at hc
      · rename_i hp
        simp only [Bool.and_eq_true] at hp
        exact h.put _ _ ⟨hp.1.1.2, hp.1.2⟩
      · cases hc
    · exact h
  split
  · unfold del
    split
    · exact h.cut _
    · exact h
  split
  · unfold turn
    split
    · rename_i hc
      obtain ⟨i, hi, _, hs⟩ := atCode_zero (turnCode_zero hc).1
      rw [hi, Int.toNat_natCast]
      exact h.put _ _ (h i hs)
    · exact h
  split
  · unfold turn
    split
    · rename_i hc
      obtain ⟨i, hi, _, hs⟩ := atCode_zero (turnCode_zero hc).1
      rw [hi, Int.toNat_natCast]
      exact h.put _ _ (h i hs)
    · exact h
  · unfold weigh
    split
    · rename_i hc
      obtain ⟨i, hi, _, hs⟩ := atCode_zero (weighCode_zero hc).1
      rw [hi, Int.toNat_natCast]
      exact h.put _ _ (h i hs)
    · exact h
theorem ends_made (N : Nat) (xs : List Chg) : ∀ k, Ends N (made N xs k)
  | 0 => Ends.zero N
  | k + 1 => ends_next (ends_made N xs k) _
theorem cut_less (m : M) (i : Nat) (hi : is m i = true) : ∀ k, (ids (upd m i none) k).length + (if i < k then 1 else 0) ≤ (ids m k).length
  | 0 => by simp [ids]
  | k + 1 => by
    have ih := cut_less m i hi k
    have hu := is_upd m i none k
    by_cases e : k = i
    · subst e
      rw [if_pos rfl] at hu
      rw [ids_skip hu, ids_take hi, if_pos (by omega)]
      rw [if_neg (by omega)] at ih
      simp
      omega
    · rw [if_neg e] at hu
      have e1 : (if i < k + 1 then 1 else 0) = (if i < k then 1 else 0) := by split <;> split <;> omega
      rw [e1]
      cases h : is m k with
      | true => rw [h] at hu; rw [ids_take h, ids_take hu]; simp; omega
      | false => rw [h] at hu; rw [ids_skip h, ids_skip hu]; exact ih
theorem some_arc {m : M} {i : Nat} (h : is m i = true) : m i = some (arc m i) := by
  unfold is at h
  unfold arc
  cases hm : m i with
  | none => rw [hm] at h; cases h
  | some a => rfl
theorem none_arc {m : M} {i : Nat} (h : is m i = false) : m i = none := by
  unfold is at h
  cases hm : m i with
  | none => rfl
  | some a => rw [hm] at h; cases h
/-- Whatever was laid at a place: with what was there all is as it was. -/
theorem upd_back {m : M} {i : Nat} {x y : Option Arc} (h : m i = y) : upd (upd m i x) i y = m := by
  funext j
  unfold upd
  split
  · rename_i e; rw [e, h]
  · rfl
/-- A change that is refused changes nothing. -/
theorem next_refused {N most : Nat} {m : M} {c : Chg} (h : code N most m c ≠ 0) : next N most m c = m := by
  unfold code at h
  unfold next
  split
  · rename_i e; rw [if_pos e] at h; unfold ins; rw [if_neg h]
  rename_i e0
  rw [if_neg e0] at h
  split
  · rename_i e; rw [if_pos e] at h; unfold del; rw [if_neg h]
  rename_i e1
  rw [if_neg e1] at h
  split
  · rename_i e; rw [if_pos e] at h; unfold turn; rw [if_neg h]
  rename_i e2
  rw [if_neg e2] at h
  split
  · rename_i e; rw [if_pos e] at h; unfold turn; rw [if_neg h]
  rename_i e3
  rw [if_neg e3] at h
  unfold weigh
  rw [if_neg h]
theorem at_zero {m : M} {i : Nat} (hi : i < 64) (hs : is m i = true) : atCode m i = 0 := by
  unfold atCode
  rw [if_pos (show place i = true from decide_eq_true (by omega)), Int.toNat_natCast, hs]
  rfl
theorem is_same (m : M) (i : Nat) (a : Arc) : is (upd m i (some a)) i = true := by rw [is_upd, if_pos rfl]; rfl
theorem arc_same (m : M) (i : Nat) (a : Arc) : arc (upd m i (some a)) i = a := by rw [arc_upd, if_pos rfl]; rfl

theorem back0 {N : Nat} {m : M} {id : Int} {a : Arc} (h : insCode N 64 m id a = 0) : atCode (ins N 64 m id a) id = 0 ∧ del (ins N 64 m id a) id = m := by
  have h' := h
  unfold insCode at h'
  split at h'
  · rename_i hp
    simp only [Bool.and_eq_true] at hp
    obtain ⟨i, rfl, hi⟩ := place_nat hp.1.1.1
    split at h'
    · cases h'
    · rename_i hs
      rw [Int.toNat_natCast] at hs
      have e : ins N 64 m i a = upd m i (some a) := by
        unfold ins
        rw [if_pos h, Int.toNat_natCast]
      rw [e]
      have h0 := at_zero hi (is_same m i a)
      refine ⟨h0, ?_⟩
      unfold del
      rw [if_pos h0, Int.toNat_natCast]
      exact upd_back (none_arc (by simpa using hs))
  · cases h'
theorem back1 {N : Nat} {m : M} {id : Int} (hg : Good 64 m) (he : Ends N m) (h : atCode m id = 0) : insCode N 64 (del m id) id (look m id).1 = 0 ∧ ins N 64 (del m id) id (look m id).1 = m := by
  obtain ⟨i, rfl, hi, hs⟩ := atCode_zero h
  have hp : place (i : Int) = true := decide_eq_true (by omega)
  have hl : (look m i).1 = arc m i := by
    unfold look
    rw [if_pos hp, Int.toNat_natCast]
  have e : del m i = upd m i none := by
    unfold del
    rw [if_pos h, Int.toNat_natCast]
  rw [hl, e]
  have hc : cnt (upd m i none) < 64 := by
    have := cut_less m i hs 64
    rw [if_pos hi] at this
    have := cnt_le m
    unfold cnt at this ⊢
    omega
  have h0 : insCode N 64 (upd m i none) i (arc m i) = 0 := by
    unfold insCode
    rw [if_pos (by simp only [Bool.and_eq_true]; exact ⟨⟨⟨hp, (he i hs).1⟩, (he i hs).2⟩, hg.ok i hs⟩), Int.toNat_natCast, is_upd, if_pos rfl]
    simp [hc]
  refine ⟨h0, ?_⟩
  unfold ins
  rw [if_pos h0, Int.toNat_natCast]
  exact upd_back (some_arc hs)
theorem back2 {m : M} {id : Int} {b : Bool} (h : turnCode m id b = 0) : turnCode (turn m id b) id (!b) = 0 ∧ turn (turn m id b) id (!b) = m := by
  obtain ⟨ha, hc⟩ := turnCode_zero h
  obtain ⟨i, rfl, hi, hs⟩ := atCode_zero ha
  rw [Int.toNat_natCast] at hc
  have e : turn m i b = upd m i (some { arc m i with closed := b }) := by
    unfold turn
    rw [if_pos h, Int.toNat_natCast]
  rw [e]
  have h0 : turnCode (upd m i (some { arc m i with closed := b })) i (!b) = 0 := by
    unfold turnCode
    rw [if_pos (at_zero hi (is_same m i _)), Int.toNat_natCast, arc_same, if_neg (by cases b <;> simp)]
  refine ⟨h0, ?_⟩
  unfold turn
  rw [if_pos h0, Int.toNat_natCast, arc_same]
  refine upd_back ?_
  rw [some_arc hs]
  have hb : (arc m i).closed = !b := by
    cases hcl : (arc m i).closed <;> cases b <;> simp_all
  congr 1
  have : arc m i = { arc m i with closed := (arc m i).closed } := rfl
  rw [this, hb]
theorem back4 {m : M} {id y : Int} (hg : Good 64 m) (h : weighCode m id y = 0) : weighCode (weigh m id y) id (look m id).1.weight = 0 ∧ weigh (weigh m id y) id (look m id).1.weight = m := by
  obtain ⟨ha, _⟩ := weighCode_zero h
  obtain ⟨i, rfl, hi, hs⟩ := atCode_zero ha
  have hp : place (i : Int) = true := decide_eq_true (by omega)
  have hl : (look m i).1 = arc m i := by
    unfold look
    rw [if_pos hp, Int.toNat_natCast]
  have e : weigh m i y = upd m i (some { arc m i with weight := y }) := by
    unfold weigh
    rw [if_pos h, Int.toNat_natCast]
  rw [hl, e]
  have h0 : weighCode (upd m i (some { arc m i with weight := y })) i (arc m i).weight = 0 := by
    unfold weighCode
    rw [if_pos (hg.ok i hs)]
    exact at_zero hi (is_same m i _)
  refine ⟨h0, ?_⟩
  unfold weigh
  rw [if_pos h0, Int.toNat_natCast, arc_same]
  exact upd_back (some_arc hs)
end GM
end Go.Proofs.Ythoihkkabgedgaa
