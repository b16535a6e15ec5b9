/-
  Meshes in numbers: what Put, At, Out, In, Detours and Contract make of them. Nothing of the program.
-/
import Derived.Test.YtkcfepppnclniaaGreatDoorMmMeshMath
namespace Go.Proofs.YtkcfepppnclniaaGreatDoor
namespace XM
open NM (two_cases two_mono two_l two_r two_comm two_assoc two_zero zero_two)

/-- A mesh of N vertices. -/
structure Mesh (N : Nat) (D : Nat → Nat → Int) : Prop where
  ok : Ok D
  lo : ∀ u w, 1 ≤ D u w
  out : ∀ u w, N ≤ u ∨ N ≤ w → D u w = 4611686018427387906
/-- No steps. -/
def empty : Nat → Nat → Int := fun _ _ => 4611686018427387906
theorem Mesh.empty (N : Nat) : Mesh N empty := ⟨⟨fun _ _ => by unfold XM.empty; decide, fun _ => rfl⟩, fun _ _ => by unfold XM.empty; decide, fun _ _ _ => rfl⟩
/-- What At tells. -/
def atE (N : Nat) (D : Nat → Nat → Int) (u w : Int) : Int := if GM.vert N u = true ∧ GM.vert N w = true then D u.toNat w.toNat else 4611686018427387906
def putCode (N : Nat) (u w x : Int) : Int := if GM.vert N u = true ∧ GM.vert N w = true ∧ u ≠ w ∧ 1 ≤ x ∧ x ≤ 4611686018427387906 then 0 else 1
def put (N : Nat) (D : Nat → Nat → Int) (u w x : Int) : Nat → Nat → Int := if putCode N u w x = 0 then NM.set2 D u.toNat w.toNat x else D
/-- No step from v, or to it. -/
def leave (D : Nat → Nat → Int) (v : Nat) : Nat → Nat → Int := fun u w => if u = v ∨ w = v then 4611686018427387906 else D u w
/-- The same, as far as others less than k go. -/
def leaveTo (D : Nat → Nat → Int) (v k : Nat) : Nat → Nat → Int := fun u w => if (u = v ∧ w < k) ∨ (w = v ∧ u < k) then 4611686018427387906 else D u w
theorem leaveTo_zero (D : Nat → Nat → Int) (v : Nat) : leaveTo D v 0 = D := by
  funext u w
  unfold leaveTo
  rw [if_neg (by omega)]
theorem leaveTo_step (D : Nat → Nat → Int) (v k : Nat) : NM.set2 (NM.set2 (leaveTo D v k) v k 4611686018427387906) k v 4611686018427387906 = leaveTo D v (k + 1) := by
  funext u w
  simp only [leaveTo, NM.set2]
  repeat' split
  all_goals first | rfl | omega
theorem leaveTo_step' (D : Nat → Nat → Int) (v k : Nat) : NM.set2 (NM.set2 (leaveTo D v k) k v 4611686018427387906) v k 4611686018427387906 = leaveTo D v (k + 1) := by
  funext u w
  simp only [leaveTo, NM.set2]
  repeat' split
  all_goals first | rfl | omega
theorem leaveTo_all (D : Nat → Nat → Int) (v : Nat) (hv : v < 24) (s t : Nat) (hs : s < 24) (ht : t < 24) : leaveTo D v 24 s t = leave D v s t := by
  unfold leaveTo leave
  repeat' split
  all_goals first | rfl | omega
theorem leave_out {N : Nat} {D : Nat → Nat → Int} (h : Mesh N D) (v : Nat) : Mesh N (leave D v) := by
  refine ⟨⟨fun u w => ?_, fun u => ?_⟩, fun u w => ?_, fun u w e => ?_⟩
  · unfold leave
    split
    · decide
    · exact h.ok.bd u w
  · unfold leave
    split
    · rfl
    · exact h.ok.self u
  · unfold leave
    split
    · decide
    · exact h.lo u w
  · unfold leave
    split
    · rfl
    · exact h.out u w e
theorem vert_nat {N : Nat} {v : Int} (h : GM.vert N v = true) : ∃ i : Nat, v = i ∧ i < N := by
  have := of_decide_eq_true h
  exact ⟨v.toNat, by omega, by omega⟩
theorem atE_nat {N : Nat} {D : Nat → Nat → Int} (h : Mesh N D) (u w : Nat) : atE N D u w = D u w := by
  unfold atE
  split
  · simp
  · rename_i hn
    refine (h.out u w ?_).symm
    by_cases h1 : u < N
    · by_cases h2 : w < N
      · exact absurd ⟨decide_eq_true (by omega), decide_eq_true (by omega)⟩ hn
      · exact .inr (by omega)
    · exact .inl (by omega)
theorem atE_bd {N : Nat} {D : Nat → Nat → Int} (h : Mesh N D) (u w : Int) : 0 ≤ atE N D u w ∧ atE N D u w ≤ 4611686018427387906 := by
  unfold atE
  split
  · exact h.ok.bd _ _
  · decide
theorem atE_self {N : Nat} {D : Nat → Nat → Int} (h : Mesh N D) (u : Int) : atE N D u u = 4611686018427387906 := by
  unfold atE
  split
  · exact h.ok.self _
  · rfl
theorem put_mesh {N : Nat} {D : Nat → Nat → Int} (h : Mesh N D) (u w x : Int) : Mesh N (put N D u w x) := by
  unfold put
  split
  · rename_i hc
    unfold putCode at hc
    split at hc
    · rename_i hh
      obtain ⟨h1, h2, h3, h4, h5⟩ := hh
      obtain ⟨i, rfl, hi⟩ := vert_nat h1
      obtain ⟨j, rfl, hj⟩ := vert_nat h2
      simp only [Int.toNat_natCast]
      refine ⟨⟨fun a b => ?_, fun a => ?_⟩, fun a b => ?_, fun a b e => ?_⟩
      · unfold NM.set2
        split
        · omega
        · exact h.ok.bd a b
      · unfold NM.set2
        rw [if_neg (by omega)]
        exact h.ok.self a
      · unfold NM.set2
        split
        · omega
        · exact h.lo a b
      · unfold NM.set2
        rw [if_neg (by omega)]
        exact h.out a b e
    · cases hc
  · exact h

/-! The steps at a vertex. -/
/-- From v to k, or (back) from k to v. -/
def dirE (N : Nat) (D : Nat → Nat → Int) (v : Int) (back : Bool) (k : Int) : Int := if back then atE N D k v else atE N D v k
/-- The steps to (from) the vertices below k, rising. -/
def steps (N : Nat) (D : Nat → Nat → Int) (v : Int) (back : Bool) : Nat → List (Nat × Int)
  | 0 => []
  | k + 1 => steps N D v back k ++ (if dirE N D v back (k : Nat) = 4611686018427387906 then [] else [(k, dirE N D v back (k : Nat))])
section
variable {N : Nat} {D : Nat → Nat → Int} {v : Int} {back : Bool}
theorem steps_skip {k : Nat} (h : dirE N D v back (k : Nat) = 4611686018427387906) : steps N D v back (k + 1) = steps N D v back k := by
  show _ ++ _ = _
  rw [if_pos h, List.append_nil]
theorem steps_take {k : Nat} (h : dirE N D v back (k : Nat) ≠ 4611686018427387906) : steps N D v back (k + 1) = steps N D v back k ++ [(k, dirE N D v back (k : Nat))] := by
  show _ ++ _ = _
  rw [if_neg h]
theorem steps_pre : ∀ {a b : Nat}, a ≤ b → steps N D v back a <+: steps N D v back b
  | a, 0, h => by
    obtain rfl : a = 0 := by omega
    exact List.prefix_refl _
  | a, b + 1, h => by
    by_cases e : a = b + 1
    · rw [e]; exact List.prefix_refl _
    · exact (steps_pre (show a ≤ b by omega)).trans (List.prefix_append _ _)
theorem steps_len : ∀ k, (steps N D v back k).length ≤ k
  | 0 => by simp [steps]
  | k + 1 => by
    have := steps_len k
    unfold steps
    rw [List.length_append]
    split <;> simp <;> omega
theorem steps_mem : ∀ {k : Nat} {x : Nat × Int}, x ∈ steps N D v back k → x.1 < k ∧ x.2 = dirE N D v back (x.1 : Nat) ∧ x.2 ≠ 4611686018427387906
  | 0, x, h => by simp [steps] at h
  | k + 1, x, h => by
    unfold steps at h
    rcases List.mem_append.1 h with h | h
    · have := steps_mem h
      exact ⟨by omega, this.2⟩
    · split at h
      · simp at h
      · rename_i hn
        simp at h
        subst h
        exact ⟨by simp, rfl, hn⟩
end

/-! Detours. -/
/-- A detour: from where, to where, how long. -/
structure Det where
  u : Nat
  w : Nat
  x : Int
/-- Those from u by a step of length `to', of the steps that are told. -/
def rowOf (x : Nat × Int) (ys : List (Nat × Int)) : List Det := (ys.filter (fun y => decide (x.1 ≠ y.1))).map (fun y => ⟨x.1, y.1, DM.two x.2 y.2⟩)
def detsOf (ys : List (Nat × Int)) (xs : List (Nat × Int)) : List Det := xs.flatMap (fun x => rowOf x ys)
theorem rowOf_nil (x : Nat × Int) : rowOf x [] = [] := rfl
theorem rowOf_take {x y : Nat × Int} (ys : List (Nat × Int)) (h : x.1 ≠ y.1) : rowOf x (ys ++ [y]) = rowOf x ys ++ [⟨x.1, y.1, DM.two x.2 y.2⟩] := by
  unfold rowOf
  rw [List.filter_append, List.map_append]
  simp [h]
theorem rowOf_skip {x y : Nat × Int} (ys : List (Nat × Int)) (h : x.1 = y.1) : rowOf x (ys ++ [y]) = rowOf x ys := by
  unfold rowOf
  rw [List.filter_append, List.map_append]
  simp [h]
theorem rowOf_len (x : Nat × Int) (ys : List (Nat × Int)) : (rowOf x ys).length ≤ ys.length := by
  unfold rowOf
  rw [List.length_map]
  exact List.length_filter_le _ _
theorem detsOf_snoc (ys xs : List (Nat × Int)) (x : Nat × Int) : detsOf ys (xs ++ [x]) = detsOf ys xs ++ rowOf x ys := by
  unfold detsOf
  rw [List.flatMap_append]
  simp
theorem detsOf_len (ys : List (Nat × Int)) : ∀ xs, (detsOf ys xs).length ≤ xs.length * ys.length
  | [] => by simp [detsOf]
  | x :: xs => by
    have h1 := detsOf_len ys xs
    have h2 := rowOf_len x ys
    have e : detsOf ys (x :: xs) = rowOf x ys ++ detsOf ys xs := by simp [detsOf]
    rw [e, List.length_append, List.length_cons, Nat.succ_mul]
    omega
/-- The document's: by rising u, those of one u by rising w, as far as w goes below j. -/
def detRow (N : Nat) (D : Nat → Nat → Int) (v : Int) (u : Nat) : Nat → List Det
  | 0 => []
  | j + 1 => detRow N D v u j ++ (if u ≠ j ∧ DM.two (atE N D u v) (atE N D v j) < 4611686018427387906 then [⟨u, j, DM.two (atE N D u v) (atE N D v j)⟩] else [])
def dets (N : Nat) (D : Nat → Nat → Int) (v : Int) : Nat → List Det
  | 0 => []
  | k + 1 => dets N D v k ++ detRow N D v k N
section
variable {N : Nat} {D : Nat → Nat → Int} {v : Int}
theorem detRow_len (u : Nat) : ∀ j, (detRow N D v u j).length ≤ j
  | 0 => by simp [detRow]
  | j + 1 => by
    have := detRow_len u j
    unfold detRow
    rw [List.length_append]
    split <;> simp <;> omega
theorem dets_len : ∀ k, (dets N D v k).length ≤ k * N
  | 0 => by simp [dets]
  | k + 1 => by
    have h1 := dets_len k
    have h2 := detRow_len (N := N) (D := D) (v := v) k N
    unfold dets
    rw [List.length_append, Nat.succ_mul]
    omega
theorem two_told {a b : Int} (ha : 0 ≤ a ∧ a ≤ 4611686018427387906) (hb : 0 ≤ b ∧ b ≤ 4611686018427387906) : DM.two a b < 4611686018427387906 ↔ a ≠ 4611686018427387906 ∧ b ≠ 4611686018427387906 := by
  rcases two_cases ha.1 ha.2 hb.1 hb.2 with c | c | c <;> omega
theorem detRow_none (h : Mesh N D) (u : Nat) (hu : atE N D u v = 4611686018427387906) : ∀ j, detRow N D v u j = []
  | 0 => rfl
  | j + 1 => by
    unfold detRow
    rw [detRow_none h u hu j, if_neg (fun e => ((two_told (atE_bd h u v) (atE_bd h v j)).1 e.2).1 hu)]
    rfl
theorem detRow_some (h : Mesh N D) (u : Nat) (hu : atE N D u v ≠ 4611686018427387906) : ∀ j, detRow N D v u j = rowOf (u, atE N D u v) (steps N D v false j)
  | 0 => rfl
  | j + 1 => by
    have ht := two_told (atE_bd h u v) (atE_bd h v j)
    unfold detRow
    rw [detRow_some h u hu j]
    by_cases hj : atE N D v j = 4611686018427387906
    · rw [steps_skip (show dirE N D v false (j : Nat) = _ from hj), if_neg (fun e => (ht.1 e.2).2 hj), List.append_nil]
    · rw [steps_take (show dirE N D v false (j : Nat) ≠ _ from hj)]
      by_cases e : u = j
      · rw [rowOf_skip _ (show u = j from e), if_neg (fun e' => e'.1 e), List.append_nil]
      · rw [rowOf_take _ (show u ≠ j from e), if_pos ⟨e, ht.2 ⟨hu, hj⟩⟩]
        rfl
theorem dets_eq (h : Mesh N D) : ∀ k, dets N D v k = detsOf (steps N D v false N) (steps N D v true k)
  | 0 => rfl
  | k + 1 => by
    unfold dets
    rw [dets_eq h k]
    by_cases hk : atE N D k v = 4611686018427387906
    · rw [detRow_none h k hk, List.append_nil, steps_skip (show dirE N D v true (k : Nat) = _ from hk)]
    · rw [detRow_some h k hk, steps_take (show dirE N D v true (k : Nat) ≠ _ from hk), detsOf_snoc]
      rfl
end

/-! Contract. -/
/-- One detour is taken: what becomes of the steps, and how many became shorter. -/
def app (s : (Nat → Nat → Int) × Nat) (d : Det) : (Nat → Nat → Int) × Nat := if d.x < s.1 d.u d.w then (NM.set2 s.1 d.u d.w d.x, s.2 + 1) else s
def appAll (D : Nat → Nat → Int) (l : List Det) : (Nat → Nat → Int) × Nat := l.foldl app (D, 0)
theorem appAll_take (D : Nat → Nat → Int) (l : List Det) {k : Nat} (hk : k < l.length) : appAll D (l.take (k + 1)) = app (appAll D (l.take k)) l[k] := by
  unfold appAll
  rw [List.take_succ_eq_append_getElem hk, List.foldl_append]
  rfl
theorem appAll_le (D : Nat → Nat → Int) : ∀ (l : List Det) (s : (Nat → Nat → Int) × Nat), (l.foldl app s).2 ≤ s.2 + l.length
  | [], s => by simp
  | d :: l, s => by
    have := appAll_le D l (app s d)
    have h2 : (app s d).2 ≤ s.2 + 1 := by unfold app; split <;> simp
    rw [List.foldl_cons, List.length_cons]
    omega
/-- The detours are numbers that may be. -/
def Fit (N : Nat) (l : List Det) : Prop := ∀ d ∈ l, d.u < N ∧ d.w < N ∧ d.u ≠ d.w ∧ 1 ≤ d.x ∧ d.x < 4611686018427387906
theorem atE_lo {N : Nat} {D : Nat → Nat → Int} (h : Mesh N D) (u w : Int) : 1 ≤ atE N D u w := by
  unfold atE
  split
  · exact h.lo _ _
  · decide
theorem detRow_fit {N : Nat} {D : Nat → Nat → Int} (hm : Mesh N D) {v : Int} {u : Nat} (hu : u < N) : ∀ j, j ≤ N → Fit N (detRow N D v u j)
  | 0, _, d, hd => by simp [detRow] at hd
  | j + 1, hj, d, hd => by
    unfold detRow at hd
    rcases List.mem_append.1 hd with h | h
    · exact detRow_fit hm hu j (by omega) d h
    · split at h
      · rename_i e
        simp at h
        subst h
        exact ⟨hu, by show j < N; omega, e.1, Int.le_trans (atE_lo hm u v) (two_l (atE_bd hm u v).1 (atE_bd hm u v).2 (atE_bd hm v j).1 (atE_bd hm v j).2), e.2⟩
      · simp at h
theorem dets_fit {N : Nat} {D : Nat → Nat → Int} (hm : Mesh N D) {v : Int} : ∀ k, k ≤ N → Fit N (dets N D v k)
  | 0, _, d, hd => by simp [dets] at hd
  | k + 1, hk, d, hd => by
    unfold dets at hd
    rcases List.mem_append.1 hd with h | h
    · exact dets_fit hm k (by omega) d h
    · exact detRow_fit hm (by omega) N (Nat.le_refl _) d h
theorem app_mesh {N : Nat} {s : (Nat → Nat → Int) × Nat} {d : Det} (h : Mesh N s.1) (hd : d.u < N ∧ d.w < N ∧ d.u ≠ d.w ∧ 1 ≤ d.x ∧ d.x < 4611686018427387906) : Mesh N (app s d).1 := by
  unfold app
  split
  · show Mesh N (NM.set2 s.1 d.u d.w d.x)
    refine ⟨⟨fun a b => ?_, fun a => ?_⟩, fun a b => ?_, fun a b e => ?_⟩
    · unfold NM.set2
      split
      · omega
      · exact h.ok.bd a b
    · unfold NM.set2
      rw [if_neg (by omega)]
      exact h.ok.self a
    · unfold NM.set2
      split
      · omega
      · exact h.lo a b
    · unfold NM.set2
      rw [if_neg (by omega)]
      exact h.out a b e
  · exact h
theorem app_put {N : Nat} {s : (Nat → Nat → Int) × Nat} {d : Det} (hd : d.u < N ∧ d.w < N ∧ d.u ≠ d.w ∧ 1 ≤ d.x ∧ d.x < 4611686018427387906) (h : d.x < s.1 d.u d.w) : (app s d).1 = put N s.1 (d.u : Nat) (d.w : Nat) d.x ∧ (app s d).2 = s.2 + 1 := by
  have hc : putCode N (d.u : Nat) (d.w : Nat) d.x = 0 := if_pos ⟨decide_eq_true (by omega), decide_eq_true (by omega), by omega, hd.2.2.2.1, by omega⟩
  unfold app put
  rw [if_pos h, if_pos hc]
  exact ⟨rfl, rfl⟩
theorem app_no {s : (Nat → Nat → Int) × Nat} {d : Det} (h : ¬ d.x < s.1 d.u d.w) : app s d = s := if_neg h
theorem foldl_mesh {N : Nat} : ∀ (l : List Det) (s : (Nat → Nat → Int) × Nat), Mesh N s.1 → Fit N l → Mesh N (l.foldl app s).1
  | [], _, h, _ => h
  | d :: l, s, h, hf => by
    rw [List.foldl_cons]
    exact foldl_mesh l _ (app_mesh h (hf d (by simp))) (fun d' hd' => hf d' (by simp [hd']))
/-- A step, or the detour by v, where that is shorter. -/
def nearer (D : Nat → Nat → Int) (v a b : Nat) : Int := if a ≠ b ∧ DM.two (D a v) (D v b) < D a b then DM.two (D a v) (D v b) else D a b
/-- What lies there where all from vertices less than k, and those from k to vertices less than j, are taken. -/
def part (N : Nat) (D : Nat → Nat → Int) (v : Nat) (k j : Nat) : Nat → Nat → Int := fun a b => if (a < k ∨ a = k ∧ b < j) ∧ b < N then nearer D v a b else D a b
section
variable {N : Nat} {D : Nat → Nat → Int} {v : Nat}
theorem part_row (k : Nat) : part N D v (k + 1) 0 = part N D v k N := by
  funext a b
  unfold part
  by_cases e : (a < k + 1 ∨ a = k + 1 ∧ b < 0) ∧ b < N
  · rw [if_pos e, if_pos (by omega)]
  · rw [if_neg e, if_neg (by omega)]
theorem part_zero : part N D v 0 0 = D := by
  funext a b
  unfold part
  rw [if_neg (by omega)]
theorem part_cell {k j : Nat} : part N D v k j k j = D k j := by
  unfold part
  rw [if_neg (by omega)]
theorem part_step {k j : Nat} (hj : j < N) : part N D v k (j + 1) = NM.set2 (part N D v k j) k j (nearer D v k j) := by
  funext a b
  simp only [part, NM.set2]
  by_cases e : a = k ∧ b = j
  · rw [if_pos (by omega), if_pos e, e.1, e.2]
  · rw [if_neg e]
    by_cases e2 : (a < k ∨ a = k ∧ b < j + 1) ∧ b < N
    · rw [if_pos e2, if_pos (by omega)]
    · rw [if_neg e2, if_neg (by omega)]
theorem set2_same {T : Nat → Nat → Int} {k j : Nat} {x : Int} (h : T k j = x) : NM.set2 T k j x = T := by
  funext a b
  unfold NM.set2
  by_cases e : a = k ∧ b = j
  · rw [if_pos e, e.1, e.2, h]
  · rw [if_neg e]
theorem part_row_fold (h : Mesh N D) (k : Nat) : ∀ (j n : Nat), j ≤ N → ((detRow N D v k j).foldl app (part N D v k 0, n)).1 = part N D v k j
  | 0, _, _ => rfl
  | j + 1, n, hj => by
    unfold detRow
    rw [List.foldl_append]
    have ih := part_row_fold h k j n (by omega)
    rw [atE_nat h k v, atE_nat h v j]
    generalize (detRow N D v k j).foldl app (part N D v k 0, n) = s at *
    rw [part_step (show j < N by omega)]
    have hb := (h.ok.bd k j).2
    by_cases hh : k ≠ j ∧ DM.two (D k v) (D v j) < 4611686018427387906
    · rw [if_pos hh]
      show (app s _).1 = _
      unfold app
      dsimp only
      rw [ih, part_cell]
      by_cases hl : DM.two (D k v) (D v j) < D k j
      · rw [if_pos hl, show nearer D v k j = DM.two (D k v) (D v j) from if_pos ⟨hh.1, hl⟩]
      · rw [if_neg hl, ih, show nearer D v k j = D k j from if_neg (fun c => hl c.2)]
        exact (set2_same part_cell).symm
    · rw [if_neg hh]
      show s.1 = _
      rw [ih, show nearer D v k j = D k j from if_neg (fun c => hh ⟨c.1, by have := c.2; omega⟩)]
      exact (set2_same part_cell).symm
theorem part_fold (h : Mesh N D) : ∀ k, k ≤ N → (appAll D (dets N D v k)).1 = part N D v k 0
  | 0, _ => by
    show D = _
    rw [part_zero]
  | k + 1, hk => by
    have ih := part_fold h k (by omega)
    have e : appAll D (dets N D v (k + 1)) = (detRow N D v k N).foldl app (appAll D (dets N D v k)) := by
      unfold appAll
      rw [show dets N D v (k + 1) = dets N D v k ++ detRow N D v k N from rfl, List.foldl_append]
    rw [e]
    generalize appAll D (dets N D v k) = s at *
    obtain ⟨s1, s2⟩ := s
    have ih : s1 = part N D v k 0 := ih
    subst ih
    rw [part_row_fold h k N s2 (Nat.le_refl _), part_row]
/-- All detours by v, and v is left: v is contracted. -/
theorem leave_con (h : Mesh N D) : leave (appAll D (dets N D v N)).1 v = con D v := by
  rw [part_fold h N (Nat.le_refl _)]
  funext a b
  unfold leave con part
  split
  · rfl
  · rename_i hne
    by_cases e : (a < N ∨ a = N ∧ b < 0) ∧ b < N
    · rw [if_pos e]
      rfl
    · rw [if_neg e]
      have ba := h.ok.bd a b
      have b1 := h.ok.bd a v
      have b2 := h.ok.bd v b
      have ht := two_told b1 b2
      refine (if_neg (fun c => ?_)).symm
      have h2 := ht.1 (by omega)
      by_cases ha : a < N
      · exact h2.2 (h.out v b (.inr (by omega)))
      · exact h2.1 (h.out a v (.inl (by omega)))
theorem Mesh.con (h : Mesh N D) : Mesh N (con D v) := by
  rw [← leave_con h]
  exact leave_out (foldl_mesh _ _ h (dets_fit h N (Nat.le_refl _))) v
/-- A vertex that is gone stays so. -/
def Gone (D : Nat → Nat → Int) (v : Nat) : Prop := ∀ u, D u v = 4611686018427387906 ∧ D v u = 4611686018427387906
theorem gone_con (D : Nat → Nat → Int) (v : Nat) : Gone (XM.con D v) v := fun u => ⟨by unfold XM.con; rw [if_pos (.inr rfl)], by unfold XM.con; rw [if_pos (.inl rfl)]⟩
theorem Gone.con (h : Ok D) {x : Nat} (hg : Gone D x) (v : Nat) : Gone (XM.con D v) x := fun u => by
  have g1 := hg u
  have g2 := hg v
  have t1 : DM.two (D u v) (D v x) = 4611686018427387906 := by
    rw [two_comm]
    exact none_two (h.bd u v) g2.1
  have t2 : DM.two (D x v) (D v u) = 4611686018427387906 := none_two (h.bd v u) g2.2
  have b1 := h.bd u x
  have b2 := h.bd x u
  refine ⟨?_, ?_⟩
  · unfold XM.con
    split
    · rfl
    · rw [if_neg (fun c => by omega)]
      exact g1.1
  · unfold XM.con
    split
    · rfl
    · rw [if_neg (fun c => by omega)]
      exact g1.2
end
end XM
end Go.Proofs.YtkcfepppnclniaaGreatDoor
