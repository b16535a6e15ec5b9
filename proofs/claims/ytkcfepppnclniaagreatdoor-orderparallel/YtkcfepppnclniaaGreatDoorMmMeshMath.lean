/-
  Meshes: how far it is by any steps; a vertex that is contracted; a table of how far it is, by ever more vertices. Nothing of the program.
-/
import Derived.Test.YtkcfepppnclniaaGreatDoorMmWalkMath
namespace Go.Proofs.YtkcfepppnclniaaGreatDoor
namespace XM
open NM (two_cases two_mono two_l two_r two_comm two_assoc two_zero zero_two)

/-- Where these steps end. -/
def endOf (u : Nat) : List Nat → Nat
  | [] => u
  | v :: vs => endOf v vs
/-- How long they are. -/
def cost (D : Nat → Nat → Int) (u : Nat) : List Nat → Int
  | [] => 0
  | v :: vs => DM.two (D u v) (cost D v vs)
theorem cost_bd (D : Nat → Nat → Int) (u : Nat) : ∀ vs, 0 ≤ cost D u vs ∧ cost D u vs ≤ 4611686018427387906
  | [] => by unfold cost; decide
  | _ :: _ => DM.two_bd _ _
theorem endOf_append (u : Nat) : ∀ (xs ys : List Nat), endOf u (xs ++ ys) = endOf (endOf u xs) ys
  | [], _ => rfl
  | x :: xs, ys => endOf_append x xs ys
theorem cost_append (D : Nat → Nat → Int) (u : Nat) : ∀ (xs ys : List Nat), cost D u (xs ++ ys) = DM.two (cost D u xs) (cost D (endOf u xs) ys)
  | [], ys => by
    have b := cost_bd D u ys
    show cost D u ys = DM.two 0 (cost D u ys)
    rw [zero_two b.1 b.2]
  | x :: xs, ys => by
    show DM.two (D u x) (cost D x (xs ++ ys)) = DM.two (DM.two (D u x) (cost D x xs)) (cost D (endOf x xs) ys)
    rw [cost_append D x xs ys, two_assoc]
/-- Steps among the vertices below N, from u to b. -/
def Go (N u b : Nat) (vs : List Nat) : Prop := endOf u vs = b ∧ ∀ x ∈ vs, x < N
theorem go_nil (N u : Nat) : Go N u u [] := ⟨rfl, fun _ h => by cases h⟩
theorem go_cons {N u b v : Nat} {vs : List Nat} : Go N u b (v :: vs) ↔ v < N ∧ Go N v b vs :=
  ⟨fun h => ⟨h.2 v (by simp), h.1, fun x hx => h.2 x (by simp [hx])⟩, fun h => ⟨h.2.1, fun x hx => by
    rcases List.mem_cons.1 hx with e | e
    · rw [e]; exact h.1
    · exact h.2.2 x e⟩⟩
theorem go_append {N u b c : Nat} {xs ys : List Nat} (h : Go N u b xs) (k : Go N b c ys) : Go N u c (xs ++ ys) :=
  ⟨by rw [endOf_append, h.1, k.1], fun x hx => by
    rcases List.mem_append.1 hx with e | e
    · exact h.2 x e
    · exact k.2 x e⟩
/-- How far it is from u to b, by any steps. -/
structure Far (D : Nat → Nat → Int) (N u b : Nat) (x : Int) : Prop where
  lo : 0 ≤ x
  hi : x ≤ 4611686018427387906
  le : ∀ vs, Go N u b vs → x ≤ cost D u vs
  is : x = 4611686018427387906 ∨ ∃ vs, Go N u b vs ∧ cost D u vs = x
theorem Far.le_of {D : Nat → Nat → Int} {N u b : Nat} {x y : Int} (h : Far D N u b x) (hy : y = 4611686018427387906 ∨ ∃ vs, Go N u b vs ∧ cost D u vs ≤ y) : x ≤ y := by
  rcases hy with e | ⟨vs, h1, h2⟩
  · rw [e]; exact h.hi
  · exact Int.le_trans (h.le vs h1) h2
theorem Far.unique {D : Nat → Nat → Int} {N u b : Nat} {x y : Int} (h : Far D N u b x) (k : Far D N u b y) : x = y := by
  refine Int.le_antisymm (h.le_of ?_) (k.le_of ?_)
  · rcases k.is with e | ⟨vs, h1, h2⟩
    · exact .inl e
    · exact .inr ⟨vs, h1, by omega⟩
  · rcases h.is with e | ⟨vs, h1, h2⟩
    · exact .inl e
    · exact .inr ⟨vs, h1, by omega⟩
/-- Where each way of the one is no shorter than one of the other, and the other way round, it is as far. -/
theorem Far.same {D D' : Nat → Nat → Int} {N u b : Nat} {x : Int} (h : Far D N u b x) (h1 : ∀ vs, Go N u b vs → ∃ ws, Go N u b ws ∧ cost D' u ws ≤ cost D u vs) (h2 : ∀ vs, Go N u b vs → ∃ ws, Go N u b ws ∧ cost D u ws ≤ cost D' u vs) : Far D' N u b x := by
  have le : ∀ vs, Go N u b vs → x ≤ cost D' u vs := fun vs hv => by
    obtain ⟨ws, w1, w2⟩ := h2 vs hv
    exact Int.le_trans (h.le ws w1) w2
  refine ⟨h.lo, h.hi, le, ?_⟩
  rcases h.is with e | ⟨vs, v1, v2⟩
  · exact .inl e
  · obtain ⟨ws, w1, w2⟩ := h1 vs v1
    have := le ws w1
    exact .inr ⟨ws, w1, by omega⟩
/-- A mesh: lengths from 0 to None, none from a vertex to itself. -/
structure Ok (D : Nat → Nat → Int) : Prop where
  bd : ∀ u w, 0 ≤ D u w ∧ D u w ≤ 4611686018427387906
  self : ∀ u, D u u = 4611686018427387906
/-- Vertex v is contracted. -/
def con (D : Nat → Nat → Int) (v : Nat) : Nat → Nat → Int := fun u w =>
  if u = v ∨ w = v then 4611686018427387906 else if u ≠ w ∧ DM.two (D u v) (D v w) < D u w then DM.two (D u v) (D v w) else D u w
section
variable {D : Nat → Nat → Int}
theorem Ok.con (h : Ok D) (v : Nat) : Ok (con D v) := by
  refine ⟨fun u w => ?_, fun u => ?_⟩
  · unfold XM.con
    split
    · decide
    · split
      · exact DM.two_bd _ _
      · exact h.bd u w
  · unfold XM.con
    split
    · rfl
    · rw [if_neg (fun e => e.1 rfl)]
      exact h.self u
theorem con_le {v u w : Nat} (hu : u ≠ v) (hw : w ≠ v) : con D v u w ≤ D u w := by
  unfold con
  rw [if_neg (by omega)]
  split <;> omega
theorem con_two {v u w : Nat} (hu : u ≠ v) (hw : w ≠ v) (hn : u ≠ w) : con D v u w ≤ DM.two (D u v) (D v w) := by
  unfold con
  rw [if_neg (by omega)]
  split <;> omega
theorem con_is (v u w : Nat) : con D v u w = 4611686018427387906 ∨ con D v u w = D u w ∨ con D v u w = DM.two (D u v) (D v w) := by
  unfold con
  split
  · exact .inl rfl
  · split
    · exact .inr (.inr rfl)
    · exact .inr (.inl rfl)
theorem none_two {a b : Int} (hb : 0 ≤ b ∧ b ≤ 4611686018427387906) (ha : a = 4611686018427387906) : DM.two a b = 4611686018427387906 := by
  rw [ha]
  rcases two_cases (show (0 : Int) ≤ 4611686018427387906 by decide) (Int.le_refl _) hb.1 hb.2 with c | c | c <;> omega
/-- Each way among what is left stands for one of the whole mesh that is as long. -/
theorem con_up (h : Ok D) {N v b : Nat} (hv : v < N) : ∀ (vs : List Nat) (u : Nat), Go N u b vs → ∃ ws, Go N u b ws ∧ cost D u ws ≤ cost (con D v) u vs
  | [], u, hg => ⟨[], hg, Int.le_refl _⟩
  | w :: vs, u, hg => by
    obtain ⟨g1, g2⟩ := go_cons.1 hg
    obtain ⟨ws, k1, k2⟩ := con_up h hv vs w g2
    have bw := cost_bd D w ws
    have bv := cost_bd (con D v) w vs
    rcases con_is (D := D) v u w with e | e | e
    · refine ⟨w :: vs, hg, ?_⟩
      show _ ≤ DM.two (con D v u w) (cost (con D v) w vs)
      rw [none_two bv e]
      exact (cost_bd D u (w :: vs)).2
    · refine ⟨w :: ws, go_cons.2 ⟨g1, k1⟩, ?_⟩
      show DM.two (D u w) (cost D w ws) ≤ DM.two (con D v u w) (cost (con D v) w vs)
      rw [e]
      exact two_mono (h.bd u w).1 (Int.le_refl _) (h.bd u w).2 bw.1 k2 bv.2
    · refine ⟨v :: w :: ws, go_cons.2 ⟨hv, go_cons.2 ⟨g1, k1⟩⟩, ?_⟩
      show DM.two (D u v) (DM.two (D v w) (cost D w ws)) ≤ DM.two (con D v u w) (cost (con D v) w vs)
      rw [e, ← two_assoc]
      have b2 := DM.two_bd (D u v) (D v w)
      exact two_mono b2.1 (Int.le_refl _) b2.2 bw.1 k2 bv.2
/-- Each way of the whole mesh between two that are left has one among what is left that is no longer. -/
theorem con_down (h : Ok D) {N v b : Nat} (hb : b ≠ v) : ∀ (n : Nat) (vs : List Nat) (u : Nat), vs.length ≤ n → u ≠ v → Go N u b vs → ∃ ws, Go N u b ws ∧ cost (con D v) u ws ≤ cost D u vs
  | 0, vs, u, hn, hu, hg => by
    have h0 : vs.length = 0 := by omega
    obtain rfl := List.eq_nil_of_length_eq_zero h0
    exact ⟨[], hg, Int.le_refl _⟩
  | n + 1, [], u, hn, hu, hg => ⟨[], hg, Int.le_refl _⟩
  | n + 1, w :: vs, u, hn, hu, hg => by
    obtain ⟨g1, g2⟩ := go_cons.1 hg
    have hl : vs.length ≤ n := by simpa using hn
    have bv := cost_bd D w vs
    by_cases hw : w = v
    · subst hw
      match vs, hl, g2, bv with
      | [], _, g2, _ => exact absurd g2.1.symm hb
      | x :: xs, hl, g2, bv =>
        obtain ⟨g3, g4⟩ := go_cons.1 g2
        have bx := cost_bd D x xs
        have hc : cost D u (w :: x :: xs) = DM.two (DM.two (D u w) (D w x)) (cost D x xs) := by
          show DM.two (D u w) (DM.two (D w x) (cost D x xs)) = _
          rw [two_assoc]
        rw [hc]
        have b2 := DM.two_bd (D u w) (D w x)
        by_cases hx : x = w
        · -- from the vertex to itself there is none
          refine ⟨w :: x :: xs, hg, ?_⟩
          have e : DM.two (DM.two (D u w) (D w x)) (cost D x xs) = 4611686018427387906 := by
            refine none_two bx ?_
            rw [two_comm]
            exact none_two (h.bd u w) (by rw [hx]; exact h.self w)
          rw [e]
          exact (cost_bd _ _ _).2
        · by_cases hxu : x = u
          · -- there and back
            subst hxu
            obtain ⟨ws, k1, k2⟩ := con_down h hb n xs x (by simp at hl; omega) hu g4
            exact ⟨ws, k1, Int.le_trans k2 (two_r b2.1 b2.2 bx.1 bx.2)⟩
          · obtain ⟨ws, k1, k2⟩ := con_down h hb n xs x (by simp at hl; omega) hx g4
            have bw := cost_bd (con D w) x ws
            have h1 := con_two (D := D) hu hx (fun e => hxu e.symm)
            refine ⟨x :: ws, go_cons.2 ⟨g3, k1⟩, ?_⟩
            show DM.two (con D w u x) (cost (con D w) x ws) ≤ _
            exact two_mono ((h.con w).bd u x).1 h1 b2.2 bw.1 k2 bx.2
    · obtain ⟨ws, k1, k2⟩ := con_down h hb n vs w hl hw g2
      have bw := cost_bd (con D v) w ws
      refine ⟨w :: ws, go_cons.2 ⟨g1, k1⟩, ?_⟩
      show DM.two (con D v u w) (cost (con D v) w ws) ≤ DM.two (D u w) (cost D w vs)
      exact two_mono ((h.con v).bd u w).1 (con_le hu hw) (h.bd u w).2 bw.1 k2 bv.2
/-- P12.4: between two that are left it is as far as before. -/
theorem Far.con (h : Ok D) {N v u b : Nat} {x : Int} (hv : v < N) (hu : u ≠ v) (hb : b ≠ v) (hf : Far D N u b x) : Far (con D v) N u b x :=
  hf.same (fun vs hg => con_down h hb vs.length vs u (Nat.le_refl _) hu hg) (fun vs hg => con_up h hv vs u hg)
/-- Where all but two are contracted, the step is how far it is. -/
theorem Far.last (h : Ok D) {N a b : Nat} (hbN : b < N) (hab : a ≠ b) (hn : ∀ w, w ≠ b → D a w = 4611686018427387906) : Far D N a b (D a b) := by
  refine ⟨(h.bd a b).1, (h.bd a b).2, fun vs hg => ?_, .inr ⟨[b], go_cons.2 ⟨hbN, go_nil N b⟩, ?_⟩⟩
  · match vs, hg with
    | [], hg => exact absurd hg.1 hab
    | w :: ws, hg =>
      have bw := cost_bd D w ws
      show _ ≤ DM.two (D a w) (cost D w ws)
      by_cases e : w = b
      · rw [e] at bw ⊢
        exact two_l (h.bd a b).1 (h.bd a b).2 bw.1 bw.2
      · rw [none_two bw (hn w e)]
        exact (h.bd a b).2
  · show DM.two (D a b) 0 = D a b
    exact two_zero (h.bd a b).1 (h.bd a b).2
end

/-! By way of ever more vertices. -/
/-- All vertices in between are less than k. -/
def Mid (k : Nat) : List Nat → Prop
  | [] => True
  | [_] => True
  | v :: w :: vs => v < k ∧ Mid k (w :: vs)
theorem mid_cons {k v : Nat} (hv : v < k) : ∀ {p : List Nat}, Mid k p → Mid k (v :: p)
  | [], _ => trivial
  | _ :: _, h => ⟨hv, h⟩
theorem split {D : Nat → Nat → Int} (hD : ∀ u w, 0 ≤ D u w ∧ D u w ≤ 4611686018427387906) {N k b : Nat} : ∀ (vs : List Nat) {u : Nat}, Go N u b vs → Mid (k + 1) vs → Mid k vs ∨ ∃ p q, Go N u k p ∧ Mid k p ∧ Go N k b q ∧ Mid k q ∧ DM.two (cost D u p) (cost D k q) ≤ cost D u vs
  | [], _, _, _ => .inl trivial
  | [_], _, _, _ => .inl trivial
  | v :: w :: vs, u, h, hm => by
    obtain ⟨h1, h2⟩ := go_cons.1 h
    have ih := split hD (w :: vs) h2 hm.2
    have br := cost_bd D v (w :: vs)
    have bd := hD u v
    have e1 : cost D u [v] = D u v := by
      show DM.two (D u v) 0 = D u v
      exact two_zero bd.1 bd.2
    by_cases e : v = k
    · subst e
      rcases ih with h3 | ⟨p, q, p1, p2, q1, q2, hs⟩
      · refine .inr ⟨[v], w :: vs, go_cons.2 ⟨h1, go_nil N v⟩, trivial, h2, h3, ?_⟩
        rw [e1]
        exact Int.le_refl _
      · refine .inr ⟨[v], q, go_cons.2 ⟨h1, go_nil N v⟩, trivial, q1, q2, ?_⟩
        have bp := cost_bd D v p
        have bq := cost_bd D v q
        rw [e1]
        exact two_mono bd.1 (Int.le_refl _) bd.2 bq.1 (Int.le_trans (two_r bp.1 bp.2 bq.1 bq.2) hs) br.2
    · have hlt : v < k := by have := hm.1; omega
      rcases ih with h3 | ⟨p, q, p1, p2, q1, q2, hs⟩
      · exact .inl ⟨hlt, h3⟩
      · refine .inr ⟨v :: p, q, go_cons.2 ⟨h1, p1⟩, mid_cons hlt p2, q1, q2, ?_⟩
        have b2 := DM.two_bd (cost D v p) (cost D k q)
        show DM.two (DM.two (D u v) (cost D v p)) (cost D k q) ≤ DM.two (D u v) (cost D v (w :: vs))
        rw [two_assoc]
        exact two_mono bd.1 (Int.le_refl _) bd.2 b2.1 hs br.2
/-- A table of how far it is: each entry is a way's length, or None; none is more than a way by vertices below k, and, of those ahead of (s, t), by way of k too. -/
structure Fw (D : Nat → Nat → Int) (N k s t : Nat) (T : Nat → Nat → Int) : Prop where
  bd : ∀ a b, 0 ≤ T a b ∧ T a b ≤ 4611686018427387906
  is : ∀ a b : Nat, a < N → b < N → T a b = 4611686018427387906 ∨ ∃ vs, Go N a b vs ∧ cost D a vs = T a b
  le : ∀ a b : Nat, a < N → b < N → ∀ vs, Go N a b vs → Mid k vs → T a b ≤ cost D a vs
  up : ∀ a b : Nat, a < N → b < N → (a < s ∨ a = s ∧ b < t) → ∀ vs, Go N a b vs → Mid (k + 1) vs → T a b ≤ cost D a vs
section
variable {D T : Nat → Nat → Int} {N k s t : Nat}
theorem Fw.step (hD : ∀ u w, 0 ≤ D u w ∧ D u w ≤ 4611686018427387906) (h : Fw D N k s t T) (hk : k < N) (hs : s < N) (ht : t < N) (x : Int) (hx : x = if DM.two (T s k) (T k t) < T s t then DM.two (T s k) (T k t) else T s t) : Fw D N k s (t + 1) (NM.set2 T s t x) := by
  have b1 := h.bd s k
  have b2 := h.bd k t
  have b3 := DM.two_bd (T s k) (T k t)
  have b4 := h.bd s t
  have hle : x ≤ T s t := by rw [hx]; split <;> omega
  have hle2 : x ≤ DM.two (T s k) (T k t) := by rw [hx]; split <;> omega
  have hl : ∀ a b, NM.set2 T s t x a b ≤ T a b := fun a b => by
    unfold NM.set2
    split
    · rename_i e
      rw [e.1, e.2]
      exact hle
    · exact Int.le_refl _
  refine ⟨fun a b => ?_, fun a b ha hb => ?_, fun a b ha hb vs h1 h2 => Int.le_trans (hl a b) (h.le a b ha hb vs h1 h2), fun a b ha hb hab vs h1 h2 => ?_⟩
  · unfold NM.set2
    split
    · rw [hx]; split <;> omega
    · exact h.bd a b
  · unfold NM.set2
    split
    · rename_i e
      rw [e.1, e.2, hx]
      split
      · rename_i hlt
        rcases h.is s k hs hk with e1 | ⟨p, p1, p2⟩
        · rcases two_cases b1.1 b1.2 b2.1 b2.2 with c | c | c <;> omega
        · rcases h.is k t hk ht with e2 | ⟨q, q1, q2⟩
          · rcases two_cases b1.1 b1.2 b2.1 b2.2 with c | c | c <;> omega
          · exact .inr ⟨p ++ q, go_append p1 q1, by rw [cost_append, p2, p1.1, q2]⟩
      · exact h.is s t hs ht
    · exact h.is a b ha hb
  · by_cases e : a = s ∧ b = t
    · obtain ⟨rfl, rfl⟩ := e
      have e2 : NM.set2 T a b x a b = x := by unfold NM.set2; rw [if_pos ⟨rfl, rfl⟩]
      rw [e2]
      rcases split hD vs h1 h2 with h3 | ⟨p, q, p1, p2, q1, q2, hsum⟩
      · exact Int.le_trans hle (h.le a b ha hb vs h1 h3)
      · refine Int.le_trans hle2 (Int.le_trans ?_ hsum)
        exact two_mono b1.1 (h.le a k ha hk p p1 p2) (cost_bd D a p).2 b2.1 (h.le k b hk hb q q1 q2) (cost_bd D k q).2
    · refine Int.le_trans (hl a b) (h.up a b ha hb ?_ vs h1 h2)
      omega
theorem Fw.row (h : Fw D N k s N T) : Fw D N k (s + 1) 0 T := ⟨h.bd, h.is, h.le, fun a b ha hb hab => h.up a b ha hb (by omega)⟩
theorem Fw.phase (h : Fw D N k N 0 T) : Fw D N (k + 1) 0 0 T := ⟨h.bd, h.is, fun a b ha hb vs h1 h2 => h.up a b ha hb (.inl ha) vs h1 h2, fun a b _ _ hab => by omega⟩
theorem mid_all {N u b : Nat} : ∀ (vs : List Nat), Go N u b vs → Mid N vs := by
  intro vs
  induction vs generalizing u with
  | nil => intro _; trivial
  | cons v vs ih =>
    intro h
    obtain ⟨h1, h2⟩ := go_cons.1 h
    exact mid_cons h1 (ih h2)
theorem Fw.done (h : Fw D N N 0 0 T) {a b : Nat} (ha : a < N) (hb : b < N) : Far D N a b (T a b) :=
  ⟨(h.bd a b).1, (h.bd a b).2, fun vs hw => h.le a b ha hb vs hw (mid_all vs hw), h.is a b ha hb⟩
/-- The table at the beginning: the steps, and 0 from each vertex to itself. -/
theorem Fw.begin (hD : ∀ u w, 0 ≤ D u w ∧ D u w ≤ 4611686018427387906) : Fw D N 0 0 0 (fun a b => if a = b then 0 else D a b) := by
  refine ⟨fun a b => ?_, fun a b _ hb => ?_, fun a b _ _ vs h1 h2 => ?_, fun a b _ _ hab => by omega⟩
  · split
    · decide
    · exact hD a b
  · split
    · rename_i e
      exact .inr ⟨[], e ▸ go_nil N a, rfl⟩
    · exact .inr ⟨[b], go_cons.2 ⟨hb, go_nil N b⟩, by
        show DM.two (D a b) 0 = D a b
        exact two_zero (hD a b).1 (hD a b).2⟩
  · split
    · exact (cost_bd D a vs).1
    · rename_i hne
      match vs, h1, h2 with
      | [], h1, _ => exact absurd h1.1 hne
      | [v], h1, _ =>
        have e : v = b := h1.1
        subst e
        show D a v ≤ DM.two (D a v) 0
        rw [two_zero (hD a v).1 (hD a v).2]
        exact Int.le_refl _
      | v :: w :: ws, _, h2 => exact absurd h2.1 (by omega)
end
end XM
end Go.Proofs.YtkcfepppnclniaaGreatDoor
