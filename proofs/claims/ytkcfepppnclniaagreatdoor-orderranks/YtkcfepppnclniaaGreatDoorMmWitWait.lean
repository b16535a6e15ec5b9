/-
  WitWait, WitTouch.
-/
import Derived.Test.YtkcfepppnclniaaGreatDoorMmWitMath
import Derived.Test.YtkcfepppnclniaaGreatDoorMmBitsMath
import Derived.Test.YtkcfepppnclniaaGreatDoorMmStampMath
section
/-
  What waits while a search goes on (layer 13): each that may be settled, at its least sum; part way through the steps of the one settled last. Nothing of the program.
-/
namespace Go.Proofs.YtkcfepppnclniaaGreatDoor
namespace WM
/-- Between the rounds: what waits, and how far each is. -/
def Waits (N : Nat) (D : Nat → Nat → Int) (s : Nat) (W : Nat → Bool) (L : List (Nat × Int)) (hm : Nat → Option Int) : Prop :=
  ∀ w, (Free N W L w ∧ key D s L w < 4611686018427387906 → hm w = some (key D s L w)) ∧ (¬ (Free N W L w ∧ key D s L w < 4611686018427387906) → hm w = none)
section
variable {N : Nat} {D : Nat → Nat → Int} {s : Nat} {W : Nat → Bool} {L : List (Nat × Int)} {hm : Nat → Option Int} {v : Nat} {d : Int}
theorem Waits.some_of (h : Waits N D s W L hm) {w : Nat} {r : Int} (e : hm w = some r) : Free N W L w ∧ key D s L w = r ∧ r < 4611686018427387906 := by
  by_cases c : Free N W L w ∧ key D s L w < 4611686018427387906
  · have := (h w).1 c
    rw [e] at this
    have hr : r = key D s L w := Option.some.inj this
    exact ⟨c.1, hr.symm, by rw [hr]; exact c.2⟩
  · rw [(h w).2 c] at e
    cases e
theorem Waits.begin (hs : s < N) (hW : W s = false) : Waits N D s W [] (HM.upd (fun _ => none) s (some 0)) := by
  intro w
  unfold HM.upd key
  by_cases e : w = s
  · subst e
    rw [if_pos rfl, if_pos ⟨rfl, rfl⟩]
    exact ⟨fun _ => rfl, fun h => absurd ⟨⟨hs, hW, has_nil w⟩, by decide⟩ h⟩
  · rw [if_neg e, if_neg (fun c => e c.2)]
    exact ⟨fun h => absurd h.2 (by rw [sum_nil]; decide), fun _ => rfl⟩
/-- The first one that waits is settled next. -/
theorem Waits.next (h : Waits N D s W L hm) (hf : HM.IsFirst HM.TI hm (v, d)) : Next N D s W L v d := by
  obtain ⟨h1, h2⟩ := hf
  dsimp only at h1 h2
  obtain ⟨f, k, l⟩ := h.some_of h1
  have hle : ∀ w, Free N W L w → d ≤ key D s L w := fun w hw => by
    by_cases c : key D s L w < 4611686018427387906
    · have := h2 w _ ((h w).1 ⟨hw, c⟩)
      rw [not_or] at this
      have h3 : ¬ key D s L w < d := by simpa [HM.TI] using this.1
      omega
    · have := key_bd D s L w
      omega
  refine ⟨f, k, l, hle, fun w hw he => ?_⟩
  have := h2 w _ ((h w).1 ⟨hw, by omega⟩)
  rw [not_or] at this
  exact Nat.not_lt.1 fun c => this.2 ⟨he, c⟩
/-- Where none waits, nothing more may be settled. -/
theorem Waits.stuck (h : Waits N D s W L hm) (h0 : ∀ w, hm w = none) (X : Int) : Stuck N D s W X L := by
  intro v d hn
  have := (h v).1 ⟨hn.free, by rw [hn.is]; exact hn.lt⟩
  rw [h0] at this
  cases this
/-- Part way through the steps of the one settled last: the vertices in G have come. -/
def Mid (N : Nat) (D : Nat → Nat → Int) (W : Nat → Bool) (L : List (Nat × Int)) (x : Nat × Int) (G : Nat → Prop) (hm : Nat → Option Int) : Prop :=
  ∀ w, (Free N W (L ++ [x]) w → (G w → hm w = if sum D (L ++ [x]) w < 4611686018427387906 then some (sum D (L ++ [x]) w) else none) ∧ (¬ G w → hm w = if sum D L w < 4611686018427387906 then some (sum D L w) else none)) ∧ (¬ Free N W (L ++ [x]) w → hm w = none)
theorem free_snoc {x : Nat × Int} {w : Nat} : Free N W (L ++ [x]) w ↔ Free N W L w ∧ x.1 ≠ w := by
  unfold Free
  rw [has_snoc, Bool.or_eq_false_iff]
  constructor
  · rintro ⟨a, b, c, e⟩
    exact ⟨⟨a, b, c⟩, by simpa using e⟩
  · rintro ⟨⟨a, b, c⟩, e⟩
    exact ⟨a, b, c, by simpa using e⟩
/-- The first one comes out, and is settled; none of its steps has come. -/
theorem Waits.out (h : Waits N D s W L hm) (hn : Next N D s W L v d) (hs : s < N) (hW : W s = false) : Mid N D W L (v, d) (fun _ => False) (HM.upd hm v none) := by
  intro w
  unfold HM.upd
  refine ⟨fun hf => ⟨fun g => g.elim, fun _ => ?_⟩, fun hf => ?_⟩
  · rw [free_snoc] at hf
    rw [if_neg (fun e => hf.2 e.symm)]
    have hk : key D s L w = sum D L w := by
      unfold key
      split
      · rename_i e
        exfalso
        -- the first one is settled first
        have h0 : key D s L s = 0 := if_pos ⟨e.1, rfl⟩
        have h1 := hn.le s ⟨hs, hW, by rw [e.1]; rfl⟩
        have h2 := hn.is
        have h3 := key_bd D s L v
        rw [h0] at h1
        have hv : key D s L v = 0 := by omega
        unfold key at hv
        split at hv
        · rename_i e2
          exact hf.2 (e2.2.trans e.2.symm)
        · rw [e.1, sum_nil] at hv
          cases hv
      · rfl
    have := h w
    rw [hk] at this
    by_cases c : sum D L w < 4611686018427387906
    · rw [if_pos c]; exact this.1 ⟨hf.1, c⟩
    · rw [if_neg c]; exact this.2 (fun e => c e.2)
  · by_cases e : w = v
    · rw [if_pos e]
    · rw [if_neg e]
      exact (h w).2 (fun c => hf (free_snoc.2 ⟨c.1, fun e2 => e e2.symm⟩))
/-- All its steps have come. -/
theorem Mid.done {x : Nat × Int} {G : Nat → Prop} (h : Mid N D W L x G hm) (hx : 0 ≤ x.2 ∧ x.2 ≤ 4611686018427387906) (hG : ∀ w, w < N → ¬ G w → D x.1 w = 4611686018427387906) : Waits N D s W (L ++ [x]) hm := by
  intro w
  rw [key_ne w (by simp : L ++ [x] ≠ [])]
  by_cases hf : Free N W (L ++ [x]) w
  · have hh := (h w).1 hf
    have he : hm w = if sum D (L ++ [x]) w < 4611686018427387906 then some (sum D (L ++ [x]) w) else none := by
      by_cases g : G w
      · exact hh.1 g
      · have hs : sum D (L ++ [x]) w = sum D L w := by
          rw [sum_snoc, hG w hf.1 g]
          have ht : DM.two x.2 4611686018427387906 = 4611686018427387906 := by
            rw [NM.two_comm]
            exact XM.none_two hx rfl
          rw [ht]
          unfold low
          have := (sum_bd D w L).2
          rw [if_neg (by omega)]
        rw [hs]
        exact hh.2 g
    refine ⟨fun c => by rw [he, if_pos c.2], fun c => by rw [he, if_neg (fun c2 => c ⟨hf, c2⟩)]⟩
  · exact ⟨fun c => absurd c.1 hf, fun _ => (h w).2 hf⟩
/-- One step more comes, to a vertex that may be settled: it waits at the less of both. -/
theorem Mid.come {x : Nat × Int} {G : Nat → Prop} (h : Mid N D W L x G hm) {u : Nat} (hu : ¬ G u) (hf : Free N W (L ++ [x]) u) : hm u = (if sum D L u < 4611686018427387906 then some (sum D L u) else none) ∧ Mid N D W L x (fun w => G w ∨ w = u) (HM.upd hm u (if sum D (L ++ [x]) u < 4611686018427387906 then some (sum D (L ++ [x]) u) else none)) := by
  refine ⟨((h u).1 hf).2 hu, fun w => ?_⟩
  unfold HM.upd
  by_cases e : w = u
  · subst e
    rw [if_pos rfl]
    exact ⟨fun _ => ⟨fun _ => rfl, fun c => absurd (.inr rfl) c⟩, fun c => absurd hf c⟩
  · rw [if_neg e]
    refine ⟨fun c => ⟨fun g => ((h w).1 c).1 (g.resolve_right e), fun g => ((h w).1 c).2 (fun g' => g (.inl g'))⟩, fun c => (h w).2 c⟩
/-- One step more comes, to one that may not, or is settled. -/
theorem Mid.skip {x : Nat × Int} {G : Nat → Prop} (h : Mid N D W L x G hm) {u : Nat} (hf : ¬ Free N W (L ++ [x]) u) : Mid N D W L x (fun w => G w ∨ w = u) hm := by
  intro w
  refine ⟨fun c => ?_, (h w).2⟩
  have e : w ≠ u := fun e => hf (e ▸ c)
  exact ⟨fun g => ((h w).1 c).1 (g.resolve_right e), fun g => ((h w).1 c).2 (fun g' => g (.inl g'))⟩
end
end WM
end Go.Proofs.YtkcfepppnclniaaGreatDoor
end

section
/-
  What is touched, as a set: part way through the steps of the vertex settled last, and behind them; what waits, alike (layer 13).
-/
namespace Go.Proofs.YtkcfepppnclniaaGreatDoor
namespace WM
theorem has_bit {T u : Nat} (hu : u < 64) : BM.has T (u : Int) = T.testBit u := by
  unfold BM.has
  rw [decide_eq_true (show (0 : Int) ≤ u ∧ (u : Int) < 64 by omega), Bool.true_and, Int.toNat_natCast]
theorem has_hi {T u : Nat} (hu : 64 ≤ u) : BM.has T (u : Int) = false := by
  unfold BM.has
  rw [decide_eq_false (show ¬ ((0 : Int) ≤ u ∧ (u : Int) < 64) by omega), Bool.false_and]
theorem has_with (T u v : Nat) (hv : v < 64) : BM.has (T ||| BM.only (v : Int)) (u : Int) = (BM.has T (u : Int) || decide (u = v)) := by
  by_cases hu : u < 64
  · rw [has_bit hu, has_bit hu, BM.with_bit _ _ hu]
    congr 1
    rw [Bool.eq_iff_iff, decide_eq_true_iff, decide_eq_true_iff]
    omega
  · rw [has_hi (by omega), has_hi (by omega), decide_eq_false (by omega)]
    rfl
theorem with_small {T v : Nat} (hT : T < 16777216) (hv : v < 24) : T ||| BM.only (v : Int) < 16777216 := by
  refine Nat.or_lt_two_pow (n := 24) hT ?_
  unfold BM.only
  rw [if_pos (by omega), Int.toNat_natCast]
  exact Nat.pow_lt_pow_right (by decide) hv
section
variable {N : Nat} {D : Nat → Nat → Int} {W : Nat → Bool} {L pre : List (Nat × Int)} {T v u : Nat} {d x : Int}
/-- The set T tells what is touched. -/
def TT (N : Nat) (D : Nat → Nat → Int) (W : Nat → Bool) (L : List (Nat × Int)) (T : Nat) : Prop := T < 16777216 ∧ ∀ u : Nat, BM.has T (u : Int) = true ↔ Tch N D W L u
/-- The same where v is settled, and the steps in pre have come. -/
def TP (N : Nat) (D : Nat → Nat → Int) (W : Nat → Bool) (L : List (Nat × Int)) (v : Nat) (pre : List (Nat × Int)) (T : Nat) : Prop :=
  T < 16777216 ∧ ∀ u : Nat, BM.has T (u : Int) = true ↔ (Tch N D W L u ∨ u = v ∨ (W u = false ∧ has pre u = true))
theorem TT.zero : TT N D W [] 0 := by
  refine ⟨by decide, fun u => ?_⟩
  have e : BM.has 0 (u : Int) = false := by
    by_cases hu : u < 64
    · rw [has_bit hu, Nat.zero_testBit]
    · exact has_hi (by omega)
  rw [e]
  refine ⟨fun h => (by cases h), fun h => ?_⟩
  rcases h.2 with h | ⟨_, x, hx, _⟩
  · cases h
  · cases hx
theorem TT.settle (h : TT N D W L T) (hv : v < 24) : TP N D W L v [] (T ||| BM.only (v : Int)) := by
  refine ⟨with_small h.1 hv, fun u => ?_⟩
  rw [has_with _ _ _ (by omega), Bool.or_eq_true, h.2 u, decide_eq_true_iff]
  refine ⟨fun e => e.imp id .inl, fun e => ?_⟩
  rcases e with e | e | ⟨_, e⟩
  · exact .inl e
  · exact .inr e
  · cases e
theorem TP.step (h : TP N D W L v pre T) (hu : u < 24) (hW : W u = false) : TP N D W L v (pre ++ [(u, x)]) (T ||| BM.only (u : Int)) := by
  refine ⟨with_small h.1 hu, fun y => ?_⟩
  rw [has_with _ _ _ (by omega), Bool.or_eq_true, h.2 y, decide_eq_true_iff, has_snoc, Bool.or_eq_true, beq_iff_eq]
  constructor
  · rintro ((e | e | ⟨e1, e2⟩) | rfl)
    · exact .inl e
    · exact .inr (.inl e)
    · exact .inr (.inr ⟨e1, .inl e2⟩)
    · exact .inr (.inr ⟨hW, .inr rfl⟩)
  · rintro (e | e | ⟨e1, e2 | e2⟩)
    · exact .inl (.inl e)
    · exact .inl (.inr (.inl e))
    · exact .inl (.inr (.inr ⟨e1, e2⟩))
    · exact .inr e2.symm
theorem TP.skip (h : TP N D W L v pre T) (hW : W u = true) : TP N D W L v (pre ++ [(u, x)]) T := by
  refine ⟨h.1, fun y => ?_⟩
  rw [h.2 y, has_snoc, Bool.or_eq_true, beq_iff_eq]
  constructor
  · rintro (e | e | ⟨e1, e2⟩)
    · exact .inl e
    · exact .inr (.inl e)
    · exact .inr (.inr ⟨e1, .inl e2⟩)
  · rintro (e | e | ⟨e1, e2 | e2⟩)
    · exact .inl e
    · exact .inr (.inl e)
    · exact .inr (.inr ⟨e1, e2⟩)
    · rw [← e2, hW] at e1
      cases e1
/-- Who has a step from v. -/
theorem has_steps (hm : XM.Mesh N D) (v : Nat) (u : Nat) : has (XM.steps N D (v : Int) false N) u = true ↔ u < N ∧ D v u < 4611686018427387906 := by
  rw [has_iff]
  constructor
  · rintro ⟨x, hx, rfl⟩
    obtain ⟨h1, h2, h3⟩ := XM.steps_mem hx
    have e : XM.dirE N D (v : Int) false (x.1 : Nat) = D v x.1 := XM.atE_nat hm v x.1
    rw [e] at h2
    have := (hm.ok.1 v x.1).2
    exact ⟨h1, by omega⟩
  · rintro ⟨h1, h2⟩
    have e : XM.dirE N D (v : Int) false (u : Nat) = D v u := XM.atE_nat hm v u
    have h3 := XM.steps_take (N := N) (D := D) (v := (v : Int)) (back := false) (k := u) (by rw [e]; omega)
    have h4 := XM.steps_pre (N := N) (D := D) (v := (v : Int)) (back := false) (show u + 1 ≤ N by omega)
    exact ⟨(u, XM.dirE N D (v : Int) false (u : Nat)), h4.subset (by rw [h3]; simp), rfl⟩
/-- All steps have come. -/
theorem TP.done (hm : XM.Mesh N D) (h : TP N D W L v (XM.steps N D (v : Int) false N) T) (hv : v < N) : TT N D W (L ++ [(v, d)]) T := by
  refine ⟨h.1, fun u => ?_⟩
  rw [h.2 u, has_steps hm]
  unfold Tch
  rw [has_snoc, Bool.or_eq_true, beq_iff_eq]
  constructor
  · rintro (⟨e0, e | ⟨e1, y, hy, e2⟩⟩ | rfl | ⟨e1, e2, e3⟩)
    · exact ⟨e0, .inl (.inl e)⟩
    · exact ⟨e0, .inr ⟨e1, y, by simp [hy], e2⟩⟩
    · exact ⟨hv, .inl (.inr rfl)⟩
    · exact ⟨e2, .inr ⟨e1, (v, d), by simp, e3⟩⟩
  · rintro ⟨e0, (e | e) | ⟨e1, y, hy, e2⟩⟩
    · exact .inl ⟨e0, .inl e⟩
    · exact .inr (.inl e.symm)
    · rcases List.mem_append.1 hy with h1 | h1
      · exact .inl ⟨e0, .inr ⟨e1, y, h1, e2⟩⟩
      · rw [List.mem_singleton.1 h1] at e2
        exact .inr (.inr ⟨e1, e0, e2⟩)
theorem Mid.congr {z : Nat × Int} {G G' : Nat → Prop} {hm : Nat → Option Int} (h : Mid N D W L z G hm) (hG : ∀ w, G w ↔ G' w) : Mid N D W L z G' hm := by
  have e : G = G' := funext fun w => propext (hG w)
  rwa [← e]
/-- The steps in pre have come. -/
def MidL (N : Nat) (D : Nat → Nat → Int) (W : Nat → Bool) (L : List (Nat × Int)) (z : Nat × Int) (pre : List (Nat × Int)) (hm : Nat → Option Int) : Prop := Mid N D W L z (fun w => has pre w = true) hm
theorem midL_snoc {z : Nat × Int} {hm : Nat → Option Int} (h : Mid N D W L z (fun w => has pre w = true ∨ w = u) hm) : MidL N D W L z (pre ++ [(u, x)]) hm := h.congr fun w => by
  rw [has_snoc, Bool.or_eq_true, beq_iff_eq]
  exact ⟨fun e => e.imp id Eq.symm, fun e => e.imp id Eq.symm⟩
/-- Whichever vertex a step leads to: what becomes of what waits. -/
theorem MidL.skip {z : Nat × Int} {hm : Nat → Option Int} (h : MidL N D W L z pre hm) (hf : ¬ Free N W (L ++ [z]) u) : MidL N D W L z (pre ++ [(u, x)]) hm := midL_snoc (Mid.skip h hf)
/-- One that may be settled: what the heap answers. -/
theorem MidL.come {z : Nat × Int} {hm : Nat → Option Int} (h : MidL N D W L z pre hm) (hu : has pre u = false) (hf : Free N W (L ++ [z]) u) (hz : 0 ≤ z.2 ∧ z.2 < 4611686018427387906) (hD : 0 ≤ D z.1 u ∧ D z.1 u < 4611686018427387906) :
    MidL N D W L z (pre ++ [(u, x)]) (HM.put HM.TI N hm (u : Int) (DM.two z.2 (D z.1 u))) := by
  obtain ⟨h1, h2⟩ := Mid.come h (u := u) (by rw [hu]; decide) hf
  have h3 : MidL N D W L z (pre ++ [(u, x)]) _ := midL_snoc h2
  rw [sum_snoc] at h3
  have hb := sum_bd D u L
  have ht : DM.two z.2 (D z.1 u) < 4611686018427387906 := by
    have h4 := (XM.two_told (a := z.2) (b := D z.1 u) ⟨hz.1, by omega⟩ ⟨hD.1, by omega⟩).2 ⟨by omega, by omega⟩
    exact h4
  have e : HM.put HM.TI N hm (u : Int) (DM.two z.2 (D z.1 u)) = HM.upd hm u (if low (sum D L u) (DM.two z.2 (D z.1 u)) < 4611686018427387906 then some (low (sum D L u) (DM.two z.2 (D z.1 u))) else none) := by
    have hr : (0 : Int) ≤ u ∧ (u : Int) < N := by have := hf.1; omega
    by_cases c : sum D L u < 4611686018427387906
    · rw [if_pos c] at h1
      by_cases c2 : DM.two z.2 (D z.1 u) < sum D L u
      · have hc : HM.code HM.TI N hm (u : Int) (DM.two z.2 (D z.1 u)) = 0 := by
          unfold HM.code
          rw [if_pos hr, Int.toNat_natCast, h1]
          exact if_pos (by simpa [HM.TI] using c2)
        unfold HM.put
        rw [if_pos hc, Int.toNat_natCast]
        unfold low
        rw [if_pos c2, if_pos ht]
      · have hc : HM.code HM.TI N hm (u : Int) (DM.two z.2 (D z.1 u)) = 5 := by
          unfold HM.code
          rw [if_pos hr, Int.toNat_natCast, h1]
          exact if_neg (by simpa [HM.TI] using c2)
        unfold HM.put
        rw [if_neg (by rw [hc]; decide)]
        unfold low
        rw [if_neg c2, if_pos c]
        funext w
        unfold HM.upd
        by_cases e : w = u
        · rw [if_pos e, e, h1]
        · rw [if_neg e]
    · rw [if_neg c] at h1
      have hc : HM.code HM.TI N hm (u : Int) (DM.two z.2 (D z.1 u)) = 0 := by
        unfold HM.code
        rw [if_pos hr, Int.toNat_natCast, h1]
      unfold HM.put
      rw [if_pos hc, Int.toNat_natCast]
      have hl : low (sum D L u) (DM.two z.2 (D z.1 u)) = DM.two z.2 (D z.1 u) := if_pos (by omega)
      rw [hl, if_pos ht]
  rw [e]
  exact h3
/-- All steps have come. -/
theorem MidL.done {s : Nat} {hm : Nat → Option Int} (hmm : XM.Mesh N D) (h : MidL N D W L (v, d) (XM.steps N D (v : Int) false N) hm) (hd : 0 ≤ d ∧ d ≤ 4611686018427387906) : Waits N D s W (L ++ [(v, d)]) hm :=
  Mid.done h hd fun w hw hG => by
    rw [has_steps hmm] at hG
    have := (hmm.ok.1 v w).2
    show D v w = _
    have : ¬ D v w < 4611686018427387906 := fun c => hG ⟨hw, c⟩
    omega
/-- What is noted of what is settled. -/
def noted (L : List (Nat × Int)) (k : Nat → Option Int) : Prop := (∀ x ∈ L, k x.1 = some x.2) ∧ ∀ u, (k u).isSome = has L u
theorem noted_nil : noted [] (fun _ => none) := ⟨fun x h => (by cases h), fun u => rfl⟩
theorem noted_snoc {k : Nat → Option Int} (h : noted L k) (hv : has L v = false) : noted (L ++ [(v, d)]) (SM.upd k v (some d)) := by
  refine ⟨fun x hx => ?_, fun u => ?_⟩
  · unfold SM.upd
    rcases List.mem_append.1 hx with e | e
    · rw [if_neg (fun e2 => ?_)]
      · exact h.1 x e
      · have := has_iff.2 ⟨x, e, e2⟩
        rw [hv] at this
        cases this
    · rw [List.mem_singleton.1 e]
      exact if_pos rfl
  · unfold SM.upd
    rw [has_snoc]
    by_cases e : u = v
    · rw [if_pos e, e]
      simp
    · rw [if_neg e, h.2 u]
      have : ((v, d).1 == u) = false := beq_eq_false_iff_ne.2 (fun e2 => e e2.symm)
      rw [this, Bool.or_false]
end
end WM
end Go.Proofs.YtkcfepppnclniaaGreatDoor
end
