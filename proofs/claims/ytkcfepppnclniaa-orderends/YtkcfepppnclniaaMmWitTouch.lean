/-
  WitTouch, WitSide.
-/
import Derived.Test.YtkcfepppnclniaaMmNStampMem
import Derived.Test.YtkcfepppnclniaaMmWalkDist
import Derived.Test.YtkcfepppnclniaaMmNHeapD
import Derived.Test.YtkcfepppnclniaaMmNHeapN
import Derived.Test.YtkcfepppnclniaaMmNHeapBI
import Derived.Test.YtkcfepppnclniaaMmMeshMem
import Derived.Test.YtkcfepppnclniaaMmGraphMem
import Derived.Test.YtkcfepppnclniaaMmMeshPut
import Derived.Deep.RegionHeld3
import Derived.BigQuiet
import Derived.Deep.QuietTactic
section
/-
  What is touched, as a set: part way through the steps of the vertex settled last, and behind them; what waits, alike (layer 13).
-/
namespace Go.Proofs.Ytkcfepppnclniaa
namespace WM
theorem has_bit {T u : Nat} (hu : u < 64) : BM.has T (u : Int) = T.testBit u := by
  unfold BM.has
  rw [decide_eq_true (show (0 : Int) ≤ u ∧ (u : Int) < 64 by omega), Bool.true_and, Int.toNat_natCast]
theorem has_hi {T u : Nat} (hu : 64 ≤ u) : BM.has T (u : Int) = false := by
  unfold BM.has
  rw [decide_eq_false (show ¬ ((0 : Int) ≤ u ∧ (u : Int) < 64) by omega), Bool.false_and]
theorem has_with (T u v : Nat) (hv : v < 64) : BM.has (T ||| BM.only (v : Int)) (u : Int) = (BM.has T (u : Int) || decide (u = v)) := by
  by_cases hu : u < 64
  · rw [has_bit hu, has_bit hu, BM.with_bit _ _ hu]
    congr 1
    rw [Bool.eq_iff_iff, decide_eq_true_iff, decide_eq_true_iff]
    omega
  · rw [has_hi (by omega), has_hi (by omega), decide_eq_false (by omega)]
    rfl
theorem with_small {T v : Nat} (hT : T < 16777216) (hv : v < 24) : T ||| BM.only (v : Int) < 16777216 := by
  refine Nat.or_lt_two_pow (n := 24) hT ?_
  unfold BM.only
  rw [if_pos (by omega), Int.toNat_natCast]
  exact Nat.pow_lt_pow_right (by decide) hv
section
variable {N : Nat} {D : Nat → Nat → Int} {W : Nat → Bool} {L pre : List (Nat × Int)} {T v u : Nat} {d x : Int}
/-- The set T tells what is touched. -/
def TT (N : Nat) (D : Nat → Nat → Int) (W : Nat → Bool) (L : List (Nat × Int)) (T : Nat) : Prop := T < 16777216 ∧ ∀ u : Nat, BM.has T (u : Int) = true ↔ Tch N D W L u
/-- The same where v is settled, and the steps in pre have come. -/
def TP (N : Nat) (D : Nat → Nat → Int) (W : Nat → Bool) (L : List (Nat × Int)) (v : Nat) (pre : List (Nat × Int)) (T : Nat) : Prop :=
  T < 16777216 ∧ ∀ u : Nat, BM.has T (u : Int) = true ↔ (Tch N D W L u ∨ u = v ∨ (W u = false ∧ has pre u = true))
theorem TT.zero : TT N D W [] 0 := by
  refine ⟨by decide, fun u => ?_⟩
  have e : BM.has 0 (u : Int) = false := by
    by_cases hu : u < 64
    · rw [has_bit hu, Nat.zero_testBit]
    · exact has_hi (by omega)
  rw [e]
  refine ⟨fun h => (by cases h), fun h => ?_⟩
  rcases h.2 with h | ⟨_, x, hx, _⟩
  · cases h
  · cases hx
theorem TT.settle (h : TT N D W L T) (hv : v < 24) : TP N D W L v [] (T ||| BM.only (v : Int)) := by
  refine ⟨with_small h.1 hv, fun u => ?_⟩
  rw [has_with _ _ _ (by omega), Bool.or_eq_true, h.2 u, decide_eq_true_iff]
  refine ⟨fun e => e.imp id .inl, fun e => ?_⟩
  rcases e with e | e | ⟨_, e⟩
  · exact .inl e
  · exact .inr e
  · cases e
theorem TP.step (h : TP N D W L v pre T) (hu : u < 24) (hW : W u = false) : TP N D W L v (pre ++ [(u, x)]) (T ||| BM.only (u : Int)) := by
  refine ⟨with_small h.1 hu, fun y => ?_⟩
  rw [has_with _ _ _ (by omega), Bool.or_eq_true, h.2 y, decide_eq_true_iff, has_snoc, Bool.or_eq_true, beq_iff_eq]
  constructor
  · rintro ((e | e | ⟨e1, e2⟩) | rfl)
    · exact .inl e
    · exact .inr (.inl e)
    · exact .inr (.inr ⟨e1, .inl e2⟩)
    · exact .inr (.inr ⟨hW, .inr rfl⟩)
  · rintro (e | e | ⟨e1, e2 | e2⟩)
    · exact .inl (.inl e)
    · exact .inl (.inr (.inl e))
    · exact .inl (.inr (.inr ⟨e1, e2⟩))
    · exact .inr e2.symm
theorem TP.skip (h : TP N D W L v pre T) (hW : W u = true) : TP N D W L v (pre ++ [(u, x)]) T := by
  refine ⟨h.1, fun y => ?_⟩
  rw [h.2 y, has_snoc, Bool.or_eq_true, beq_iff_eq]
  constructor
  · rintro (e | e | ⟨e1, e2⟩)
    · exact .inl e
    · exact .inr (.inl e)
    · exact .inr (.inr ⟨e1, .inl e2⟩)
  · rintro (e | e | ⟨e1, e2 | e2⟩)
    · exact .inl e
    · exact .inr (.inl e)
    · exact .inr (.inr ⟨e1, e2⟩)
    · rw [← e2, hW] at e1
      cases e1
/-- Who has a step from v. -/
theorem has_steps (hm : XM.Mesh N D) (v : Nat) (u : Nat) : has (XM.steps N D (v : Int) false N) u = true ↔ u < N ∧ D v u < 4611686018427387906 := by
  rw [has_iff]
  constructor
  · rintro ⟨x, hx, rfl⟩
    obtain ⟨h1, h2, h3⟩ := XM.steps_mem hx
    have e : XM.dirE N D (v : Int) false (x.1 : Nat) = D v x.1 := XM.atE_nat hm v x.1
    rw [e] at h2
    have := (hm.ok.1 v x.1).2
    exact ⟨h1, by omega⟩
  · rintro ⟨h1, h2⟩
    have e : XM.dirE N D (v : Int) false (u : Nat) = D v u := XM.atE_nat hm v u
    have h3 := XM.steps_take (N := N) (D := D) (v := (v : Int)) (back := false) (k := u) (by rw [e]; omega)
    have h4 := XM.steps_pre (N := N) (D := D) (v := (v : Int)) (back := false) (show u + 1 ≤ N by omega)
    exact ⟨(u, XM.dirE N D (v : Int) false (u : Nat)), h4.subset (by rw [h3]; simp), rfl⟩
/-- All steps have come. -/
theorem TP.done (hm : XM.Mesh N D) (h : TP N D W L v (XM.steps N D (v : Int) false N) T) (hv : v < N) : TT N D W (L ++ [(v, d)]) T := by
  refine ⟨h.1, fun u => ?_⟩
  rw [h.2 u, has_steps hm]
  unfold Tch
  rw [has_snoc, Bool.or_eq_true, beq_iff_eq]
  constructor
  · rintro (⟨e0, e | ⟨e1, y, hy, e2⟩⟩ | rfl | ⟨e1, e2, e3⟩)
    · exact ⟨e0, .inl (.inl e)⟩
    · exact ⟨e0, .inr ⟨e1, y, by simp [hy], e2⟩⟩
    · exact ⟨hv, .inl (.inr rfl)⟩
    · exact ⟨e2, .inr ⟨e1, (v, d), by simp, e3⟩⟩
  · rintro ⟨e0, (e | e) | ⟨e1, y, hy, e2⟩⟩
    · exact .inl ⟨e0, .inl e⟩
    · exact .inr (.inl e.symm)
    · rcases List.mem_append.1 hy with h1 | h1
      · exact .inl ⟨e0, .inr ⟨e1, y, h1, e2⟩⟩
      · rw [List.mem_singleton.1 h1] at e2
        exact .inr (.inr ⟨e1, e0, e2⟩)
theorem Mid.congr {z : Nat × Int} {G G' : Nat → Prop} {hm : Nat → Option Int} (h : Mid N D W L z G hm) (hG : ∀ w, G w ↔ G' w) : Mid N D W L z G' hm := by
  have e : G = G' := funext fun w => propext (hG w)
  rwa [← e]
/-- The steps in pre have come. -/
def MidL (N : Nat) (D : Nat → Nat → Int) (W : Nat → Bool) (L : List (Nat × Int)) (z : Nat × Int) (pre : List (Nat × Int)) (hm : Nat → Option Int) : Prop := Mid N D W L z (fun w => has pre w = true) hm
theorem midL_snoc {z : Nat × Int} {hm : Nat → Option Int} (h : Mid N D W L z (fun w => has pre w = true ∨ w = u) hm) : MidL N D W L z (pre ++ [(u, x)]) hm := h.congr fun w => by
  rw [has_snoc, Bool.or_eq_true, beq_iff_eq]
  exact ⟨fun e => e.imp id Eq.symm, fun e => e.imp id Eq.symm⟩
/-- Whichever vertex a step leads to: what becomes of what waits. -/
theorem MidL.skip {z : Nat × Int} {hm : Nat → Option Int} (h : MidL N D W L z pre hm) (hf : ¬ Free N W (L ++ [z]) u) : MidL N D W L z (pre ++ [(u, x)]) hm := midL_snoc (Mid.skip h hf)
/-- One that may be settled: what the heap answers. -/
theorem MidL.come {z : Nat × Int} {hm : Nat → Option Int} (h : MidL N D W L z pre hm) (hu : has pre u = false) (hf : Free N W (L ++ [z]) u) (hz : 0 ≤ z.2 ∧ z.2 < 4611686018427387906) (hD : 0 ≤ D z.1 u ∧ D z.1 u < 4611686018427387906) :
    MidL N D W L z (pre ++ [(u, x)]) (HM.put HM.TI N hm (u : Int) (DM.two z.2 (D z.1 u))) := by
  obtain ⟨h1, h2⟩ := Mid.come h (u := u) (by rw [hu]; decide) hf
  have h3 : MidL N D W L z (pre ++ [(u, x)]) _ := midL_snoc h2
  rw [sum_snoc] at h3
  have hb := sum_bd D u L
  have ht : DM.two z.2 (D z.1 u) < 4611686018427387906 := by
    have h4 := (XM.two_told (a := z.2) (b := D z.1 u) ⟨hz.1, by omega⟩ ⟨hD.1, by omega⟩).2 ⟨by omega, by omega⟩
    exact h4
  have e : HM.put HM.TI N hm (u : Int) (DM.two z.2 (D z.1 u)) = HM.upd hm u (if low (sum D L u) (DM.two z.2 (D z.1 u)) < 4611686018427387906 then some (low (sum D L u) (DM.two z.2 (D z.1 u))) else none) := by
    have hr : (0 : Int) ≤ u ∧ (u : Int) < N := by have := hf.1; omega
    by_cases c : sum D L u < 4611686018427387906
    · rw [if_pos c] at h1
      by_cases c2 : DM.two z.2 (D z.1 u) < sum D L u
      · have hc : HM.code HM.TI N hm (u : Int) (DM.two z.2 (D z.1 u)) = 0 := by
          unfold HM.code
          rw [if_pos hr, Int.toNat_natCast, h1]
          exact if_pos (by simpa [HM.TI] using c2)
        unfold HM.put
        rw [if_pos hc, Int.toNat_natCast]
        unfold low
        rw [if_pos c2, if_pos ht]
      · have hc : HM.code HM.TI N hm (u : Int) (DM.two z.2 (D z.1 u)) = 5 := by
          unfold HM.code
          rw [if_pos hr, Int.toNat_natCast, h1]
          exact if_neg (by simpa [HM.TI] using c2)
        unfold HM.put
        rw [if_neg (by rw [hc]; decide)]
        unfold low
        rw [if_neg c2, if_pos c]
        funext w
        unfold HM.upd
        by_cases e : w = u
        · rw [if_pos e, e, h1]
        · rw [if_neg e]
    · rw [if_neg c] at h1
      have hc : HM.code HM.TI N hm (u : Int) (DM.two z.2 (D z.1 u)) = 0 := by
        unfold HM.code
        rw [if_pos hr, Int.toNat_natCast, h1]
      unfold HM.put
      rw [if_pos hc, Int.toNat_natCast]
      have hl : low (sum D L u) (DM.two z.2 (D z.1 u)) = DM.two z.2 (D z.1 u) := if_pos (by omega)
      rw [hl, if_pos ht]
  rw [e]
  exact h3
/-- All steps have come. -/
theorem MidL.done {s : Nat} {hm : Nat → Option Int} (hmm : XM.Mesh N D) (h : MidL N D W L (v, d) (XM.steps N D (v : Int) false N) hm) (hd : 0 ≤ d ∧ d ≤ 4611686018427387906) : Waits N D s W (L ++ [(v, d)]) hm :=
  Mid.done h hd fun w hw hG => by
    rw [has_steps hmm] at hG
    have := (hmm.ok.1 v w).2
    show D v w = _
    have : ¬ D v w < 4611686018427387906 := fun c => hG ⟨hw, c⟩
    omega
/-- What is noted of what is settled. -/
def noted (L : List (Nat × Int)) (k : Nat → Option Int) : Prop := (∀ x ∈ L, k x.1 = some x.2) ∧ ∀ u, (k u).isSome = has L u
theorem noted_nil : noted [] (fun _ => none) := ⟨fun x h => (by cases h), fun u => rfl⟩
theorem noted_snoc {k : Nat → Option Int} (h : noted L k) (hv : has L v = false) : noted (L ++ [(v, d)]) (SM.upd k v (some d)) := by
  refine ⟨fun x hx => ?_, fun u => ?_⟩
  · unfold SM.upd
    rcases List.mem_append.1 hx with e | e
    · rw [if_neg (fun e2 => ?_)]
      · exact h.1 x e
      · have := has_iff.2 ⟨x, e, e2⟩
        rw [hv] at this
        cases this
    · rw [List.mem_singleton.1 e]
      exact if_pos rfl
  · unfold SM.upd
    rw [has_snoc]
    by_cases e : u = v
    · rw [if_pos e, e]
      simp
    · rw [if_neg e, h.2 u]
      have : ((v, d).1 == u) = false := beq_eq_false_iff_ne.2 (fun e2 => e e2.symm)
      rw [this, Bool.or_false]
end
end WM
end Go.Proofs.Ytkcfepppnclniaa
end

section
/-
  A search of the program's in memory: its struct, its heap, its row; what each call of the heap and of the row does.
-/
namespace Go.Proofs.Ytkcfepppnclniaa
open Go.RowKit

/-- A search's blocks that never change: its struct, its heap's, its row's three. -/
structure Wid where
  q : Nat
  p : Nat
  r : Nat
  t : Nat
  s : Nat
/-- A search in memory, of which F has all blocks. -/
structure WD (A : World) (B : Nat) (z : Wid) (mp N O : Nat) (k : Nat → Option Int) (hm : Nat → Option Int) (T : Nat) (F : Nat → Prop) : Prop where
  c0 : A.cell? ⟨z.q, 0, none⟩ = some (.pointer (some ⟨mp, 0, none⟩))
  c1 : A.cell? ⟨z.q, 1, none⟩ = some (.int .u64 (O : Nat))
  c2 : A.cell? ⟨z.q, 2, none⟩ = some (.pointer (some ⟨z.p, 0, none⟩))
  c3 : A.cell? ⟨z.q, 3, none⟩ = some (.pointer (some ⟨z.r, 0, none⟩))
  c4 : A.cell? ⟨z.q, 4, none⟩ = some (.int .u64 (T : Nat))
  f4 : A.frozen? ⟨z.q, 4, none⟩ = false
  h : ∃ bp bc lv line place come, HMem (Value.int .i64) 3 A B z.p bp bc lv line place come ∧ HM.Rep HM.TI 0 N hm line place come ∧ (∀ b, foot z.p bp bc lv b → F b ∧ b ≠ z.q ∧ ¬ sfoot z.r z.t z.s b)
  r : ∃ xs st now, SMem 3 1 A B z.r z.t z.s N xs st now ∧ SM.Rep RI.At N k xs st now
  f : ∀ b, b = z.q ∨ sfoot z.r z.t z.s b → F b
  n : ¬ sfoot z.r z.t z.s z.q
  lt : ∀ b, F b → B ≤ b ∧ b < A.heap.size
  few : N ≤ 24
/-- F with what was laid meanwhile. -/
def grow (F : Nat → Prop) (A A' : World) (b : Nat) : Prop := F b ∨ (A.heap.size ≤ b ∧ b < A'.heap.size)
section
variable {A A' : World} {B : Nat} {z : Wid} {mp N O T : Nat} {k : Nat → Option Int} {hm : Nat → Option Int} {F F' G : Nat → Prop}
theorem WD.ql (h : WD A B z mp N O k hm T F) : z.q < A.heap.size := cell_lt h.c0
theorem WD.kept (h : WD A B z mp N O k hm T F) (hk : Keeps G A A') (hG : ∀ b, F b → ¬ G b) : WD A' B z mp N O k hm T F := by
  have hl := h.ql
  obtain ⟨c0, c1, c2, c3, c4, f4, ⟨bp, bc, lv, line, place, come, h1, h2, h3⟩, ⟨xs, st, now, r1, r2⟩, f, n, lt, few⟩ := h
  have hq : ¬ G z.q := hG _ (f _ (.inl rfl))
  exact ⟨hk.cell c0 hq, hk.cell c1 hq, hk.cell c2 hq, hk.cell c3 hq, hk.cell c4 hq, (hk.frozen (p := ⟨z.q, 4, none⟩) hl hq).trans f4, ⟨bp, bc, lv, line, place, come, h1.kept hk (fun b hb => hG b (h3 b hb).1), h2, h3⟩, ⟨xs, st, now, r1.kept hk (fun b hb => hG b (f b (.inr hb))), r2⟩, f, n, fun b hb => ⟨(lt b hb).1, Nat.lt_of_lt_of_le (lt b hb).2 hk.size⟩, few⟩
theorem WD.on (h : WD A B z mp N O k hm T F) (hb : Below A.heap.size A A') : WD A' B z mp N O k hm T F := h.kept (Below.keeps hb (fun _ => False)) (fun _ _ h => h)
theorem WD.wide (h : WD A B z mp N O k hm T F) (hF : ∀ b, F b → F' b) (lt : ∀ b, F' b → B ≤ b ∧ b < A.heap.size) : WD A B z mp N O k hm T F' := by
  obtain ⟨c0, c1, c2, c3, c4, f4, ⟨bp, bc, lv, line, place, come, h1, h2, h3⟩, r, f, n, -, few⟩ := h
  exact ⟨c0, c1, c2, c3, c4, f4, ⟨bp, bc, lv, line, place, come, h1, h2, fun b hb => ⟨hF b (h3 b hb).1, (h3 b hb).2⟩⟩, r, fun b hb => hF b (f b hb), n, lt, few⟩
theorem WD.lt_grow (h : WD A B z mp N O k hm T F) (hs : A.heap.size ≤ A'.heap.size) (hB : B ≤ A.heap.size) : ∀ b, grow F A A' b → B ≤ b ∧ b < A'.heap.size := fun b hb => by
  rcases hb with hb | hb
  · have := h.lt b hb
    omega
  · omega
/-- The first one comes out, if any waits. -/
theorem WD.pop (h : WD A B z mp N O k hm T F) :
    Calls Try.prog 53 #[.pointer (some ⟨z.p, 0, none⟩)] A fun e A' => e = .returned (peekT (Value.int .i64) 0 (HM.firstOf HM.TI hm)) ∧ Keeps F A A' ∧ WD A' B z mp N O k (HM.popped HM.TI hm) T F := by
  have hl := h.ql
  obtain ⟨c0, c1, c2, c3, c4, f4, ⟨bp, bc, lv, line, place, come, h1, h2, h3⟩, ⟨xs, st, now, r1, r2⟩, f, n, lt, few⟩ := h
  refine (HI.pop_any h1 h2 (by omega)).mono ?_
  rintro e A' ⟨rfl, lv', line', place', come', m1, m2, m3, m4⟩
  have hq : ¬ foot z.p bp bc lv z.q := fun hb => (h3 _ hb).2.1 rfl
  refine ⟨rfl, m3.mono (fun b hb => (h3 b hb).1), m3.cell c0 hq, m3.cell c1 hq, m3.cell c2 hq, m3.cell c3 hq, m3.cell c4 hq, (m3.frozen (p := ⟨z.q, 4, none⟩) hl hq).trans f4, ⟨bp, bc, lv', line', place', come', m1, m2, fun b hb => h3 b (m4 b hb)⟩, ⟨xs, st, now, r1.kept m3 (fun b hb hc => (h3 b hc).2.2 hb), r2⟩, f, n, fun b hb => ⟨(lt b hb).1, Nat.lt_of_lt_of_le (lt b hb).2 m3.size⟩, few⟩
/-- A vertex is put into the heap. -/
theorem WD.put (h : WD A B z mp N O k hm T F) (hB : B ≤ A.heap.size) (v : Nat) (d : Int) :
    Calls Try.prog 52 #[.pointer (some ⟨z.p, 0, none⟩), .int .i64 (v : Nat), .int .i64 d] A fun e A' => e = .returned (.int .i64 (HM.code HM.TI N hm (v : Nat) d)) ∧ Keeps F A A' ∧ WD A' B z mp N O k (HM.put HM.TI N hm (v : Nat) d) T (grow F A A') := by
  have hlt := fun A' hs => WD.lt_grow (A' := A') h hs hB
  have hl := h.ql
  obtain ⟨c0, c1, c2, c3, c4, f4, ⟨bp, bc, lv, line, place, come, h1, h2, h3⟩, ⟨xs, st, now, r1, r2⟩, f, n, lt, few⟩ := h
  refine (HI.put_any h1 h2 (by omega) v d).mono ?_
  rintro e A' ⟨rfl, lv', line', place', come', m1, m2, m3, m4⟩
  have hq : ¬ foot z.p bp bc lv z.q := fun hb => (h3 _ hb).2.1 rfl
  have hs := m3.size
  refine ⟨rfl, m3.mono (fun b hb => (h3 b hb).1), m3.cell c0 hq, m3.cell c1 hq, m3.cell c2 hq, m3.cell c3 hq, m3.cell c4 hq, (m3.frozen (p := ⟨z.q, 4, none⟩) hl hq).trans f4, ⟨bp, bc, lv', line', place', come', m1, m2, fun b hb => ?_⟩, ⟨xs, st, now, r1.kept m3 (fun b hb hc => (h3 b hc).2.2 hb), r2⟩, fun b hb => .inl (f b hb), n, hlt A' hs, few⟩
  rcases m4 b hb with h5 | h5
  · exact ⟨.inl (h3 b h5).1, (h3 b h5).2⟩
  · have l1 := (m1.lt b hb).2
    refine ⟨.inr ⟨h5, l1⟩, by omega, fun hx => ?_⟩
    have := (r1.lt b hx).2
    omega
/-- A vertex is noted. -/
theorem WD.mark (h : WD A B z mp N O k hm T F) (v : Nat) (hv : v < N) (d : Int) :
    Calls Try.prog 68 #[.pointer (some ⟨z.r, 0, none⟩), .int .i64 (v : Nat), .int .i64 d] A fun e A' => e = .returned (.int .i64 0) ∧ Keeps F A A' ∧ WD A' B z mp N O (SM.upd k v (some d)) hm T F := by
  have hl := h.ql
  obtain ⟨c0, c1, c2, c3, c4, f4, ⟨bp, bc, lv, line, place, come, h1, h2, h3⟩, ⟨xs, st, now, r1, r2⟩, f, n, lt, few⟩ := h
  have hs := RI.set_any r1 r2 (by omega) (v : Int) d
  unfold SM.code SM.put at hs
  rw [if_pos (by omega), if_pos (by omega), Int.toNat_natCast] at hs
  refine hs.mono ?_
  rintro e A' ⟨rfl, xs', st', m1, m2, m3⟩
  refine ⟨rfl, m3.mono (fun b hb => f b (.inr hb)), m3.cell c0 n, m3.cell c1 n, m3.cell c2 n, m3.cell c3 n, m3.cell c4 n, (m3.frozen (p := ⟨z.q, 4, none⟩) hl n).trans f4, ⟨bp, bc, lv, line, place, come, h1.kept m3 (fun b hb => (h3 b hb).2.2), h2, h3⟩, ⟨xs', st', now, m1, m2⟩, f, n, fun b hb => ⟨(lt b hb).1, Nat.lt_of_lt_of_le (lt b hb).2 m3.size⟩, few⟩
theorem WD.get (h : WD A B z mp N O k hm T F) (v : Nat) :
    Calls Try.prog 70 #[.pointer (some ⟨z.r, 0, none⟩), .int .i64 (v : Nat)] A fun e A' => e = .returned (getT (Value.int .i64) (0 : Int) (k v)) ∧ Below A.heap.size A A' := by
  obtain ⟨-, -, -, -, -, -, -, ⟨xs, st, now, r1, r2⟩, -, -, -, -⟩ := h
  have hg := RI.get_any r1 r2 (v : Int)
  unfold SM.look at hg
  rwa [if_pos (by omega), Int.toNat_natCast] at hg
/-- What is touched is turned. -/
theorem WD.touch (h : WD A B z mp N O k hm T F) (T' : Nat) : WD (A.setCell ⟨z.q, 4, none⟩ (.int .u64 (T' : Nat))) B z mp N O k hm T' F ∧ Keeps F A (A.setCell ⟨z.q, 4, none⟩ (.int .u64 (T' : Nat))) := by
  have hk := keeps_set A z.q 4 (.int .u64 (T' : Nat))
  have hkF : Keeps F A (A.setCell ⟨z.q, 4, none⟩ (.int .u64 (T' : Nat))) := hk.mono (fun b hb => hb ▸ h.f _ (.inl rfl))
  obtain ⟨c0, c1, c2, c3, c4, f4, ⟨bp, bc, lv, line, place, come, h1, h2, h3⟩, ⟨xs, st, now, r1, r2⟩, f, n, lt, few⟩ := h
  have oth : ∀ i, i ≠ 4 → (A.setCell ⟨z.q, 4, none⟩ (.int .u64 (T' : Nat))).cell? ⟨z.q, i, none⟩ = A.cell? ⟨z.q, i, none⟩ := fun i hi => World.cell?_setCell_other _ _ _ _ (by intro e; injection e with _ e; omega)
  exact ⟨⟨(oth 0 (by decide)).trans c0, (oth 1 (by decide)).trans c1, (oth 2 (by decide)).trans c2, (oth 3 (by decide)).trans c3, World.cell?_setCell_same _ _ _ c4, by simp [f4], ⟨bp, bc, lv, line, place, come, h1.kept hk (fun b hb e => (h3 b hb).2.1 e), h2, h3⟩, ⟨xs, st, now, r1.kept hk (fun b hb e => n (e ▸ hb)), r2⟩, f, n, fun b hb => ⟨(lt b hb).1, Nat.lt_of_lt_of_le (lt b hb).2 hk.size⟩, few⟩, hkF⟩
end
theorem wadd_cells {W : World} {n : Nat} {a b : Int} (h0 : W.cell? ⟨n, 0, none⟩ = some (.int .i64 a)) (h1 : W.cell? ⟨n, 1, none⟩ = some (.int .i64 b)) :
    Calls Try.prog 27 #[.slice (some ⟨n, 0, none⟩) 2 2] W fun e w' => e = .returned (.int .i64 (DM.two a b)) ∧ w' = W := by
  have := add_row (.slice (some ⟨n, 0, none⟩) 2 2) [a, b] W ⟨some ⟨n, 0, none⟩, 2, rfl, Nat.le_refl _, by unfold maxLen; decide, fun h => (by cases h), fun _ => ⟨n, 0, rfl, fun i hi => by
    match i, hi with
    | 0, _ => simpa using h0
    | 1, _ => simpa using h1⟩⟩
  rwa [WK.two_norm] at this
theorem smem_base {e : TypeId} {sz : Nat} {w : World} {B B' p bt bs n : Nat} {xs : List Value} {st : List Nat} {now : Nat} (h : SMem e sz w B p bt bs n xs st now) (hb : B' ≤ B) : SMem e sz w B' p bt bs n xs st now :=
  ⟨h.c0, h.c1, h.c2, h.fz, row_base h.th hb, row_base h.sp hb, Nat.le_trans hb h.lo, h.n1, h.n2, h.n3⟩
set_option maxHeartbeats 400000 in
theorem wvertex_any {w : World} {p N : Nat} {D : Nat → Nat → Int} (hg : XMem w p N D) (v : Int) :
    Calls Try.prog 32 #[.pointer (some ⟨p, 0, none⟩), .int .i64 v] w fun e w' => e = .returned (.bool (GM.vert N v)) ∧ w' = w := by
  have hv := xvertices_any hg
  clear hg
  by_cases h : 0 ≤ v
  · go_enter Try.func32, Try.ntmps32
    go_wp2_with fail
    refine hv.mono ?_
    rintro e w' ⟨rfl, rfl⟩
    go_wp2
    all_goals go_ret
    all_goals refine ⟨ret_bool ?_, rfl⟩
    all_goals unfold GM.vert
    all_goals simp
    all_goals omega
  · go_enter Try.func32, Try.ntmps32
    go_wp2_with fail
    all_goals go_ret
    all_goals refine ⟨ret_bool ?_, rfl⟩
    all_goals unfold GM.vert
    all_goals simp
    all_goals omega
set_option maxHeartbeats 1000000 in
theorem newSearch_any {w : World} {mp N : Nat} {D : Nat → Nat → Int} (hg : XMem w mp N D) (hN : N ≤ 24) (O : Nat) :
    Calls Try.prog 34 #[.pointer (some ⟨mp, 0, none⟩), .int .u64 (O : Nat)] w fun e w' => ∃ z : Wid, e = .returned (.pointer (some ⟨z.q, 0, none⟩)) ∧
      WD w' w.heap.size z mp N O (fun _ => none) (fun _ => none) 0 (fun b => w.heap.size ≤ b ∧ b < w'.heap.size) ∧ Below w.heap.size w w' := by
  have HG : Hid (∀ W, Below w.heap.size w W → XMem W mp N D) := fun W hW => hg.on hW
  have hv := xvertices_any hg
  have hnew := HI.new_any N (by omega) w
  clear hg
  go_enter Try.func34, Try.ntmps34
  go_wp2_with fail
  refine hv.mono ?_
  rintro e w2 ⟨rfl, hw2⟩
  rw [hw2]
  clear hv hw2 w2
  go_wp2_with fail
  refine hnew.mono ?_
  rintro e w1 ⟨p, bp, bc, rfl, hM, hb1⟩
  have hv1 := xvertices_any (HG.out _ hb1)
  have hst := RI.new_any N (by omega) w1
  have HM1 : Hid (HMem (Value.int .i64) 3 w1 w.heap.size p bp bc (.slice none 0 0) [] (List.replicate N (-1)) (List.replicate N (0 : Int)) ∧ Below w.heap.size w w1) := ⟨hM, hb1⟩
  clear hnew hM hb1
  go_wp2_with fail
  refine hv1.mono ?_
  rintro e w2 ⟨rfl, hw2⟩
  rw [hw2]
  clear hv1 hw2 w2
  go_wp2_with fail
  refine hst.mono ?_
  rintro e w3 ⟨r, t, s, xs, st, now, rfl, hS, hR, hb3⟩
  have HS : Hid (SMem 3 1 w3 w1.heap.size r t s N xs st now ∧ SM.Rep RI.At N (fun _ => none) xs st now ∧ Below w1.heap.size w1 w3) := ⟨hS, hR, hb3⟩
  clear hst hS hR hb3
  go_wp2_with fail
  go_ret
  obtain ⟨hM, hb1⟩ := HM1.out
  obtain ⟨hS, hR, hb3⟩ := HS.out
  have ha : Below w3.heap.size w3 (w3.alloc (.cells #[.pointer (some ⟨mp, 0, none⟩), .int .u64 (O : Nat), .pointer (some ⟨p, 0, none⟩), .pointer (some ⟨r, 0, none⟩), .int .u64 0] 93)) := (Below.refl _ _).alloc (Nat.le_refl _) _
  have e1 := hb1.size
  have e3 := hb3.size
  have lM := hM.lt
  have lS := hS.lt
  have hsz : (w3.alloc (.cells #[.pointer (some ⟨mp, 0, none⟩), .int .u64 (O : Nat), .pointer (some ⟨p, 0, none⟩), .pointer (some ⟨r, 0, none⟩), .int .u64 0] 93)).heap.size = w3.heap.size + 1 := by simp
  refine ⟨⟨w3.heap.size, p, r, t, s⟩, rfl, ⟨by simp, by simp, by simp, by simp, by simp, by simp, ⟨bp, bc, _, _, _, _, hM.below (below_on hb3 ha), HI.rep_new N, fun b hb => ?_⟩, ⟨xs, st, now, (smem_base hS e1).below ha, hR⟩, fun b hb => ?_, fun hb => ?_, fun b hb => ⟨hb.1, hb.2⟩, hN⟩, below_on hb1 (below_on hb3 ha)⟩
  · have := lM b hb
    dsimp only
    refine ⟨⟨by omega, by omega⟩, by omega, fun hx => ?_⟩
    have := lS b hx
    omega
  · dsimp only at hb
    rcases hb with hb | hb
    · rw [hb, hsz]
      exact ⟨by omega, by omega⟩
    · have := lS b hb
      exact ⟨by omega, by omega⟩
  · have := (lS w3.heap.size hb).2
    omega
end Go.Proofs.Ytkcfepppnclniaa
end
