/-
  A region that draws its order, in a round of a loop over a function: the plain walk of it serves.
-/
import Derived.Test.YtkcfepppnclniaaGreatDoorMmRange
import Derived.Deep.RegionHeld3
import Derived.OrdersIn
namespace Go.Proofs.YtkcfepppnclniaaGreatDoor
open Go.RowKit Go.Shelf

/-- No operation defers. -/
def noDefer (ops : Array Oper) : Bool := ops.toList.all (fun o => match o.op with | .defer _ => false | _ => true)
theorem noDefer_at {ops : Array Oper} (h : noDefer ops = true) {i : Nat} {o : Oper} (ho : ops[i]? = some o) : ∀ c, o.op ≠ .defer c := by
  intro c hc
  have h1 := List.all_eq_true.1 h o (by
    rw [← Array.getElem?_toList] at ho
    exact List.mem_of_getElem? ho)
  rw [hc] at h1
  cases h1
theorem wpOpIn_round {P : Program} {ops : Array Oper} {Q Q' : Exit → Act → World → Prop} {l n : Nat} (hd : noDefer ops = true) (hQ : ∀ e a w, Q' e a w → e = .normal) {i : Nat} {K K' : Act → World → Prop} (hK : ∀ a w, K' a w → K a w) {a : Act} {w : World}
    (h : wpOp P ops Q' i K' a w) : wpOpIn (Fence.wide.inRound l) n P ops Q i K a w := by
  unfold wpOp at h
  unfold wpOpIn
  cases ho : ops[i]? with
  | none =>
    rw [ho] at h
    exact hK _ _ h
  | some o =>
    rw [ho] at h
    dsimp only at h ⊢
    by_cases hw : Region.wanted o (yielded ops a.tmps) = true
    · rw [if_pos hw] at h ⊢
      refine ⟨fun _ _ => trivial, ?_⟩
      rw [Fence.inRound_round, Oper.semAt_some _ _ _ (noDefer_at hd ho)]
      rcases h with h | ⟨_, h⟩
      · unfold Oper.wp at h
        generalize (execOp a.eval o).run P w = r at h ⊢
        cases r with
        | ok x w' =>
          cases x <;> simp only [Oper.upon] at h <;> simp only [Oper.uponIn]
          case value v => exact hK _ _ h
          case skip => exact hK _ _ h
          case defer d => exact hK _ _ h
          case enter f args =>
            refine ⟨(fun hs => by cases hs), CallsIn.inRound l (callsIn_wide.2 (Calls.mono h ?_))⟩
            intro e w'' he
            cases e with
            | returned v => exact hK _ _ he
            | panicked c => cases hQ _ _ _ he
            | outgrown =>
              obtain ⟨a1, w1, h1⟩ := he
              cases hQ _ _ _ h1
          case row row args =>
            refine ⟨(fun hs => by cases hs), fun c cs _ => ?_⟩
            obtain ⟨v, w2, h1, h2⟩ := h c cs
            exact ⟨v, w2, hK _ _ h1, stepsIn_wide.2 h2⟩
        | halt x w' =>
          cases x <;> simp only [Oper.upon] at h <;> simp only [Oper.uponIn]
          all_goals first
            | exact h.elim
            | cases hQ _ _ _ h
      · obtain ⟨a1, w1, h1⟩ := h
        cases hQ _ _ _ h1
    · rw [if_neg hw] at h ⊢
      exact ⟨fun _ _ => trivial, hK _ _ h⟩
theorem wpAnyIn_round {P : Program} {md : Region.Mode} {ops : Array Oper} {Q Q' : Exit → Act → World → Prop} {l n : Nat} (hd : noDefer ops = true) (hQ : ∀ e a w, Q' e a w → e = .normal) (hN : ∀ a w, Q' .normal a w → Q .normal a w) :
    ∀ (fuel : Nat) (listed : Array Bool) (a : Act) (w : World), wpAny P md ops Q' fuel listed a w → wpAnyIn (Fence.wide.inRound l) n P md ops Q fuel listed a w
  | 0, _, _, _, h => ⟨h.1, hN _ _ h.2⟩
  | fuel + 1, _, _, _, h => ⟨fun h0 => hN _ _ (h.1 h0), fun i hi => wpOpIn_round hd hQ (fun a w h' => wpAnyIn_round hd hQ hN fuel _ a w h') (h.2 i hi)⟩
/-- The region's beginning, in a round: from here on the walk of regions whose cells are held (wpAnyH_take, wpAnyH_ready, wpAnyH_done). -/
theorem wpIn_region_held {P : Program} {id : Nat} {ops : Array Oper} {Q : Exit → Act → World → Prop} {R : Act → World → Prop} {S : World → Prop} {l n : Nat} {a : Act} {w : World} (hm : P.follows .mixedOrders = true) (hd : noDefer ops = true) (hN : ∀ a w, R a w → Q .normal a w) (hS : S w.drew)
    (h : S w.drew → wpAnyH P .any ops (fun e a' w' => e = .normal ∧ R a' w') S ops.size (Array.replicate ops.size false) a w.drew) : (Code.region id ops true).wpIn (Fence.wide.inRound l) n P Q a w :=
  wpIn_region_any hm (wpAnyIn_round hd (fun _ _ _ h => h.1) (fun _ _ h => hN _ _ h.2) _ _ _ _ (wpAny_of_held _ _ _ _ (h hS)))
end Go.Proofs.YtkcfepppnclniaaGreatDoor
