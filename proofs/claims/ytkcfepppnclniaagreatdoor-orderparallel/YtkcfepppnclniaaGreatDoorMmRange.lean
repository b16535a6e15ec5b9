/-
  Range, RangeK.
-/
import Derived.Test.YtkcfepppnclniaaGreatDoorMmBase
import Derived.RangeFuncNested
import Derived.RangeFuncBound
import Derived.RangeFuncCalls
import Derived.RangeFuncBox
import Derived.RangeFuncLeaves
import Derived.RangeFuncRecord
import Derived.Shelf.Abstract
import Derived.Shelf.RegionOpen
import Derived.OwnWalkIn
import Derived.TacticsInMore
import Derived.LoopNIn
import Derived.LoopIn
section
/-
  A range over a function that makes memory of its own between rounds: it may turn whatever lies behind the loop's own two blocks; a round may turn whatever lay ahead of the loop but what the function reads there (R).
-/
namespace Go.Proofs.YtkcfepppnclniaaGreatDoor
open Go.RowKit Go.Shelf

/-- From block N on all lies as it lay. -/
def Above (N : Nat) (W W' : World) : Prop := Keeps (fun b => b < N) W W'
theorem Above.refl (N : Nat) (W : World) : Above N W W := Keeps.refl _ W
theorem Above.trans {N : Nat} {a b c : World} (h : Above N a b) (k : Above N b c) : Above N a c := Keeps.trans h k (fun _ hx => .inl hx)
theorem Above.mono {N N' : Nat} {a b : World} (h : Above N a b) (hN : N ≤ N') : Above N' a b := Keeps.mono h (fun x hx => by omega)

/-- The loop's record. -/
def recd (fn : FuncId) (tmps : Array Value) (ps : Array Tmp) (assign body : Code) (D : Nat) (st : LoopState) (pe : Option Code) : Loop := { state := st, pending := pe, fn := fn, tmps := tmps, params := ps, assign := assign, body := body, defers := D }
/-- The loop's two blocks, from B on: what is deferred (nothing), and the record. -/
structure Book (W : World) (B : Nat) (r : Loop) : Prop where
  keep : W.heap[B + 1]? = some (.loop r)
  dfr : W.heap[B]? = some (.deferred (some []))
section
variable {W W' : World} {B : Nat} {r : Loop}
theorem Book.lt (h : Book W B r) : B + 1 < W.heap.size := (Array.getElem?_eq_some_iff.1 h.keep).1
theorem Book.below (h : Book W B r) (hb : Below (B + 2) W W') : Book W' B r := ⟨(hb.block _ (by omega)).trans h.keep, (hb.block _ (by omega)).trans h.dfr⟩
theorem Book.above (h : Book W B r) (ha : Above B W W') : Book W' B r := by
  have := h.lt
  exact ⟨(ha.block _ this (by omega)).trans h.keep, (ha.block _ (by omega) (by omega)).trans h.dfr⟩
theorem Book.put (h : Book W B r) (r' : Loop) : Book (W.putObj (B + 1) (.loop r')) B r' := ⟨World.putObj_heap_same h.lt, (World.putObj_heap_other (by omega)).trans h.dfr⟩
theorem below_put (W : World) (B : Nat) (o : Obj) : Below B W (W.putObj (B + 1) o) := ⟨rfl, rfl, rfl, by simp, fun k hk => World.putObj_heap_other (by omega)⟩
theorem above_put (W : World) (B : Nat) (o : Obj) : Above (B + 2) W (W.putObj (B + 1) o) := ⟨rfl, rfl, rfl, by simp, fun k _ hn => World.putObj_heap_other (by omega)⟩
end

/-- How a round may end. -/
def leftBy {α : Type} (B : Nat) (I : List α → World → Prop) (Ix : Code → List α → World → Prop) (xs : List α) (W : World) : Exit → Act → World → Prop
  | .normal, _, W' => Above B W W' ∧ I xs W'
  | .ret, _, W' => Above B W W' ∧ Ix .ret xs W'
  | .exit id, _, W' => Above B W W' ∧ Ix (.exit id) xs W'
  | .goto t, _, W' => Above B W W' ∧ Ix (.goto t) xs W'
  | .panic _, _, _ => False
  | .outgrown, _, _ => False

/-- What the function that is ranged over owes: of rounds that leave alone what lies behind the loop's two blocks, and keep R (what it reads), it hands on what S says, or, where one says no more, what Sp says. -/
def Goes {α : Type} (n : Nat) (P : Program) (g : Nat) (lb : Array Value) (encs : α → Array Value) (S Sp : List α → Prop) (N : Nat) (R : World → Prop) (w : World) : Prop :=
  ∀ (l : Nat) (J Jx : List α → World → Prop) (W : World), Below w.heap.size w W → w.heap.size + 2 ≤ W.heap.size →
    (∀ s A, J s A → R A) → (∀ s A A', J s A → Below (w.heap.size + 2) A A' → J s A') → (∀ s A A', Jx s A → Below (w.heap.size + 2) A A' → Jx s A') →
    (∀ pre x W1, J pre W1 → pre.length < N → YieldAt Fence.wide (n - 1) P l (encs x) W1 fun e W' =>
      (e = .returned (.bool true) ∧ J (pre ++ [x]) W' ∧ Above (w.heap.size + 2) W1 W') ∨ (e = .returned (.bool false) ∧ Jx (pre ++ [x]) W' ∧ Above (w.heap.size + 2) W1 W')) →
    J [] W →
    CallsIn Fence.wide n P g (#[.func (.yield l) #[] #[]] ++ lb) W fun e W' => (∃ v, e = .returned v) ∧ ((∃ xs, S xs ∧ J xs W') ∨ (∃ pre, Sp pre ∧ Jx pre W'))

theorem range_goes {α : Type} {P : Program} {n : Nat} (h1 : 1 ≤ n) {g : Operand} {ps : Array Tmp} {assign body : Code} {Q : Exit → Act → World → Prop} {a : Act} {w : World}
    {gf : Nat} {lb : Array Value} (hg : a.eval g = .func (.func gf) #[] lb) (eg : ∀ args w, (callFunc gf args).run P w = .ok (.enter gf args) w)
    {encs : α → Array Value} {S Sp : List α → Prop} {N : Nat} {R : World → Prop} (hseq : Goes (n - 1) P gf lb encs S Sp N R w) (hps : ∀ x, (encs x).size = ps.size)
    (I : List α → World → Prop) (Ix : Code → List α → World → Prop) (hI : ∀ s A A', I s A → Below w.heap.size A A' → I s A') (hIx : ∀ c s A A', Ix c s A → Below w.heap.size A A' → Ix c s A') (hR : ∀ s A, I s A → R A) (h0 : I [] w) (a₁ : α → Act)
    (hassign : ∀ (l : Nat) (x : α) (W : World) (K : Act → World → Prop), K (a₁ x) W →
      assign.wpIn (Fence.wide.inRound l) (n - 1 - 1) P (Exit.then K (fun _ _ _ => False)) { tmps := (ps.zip (encs x)).foldl (fun t (p, v) => t.setIfInBounds p v) a.tmps, defers := [] } W)
    (hbody : ∀ (l : Nat) (pre : List α) (x : α) (W : World), I pre W → pre.length < N → body.wpIn (Fence.wide.inRound l) (n - 1 - 1) P (leftBy w.heap.size I Ix (pre ++ [x]) W) (a₁ x) W)
    (hdone : ∀ (xs : List α) (W : World), S xs → I xs W → W.heap[w.heap.size]? = some (.deferred (some [])) → Q .normal { a with defers := { target := .collected w.heap.size, args := #[] } :: a.defers } W)
    (hstop : ∀ (c : Code) (pre : List α) (W : World), Sp pre → Ix c pre W → W.heap[w.heap.size]? = some (.deferred (some [])) → c.wpIn Fence.wide n P Q { a with defers := { target := .collected w.heap.size, args := #[] } :: a.defers } W) :
    (Code.rangeFunc g ps assign body).wpIn Fence.wide n P Q a w := by
  refine wpIn_rangeFunc fun fn _ => ?_
  have hs : ((w.alloc (.deferred (some []))).alloc (.loop (recd fn a.tmps ps assign body w.heap.size .ready none))).heap.size = w.heap.size + 1 + 1 := by simp
  have hb1 : Below w.heap.size w ((w.alloc (.deferred (some []))).alloc (.loop (recd fn a.tmps ps assign body w.heap.size .ready none))) := ((Below.refl _ w).alloc (Nat.le_refl _) _).alloc (by simp) _
  have hbk : Book ((w.alloc (.deferred (some []))).alloc (.loop (recd fn a.tmps ps assign body w.heap.size .ready none))) w.heap.size (recd fn a.tmps ps assign body w.heap.size .ready none) := by
    constructor
    · have := World.alloc_heap_new (w.alloc (.deferred (some []))) (.loop (recd fn a.tmps ps assign body w.heap.size .ready none))
      rwa [World.size_alloc] at this
    · exact (Below.heap_alloc _ _ _ (by simp)).trans (World.alloc_heap_new w _)
  have hen : (Instr.enterLoop fn a.tmps ps assign body none).run P w = .ok (w.heap.size + 1, [{ target := .collected w.heap.size, args := #[] }]) ((w.alloc (.deferred (some []))).alloc (.loop (recd fn a.tmps ps assign body w.heap.size .ready none))) := run_enterLoop_outer _ _ _ _ _
  generalize (w.alloc (.deferred (some []))).alloc (.loop (recd fn a.tmps ps assign body w.heap.size .ready none)) = W1 at *
  refine ⟨w.heap.size + 1, [{ target := .collected w.heap.size, args := #[] }], W1, { target := .fn (.func gf) lb, args := #[.func (.yield (w.heap.size + 1)) #[] #[]] }, W1, gf, #[.func (.yield (w.heap.size + 1)) #[] #[]] ++ lb, W1, hen, ?_, fun _ _ => trivial, ?_, fun _ => h1, ?_⟩
  · simp only [resolve, hg]
    simp [go_sem]
  · simp [invoke, go_sem, eg]
  refine (hseq (w.heap.size + 1) (fun pre W => I pre W ∧ Book W w.heap.size (recd fn a.tmps ps assign body w.heap.size .ready none))
    (fun pre W => ∃ c, Ix c pre W ∧ Book W w.heap.size (recd fn a.tmps ps assign body w.heap.size .done (some c))) W1 hb1 (by omega) (fun s A h => hR s A h.1)
    (fun s A A' h hb => ⟨hI s A A' h.1 (hb.mono (by omega)), h.2.below hb⟩) (fun s A A' h hb => by
      obtain ⟨c, h1, h2⟩ := h
      exact ⟨c, hIx c s A A' h1 (hb.mono (by omega)), h2.below hb⟩) ?_ ⟨hI _ _ _ h0 hb1, hbk⟩).mono ?_
  · -- one round
    rintro pre x W ⟨hi, hb⟩ hlen
    have hy := run_yield (P := P) (args := encs x) hb.keep (hps x)
    refine ⟨_, _, _, _, hy, roundIn_of_wpIn trivial (hassign _ x W _ ⟨_, run_beginRound hb.keep rfl, ?_⟩)⟩
    have hb2 : Book (W.putObj (w.heap.size + 1) (.loop (recd fn a.tmps ps assign body w.heap.size .busy none))) w.heap.size (recd fn a.tmps ps assign body w.heap.size .busy none) := hb.put _
    have hi2 : I pre (W.putObj (w.heap.size + 1) (.loop (recd fn a.tmps ps assign body w.heap.size .busy none))) := hI _ _ _ hi (below_put _ _ _)
    have hab := above_put W w.heap.size (.loop (recd fn a.tmps ps assign body w.heap.size .busy none))
    have ends : ∀ (j : Option Code) (W3 : World), Above w.heap.size (W.putObj (w.heap.size + 1) (.loop (recd fn a.tmps ps assign body w.heap.size .busy none))) W3 →
        (Instr.endRound (w.heap.size + 1) j).run P W3 = .ok (.bool j.isNone) (W3.putObj (w.heap.size + 1) (.loop (recd fn a.tmps ps assign body w.heap.size (if j.isNone then .ready else .done) j))) ∧
        Book (W3.putObj (w.heap.size + 1) (.loop (recd fn a.tmps ps assign body w.heap.size (if j.isNone then .ready else .done) j))) w.heap.size (recd fn a.tmps ps assign body w.heap.size (if j.isNone then .ready else .done) j) ∧
        Above (w.heap.size + 2) W (W3.putObj (w.heap.size + 1) (.loop (recd fn a.tmps ps assign body w.heap.size (if j.isNone then .ready else .done) j))) := fun j W3 ha => by
      have hb3 := hb2.above ha
      exact ⟨run_endRound j hb3.keep, hb3.put _, (hab.trans (ha.mono (by omega))).trans (above_put _ _ _)⟩
    refine wpIn_mono (hbody _ pre x _ hi2 hlen) ?_
    rintro e a3 W3 hp
    cases e with
    | normal =>
      obtain ⟨r1, r2, r3⟩ := ends none W3 hp.1
      exact ⟨_, _, r1, .inl ⟨rfl, ⟨hI _ _ _ hp.2 (below_put _ _ _), r2⟩, r3⟩⟩
    | ret =>
      obtain ⟨r1, r2, r3⟩ := ends (some .ret) W3 hp.1
      exact ⟨_, _, r1, .inr ⟨rfl, ⟨_, hIx _ _ _ _ hp.2 (below_put _ _ _), r2⟩, r3⟩⟩
    | exit id =>
      obtain ⟨r1, r2, r3⟩ := ends (some (.exit id)) W3 hp.1
      exact ⟨_, _, r1, .inr ⟨rfl, ⟨_, hIx _ _ _ _ hp.2 (below_put _ _ _), r2⟩, r3⟩⟩
    | goto t =>
      obtain ⟨r1, r2, r3⟩ := ends (some (.goto t)) W3 hp.1
      exact ⟨_, _, r1, .inr ⟨rfl, ⟨_, hIx _ _ _ _ hp.2 (below_put _ _ _), r2⟩, r3⟩⟩
    | panic ch => exact hp.elim
    | outgrown => exact hp.elim
  · -- behind it
    rintro e W2 ⟨⟨v, rfl⟩, (⟨xs, hS, hi, hb⟩ | ⟨pre, hSp, c, hi, hb⟩)⟩
    · exact ⟨none, _, run_endLoop hb.keep (by intro h; cases h), hdone xs _ hS (hI _ _ _ hi (below_put _ _ _)) (hb.put _).dfr⟩
    · exact ⟨some c, _, run_endLoop hb.keep (by intro h; cases h), hstop c pre _ hSp (hIx _ _ _ _ hi (below_put _ _ _)) (hb.put _).dfr⟩
end Go.Proofs.YtkcfepppnclniaaGreatDoor
end

section
/-
  A range over a function where both sides make memory of their own and turn it between rounds: what the other side may turn is a set of blocks (X) that grows with new memory alone.
-/
namespace Go.Proofs.YtkcfepppnclniaaGreatDoor
open Go.RowKit Go.Shelf

/-- What is said of memory leans on no block of X, nor on any that isn't there yet. -/
def Apart {α : Type} (J : List α → (Nat → Prop) → World → Prop) : Prop := ∀ s X X' A A', J s X A → Keeps X A A' → (∀ b, X' b → X b ∨ A.heap.size ≤ b) → J s X' A'
/-- What the function that is ranged over owes. -/
def GoesK {α : Type} (n : Nat) (P : Program) (g : Nat) (lb : Array Value) (encs : α → Array Value) (S Sp : List α → Prop) (N : Nat) (R : World → Prop) : Prop :=
  ∀ (l : Nat) (J Jx : List α → (Nat → Prop) → World → Prop) (X : Nat → Prop) (W : World),
    (∀ s X A, J s X A → R A) → Apart J → Apart Jx →
    (∀ pre x X W1, J pre X W1 → pre.length < N → (∀ b, X b → b < W1.heap.size) → YieldAt Fence.wide (n - 1) P l (encs x) W1 fun e W' =>
      (e = .returned (.bool true) ∧ J (pre ++ [x]) X W' ∧ Rest X W1 W') ∨ (e = .returned (.bool false) ∧ Jx (pre ++ [x]) X W' ∧ Rest X W1 W')) →
    J [] X W → (∀ b, X b → b < W.heap.size) →
    CallsIn Fence.wide n P g (#[.func (.yield l) #[] #[]] ++ lb) W fun e W' => (∃ v, e = .returned v) ∧ ((∃ xs, S xs ∧ J xs X W') ∨ (∃ pre, Sp pre ∧ Jx pre X W'))
/-- How a round may end. -/
def leftK {α : Type} (X : Nat → Prop) (I : List α → (Nat → Prop) → World → Prop) (Ix : Code → List α → (Nat → Prop) → World → Prop) (xs : List α) (W : World) : Exit → Act → World → Prop
  | .normal, _, W' => Rest X W W' ∧ I xs X W'
  | .ret, _, W' => Rest X W W' ∧ Ix .ret xs X W'
  | .exit id, _, W' => Rest X W W' ∧ Ix (.exit id) xs X W'
  | .goto t, _, W' => Rest X W W' ∧ Ix (.goto t) xs X W'
  | .panic _, _, _ => False
  | .outgrown, _, _ => False
theorem keeps_putK (W : World) (k : Nat) (o : Obj) : Keeps (fun b => b = k) W (W.putObj k o) := ⟨rfl, rfl, rfl, by simp, fun i _ hn => World.putObj_heap_other (by omega)⟩
theorem Book.keeps {W W' : World} {B : Nat} {r : Loop} (h : Book W B r) {F : Nat → Prop} (hk : Keeps F W W') (h0 : ¬ F B) (h1 : ¬ F (B + 1)) : Book W' B r := by
  have := h.lt
  exact ⟨(hk.block _ this h1).trans h.keep, (hk.block _ (by omega) h0).trans h.dfr⟩

/-- Where no depth is asked, and whichever round it stands in. -/
theorem roundIn_in {m m' : Nat} {P : Program} {l l' : Nat} {f : FuncId} {tmps : Array Value} {assign body : Code} {w : World} {R : Ending → World → Prop} (h : RoundIn Fence.wide m P l f tmps assign body w R) : RoundIn (Fence.wide.inRound l') m' P l f tmps assign body w R := ⟨h.1, fun c cs _ => h.2 c cs (room_wide _)⟩

theorem range_goesK {α : Type} {P : Program} {n : Nat} (h1 : 1 ≤ n) {g : Operand} {ps : Array Tmp} {assign body : Code} {Q : Exit → Act → World → Prop} {a : Act} {w : World}
    {gf : Nat} {lb : Array Value} (hg : a.eval g = .func (.func gf) #[] lb) (eg : ∀ args w, (callFunc gf args).run P w = .ok (.enter gf args) w)
    {encs : α → Array Value} {S Sp : List α → Prop} {N : Nat} {R : World → Prop} (hseq : GoesK (n - 1) P gf lb encs S Sp N R) (hps : ∀ x, (encs x).size = ps.size)
    (I : List α → (Nat → Prop) → World → Prop) (Ix : Code → List α → (Nat → Prop) → World → Prop) (hI : Apart I) (hIx : ∀ c, Apart (Ix c)) (hR : ∀ s X A, I s X A → R A) (h0 : I [] (fun _ => False) w) (a₁ : α → World → Act) (W₁ : α → World → World) (hW₁ : ∀ x W, Below W.heap.size W (W₁ x W))
    (hassign : ∀ (l : Nat) (x : α) (W : World) (K : Act → World → Prop), K (a₁ x W) (W₁ x W) →
      assign.wpIn (Fence.wide.inRound l) (n - 1 - 1) P (Exit.then K (fun _ _ _ => False)) { tmps := (ps.zip (encs x)).foldl (fun t (p, v) => t.setIfInBounds p v) a.tmps, defers := [] } W)
    (hbody : ∀ (l : Nat) (pre : List α) (x : α) (X : Nat → Prop) (A W : World), I pre (fun b => X b ∨ (A.heap.size ≤ b ∧ b < W.heap.size)) W → pre.length < N → X w.heap.size → X (w.heap.size + 1) → w.heap.size + 1 < A.heap.size → (∀ b, b ≠ w.heap.size + 1 → W.heap[b]? = (W₁ x A).heap[b]?) → W.heap.size = (W₁ x A).heap.size → (∀ b, X b → b < A.heap.size) → body.wpIn (Fence.wide.inRound l) (n - 1 - 1) P (leftK X I Ix (pre ++ [x]) W) (a₁ x A) W)
    (hdone : ∀ (xs : List α) (W : World), S xs → I xs (fun b => b = w.heap.size) W → W.heap[w.heap.size]? = some (.deferred (some [])) → Q .normal { a with defers := { target := .collected w.heap.size, args := #[] } :: a.defers } W)
    (hstop : ∀ (c : Code) (pre : List α) (W : World), Sp pre → Ix c pre (fun b => b = w.heap.size) W → W.heap[w.heap.size]? = some (.deferred (some [])) → c.wpIn Fence.wide n P Q { a with defers := { target := .collected w.heap.size, args := #[] } :: a.defers } W) :
    (Code.rangeFunc g ps assign body).wpIn Fence.wide n P Q a w := by
  refine wpIn_rangeFunc fun fn _ => ?_
  have hs : ((w.alloc (.deferred (some []))).alloc (.loop (recd fn a.tmps ps assign body w.heap.size .ready none))).heap.size = w.heap.size + 1 + 1 := by simp
  have hb1 : Below w.heap.size w ((w.alloc (.deferred (some []))).alloc (.loop (recd fn a.tmps ps assign body w.heap.size .ready none))) := ((Below.refl _ w).alloc (Nat.le_refl _) _).alloc (by simp) _
  have hbk : Book ((w.alloc (.deferred (some []))).alloc (.loop (recd fn a.tmps ps assign body w.heap.size .ready none))) w.heap.size (recd fn a.tmps ps assign body w.heap.size .ready none) := by
    constructor
    · have := World.alloc_heap_new (w.alloc (.deferred (some []))) (.loop (recd fn a.tmps ps assign body w.heap.size .ready none))
      rwa [World.size_alloc] at this
    · exact (Below.heap_alloc _ _ _ (by simp)).trans (World.alloc_heap_new w _)
  have hen : (Instr.enterLoop fn a.tmps ps assign body none).run P w = .ok (w.heap.size + 1, [{ target := .collected w.heap.size, args := #[] }]) ((w.alloc (.deferred (some []))).alloc (.loop (recd fn a.tmps ps assign body w.heap.size .ready none))) := run_enterLoop_outer _ _ _ _ _
  generalize (w.alloc (.deferred (some []))).alloc (.loop (recd fn a.tmps ps assign body w.heap.size .ready none)) = W1 at *
  refine ⟨w.heap.size + 1, [{ target := .collected w.heap.size, args := #[] }], W1, { target := .fn (.func gf) lb, args := #[.func (.yield (w.heap.size + 1)) #[] #[]] }, W1, gf, #[.func (.yield (w.heap.size + 1)) #[] #[]] ++ lb, W1, hen, ?_, fun _ _ => trivial, ?_, fun _ => h1, ?_⟩
  · simp only [resolve, hg]
    simp [go_sem]
  · simp [invoke, go_sem, eg]
  have ap : ∀ (r : Loop) (K : List α → (Nat → Prop) → World → Prop), Apart K → Apart (fun pre X W => K pre (fun b => X b ∨ b = w.heap.size ∨ b = w.heap.size + 1) W ∧ Book W w.heap.size r ∧ ¬ X w.heap.size ∧ ¬ X (w.heap.size + 1)) := by
    rintro r K hK s X X' A A' ⟨k1, k2, k3, k4⟩ hk hX
    have hl := k2.lt
    refine ⟨hK _ _ _ _ _ k1 (hk.mono (fun b hb => .inl hb)) (fun b hb => ?_), k2.keeps hk k3 k4, fun h => ?_, fun h => ?_⟩
    · rcases hb with hb | hb
      · rcases hX b hb with h | h
        · exact .inl (.inl h)
        · exact .inr h
      · exact .inl (.inr hb)
    · rcases hX _ h with h | h
      · exact k3 h
      · omega
    · rcases hX _ h with h | h
      · exact k4 h
      · omega
  refine (hseq (w.heap.size + 1) (fun pre X W => I pre (fun b => X b ∨ b = w.heap.size ∨ b = w.heap.size + 1) W ∧ Book W w.heap.size (recd fn a.tmps ps assign body w.heap.size .ready none) ∧ ¬ X w.heap.size ∧ ¬ X (w.heap.size + 1))
    (fun pre X W => ∃ c, Ix c pre (fun b => X b ∨ b = w.heap.size ∨ b = w.heap.size + 1) W ∧ Book W w.heap.size (recd fn a.tmps ps assign body w.heap.size .done (some c)) ∧ ¬ X w.heap.size ∧ ¬ X (w.heap.size + 1)) (fun _ => False) W1 (fun s X A h => hR s _ A h.1)
    (ap _ I hI) (fun s X X' A A' h hk hX => by
      obtain ⟨c, h⟩ := h
      exact ⟨c, ap _ (Ix c) (hIx c) s X X' A A' h hk hX⟩) ?_ ⟨hI _ _ _ _ _ h0 (Below.keeps hb1 _) (fun b hb => ?_), hbk, (fun h => h), (fun h => h)⟩ (fun b h => h.elim)).mono ?_
  · -- one round
    rintro pre x X W ⟨hi, hb, x0, x1⟩ hlen hXW
    have hy := run_yield (P := P) (args := encs x) hb.keep (hps x)
    have hx := hW₁ x W
    have hlW := hb.lt
    have hb1 : Book (W₁ x W) w.heap.size (recd fn a.tmps ps assign body w.heap.size .ready none) := hb.below (hx.mono hlW)
    have hi1 : I pre (fun b => (X b ∨ b = w.heap.size ∨ b = w.heap.size + 1) ∨ (W.heap.size ≤ b ∧ b < (W₁ x W).heap.size)) (W₁ x W) := hI _ _ _ _ _ hi (Below.keeps hx _) (fun b hb => by
      rcases hb with hb | hb
      · exact .inl hb
      · exact .inr hb.1)
    refine ⟨_, _, _, _, hy, roundIn_of_wpIn trivial (hassign _ x W _ ⟨_, run_beginRound hb1.keep rfl, ?_⟩)⟩
    have hb2 : Book ((W₁ x W).putObj (w.heap.size + 1) (.loop (recd fn a.tmps ps assign body w.heap.size .busy none))) w.heap.size (recd fn a.tmps ps assign body w.heap.size .busy none) := hb1.put _
    have put : ∀ (A : World) (o : Obj), Keeps (fun b => X b ∨ b = w.heap.size ∨ b = w.heap.size + 1) A (A.putObj (w.heap.size + 1) o) := fun A o => (keeps_putK A _ o).mono (fun b hb => .inr (.inr hb))
    have rput : ∀ (A : World) (o : Obj), Rest X A (A.putObj (w.heap.size + 1) o) := fun A o => Keeps.mono (keeps_putK A _ o) (fun b hb hxb => x1 (hb ▸ hxb))
    have hi2 : I pre (fun b => (X b ∨ b = w.heap.size ∨ b = w.heap.size + 1) ∨ (W.heap.size ≤ b ∧ b < ((W₁ x W).putObj (w.heap.size + 1) (.loop (recd fn a.tmps ps assign body w.heap.size .busy none))).heap.size)) ((W₁ x W).putObj (w.heap.size + 1) (.loop (recd fn a.tmps ps assign body w.heap.size .busy none))) := hI _ _ _ _ _ hi1 ((put _ _).mono (fun b hb => .inl hb)) (fun b hb => .inl (by simpa using hb))
    have hr2 : Rest X W ((W₁ x W).putObj (w.heap.size + 1) (.loop (recd fn a.tmps ps assign body w.heap.size .busy none))) := (Rest.of_below hx).trans (rput _ _)
    have ends : ∀ (j : Option Code) (W3 : World), Rest (fun b => X b ∨ b = w.heap.size ∨ b = w.heap.size + 1) ((W₁ x W).putObj (w.heap.size + 1) (.loop (recd fn a.tmps ps assign body w.heap.size .busy none))) W3 →
        (Instr.endRound (w.heap.size + 1) j).run P W3 = .ok (.bool j.isNone) (W3.putObj (w.heap.size + 1) (.loop (recd fn a.tmps ps assign body w.heap.size (if j.isNone then .ready else .done) j))) ∧
        Book (W3.putObj (w.heap.size + 1) (.loop (recd fn a.tmps ps assign body w.heap.size (if j.isNone then .ready else .done) j))) w.heap.size (recd fn a.tmps ps assign body w.heap.size (if j.isNone then .ready else .done) j) ∧
        Rest X W (W3.putObj (w.heap.size + 1) (.loop (recd fn a.tmps ps assign body w.heap.size (if j.isNone then .ready else .done) j))) := fun j W3 ha => by
      have hb3 := hb2.keeps ha (fun h => h (.inr (.inl rfl))) (fun h => h (.inr (.inr rfl)))
      exact ⟨run_endRound j hb3.keep, hb3.put _, (hr2.trans (Keeps.mono ha (fun b hb hxb => hb (.inl hxb)))).trans (rput _ _)⟩
    refine wpIn_mono (hbody _ pre x _ W _ hi2 hlen (.inr (.inl rfl)) (.inr (.inr rfl)) hlW (fun b hb => World.putObj_heap_other (by omega)) (by simp) (fun b hb => ?_)) ?_
    · rcases hb with hb | rfl | rfl
      · exact hXW b hb
      · omega
      · omega
    rintro e a3 W3 hp
    cases e with
    | normal =>
      obtain ⟨r1, r2, r3⟩ := ends none W3 hp.1
      exact ⟨_, _, r1, .inl ⟨rfl, ⟨hI _ _ _ _ _ hp.2 (put _ _) (fun b hb => .inl hb), r2, x0, x1⟩, r3⟩⟩
    | ret =>
      obtain ⟨r1, r2, r3⟩ := ends (some .ret) W3 hp.1
      exact ⟨_, _, r1, .inr ⟨rfl, ⟨_, hIx _ _ _ _ _ _ hp.2 (put _ _) (fun b hb => .inl hb), r2, x0, x1⟩, r3⟩⟩
    | exit id =>
      obtain ⟨r1, r2, r3⟩ := ends (some (.exit id)) W3 hp.1
      exact ⟨_, _, r1, .inr ⟨rfl, ⟨_, hIx _ _ _ _ _ _ hp.2 (put _ _) (fun b hb => .inl hb), r2, x0, x1⟩, r3⟩⟩
    | goto t =>
      obtain ⟨r1, r2, r3⟩ := ends (some (.goto t)) W3 hp.1
      exact ⟨_, _, r1, .inr ⟨rfl, ⟨_, hIx _ _ _ _ _ _ hp.2 (put _ _) (fun b hb => .inl hb), r2, x0, x1⟩, r3⟩⟩
    | panic ch => exact hp.elim
    | outgrown => exact hp.elim
  · rcases hb with hb | rfl | rfl
    · exact hb.elim
    · exact .inr (by omega)
    · exact .inr (by omega)
  · -- behind it
    rintro e W2 ⟨⟨v, rfl⟩, (⟨xs, hS, hi, hb, -, -⟩ | ⟨pre, hSp, c, hi, hb, -, -⟩)⟩
    · exact ⟨none, _, run_endLoop hb.keep (by intro h; cases h), hdone xs _ hS (hI _ _ _ _ _ hi ((keeps_putK _ _ _).mono (fun b hb => .inr (.inr hb))) (fun b hb => .inl (.inr (.inl hb)))) (hb.put _).dfr⟩
    · exact ⟨some c, _, run_endLoop hb.keep (by intro h; cases h), hstop c pre _ hSp (hIx _ _ _ _ _ _ hi ((keeps_putK _ _ _).mono (fun b hb => .inr (.inr hb))) (fun b hb => .inl (.inr (.inl hb)))) (hb.put _).dfr⟩
end Go.Proofs.YtkcfepppnclniaaGreatDoor
end
