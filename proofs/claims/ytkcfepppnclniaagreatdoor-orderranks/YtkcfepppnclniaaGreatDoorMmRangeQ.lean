/-
  A range over a function that turns nothing at all and makes no memory: a round may turn whatever it likes but the loop's own blocks and what the function reads (R). Also where the loop stands in a round of another one.
-/
import Derived.Test.YtkcfepppnclniaaGreatDoorMmRange
namespace Go.Proofs.YtkcfepppnclniaaGreatDoor
open Go.RowKit Go.Shelf

/-- What the function owes: it hands on L, one behind the other, each in the world that the last round left. -/
def GoesQ {α : Type} (n : Nat) (P : Program) (g : Nat) (lb : Array Value) (encs : α → Array Value) (L : List α) (R : World → Prop) : Prop :=
  ∀ (l : Nat) (J Jx : List α → World → Prop) (W : World),
    (∀ s A, J s A → R A) →
    (∀ pre x W1, J pre W1 → pre ++ [x] <+: L → YieldAt Fence.wide (n - 1) P l (encs x) W1 fun e W' => (e = .returned (.bool true) ∧ J (pre ++ [x]) W') ∨ (e = .returned (.bool false) ∧ Jx (pre ++ [x]) W')) →
    J [] W →
    CallsIn Fence.wide n P g (#[.func (.yield l) #[] #[]] ++ lb) W fun e W' => (∃ v, e = .returned v) ∧ (J L W' ∨ (∃ pre, pre <+: L ∧ Jx pre W'))
/-- How a round may end: the loop's blocks, from B to before E, lie as they lay. -/
def leftQ {α : Type} (B E : Nat) (I : List α → World → Prop) (Ix : Code → List α → World → Prop) (xs : List α) (W : World) : Exit → Act → World → Prop
  | .normal, _, W' => (∀ b, B ≤ b → b < E → W'.heap[b]? = W.heap[b]?) ∧ I xs W'
  | .ret, _, W' => (∀ b, B ≤ b → b < E → W'.heap[b]? = W.heap[b]?) ∧ Ix .ret xs W'
  | .exit id, _, W' => (∀ b, B ≤ b → b < E → W'.heap[b]? = W.heap[b]?) ∧ Ix (.exit id) xs W'
  | .goto t, _, W' => (∀ b, B ≤ b → b < E → W'.heap[b]? = W.heap[b]?) ∧ Ix (.goto t) xs W'
  | .panic _, _, _ => False
  | .outgrown, _, _ => False

theorem range_goesQ {α : Type} {P : Program} {n : Nat} (h1 : 1 ≤ n) {g : Operand} {ps : Array Tmp} {assign body : Code} {Q : Exit → Act → World → Prop} {a : Act} {w : World}
    {gf : Nat} {lb : Array Value} (hg : a.eval g = .func (.func gf) #[] lb) (eg : ∀ args w, (callFunc gf args).run P w = .ok (.enter gf args) w)
    {encs : α → Array Value} {L : List α} {R : World → Prop} (hseq : GoesQ (n - 1) P gf lb encs L R) (hps : ∀ x, (encs x).size = ps.size)
    (I : List α → World → Prop) (Ix : Code → List α → World → Prop) (hI : ∀ s A A', I s A → Keeps (fun b => w.heap.size ≤ b ∧ b < w.heap.size + 2) A A' → I s A') (hIx : ∀ c s A A', Ix c s A → Keeps (fun b => w.heap.size ≤ b ∧ b < w.heap.size + 2) A A' → Ix c s A') (hR : ∀ s A, I s A → R A) (h0 : I [] w) (a₁ : α → World → Act) (W₁ : α → World → World) (hW₁ : ∀ x W, Below W.heap.size W (W₁ x W))
    (hassign : ∀ (l : Nat) (x : α) (W : World) (K : Act → World → Prop), K (a₁ x W) (W₁ x W) →
      assign.wpIn (Fence.wide.inRound l) (n - 1 - 1) P (Exit.then K (fun _ _ _ => False)) { tmps := (ps.zip (encs x)).foldl (fun t (p, v) => t.setIfInBounds p v) a.tmps, defers := [] } W)
    (hbody : ∀ (l : Nat) (pre : List α) (x : α) (A W : World), l = w.heap.size + 1 → (∃ r, W.heap[w.heap.size + 1]? = some (.loop r)) → I pre W → pre ++ [x] <+: L → w.heap.size + 1 < A.heap.size → Keeps (fun b => w.heap.size ≤ b ∧ b < w.heap.size + 2) (W₁ x A) W → W.heap.size = (W₁ x A).heap.size → body.wpIn (Fence.wide.inRound l) (n - 1 - 1) P (leftQ w.heap.size (w.heap.size + 2) I Ix (pre ++ [x]) W) (a₁ x A) W)
    (hdone : ∀ (W : World), I L W → W.heap[w.heap.size]? = some (.deferred (some [])) → Q .normal { a with defers := { target := .collected w.heap.size, args := #[] } :: a.defers } W)
    (hstop : ∀ (c : Code) (pre : List α) (W : World), pre <+: L → Ix c pre W → W.heap[w.heap.size]? = some (.deferred (some [])) → c.wpIn Fence.wide n P Q { a with defers := { target := .collected w.heap.size, args := #[] } :: a.defers } W) :
    (Code.rangeFunc g ps assign body).wpIn Fence.wide n P Q a w := by
  refine wpIn_rangeFunc fun fn _ => ?_
  have hb1 : Below w.heap.size w ((w.alloc (.deferred (some []))).alloc (.loop (recd fn a.tmps ps assign body w.heap.size .ready none))) := ((Below.refl _ w).alloc (Nat.le_refl _) _).alloc (by simp) _
  have hbk : Book ((w.alloc (.deferred (some []))).alloc (.loop (recd fn a.tmps ps assign body w.heap.size .ready none))) w.heap.size (recd fn a.tmps ps assign body w.heap.size .ready none) := by
    constructor
    · have := World.alloc_heap_new (w.alloc (.deferred (some []))) (.loop (recd fn a.tmps ps assign body w.heap.size .ready none))
      rwa [World.size_alloc] at this
    · exact (Below.heap_alloc _ _ _ (by simp)).trans (World.alloc_heap_new w _)
  have hen : (Instr.enterLoop fn a.tmps ps assign body none).run P w = .ok (w.heap.size + 1, [{ target := .collected w.heap.size, args := #[] }]) ((w.alloc (.deferred (some []))).alloc (.loop (recd fn a.tmps ps assign body w.heap.size .ready none))) := run_enterLoop_outer _ _ _ _ _
  generalize (w.alloc (.deferred (some []))).alloc (.loop (recd fn a.tmps ps assign body w.heap.size .ready none)) = W1 at *
  refine ⟨w.heap.size + 1, [{ target := .collected w.heap.size, args := #[] }], W1, { target := .fn (.func gf) lb, args := #[.func (.yield (w.heap.size + 1)) #[] #[]] }, W1, gf, #[.func (.yield (w.heap.size + 1)) #[] #[]] ++ lb, W1, hen, ?_, fun _ _ => trivial, ?_, fun _ => h1, ?_⟩
  · simp only [resolve, hg]
    simp [go_sem]
  · simp [invoke, go_sem, eg]
  have put : ∀ (A : World) (o : Obj), Keeps (fun b => w.heap.size ≤ b ∧ b < w.heap.size + 2) A (A.putObj (w.heap.size + 1) o) := fun A o => (keeps_putK A _ o).mono (fun b hb => by omega)
  refine (hseq (w.heap.size + 1) (fun pre W => I pre W ∧ Book W w.heap.size (recd fn a.tmps ps assign body w.heap.size .ready none))
    (fun pre W => ∃ c, Ix c pre W ∧ Book W w.heap.size (recd fn a.tmps ps assign body w.heap.size .done (some c))) W1 (fun s A h => hR s A h.1) ?_ ⟨hI _ _ _ h0 (Below.keeps hb1 _), hbk⟩).mono ?_
  · -- one round
    rintro pre x W ⟨hi, hb⟩ hlen
    have hy := run_yield (P := P) (args := encs x) hb.keep (hps x)
    have hx := hW₁ x W
    have hlW := hb.lt
    have hb1 : Book (W₁ x W) w.heap.size (recd fn a.tmps ps assign body w.heap.size .ready none) := hb.below (hx.mono hlW)
    refine ⟨_, _, _, _, hy, roundIn_of_wpIn trivial (hassign _ x W _ ⟨_, run_beginRound hb1.keep rfl, ?_⟩)⟩
    have hb2 : Book ((W₁ x W).putObj (w.heap.size + 1) (.loop (recd fn a.tmps ps assign body w.heap.size .busy none))) w.heap.size (recd fn a.tmps ps assign body w.heap.size .busy none) := hb1.put _
    have hi2 : I pre ((W₁ x W).putObj (w.heap.size + 1) (.loop (recd fn a.tmps ps assign body w.heap.size .busy none))) := hI _ _ _ (hI _ _ _ hi (Below.keeps hx _)) (put _ _)
    have ends : ∀ (j : Option Code) (W3 : World), (∀ b, w.heap.size ≤ b → b < w.heap.size + 2 → W3.heap[b]? = ((W₁ x W).putObj (w.heap.size + 1) (.loop (recd fn a.tmps ps assign body w.heap.size .busy none))).heap[b]?) →
        (Instr.endRound (w.heap.size + 1) j).run P W3 = .ok (.bool j.isNone) (W3.putObj (w.heap.size + 1) (.loop (recd fn a.tmps ps assign body w.heap.size (if j.isNone then .ready else .done) j))) ∧
        Book (W3.putObj (w.heap.size + 1) (.loop (recd fn a.tmps ps assign body w.heap.size (if j.isNone then .ready else .done) j))) w.heap.size (recd fn a.tmps ps assign body w.heap.size (if j.isNone then .ready else .done) j) := fun j W3 ha => by
      have hb3 : Book W3 w.heap.size (recd fn a.tmps ps assign body w.heap.size .busy none) := ⟨(ha _ (by omega) (by omega)).trans hb2.keep, (ha _ (by omega) (by omega)).trans hb2.dfr⟩
      exact ⟨run_endRound j hb3.keep, hb3.put _⟩
    refine wpIn_mono (hbody _ pre x W _ rfl ⟨_, hb2.keep⟩ hi2 hlen hlW (put _ _) (by simp)) ?_
    rintro e a3 W3 hp
    cases e with
    | normal =>
      obtain ⟨r1, r2⟩ := ends none W3 hp.1
      exact ⟨_, _, r1, .inl ⟨rfl, hI _ _ _ hp.2 (put _ _), r2⟩⟩
    | ret =>
      obtain ⟨r1, r2⟩ := ends (some .ret) W3 hp.1
      exact ⟨_, _, r1, .inr ⟨rfl, _, hIx _ _ _ _ hp.2 (put _ _), r2⟩⟩
    | exit id =>
      obtain ⟨r1, r2⟩ := ends (some (.exit id)) W3 hp.1
      exact ⟨_, _, r1, .inr ⟨rfl, _, hIx _ _ _ _ hp.2 (put _ _), r2⟩⟩
    | goto t =>
      obtain ⟨r1, r2⟩ := ends (some (.goto t)) W3 hp.1
      exact ⟨_, _, r1, .inr ⟨rfl, _, hIx _ _ _ _ hp.2 (put _ _), r2⟩⟩
    | panic ch => exact hp.elim
    | outgrown => exact hp.elim
  · -- behind it
    rintro e W2 ⟨⟨v, rfl⟩, (⟨hi, hb⟩ | ⟨pre, hSp, c, hi, hb⟩)⟩
    · exact ⟨none, _, run_endLoop hb.keep (by intro h; cases h), hdone _ (hI _ _ _ hi (put _ _)) (hb.put _).dfr⟩
    · exact ⟨some c, _, run_endLoop hb.keep (by intro h; cases h), hstop c pre _ hSp (hIx _ _ _ _ hi (put _ _)) (hb.put _).dfr⟩

/-- The same in a round of loop l₀, where no round leaves the inner loop early: it lays one block, and defers nothing. -/
theorem range_goesQ_in {α : Type} {P : Program} {n l₀ : Nat} (h1 : 1 ≤ n) {g : Operand} {ps : Array Tmp} {assign body : Code} {Q : Exit → Act → World → Prop} {a : Act} {w : World} (hl₀ : ∃ r, w.heap[l₀]? = some (.loop r))
    {gf : Nat} {lb : Array Value} (hg : a.eval g = .func (.func gf) #[] lb) (eg : ∀ args w, (callFunc gf args).run P w = .ok (.enter gf args) w)
    {encs : α → Array Value} {L : List α} {R : World → Prop} (hseq : GoesQ (n - 1) P gf lb encs L R) (hps : ∀ x, (encs x).size = ps.size)
    (I : List α → World → Prop) (hI : ∀ s A A', I s A → Keeps (fun b => b = w.heap.size) A A' → I s A') (hR : ∀ s A, I s A → R A) (h0 : I [] w) (a₁ : α → World → Act) (W₁ : α → World → World) (hW₁ : ∀ x W, Below W.heap.size W (W₁ x W))
    (hassign : ∀ (l : Nat) (x : α) (W : World) (K : Act → World → Prop), K (a₁ x W) (W₁ x W) →
      assign.wpIn (Fence.wide.inRound l) (n - 1 - 1) P (Exit.then K (fun _ _ _ => False)) { tmps := (ps.zip (encs x)).foldl (fun t (p, v) => t.setIfInBounds p v) a.tmps, defers := [] } W)
    (hbody : ∀ (l : Nat) (pre : List α) (x : α) (A W : World), l = w.heap.size → (∃ r, W.heap[w.heap.size]? = some (.loop r)) → I pre W → pre ++ [x] <+: L → w.heap.size < A.heap.size → Keeps (fun b => b = w.heap.size) (W₁ x A) W → W.heap.size = (W₁ x A).heap.size → body.wpIn (Fence.wide.inRound l) (n - 1 - 1) P (leftQ w.heap.size (w.heap.size + 1) I (fun _ _ _ => False) (pre ++ [x]) W) (a₁ x A) W)
    (hdone : ∀ (W : World), I L W → Q .normal a W) :
    (Code.rangeFunc g ps assign body).wpIn (Fence.wide.inRound l₀) n P Q a w := by
  obtain ⟨r₀, hl₀⟩ := hl₀
  refine wpIn_rangeFunc fun fn _ => ?_
  obtain ⟨rec, hrec⟩ : ∃ rec : LoopState → Option Code → Loop, rec = fun st pe => { state := st, pending := pe, fn := fn, tmps := a.tmps, params := ps, assign := assign, body := body, defers := r₀.defers } := ⟨_, rfl⟩
  have hen : (Instr.enterLoop fn a.tmps ps assign body (some l₀)).run P w = .ok (w.heap.size, []) (w.alloc (.loop (rec .ready none))) := by rw [hrec]; exact run_enterLoop_inner hl₀ _ _ _ _ _
  have hb1 : Below w.heap.size w (w.alloc (.loop (rec .ready none))) := (Below.refl _ w).alloc (Nat.le_refl _) _
  have hbk : (w.alloc (.loop (rec .ready none))).heap[w.heap.size]? = some (.loop (rec .ready none)) := World.alloc_heap_new w _
  generalize w.alloc (.loop (rec .ready none)) = W1 at *
  refine ⟨w.heap.size, [], W1, { target := .fn (.func gf) lb, args := #[.func (.yield w.heap.size) #[] #[]] }, W1, gf, #[.func (.yield w.heap.size) #[] #[]] ++ lb, W1, hen, ?_, fun _ _ => trivial, ?_, fun _ => h1, ?_⟩
  · simp only [resolve, hg]
    simp [go_sem]
  · simp [invoke, go_sem, eg]
  have put : ∀ (A : World) (o : Obj), Keeps (fun b => b = w.heap.size) A (A.putObj w.heap.size o) := fun A o => keeps_putK A _ o
  refine (CallsIn.mono (hseq w.heap.size (fun pre W => I pre W ∧ W.heap[w.heap.size]? = some (.loop (rec .ready none))) (fun _ _ => False) W1 (fun s A h => hR s A h.1) ?_ ⟨hI _ _ _ h0 (Below.keeps hb1 _), hbk⟩) ?_ : CallsIn Fence.wide (n - 1) P gf _ _ _)
  · -- one round
    rintro pre x W ⟨hi, hb⟩ hlen
    have hlW : w.heap.size < W.heap.size := (Array.getElem?_eq_some_iff.1 hb).1
    have hy := run_yield (P := P) (args := encs x) hb (by rw [hrec]; exact hps x)
    rw [hrec] at hy
    have hx := hW₁ x W
    have hb1 : (W₁ x W).heap[w.heap.size]? = some (.loop (rec .ready none)) := (hx.block _ hlW).trans hb
    refine ⟨_, _, _, _, hy, roundIn_of_wpIn trivial (hassign _ x W _ ⟨_, run_beginRound hb1 (by rw [hrec]), ?_⟩)⟩
    have hl1 : w.heap.size < (W₁ x W).heap.size := Nat.lt_of_lt_of_le hlW hx.size
    have hb2 : ((W₁ x W).putObj w.heap.size (.loop { rec .ready none with state := .busy })).heap[w.heap.size]? = some (.loop { rec .ready none with state := .busy }) := World.putObj_heap_same hl1
    have hi2 : I pre ((W₁ x W).putObj w.heap.size (.loop { rec .ready none with state := .busy })) := hI _ _ _ (hI _ _ _ hi (Below.keeps hx _)) (put _ _)
    refine wpIn_mono (hbody _ pre x W _ rfl ⟨_, hb2⟩ hi2 hlen hlW (put _ _) (by simp)) ?_
    rintro e a3 W3 hp
    cases e with
    | normal =>
      have hb3 := (hp.1 w.heap.size (Nat.le_refl _) (Nat.lt_succ_self _)).trans hb2
      have hr := run_endRound (P := P) none hb3
      refine ⟨_, _, hr, .inl ⟨rfl, hI _ _ _ hp.2 (put _ _), ?_⟩⟩
      rw [World.putObj_heap_same (Array.getElem?_eq_some_iff.1 hb3).1, hrec]
      rfl
    | ret => exact hp.2.elim
    | exit id => exact hp.2.elim
    | goto t => exact hp.2.elim
    | panic ch => exact hp.elim
    | outgrown => exact hp.elim
  · -- behind it
    rintro e W2 ⟨⟨v, rfl⟩, (⟨hi, hb⟩ | ⟨pre, _, hf⟩)⟩
    · rw [hrec] at hb
      exact ⟨none, _, run_endLoop hb (by intro h; cases h), hdone _ (hI _ _ _ hi (put _ _))⟩
    · exact hf.elim
end Go.Proofs.YtkcfepppnclniaaGreatDoor
