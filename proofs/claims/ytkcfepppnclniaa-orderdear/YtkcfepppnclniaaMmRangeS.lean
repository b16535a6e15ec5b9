/-
  RangeS, WitStep.
-/
import Derived.Test.YtkcfepppnclniaaMmRangeK
import Derived.Test.YtkcfepppnclniaaMmWitTouch
import Derived.Test.YtkcfepppnclniaaMmWitMem
import Derived.Test.YtkcfepppnclniaaMmMeshSeq
import Derived.Deep.RegionHeld3
section
/-
  A range over a function that turns memory laid ahead of the loop, which the rounds may read (a search's state): what the function has is a set of blocks (X) that grows with new memory alone; Z tells what lies there between rounds.
-/
namespace Go.Proofs.Ytkcfepppnclniaa
open Go.RowKit Go.Shelf

/-- What the function that is ranged over owes: it starts where Z0 holds, hands on x where Z says so, and ends where S says that all is done. -/
def GoesS {α : Type} (n : Nat) (P : Program) (g : Nat) (lb : Array Value) (encs : α → Array Value) (Z0 : (Nat → Prop) → World → Prop) (Z : List α → (Nat → Prop) → World → Prop) (S : List α → Prop) (R : World → Prop) : Prop :=
  ∀ (l : Nat) (J Jx : List α → (Nat → Prop) → World → Prop) (X : Nat → Prop) (W : World),
    (∀ s X A, J s X A → R A) → Apart J → Apart Jx →
    (∀ pre x X W1, J pre X W1 → Z (pre ++ [x]) X W1 → (∀ b, X b → b < W1.heap.size) → YieldAt Fence.wide (n - 1) P l (encs x) W1 fun e W' =>
      (e = .returned (.bool true) ∧ J (pre ++ [x]) X W' ∧ Rest X W1 W') ∨ (e = .returned (.bool false) ∧ Jx (pre ++ [x]) X W' ∧ Rest X W1 W')) →
    J [] X W → Z0 X W → (∀ b, X b → b < W.heap.size) →
    CallsIn Fence.wide n P g (#[.func (.yield l) #[] #[]] ++ lb) W fun e W' => (∃ v, e = .returned v) ∧ ((∃ xs, S xs ∧ ∃ X, J xs X W' ∧ Z xs X W') ∨ (∃ pre X, Jx pre X W' ∧ Z pre X W'))

theorem range_goesS {α : Type} {P : Program} {n : Nat} (h1 : 1 ≤ n) {g : Operand} {ps : Array Tmp} {assign body : Code} {Q : Exit → Act → World → Prop} {a : Act} {w : World}
    {gf : Nat} {lb : Array Value} (hg : a.eval g = .func (.func gf) #[] lb) (eg : ∀ args w, (callFunc gf args).run P w = .ok (.enter gf args) w)
    {encs : α → Array Value} {Z0 : (Nat → Prop) → World → Prop} {Z : List α → (Nat → Prop) → World → Prop} {S : List α → Prop} {R : World → Prop} (hseq : GoesS (n - 1) P gf lb encs Z0 Z S R) (hps : ∀ x, (encs x).size = ps.size)
    (hZ0 : ∀ X A A', Z0 X A → Rest X A A' → Z0 X A') (hZ : ∀ s X A A', Z s X A → Rest X A A' → Z s X A')
    (I : List α → (Nat → Prop) → World → Prop) (Ix : Code → List α → (Nat → Prop) → World → Prop) (hI : Apart I) (hIx : ∀ c, Apart (Ix c)) (hR : ∀ s X A, I s X A → R A) (X0 : Nat → Prop) (hX0 : ∀ b, X0 b → b < w.heap.size) (h0 : I [] X0 w) (hz : Z0 X0 w) (a₁ : α → Act)
    (hassign : ∀ (l : Nat) (x : α) (W : World) (K : Act → World → Prop), K (a₁ x) W →
      assign.wpIn (Fence.wide.inRound l) (n - 1 - 1) P (Exit.then K (fun _ _ _ => False)) { tmps := (ps.zip (encs x)).foldl (fun t (p, v) => t.setIfInBounds p v) a.tmps, defers := [] } W)
    (hbody : ∀ (l : Nat) (pre : List α) (x : α) (X : Nat → Prop) (W : World), I pre (fun b => X b ∨ b = w.heap.size ∨ b = w.heap.size + 1) W → Z (pre ++ [x]) X W → w.heap.size + 1 < W.heap.size → (∀ b, X b → b < W.heap.size) → ¬ X w.heap.size → ¬ X (w.heap.size + 1) → body.wpIn (Fence.wide.inRound l) (n - 1 - 1) P (leftK (fun b => X b ∨ b = w.heap.size ∨ b = w.heap.size + 1) I Ix (pre ++ [x]) W) (a₁ x) W)
    (hdone : ∀ (xs : List α) (X : Nat → Prop) (W : World), S xs → I xs (fun b => X b ∨ b = w.heap.size) W → Z xs X W → W.heap[w.heap.size]? = some (.deferred (some [])) → Q .normal { a with defers := { target := .collected w.heap.size, args := #[] } :: a.defers } W)
    (hstop : ∀ (c : Code) (pre : List α) (X : Nat → Prop) (W : World), Ix c pre (fun b => X b ∨ b = w.heap.size) W → Z pre X W → W.heap[w.heap.size]? = some (.deferred (some [])) → c.wpIn Fence.wide n P Q { a with defers := { target := .collected w.heap.size, args := #[] } :: a.defers } W) :
    (Code.rangeFunc g ps assign body).wpIn Fence.wide n P Q a w := by
  refine wpIn_rangeFunc fun fn _ => ?_
  have hs : ((w.alloc (.deferred (some []))).alloc (.loop (recd fn a.tmps ps assign body w.heap.size .ready none))).heap.size = w.heap.size + 1 + 1 := by simp
  have hb1 : Below w.heap.size w ((w.alloc (.deferred (some []))).alloc (.loop (recd fn a.tmps ps assign body w.heap.size .ready none))) := ((Below.refl _ w).alloc (Nat.le_refl _) _).alloc (by simp) _
  have hbk : Book ((w.alloc (.deferred (some []))).alloc (.loop (recd fn a.tmps ps assign body w.heap.size .ready none))) w.heap.size (recd fn a.tmps ps assign body w.heap.size .ready none) := by
    constructor
    · have := World.alloc_heap_new (w.alloc (.deferred (some []))) (.loop (recd fn a.tmps ps assign body w.heap.size .ready none))
      rwa [World.size_alloc] at this
    · exact (Below.heap_alloc _ _ _ (by simp)).trans (World.alloc_heap_new w _)
  have hen : (Instr.enterLoop fn a.tmps ps assign body none).run P w = .ok (w.heap.size + 1, [{ target := .collected w.heap.size, args := #[] }]) ((w.alloc (.deferred (some []))).alloc (.loop (recd fn a.tmps ps assign body w.heap.size .ready none))) := run_enterLoop_outer _ _ _ _ _
  generalize (w.alloc (.deferred (some []))).alloc (.loop (recd fn a.tmps ps assign body w.heap.size .ready none)) = W1 at *
  refine ⟨w.heap.size + 1, [{ target := .collected w.heap.size, args := #[] }], W1, { target := .fn (.func gf) lb, args := #[.func (.yield (w.heap.size + 1)) #[] #[]] }, W1, gf, #[.func (.yield (w.heap.size + 1)) #[] #[]] ++ lb, W1, hen, ?_, fun _ _ => trivial, ?_, fun _ => h1, ?_⟩
  · simp only [resolve, hg]
    simp [go_sem]
  · simp [invoke, go_sem, eg]
  have ap : ∀ (r : Loop) (K : List α → (Nat → Prop) → World → Prop), Apart K → Apart (fun pre X W => K pre (fun b => X b ∨ b = w.heap.size ∨ b = w.heap.size + 1) W ∧ Book W w.heap.size r ∧ ¬ X w.heap.size ∧ ¬ X (w.heap.size + 1)) := by
    rintro r K hK s X X' A A' ⟨k1, k2, k3, k4⟩ hk hX
    have hl := k2.lt
    refine ⟨hK _ _ _ _ _ k1 (hk.mono (fun b hb => .inl hb)) (fun b hb => ?_), k2.keeps hk k3 k4, fun h => ?_, fun h => ?_⟩
    · rcases hb with hb | hb
      · rcases hX b hb with h | h
        · exact .inl (.inl h)
        · exact .inr h
      · exact .inl (.inr hb)
    · rcases hX _ h with h | h
      · exact k3 h
      · omega
    · rcases hX _ h with h | h
      · exact k4 h
      · omega
  refine (hseq (w.heap.size + 1) (fun pre X W => I pre (fun b => X b ∨ b = w.heap.size ∨ b = w.heap.size + 1) W ∧ Book W w.heap.size (recd fn a.tmps ps assign body w.heap.size .ready none) ∧ ¬ X w.heap.size ∧ ¬ X (w.heap.size + 1))
    (fun pre X W => ∃ c, Ix c pre (fun b => X b ∨ b = w.heap.size ∨ b = w.heap.size + 1) W ∧ Book W w.heap.size (recd fn a.tmps ps assign body w.heap.size .done (some c)) ∧ ¬ X w.heap.size ∧ ¬ X (w.heap.size + 1)) X0 W1 (fun s X A h => hR s _ A h.1)
    (ap _ I hI) (fun s X X' A A' h hk hX => by
      obtain ⟨c, h⟩ := h
      exact ⟨c, ap _ (Ix c) (hIx c) s X X' A A' h hk hX⟩) ?_ ⟨hI _ _ _ _ _ h0 (Below.keeps hb1 _) (fun b hb => ?_), hbk, (fun h => Nat.lt_irrefl _ (hX0 _ h)), (fun h => by have := hX0 _ h; omega)⟩ (hZ0 _ _ _ hz (Rest.of_below hb1)) (fun b h => by have := hX0 b h; omega)).mono ?_
  · -- one round
    rintro pre x X W ⟨hi, hb, x0, x1⟩ hzz hXW
    have hy := run_yield (P := P) (args := encs x) hb.keep (hps x)
    have hlW := hb.lt
    refine ⟨_, _, _, _, hy, roundIn_of_wpIn trivial (hassign _ x W _ ⟨_, run_beginRound hb.keep rfl, ?_⟩)⟩
    have hb2 : Book (W.putObj (w.heap.size + 1) (.loop (recd fn a.tmps ps assign body w.heap.size .busy none))) w.heap.size (recd fn a.tmps ps assign body w.heap.size .busy none) := hb.put _
    have put : ∀ (A : World) (o : Obj), Keeps (fun b => X b ∨ b = w.heap.size ∨ b = w.heap.size + 1) A (A.putObj (w.heap.size + 1) o) := fun A o => (keeps_putK A _ o).mono (fun b hb => .inr (.inr hb))
    have rput : ∀ (A : World) (o : Obj), Rest X A (A.putObj (w.heap.size + 1) o) := fun A o => Keeps.mono (keeps_putK A _ o) (fun b hb hxb => x1 (hb ▸ hxb))
    have hi2 : I pre (fun b => X b ∨ b = w.heap.size ∨ b = w.heap.size + 1) (W.putObj (w.heap.size + 1) (.loop (recd fn a.tmps ps assign body w.heap.size .busy none))) := hI _ _ _ _ _ hi (put _ _) (fun b hb => .inl hb)
    have hr2 : Rest X W (W.putObj (w.heap.size + 1) (.loop (recd fn a.tmps ps assign body w.heap.size .busy none))) := rput _ _
    have ends : ∀ (j : Option Code) (W3 : World), Rest (fun b => X b ∨ b = w.heap.size ∨ b = w.heap.size + 1) (W.putObj (w.heap.size + 1) (.loop (recd fn a.tmps ps assign body w.heap.size .busy none))) W3 →
        (Instr.endRound (w.heap.size + 1) j).run P W3 = .ok (.bool j.isNone) (W3.putObj (w.heap.size + 1) (.loop (recd fn a.tmps ps assign body w.heap.size (if j.isNone then .ready else .done) j))) ∧
        Book (W3.putObj (w.heap.size + 1) (.loop (recd fn a.tmps ps assign body w.heap.size (if j.isNone then .ready else .done) j))) w.heap.size (recd fn a.tmps ps assign body w.heap.size (if j.isNone then .ready else .done) j) ∧
        Rest X W (W3.putObj (w.heap.size + 1) (.loop (recd fn a.tmps ps assign body w.heap.size (if j.isNone then .ready else .done) j))) := fun j W3 ha => by
      have hb3 := hb2.keeps ha (fun h => h (.inr (.inl rfl))) (fun h => h (.inr (.inr rfl)))
      exact ⟨run_endRound j hb3.keep, hb3.put _, (hr2.trans (Keeps.mono ha (fun b hb hxb => hb (.inl hxb)))).trans (rput _ _)⟩
    refine wpIn_mono (hbody _ pre x X _ hi2 (hZ _ _ _ _ hzz hr2) (by simpa using hlW) (fun b hb => by simpa using hXW b hb) x0 x1) ?_
    rintro e a3 W3 hp
    cases e with
    | normal =>
      obtain ⟨r1, r2, r3⟩ := ends none W3 hp.1
      exact ⟨_, _, r1, .inl ⟨rfl, ⟨hI _ _ _ _ _ hp.2 (put _ _) (fun b hb => .inl hb), r2, x0, x1⟩, r3⟩⟩
    | ret =>
      obtain ⟨r1, r2, r3⟩ := ends (some .ret) W3 hp.1
      exact ⟨_, _, r1, .inr ⟨rfl, ⟨_, hIx _ _ _ _ _ _ hp.2 (put _ _) (fun b hb => .inl hb), r2, x0, x1⟩, r3⟩⟩
    | exit id =>
      obtain ⟨r1, r2, r3⟩ := ends (some (.exit id)) W3 hp.1
      exact ⟨_, _, r1, .inr ⟨rfl, ⟨_, hIx _ _ _ _ _ _ hp.2 (put _ _) (fun b hb => .inl hb), r2, x0, x1⟩, r3⟩⟩
    | goto t =>
      obtain ⟨r1, r2, r3⟩ := ends (some (.goto t)) W3 hp.1
      exact ⟨_, _, r1, .inr ⟨rfl, ⟨_, hIx _ _ _ _ _ _ hp.2 (put _ _) (fun b hb => .inl hb), r2, x0, x1⟩, r3⟩⟩
    | panic ch => exact hp.elim
    | outgrown => exact hp.elim
  · rcases hb with hb | rfl | rfl
    · exact .inl hb
    · exact .inr (Nat.le_refl _)
    · exact .inr (by omega)
  · -- behind it
    rintro e W2 ⟨⟨v, rfl⟩, (⟨xs, hS, X, ⟨hi, hb, x0, x1⟩, hzz⟩ | ⟨pre, X, ⟨c, hi, hb, x0, x1⟩, hzz⟩)⟩
    · exact ⟨none, _, run_endLoop hb.keep (by intro h; cases h), hdone xs X _ hS (hI _ _ _ _ _ hi ((keeps_putK _ _ _).mono (fun b hb => .inr (.inr hb))) (fun b hb => .inl (hb.imp id .inl))) (hZ _ _ _ _ hzz (Keeps.mono (keeps_putK _ _ _) (fun b hb hxb => x1 (hb ▸ hxb)))) (hb.put _).dfr⟩
    · exact ⟨some c, _, run_endLoop hb.keep (by intro h; cases h), hstop c pre X _ (hIx _ _ _ _ _ _ hi ((keeps_putK _ _ _).mono (fun b hb => .inr (.inr hb))) (fun b hb => .inl (hb.imp id .inl))) (hZ _ _ _ _ hzz (Keeps.mono (keeps_putK _ _ _) (fun b hb hxb => x1 (hb ▸ hxb)))) (hb.put _).dfr⟩
end Go.Proofs.Ytkcfepppnclniaa
end

section
/-
  Part way through settle: what holds between the steps of the vertex that is settled (layer 13).
-/
namespace Go.Proofs.Ytkcfepppnclniaa
open Go.RowKit Go.Shelf

/-- The beginning of a region that draws, whose end alone is told: no panic. -/
theorem wp_region_heldR {P : Program} {id : Nat} {ops : Array Oper} {Q : Exit → Act → World → Prop} {R : Act → World → Prop} {S : World → Prop} {a : Act} {w : World} (hm : P.follows .mixedOrders = true) (hN : ∀ a w, R a w → Q .normal a w) (hS : S w.drew)
    (h : S w.drew → wpAnyH P .any ops (fun e a' w' => e = .normal ∧ R a' w') S ops.size (Array.replicate ops.size false) a w.drew) : (Code.region id ops true).wp P Q a w :=
  Code.wp_mono (Q := fun e a' w' => e = .normal ∧ R a' w') (fun e a' w' h => by obtain ⟨rfl, h⟩ := h; exact hN _ _ h) (wp_region_held_drew hm hS h)

/-- What settle's loop leans on beside the search: two variables of its own, and what the mesh's iterator has. -/
structure WB (w : World) (z : Wid) (mp N : Nat) (D : Nat → Nat → Int) (v : Nat) (d : Int) (F : Nat → Prop) (T4 : Nat) (A : World) : Prop where
  kp : Keeps F w A
  ks : Boxed A w.heap.size 72 (.pointer (some ⟨z.q, 0, none⟩))
  kd : Boxed A (w.heap.size + 1) 3 (.int .i64 d)
  rd : Reads 39 mp N D (v : Int) T4 A
/-- Which blocks the search has by now: none of those. -/
structure WF (w : World) (F : Nat → Prop) (mp T4 : Nat) (F' : Nat → Prop) : Prop where
  from' : ∀ b, F' b → F b ∨ w.heap.size ≤ b
  out : ∀ b, F' b → ¬ (w.heap.size ≤ b ∧ b < w.heap.size + 2) ∧ ¬ (T4 ≤ b ∧ b < T4 + 6) ∧ b ≠ mp
section
variable {w A A' : World} {B : Nat} {z : Wid} {mp N O : Nat} {D : Nat → Nat → Int} {v : Nat} {d : Int} {F F' F'' : Nat → Prop} {T4 : Nat}
theorem WB.turn (h : WB w z mp N D v d F T4 A) (hF : WF w F mp T4 F') (hk : Keeps F' A A') : WB w z mp N D v d F T4 A' := by
  obtain ⟨kp, ks, kd, rd⟩ := h
  refine ⟨kp.trans hk hF.from', (hk.block _ ks.lt (fun c => (hF.out _ c).1 ⟨by omega, by omega⟩)).trans ks, (hk.block _ kd.lt (fun c => (hF.out _ c).1 ⟨by omega, by omega⟩)).trans kd, rd.kept hk (fun c => (hF.out _ c).2.2 rfl) (fun b b1 b2 c => (hF.out _ c).2.1 ⟨b1, by omega⟩)⟩
theorem WB.on (h : WB w z mp N D v d F T4 A) (hb : Below A.heap.size A A') : WB w z mp N D v d F T4 A' :=
  h.turn (F' := fun _ => False) ⟨fun _ h => h.elim, fun _ h => h.elim⟩ (Below.keeps hb _)
theorem WF.wide (h : WF w F mp T4 F') (hF : ∀ b, F'' b → F' b ∨ A.heap.size ≤ b) (hs : T4 + 6 ≤ A.heap.size) (hw : w.heap.size + 2 ≤ T4) (hmp : mp < w.heap.size) : WF w F mp T4 F'' := by
  refine ⟨fun b hb => ?_, fun b hb => ?_⟩
  · rcases hF b hb with h1 | h1
    · exact h.from' b h1
    · exact .inr (by omega)
  · rcases hF b hb with h1 | h1
    · exact h.out b h1
    · omega
/-- Between steps: those in pm have come to the heap, those in pt to what is touched. -/
def WS (w : World) (B : Nat) (z : Wid) (mp N O : Nat) (D : Nat → Nat → Int) (v : Nat) (d : Int) (L : List (Nat × Int)) (k : Nat → Option Int) (F : Nat → Prop) (T4 : Nat) (pm pt : List (Nat × Int)) (A : World) : Prop :=
  WB w z mp N D v d F T4 A ∧ ∃ hm T F', WD A B z mp N O k hm T F' ∧ WM.MidL N D (WM.outOf O) L (v, d) pm hm ∧ WM.TP N D (WM.outOf O) L v pt T ∧ WF w F mp T4 F'
variable {L pm pt : List (Nat × Int)} {k : Nat → Option Int} {u : Nat} {x : Int}
theorem WS.on (h : WS w B z mp N O D v d L k F T4 pm pt A) (hb : Below A.heap.size A A') : WS w B z mp N O D v d L k F T4 pm pt A' := by
  obtain ⟨h1, hm, T, F', h2, h3, h4, h5⟩ := h
  exact ⟨h1.on hb, hm, T, F', h2.on hb, h3, h4, h5⟩
theorem WS.loop (h : WS w B z mp N O D v d L k F T4 pm pt A) (hw : w.heap.size + 2 ≤ T4) (hmp : mp < w.heap.size) (hk : Keeps (fun b => T4 + 4 ≤ b ∧ b < T4 + 6) A A') : WS w B z mp N O D v d L k F T4 pm pt A' := by
  obtain ⟨⟨kp, ks, kd, rd⟩, hm, T, F', h2, h3, h4, h5⟩ := h
  refine ⟨⟨kp.trans hk (fun b hb => .inr (by omega)), (hk.block _ ks.lt (fun c => by omega)).trans ks, (hk.block _ kd.lt (fun c => by omega)).trans kd, rd.kept hk (fun c => by omega) (fun b b1 b2 c => by omega)⟩, hm, T, F', h2.kept hk (fun b hb c => ?_), h3, h4, h5⟩
  exact (h5.out b hb).2.1 ⟨by omega, by omega⟩
/-- A step to one that is left out. -/
theorem WS.skip (h : WS w B z mp N O D v d L k F T4 pm pt A) (hO : WM.outOf O u = true) : WS w B z mp N O D v d L k F T4 (pm ++ [(u, x)]) (pt ++ [(u, x)]) A := by
  obtain ⟨h1, hm, T, F', h2, h3, h4, h5⟩ := h
  exact ⟨h1, hm, T, F', h2, h3.skip (fun c => by rw [c.2.1] at hO; cases hO), h4.skip hO, h5⟩
/-- A step to one that may be there: it is touched. -/
theorem WS.touch {hm : Nat → Option Int} {T : Nat} (h1 : WB w z mp N D v d F T4 A) (h2 : WD A B z mp N O k hm T F') (h3 : WM.MidL N D (WM.outOf O) L (v, d) pm hm) (h4 : WM.TP N D (WM.outOf O) L v pt T) (h5 : WF w F mp T4 F') (hu : u < 24) (hO : WM.outOf O u = false) :
    WS w B z mp N O D v d L k F T4 pm (pt ++ [(u, x)]) (A.setCell ⟨z.q, 4, none⟩ (.int .u64 ((T ||| BM.only (u : Int) : Nat) : Int))) ∧ Keeps F' A (A.setCell ⟨z.q, 4, none⟩ (.int .u64 ((T ||| BM.only (u : Int) : Nat) : Int))) := by
  obtain ⟨h6, h7⟩ := h2.touch (T ||| BM.only (u : Int))
  exact ⟨⟨h1.turn h5 h7, hm, _, F', h6, h3, h4.step hu hO, h5⟩, h7⟩
/-- The vertex that a step leads to is settled: nothing comes to the heap. -/
theorem WS.old (h : WS w B z mp N O D v d L k F T4 pm pt A) (hu : WM.has (L ++ [(v, d)]) u = true) : WS w B z mp N O D v d L k F T4 (pm ++ [(u, x)]) pt A := by
  obtain ⟨h1, hm, T, F', h2, h3, h4, h5⟩ := h
  exact ⟨h1, hm, T, F', h2, h3.skip (fun c => by rw [c.2.2] at hu; cases hu), h4, h5⟩
/-- It isn't: it comes to the heap. -/
theorem WS.new (h : WS w B z mp N O D v d L k F T4 pm pt A) (hB : B ≤ A.heap.size) (hs : T4 + 6 ≤ A.heap.size) (hw : w.heap.size + 2 ≤ T4) (hmp : mp < w.heap.size) (hp : WM.has pm u = false) (hf : WM.Free N (WM.outOf O) (L ++ [(v, d)]) u) (hd : 0 ≤ d ∧ d < 4611686018427387906) (hD : 0 ≤ D v u ∧ D v u < 4611686018427387906) :
    Calls Try.prog 52 #[.pointer (some ⟨z.p, 0, none⟩), .int .i64 (u : Nat), .int .i64 (DM.two d (D v u))] A fun e A' => (∃ c, e = .returned (.int .i64 c)) ∧ WS w B z mp N O D v d L k F T4 (pm ++ [(u, x)]) pt A' ∧ (∀ b, T4 + 4 ≤ b → b < T4 + 6 → A'.heap[b]? = A.heap[b]?) := by
  obtain ⟨h1, hm, T, F', h2, h3, h4, h5⟩ := h
  refine (h2.put hB u (DM.two d (D v u))).mono ?_
  rintro e A' ⟨rfl, hk, hwd⟩
  have hsz := hk.size
  refine ⟨⟨_, rfl⟩, ⟨h1.turn h5 hk, _, T, _, hwd, h3.come hp hf hd hD, h4, h5.wide (fun b hb => hb.imp id (·.1)) hs hw hmp⟩, fun b b1 b2 => hk.block b (by omega) (fun c => (h5.out b c).2.1 ⟨by omega, by omega⟩)⟩
end
/-- Ahead of settle's loop. -/
structure SP (w : World) (B : Nat) (z : Wid) (mp N O : Nat) (D : Nat → Nat → Int) (d : Int) (k : Nat → Option Int) (hm : Nat → Option Int) (T : Nat) (F : Nat → Prop) (A : World) : Prop where
  wd : WD A B z mp N O k hm T F
  kp : Keeps F w A
  ks : Boxed A w.heap.size 72 (.pointer (some ⟨z.q, 0, none⟩))
  kd : Boxed A (w.heap.size + 1) 3 (.int .i64 d)
  x : XMem A mp N D
  lt : ∀ b, F b → b < w.heap.size
  mf : ¬ F mp
  sz : w.heap.size + 2 ≤ A.heap.size
section
variable {w A A' : World} {B : Nat} {z : Wid} {mp N O T T' : Nat} {D : Nat → Nat → Int} {d : Int} {k k' : Nat → Option Int} {hm hm' : Nat → Option Int} {F : Nat → Prop}
theorem SP.turn (h : SP w B z mp N O D d k hm T F A) (hk : Keeps F A A') (hn : WD A' B z mp N O k' hm' T' F) : SP w B z mp N O D d k' hm' T' F A' := by
  obtain ⟨wd, kp, ks, kd, x, lt, mf, sz⟩ := h
  exact ⟨hn, kp.trans hk (fun _ h => .inl h), (hk.block _ ks.lt (fun c => by have := lt _ c; omega)).trans ks, (hk.block _ kd.lt (fun c => by have := lt _ c; omega)).trans kd, x.kept hk mf, lt, mf, Nat.le_trans sz hk.size⟩
theorem SP.on (h : SP w B z mp N O D d k hm T F A) (hb : Below A.heap.size A A') : SP w B z mp N O D d k hm T F A' := h.turn (Below.keeps hb _) (h.wd.on hb)
theorem SP.new (h : WD w B z mp N O k hm T F) (hx : XMem w mp N D) (hmp : mp < B) : ∃ W1, W1 = (w.alloc (.cells #[.pointer (some ⟨z.q, 0, none⟩)] 72)).alloc (.cells #[.int .i64 d] 3) ∧ SP w B z mp N O D d k hm T F W1 := by
  refine ⟨_, rfl, ?_⟩
  have hb1 : Below w.heap.size w ((w.alloc (.cells #[.pointer (some ⟨z.q, 0, none⟩)] 72)).alloc (.cells #[.int .i64 d] 3)) := ((Below.refl _ _).alloc (Nat.le_refl _) _).alloc (by simp) _
  have k1 := Boxed.new (w.alloc (.cells #[.pointer (some ⟨z.q, 0, none⟩)] 72)) 3 (.int .i64 d)
  rw [World.size_alloc] at k1
  exact ⟨h.on hb1, Below.keeps hb1 _, (Boxed.new w _ _).alloc _, k1, hx.on hb1, fun b hb => (h.lt b hb).2, fun c => by have := (h.lt _ c).1; omega, by simp⟩
end
namespace WM
/-- The steps at a vertex rise. -/
theorem steps_rise {N : Nat} {D : Nat → Nat → Int} {v : Int} : ∀ {j : Nat} {pre : List (Nat × Int)} {x : Nat × Int}, pre ++ [x] <+: XM.steps N D v false j → ∀ y ∈ pre, y.1 < x.1
  | 0, pre, x, h => by
    have := h.length_le
    simp [XM.steps] at this
  | j + 1, pre, x, h => by
    by_cases hk : XM.dirE N D v false (j : Nat) = 4611686018427387906
    · rw [XM.steps_skip hk] at h
      exact steps_rise h
    · rw [XM.steps_take hk] at h
      rcases List.prefix_concat_iff.1 h with e | e
      · obtain ⟨e1, e2⟩ := List.append_inj' e rfl
        have e3 : x = (j, XM.dirE N D v false (j : Nat)) := by simpa using e2
        rw [e1, e3]
        exact fun y hy => (XM.steps_mem hy).1
      · exact steps_rise e
theorem steps_once {N : Nat} {D : Nat → Nat → Int} {v : Int} {j : Nat} {pre : List (Nat × Int)} {x : Nat × Int} (h : pre ++ [x] <+: XM.steps N D v false j) : has pre x.1 = false := by
  cases hc : has pre x.1 with
  | false => rfl
  | true =>
    obtain ⟨y, hy, e⟩ := has_iff.1 hc
    have := steps_rise h y hy
    omega
end WM
end Go.Proofs.Ytkcfepppnclniaa
end
