/-
  Range3, GraphBest, GraphLen.
-/
import Derived.Test.YtkcfepppnclniaaGreatDoorMmRange
import Derived.Test.YtkcfepppnclniaaGreatDoorMmOrdMath
section
/-
  Range's law where the loop's variables are laid into new memory ahead of each round.
-/
namespace Go.Proofs.YtkcfepppnclniaaGreatDoor
open Go.RowKit Go.Shelf

theorem range_goesA {α : Type} {P : Program} {n : Nat} (h1 : 1 ≤ n) {g : Operand} {ps : Array Tmp} {assign body : Code} {Q : Exit → Act → World → Prop} {a : Act} {w : World}
    {gf : Nat} {lb : Array Value} (hg : a.eval g = .func (.func gf) #[] lb) (eg : ∀ args w, (callFunc gf args).run P w = .ok (.enter gf args) w)
    {encs : α → Array Value} {S Sp : List α → Prop} {N : Nat} {R : World → Prop} (hseq : Goes (n - 1) P gf lb encs S Sp N R w) (hps : ∀ x, (encs x).size = ps.size)
    (I : List α → World → Prop) (Ix : Code → List α → World → Prop) (hI : ∀ s A A', I s A → Below w.heap.size A A' → I s A') (hIx : ∀ c s A A', Ix c s A → Below w.heap.size A A' → Ix c s A') (hR : ∀ s A, I s A → R A) (h0 : I [] w) (a₁ : α → World → Act) (W₁ : α → World → World) (hW₁ : ∀ x W, Below W.heap.size W (W₁ x W))
    (hassign : ∀ (l : Nat) (x : α) (W : World) (K : Act → World → Prop), K (a₁ x W) (W₁ x W) →
      assign.wpIn (Fence.wide.inRound l) (n - 1 - 1) P (Exit.then K (fun _ _ _ => False)) { tmps := (ps.zip (encs x)).foldl (fun t (p, v) => t.setIfInBounds p v) a.tmps, defers := [] } W)
    (hbody : ∀ (l : Nat) (pre : List α) (x : α) (A W : World), I pre W → pre.length < N → w.heap.size + 1 < A.heap.size → (∀ b, b ≠ w.heap.size + 1 → W.heap[b]? = (W₁ x A).heap[b]?) → W.heap.size = (W₁ x A).heap.size → body.wpIn (Fence.wide.inRound l) (n - 1 - 1) P (leftBy w.heap.size I Ix (pre ++ [x]) W) (a₁ x A) W)
    (hdone : ∀ (xs : List α) (W : World), S xs → I xs W → W.heap[w.heap.size]? = some (.deferred (some [])) → Q .normal { a with defers := { target := .collected w.heap.size, args := #[] } :: a.defers } W)
    (hstop : ∀ (c : Code) (pre : List α) (W : World), Sp pre → Ix c pre W → W.heap[w.heap.size]? = some (.deferred (some [])) → c.wpIn Fence.wide n P Q { a with defers := { target := .collected w.heap.size, args := #[] } :: a.defers } W) :
    (Code.rangeFunc g ps assign body).wpIn Fence.wide n P Q a w := by
  refine wpIn_rangeFunc fun fn _ => ?_
  have hs : ((w.alloc (.deferred (some []))).alloc (.loop (recd fn a.tmps ps assign body w.heap.size .ready none))).heap.size = w.heap.size + 1 + 1 := by simp
  have hb1 : Below w.heap.size w ((w.alloc (.deferred (some []))).alloc (.loop (recd fn a.tmps ps assign body w.heap.size .ready none))) := ((Below.refl _ w).alloc (Nat.le_refl _) _).alloc (by simp) _
  have hbk : Book ((w.alloc (.deferred (some []))).alloc (.loop (recd fn a.tmps ps assign body w.heap.size .ready none))) w.heap.size (recd fn a.tmps ps assign body w.heap.size .ready none) := by
    constructor
    · have := World.alloc_heap_new (w.alloc (.deferred (some []))) (.loop (recd fn a.tmps ps assign body w.heap.size .ready none))
      rwa [World.size_alloc] at this
    · exact (Below.heap_alloc _ _ _ (by simp)).trans (World.alloc_heap_new w _)
  have hen : (Instr.enterLoop fn a.tmps ps assign body none).run P w = .ok (w.heap.size + 1, [{ target := .collected w.heap.size, args := #[] }]) ((w.alloc (.deferred (some []))).alloc (.loop (recd fn a.tmps ps assign body w.heap.size .ready none))) := run_enterLoop_outer _ _ _ _ _
  generalize (w.alloc (.deferred (some []))).alloc (.loop (recd fn a.tmps ps assign body w.heap.size .ready none)) = W1 at *
  refine ⟨w.heap.size + 1, [{ target := .collected w.heap.size, args := #[] }], W1, { target := .fn (.func gf) lb, args := #[.func (.yield (w.heap.size + 1)) #[] #[]] }, W1, gf, #[.func (.yield (w.heap.size + 1)) #[] #[]] ++ lb, W1, hen, ?_, fun _ _ => trivial, ?_, fun _ => h1, ?_⟩
  · simp only [resolve, hg]
    simp [go_sem]
  · simp [invoke, go_sem, eg]
  refine (hseq (w.heap.size + 1) (fun pre W => I pre W ∧ Book W w.heap.size (recd fn a.tmps ps assign body w.heap.size .ready none))
    (fun pre W => ∃ c, Ix c pre W ∧ Book W w.heap.size (recd fn a.tmps ps assign body w.heap.size .done (some c))) W1 hb1 (by omega) (fun s A h => hR s A h.1)
    (fun s A A' h hb => ⟨hI s A A' h.1 (hb.mono (by omega)), h.2.below hb⟩) (fun s A A' h hb => by
      obtain ⟨c, h1, h2⟩ := h
      exact ⟨c, hIx c s A A' h1 (hb.mono (by omega)), h2.below hb⟩) ?_ ⟨hI _ _ _ h0 hb1, hbk⟩).mono ?_
  · -- one round
    rintro pre x W ⟨hi, hb⟩ hlen
    have hy := run_yield (P := P) (args := encs x) hb.keep (hps x)
    have hx := hW₁ x W
    have hb1 : Book (W₁ x W) w.heap.size (recd fn a.tmps ps assign body w.heap.size .ready none) := hb.below (hx.mono hb.lt)
    have hi1 : I pre (W₁ x W) := hI _ _ _ hi (hx.mono (by have := hb.lt; omega))
    have hab1 : Above (w.heap.size + 2) W (W₁ x W) := Below.keeps hx _
    have hlW := hb.lt
    refine ⟨_, _, _, _, hy, roundIn_of_wpIn trivial (hassign _ x W _ ⟨_, run_beginRound hb1.keep rfl, ?_⟩)⟩
    have hb2 : Book ((W₁ x W).putObj (w.heap.size + 1) (.loop (recd fn a.tmps ps assign body w.heap.size .busy none))) w.heap.size (recd fn a.tmps ps assign body w.heap.size .busy none) := hb1.put _
    have hi2 : I pre ((W₁ x W).putObj (w.heap.size + 1) (.loop (recd fn a.tmps ps assign body w.heap.size .busy none))) := hI _ _ _ hi1 (below_put _ _ _)
    have hab := hab1.trans (above_put (W₁ x W) w.heap.size (.loop (recd fn a.tmps ps assign body w.heap.size .busy none)))
    have ends : ∀ (j : Option Code) (W3 : World), Above w.heap.size ((W₁ x W).putObj (w.heap.size + 1) (.loop (recd fn a.tmps ps assign body w.heap.size .busy none))) W3 →
        (Instr.endRound (w.heap.size + 1) j).run P W3 = .ok (.bool j.isNone) (W3.putObj (w.heap.size + 1) (.loop (recd fn a.tmps ps assign body w.heap.size (if j.isNone then .ready else .done) j))) ∧
        Book (W3.putObj (w.heap.size + 1) (.loop (recd fn a.tmps ps assign body w.heap.size (if j.isNone then .ready else .done) j))) w.heap.size (recd fn a.tmps ps assign body w.heap.size (if j.isNone then .ready else .done) j) ∧
        Above (w.heap.size + 2) W (W3.putObj (w.heap.size + 1) (.loop (recd fn a.tmps ps assign body w.heap.size (if j.isNone then .ready else .done) j))) := fun j W3 ha => by
      have hb3 := hb2.above ha
      exact ⟨run_endRound j hb3.keep, hb3.put _, (hab.trans (ha.mono (by omega))).trans (above_put _ _ _)⟩
    refine wpIn_mono (hbody _ pre x W _ hi2 hlen hlW (fun b hb => World.putObj_heap_other (by omega)) (by simp)) ?_
    rintro e a3 W3 hp
    cases e with
    | normal =>
      obtain ⟨r1, r2, r3⟩ := ends none W3 hp.1
      exact ⟨_, _, r1, .inl ⟨rfl, ⟨hI _ _ _ hp.2 (below_put _ _ _), r2⟩, r3⟩⟩
    | ret =>
      obtain ⟨r1, r2, r3⟩ := ends (some .ret) W3 hp.1
      exact ⟨_, _, r1, .inr ⟨rfl, ⟨_, hIx _ _ _ _ hp.2 (below_put _ _ _), r2⟩, r3⟩⟩
    | exit id =>
      obtain ⟨r1, r2, r3⟩ := ends (some (.exit id)) W3 hp.1
      exact ⟨_, _, r1, .inr ⟨rfl, ⟨_, hIx _ _ _ _ hp.2 (below_put _ _ _), r2⟩, r3⟩⟩
    | goto t =>
      obtain ⟨r1, r2, r3⟩ := ends (some (.goto t)) W3 hp.1
      exact ⟨_, _, r1, .inr ⟨rfl, ⟨_, hIx _ _ _ _ hp.2 (below_put _ _ _), r2⟩, r3⟩⟩
    | panic ch => exact hp.elim
    | outgrown => exact hp.elim
  · -- behind it
    rintro e W2 ⟨⟨v, rfl⟩, (⟨xs, hS, hi, hb⟩ | ⟨pre, hSp, c, hi, hb⟩)⟩
    · exact ⟨none, _, run_endLoop hb.keep (by intro h; cases h), hdone xs _ hS (hI _ _ _ hi (below_put _ _ _)) (hb.put _).dfr⟩
    · exact ⟨some c, _, run_endLoop hb.keep (by intro h; cases h), hstop c pre _ hSp (hIx _ _ _ _ hi (below_put _ _ _)) (hb.put _).dfr⟩
end Go.Proofs.YtkcfepppnclniaaGreatDoor
end

section
/-
  The walk of graph's Best: a range over all that keeps the best one so far in two cells.
-/
namespace Go.Proofs.YtkcfepppnclniaaGreatDoor
open Go.RowKit Go.Shelf
attribute [local go_sem] Oper.semAt_some

/-- What lies in Best's cells, from block g on. -/
structure Bests (w : World) (p : Nat) (u v : Int) (b : Int × Int) (W : World) : Prop where
  tl : Boxed W w.heap.size 3 (.int .i64 u)
  hd : Boxed W (w.heap.size + 1) 3 (.int .i64 v)
  wt : Boxed W (w.heap.size + 1 + 1) 3 (.int .i64 b.1)
  id : Boxed W (w.heap.size + 1 + 1 + 1) 3 (.int .i64 b.2)
  ptr : Boxed W (w.heap.size + 1 + 1 + 1 + 1) 24 (.pointer (some ⟨p, 0, none⟩))
  bel : Below w.heap.size w W
theorem Bests.below {w W W' : World} {p : Nat} {u v : Int} {b : Int × Int} (h : Bests w p u v b W) (hb : Below (w.heap.size + 5) W W') : Bests w p u v b W' :=
  ⟨(hb.block _ (by omega)).trans h.tl, (hb.block _ (by omega)).trans h.hd, (hb.block _ (by omega)).trans h.wt, (hb.block _ (by omega)).trans h.id, (hb.block _ (by omega)).trans h.ptr, h.bel.trans (hb.mono (by omega))⟩
theorem Bests.put {w W : World} {p : Nat} {u v : Int} {b : Int × Int} (h : Bests w p u v b W) (x i : Int) : Bests w p u v (x, i) ((W.setCell ⟨w.heap.size + 1 + 1, 0, none⟩ (.int .i64 x)).setCell ⟨w.heap.size + 1 + 1 + 1, 0, none⟩ (.int .i64 i)) :=
  ⟨(h.tl.other (by omega) _).other (by omega) _, (h.hd.other (by omega) _).other (by omega) _, (h.wt.set _).other (by omega) _, (h.id.other (by omega) _).set _, (h.ptr.other (by omega) _).other (by omega) _,
    (h.bel.setCell (p := ⟨w.heap.size + 1 + 1, 0, none⟩) (by show w.heap.size ≤ w.heap.size + 1 + 1; omega) _).setCell (p := ⟨w.heap.size + 1 + 1 + 1, 0, none⟩) (by show w.heap.size ≤ w.heap.size + 1 + 1 + 1; omega) _⟩
theorem bests_above {w W : World} (N : Nat) (hN : w.heap.size + 5 ≤ N) (x i : Value) : Above N W ((W.setCell ⟨w.heap.size + 1 + 1, 0, none⟩ x).setCell ⟨w.heap.size + 1 + 1 + 1, 0, none⟩ i) :=
  ((Keeps.refl (fun b => b < N) W).setCell (p := ⟨w.heap.size + 1 + 1, 0, none⟩) (.inl (by show w.heap.size + 1 + 1 < N; omega)) _).setCell (p := ⟨w.heap.size + 1 + 1 + 1, 0, none⟩) (.inl (by show w.heap.size + 1 + 1 + 1 < N; omega)) _

theorem bests_new (w : World) (p : Nat) (u v : Int) : Bests w p u v GM.best0 (((((w.alloc (.cells #[.int .i64 u] 3)).alloc (.cells #[.int .i64 v] 3)).alloc (.cells #[.int .i64 4611686018427387906] 3)).alloc (.cells #[.int .i64 (-1)] 3)).alloc (.cells #[.pointer (some ⟨p, 0, none⟩)] 24)) := by
  have s1 : (w.alloc (.cells #[.int .i64 u] 3)).heap.size = w.heap.size + 1 := by simp
  have b1 := Boxed.new w 3 (.int .i64 u)
  have l1 : Below w.heap.size w (w.alloc (.cells #[.int .i64 u] 3)) := (Below.refl _ _).alloc (Nat.le_refl _) _
  generalize w.alloc (.cells #[.int .i64 u] 3) = w1 at *
  have s2 : (w1.alloc (.cells #[.int .i64 v] 3)).heap.size = w.heap.size + 1 + 1 := by simp [s1]
  have b2 := Boxed.new w1 3 (.int .i64 v)
  rw [s1] at b2
  replace b1 := b1.alloc (.cells #[.int .i64 v] 3)
  replace l1 := l1.alloc (by omega) (.cells #[.int .i64 v] 3)
  generalize w1.alloc (.cells #[.int .i64 v] 3) = w2 at *
  have s3 : (w2.alloc (.cells #[.int .i64 4611686018427387906] 3)).heap.size = w.heap.size + 1 + 1 + 1 := by simp [s2]
  have b3 := Boxed.new w2 3 (.int .i64 4611686018427387906)
  rw [s2] at b3
  replace b1 := b1.alloc (.cells #[.int .i64 4611686018427387906] 3)
  replace b2 := b2.alloc (.cells #[.int .i64 4611686018427387906] 3)
  replace l1 := l1.alloc (by omega) (.cells #[.int .i64 4611686018427387906] 3)
  generalize w2.alloc (.cells #[.int .i64 4611686018427387906] 3) = w3 at *
  have s4 : (w3.alloc (.cells #[.int .i64 (-1)] 3)).heap.size = w.heap.size + 1 + 1 + 1 + 1 := by simp [s3]
  have b4 := Boxed.new w3 3 (.int .i64 (-1))
  rw [s3] at b4
  replace b1 := b1.alloc (.cells #[.int .i64 (-1)] 3)
  replace b2 := b2.alloc (.cells #[.int .i64 (-1)] 3)
  replace b3 := b3.alloc (.cells #[.int .i64 (-1)] 3)
  replace l1 := l1.alloc (by omega) (.cells #[.int .i64 (-1)] 3)
  generalize w3.alloc (.cells #[.int .i64 (-1)] 3) = w4 at *
  have b5 := Boxed.new w4 24 (.pointer (some ⟨p, 0, none⟩))
  rw [s4] at b5
  exact ⟨b1.alloc _, b2.alloc _, b3.alloc _, b4.alloc _, b5, l1.alloc (by omega) _⟩
theorem arcIn_block {W A : World} {t h x : Int} {c : Bool} (hb : W.heap[A.heap.size]? = (A.alloc (.cells #[.int .i64 t, .int .i64 h, .int .i64 x, .bool c] 35)).heap[A.heap.size]?) : ArcIn W A.heap.size 0 ⟨t, h, x, c⟩ :=
  (arcIn_new A t h x c).same (fun j => World.cell?_of_block (a := ⟨A.heap.size, j, none⟩) hb)
set_option maxRecDepth 100000 in
/-- The way out: both answers lie in their cells; nothing is deferred. -/
theorem best_out {n : Nat} {w W : World} {p : Nat} {u v : Int} {b : Int × Int} {t : Array Value} {D : Nat} (ht : t[6]?.getD undef = .pointer (some ⟨w.heap.size + 1 + 1, 0, none⟩)) (ht' : t[7]?.getD undef = .pointer (some ⟨w.heap.size + 1 + 1 + 1, 0, none⟩)) (hB : Bests w p u v b W)
    (hK : W.heap[D]? = some (.deferred (some []))) (hD : w.heap.size + 5 ≤ D) :
    bodyPostM Fence.wide n Tryz.prog Tryz.f58 (fun e w' => e = .returned (.tuple #[.int .i64 b.1, .int .i64 b.2]) ∧ Below w.heap.size w w') Exit.ret { tmps := t, defers := [{ target := .collected D, args := #[] }] } W := by
  refine ⟨by simp, .inl ⟨_, _, rfl, run_takeDeferred hK, ?_⟩⟩
  have hc6 := cell_kept hB.wt.cell (grownBy_putObj' _ D (.deferred none)) (fun r e => by cases e; exact ⟨_, hK, rfl⟩)
  have hc7 := cell_kept hB.id.cell (grownBy_putObj' _ D (.deferred none)) (fun r e => by cases e; exact ⟨_, hK, rfl⟩)
  refine ⟨.tuple #[.int .i64 b.1, .int .i64 b.2], ?_, rfl, hB.bel.trans (belowK_b (w := w) (Nat.le_refl _) _ D _ _ (by omega) hK rfl rfl)⟩
  simp [results, Tryz.f58, go_sem, hc6, hc7, ht, ht']

set_option maxRecDepth 100000 in
set_option maxHeartbeats 2000000 in
theorem best_in {w : World} {p N most : Nat} {m : GM.M} (hg : GMem w p N most m) (hm : GM.Good most m) (u v : Int) :
    CallsIn Fence.wide 5 Tryz.prog 58 #[.pointer (some ⟨p, 0, none⟩), .int .i64 u, .int .i64 v] w fun e w' => e = .returned (.tuple #[.int .i64 (GM.best m u v 64).1, .int .i64 (GM.best m u v 64).2]) ∧ Below w.heap.size w w' := by
  have HC : Hid ((GM.arcs m 64).foldl (GM.betterN u v) GM.best0 = GM.best m u v 64) := GM.bestN hm u v 64
  have HAL : Hid (∀ W, Calls Tryz.prog 73 #[.pointer (some ⟨p, 0, none⟩)] W fun e w' => e = .returned (.func (.func 94) #[] #[.pointer (some ⟨W.heap.size, 0, none⟩)]) ∧ w' = W.alloc (.cells #[.pointer (some ⟨p, 0, none⟩)] 24)) := fun W => all_any p W
  have HGO : Hid (∀ B W, Goes 4 Tryz.prog 94 #[.pointer (some ⟨B, 0, none⟩)] numArc (fun ys => ys = GM.arcs m 64) (fun pre => pre <+: GM.arcs m 64) 64 (fun A => A.cell? ⟨B, 0, none⟩ = some (.pointer (some ⟨p, 0, none⟩)) ∧ GMem A p N most m) W) := fun B W => all_goes 4 (by decide) B p N most m hm W
  have HG : Hid (∀ W, Below w.heap.size w W → GMem W p N most m) := fun W hW => hg.on hW
  clear hg hm
  generalize GM.best m u v 64 = C at *
  generalize GM.arcs m 64 = L at *
  refine callsIn_of_wp_marks Tryz.func58 rfl trivial ?_ rfl
  simp only [Tryz.ntmps58, List.size_toArray, List.length_cons, List.length_nil, Nat.reduceAdd, Nat.reduceSub, Array.replicate_succ, Array.replicate_zero, List.push_toArray, List.append_toArray, List.nil_append, List.cons_append]
  refine wpIn_wide.2 ?_
  go_wp2_with fail
  refine (HAL.out _).mono ?_
  rintro e w9 ⟨rfl, hw9⟩
  rw [hw9]
  clear hw9 w9 HAL
  simp only [World.size_alloc]
  have hB0 := bests_new w p u v
  have hS : (((((w.alloc (.cells #[.int .i64 u] 3)).alloc (.cells #[.int .i64 v] 3)).alloc (.cells #[.int .i64 4611686018427387906] 3)).alloc (.cells #[.int .i64 (-1)] 3)).alloc (.cells #[.pointer (some ⟨p, 0, none⟩)] 24)).heap.size = w.heap.size + 5 := by simp
  generalize ((((w.alloc (.cells #[.int .i64 u] 3)).alloc (.cells #[.int .i64 v] 3)).alloc (.cells #[.int .i64 4611686018427387906] 3)).alloc (.cells #[.int .i64 (-1)] 3)).alloc (.cells #[.pointer (some ⟨p, 0, none⟩)] 24) = W0 at *
  have hgo := HGO.out (w.heap.size + 1 + 1 + 1 + 1) W0
  clear HGO
  go_wp2_with fail
  refine (wpIn_wide (n := 5)).1 (range_goesA (by decide) (gf := 94) (lb := #[.pointer (some ⟨w.heap.size + 1 + 1 + 1 + 1, 0, none⟩)]) rfl (enters_of Tryz.func94 (by kernel_rfl) rfl) hgo (fun _ => rfl)
    (fun pre W => Bests w p u v (pre.foldl (GM.betterN u v) GM.best0) W)
    (fun _ _ _ => False)
    (fun pre A A' h hb => h.below (hb.mono (by omega)))
    (fun _ _ _ _ h _ => h)
    (fun pre A h => ⟨h.ptr.cell, HG.out A h.bel⟩)
    hB0
    (fun x A => { tmps := #[.pointer (some ⟨p, 0, none⟩), .int .i64 u, .int .i64 v, undef, .pointer (some ⟨w.heap.size, 0, none⟩), .pointer (some ⟨w.heap.size + 1, 0, none⟩), .pointer (some ⟨w.heap.size + 1 + 1, 0, none⟩), .pointer (some ⟨w.heap.size + 1 + 1 + 1, 0, none⟩), .int .i64 (x.1 : Nat), .pointer (some ⟨A.heap.size, 0, none⟩), .pointer (some ⟨p, 0, none⟩), .func (.func 94) #[] #[.pointer (some ⟨w.heap.size + 1 + 1 + 1 + 1, 0, none⟩)], .int .i64 (x.1 : Nat), .agg #[.int .i64 x.2.tail, .int .i64 x.2.head, .int .i64 x.2.weight, .bool x.2.closed], undef, undef, undef, undef, undef, undef, undef, undef, undef, undef, undef, undef, undef, undef, undef, undef, undef, undef, undef, undef, undef, undef, undef, undef, undef, undef], defers := [] })
    (fun x A => A.alloc (.cells #[.int .i64 x.2.tail, .int .i64 x.2.head, .int .i64 x.2.weight, .bool x.2.closed] 35))
    (fun x W => (Below.refl _ _).alloc (Nat.le_refl _) _) ?assign ?body ?done ?stop)
  case assign =>
    rintro l ⟨i, t, h, x, c⟩ W K hK
    simp only [numArc]
    gi_wp2
    exact hK
  case body =>
    rintro l pre ⟨i, t, h, x, c⟩ A W hb hlt hA hblk hsz
    have hin := arcIn_block (hblk A.heap.size (by omega))
    obtain ⟨a0, a1, a2, a3⟩ := hin
    simp only [Nat.zero_add] at a1 a2 a3
    have k0 := hb.tl.cell
    have k1 := hb.hd.cell
    have k2 := hb.wt.cell
    have f2 := hb.wt.frozen
    have k3 := hb.id.cell
    have f3 := hb.id.frozen
    have HB : Hid (Bests w p u v (pre.foldl (GM.betterN u v) GM.best0) W) := hb
    have HF : Hid ((pre ++ [(i, (⟨t, h, x, c⟩ : Arc))]).foldl (GM.betterN u v) GM.best0 = GM.betterN u v (pre.foldl (GM.betterN u v) GM.best0) (i, ⟨t, h, x, c⟩)) := by
      show _ = _
      rw [List.foldl_append]
      rfl
    have HS : Hid (w.heap.size + 5 ≤ W0.heap.size) := Nat.le_of_eq hS.symm
    clear hb hblk hgo hB0
    generalize pre.foldl (GM.betterN u v) GM.best0 = b at *
    obtain ⟨b1, b2⟩ := b
    dsimp only at k2 k3
    have hless := less_any x b1 W
    dsimp only at a0 a1 a2 a3
    generalize A.heap.size = g at *
    by_cases h1 : t = u
    · by_cases h2 : h = v
      · cases c with
        | false =>
          by_cases h3 : GM.norm x < GM.norm b1
          · rw [decide_eq_true h3] at hless
            have HN : Hid (Bests w p u v ((pre ++ [(i, (⟨t, h, x, false⟩ : Arc))]).foldl (GM.betterN u v) GM.best0) ((W.setCell ⟨w.heap.size + 1 + 1, 0, none⟩ (.int .i64 x)).setCell ⟨w.heap.size + 1 + 1 + 1, 0, none⟩ (.int .i64 (i : Nat)))) := by
              show Bests _ _ _ _ _ _
              rw [HF.out, GM.betterN, if_pos (by simp [GM.fits, h1, h2, h3])]
              exact HB.out.put _ _
            have HAS : Hid (Above W0.heap.size W ((W.setCell ⟨w.heap.size + 1 + 1, 0, none⟩ (.int .i64 x)).setCell ⟨w.heap.size + 1 + 1 + 1, 0, none⟩ (.int .i64 (i : Nat)))) := bests_above _ HS.out _ _
            subst h1 h2
            gi_wp2_with fail
            refine ⟨trivial, (CallsIn.inRound l (callsIn_wide.2 hless)).mono ?_⟩
            rintro e w9 ⟨rfl, hw9⟩
            rw [hw9]
            clear hw9 w9 hless
            gi_wp2_with fail
            exact ⟨HAS.out, HN.out⟩
          · rw [decide_eq_false h3] at hless
            have HN : Hid (Bests w p u v ((pre ++ [(i, (⟨t, h, x, false⟩ : Arc))]).foldl (GM.betterN u v) GM.best0) W) := by
              show Bests _ _ _ _ _ _
              rw [HF.out, GM.betterN, if_neg (by simp [GM.fits, h1, h2, h3])]
              exact HB.out
            subst h1 h2
            gi_wp2_with fail
            refine ⟨trivial, (CallsIn.inRound l (callsIn_wide.2 hless)).mono ?_⟩
            rintro e w9 ⟨rfl, hw9⟩
            rw [hw9]
            clear hw9 w9 hless
            gi_wp2_with fail
            exact ⟨Above.refl _ _, HN.out⟩
        | true =>
          have HN : Hid (Bests w p u v ((pre ++ [(i, (⟨t, h, x, true⟩ : Arc))]).foldl (GM.betterN u v) GM.best0) W) := by
            show Bests _ _ _ _ _ _
            rw [HF.out, GM.betterN, if_neg (by simp [GM.fits])]
            exact HB.out
          subst h1 h2
          clear hless
          gi_wp2_with fail
          refine ⟨trivial, ?_⟩
          gi_wp2_with fail
          exact ⟨Above.refl _ _, HN.out⟩
      · have h2' : (h == v) = false := beq_eq_false_iff_ne.2 h2
        have HN : Hid (Bests w p u v ((pre ++ [(i, (⟨t, h, x, c⟩ : Arc))]).foldl (GM.betterN u v) GM.best0) W) := by
          show Bests _ _ _ _ _ _
          rw [HF.out, GM.betterN, if_neg (by simp [GM.fits, h2])]
          exact HB.out
        subst h1
        clear hless
        gi_wp2_with fail
        refine ⟨trivial, ?_⟩
        gi_wp2_with fail
        exact ⟨Above.refl _ _, HN.out⟩
    · have h1' : (t == u) = false := beq_eq_false_iff_ne.2 h1
      have HN : Hid (Bests w p u v ((pre ++ [(i, (⟨t, h, x, c⟩ : Arc))]).foldl (GM.betterN u v) GM.best0) W) := by
        show Bests _ _ _ _ _ _
        rw [HF.out, GM.betterN, if_neg (by simp [GM.fits, h1])]
        exact HB.out
      clear hless
      gi_wp2_with fail
      refine ⟨trivial, ?_⟩
      gi_wp2_with fail
      exact ⟨Above.refl _ _, HN.out⟩
  case done =>
    rintro ys W rfl hb hK
    rw [HC.out] at hb
    have k2 := hb.wt.cell
    have f2 := hb.wt.frozen
    have k3 := hb.id.cell
    have f3 := hb.id.frozen
    have HB : Hid (Bests w p u v C W) := hb
    have HB2 : Hid (Bests w p u v C ((W.setCell ⟨w.heap.size + 1 + 1, 0, none⟩ (.int .i64 C.1)).setCell ⟨w.heap.size + 1 + 1 + 1, 0, none⟩ (.int .i64 C.2)).drew) := by
      have := hb.put C.1 C.2
      exact this.below ((Below.refl _ _).drew)
    have HK2 : Hid (((W.setCell ⟨w.heap.size + 1 + 1, 0, none⟩ (.int .i64 C.1)).setCell ⟨w.heap.size + 1 + 1 + 1, 0, none⟩ (.int .i64 C.2)).drew.heap[W0.heap.size]? = some (.deferred (some []))) := by
      show ((W.setCell ⟨w.heap.size + 1 + 1, 0, none⟩ (.int .i64 C.1)).setCell ⟨w.heap.size + 1 + 1 + 1, 0, none⟩ (.int .i64 C.2)).heap[W0.heap.size]? = _
      rw [Below.heap_setCell _ _ _ _ (by show W0.heap.size ≠ w.heap.size + 1 + 1 + 1; omega), Below.heap_setCell _ _ _ _ (by show W0.heap.size ≠ w.heap.size + 1 + 1; omega)]
      exact hK
    rw [hS] at HK2
    clear hb hgo hB0 hK
    obtain ⟨C1, C2⟩ := C
    dsimp only at k2 k3 HB2 HK2
    go_wp2_with fail
    go_region
    all_goals
      go_wp2_with fail
      exact best_out rfl rfl HB2.out HK2.out (by omega)
  case stop =>
    rintro c pre W _ h _
    exact h.elim
/-- The best open arc from u to v. -/
theorem best_any {w : World} {p N most : Nat} {m : GM.M} (hg : GMem w p N most m) (hm : GM.Good most m) (u v : Int) :
    Calls Tryz.prog 58 #[.pointer (some ⟨p, 0, none⟩), .int .i64 u, .int .i64 v] w fun e w' => e = .returned (.tuple #[.int .i64 (GM.best m u v 64).1, .int .i64 (GM.best m u v 64).2]) ∧ Below w.heap.size w w' := callsIn_wide.1 (best_in hg hm u v)
end Go.Proofs.YtkcfepppnclniaaGreatDoor
end

section
/-
  The walks of graph's Len, Ids and Best: ranges over all.
-/
namespace Go.Proofs.YtkcfepppnclniaaGreatDoor
open Go.RowKit Go.Shelf
attribute [local go_sem] Oper.semAt_some

set_option maxRecDepth 100000 in
set_option maxHeartbeats 2000000 in
theorem len_in {w : World} {p N most : Nat} {m : GM.M} (hg : GMem w p N most m) (hm : GM.Good most m) :
    CallsIn Fence.wide 5 Tryz.prog 42 #[.pointer (some ⟨p, 0, none⟩)] w fun e w' => e = .returned (.int .i64 (GM.cnt m : Nat)) ∧ Below w.heap.size w w' := by
  have hal := all_any p (w.alloc (.cells #[.int .i64 0] 3))
  have bK : Boxed ((w.alloc (.cells #[.int .i64 0] 3)).alloc (.cells #[.pointer (some ⟨p, 0, none⟩)] 24)) w.heap.size 3 (.int .i64 0) := (Boxed.new w 3 (.int .i64 0)).alloc _
  have bP : Boxed ((w.alloc (.cells #[.int .i64 0] 3)).alloc (.cells #[.pointer (some ⟨p, 0, none⟩)] 24)) (w.heap.size + 1) 24 (.pointer (some ⟨p, 0, none⟩)) := by
    have := Boxed.new (w.alloc (.cells #[.int .i64 0] 3)) 24 (.pointer (some ⟨p, 0, none⟩))
    rwa [World.size_alloc] at this
  have hS : ((w.alloc (.cells #[.int .i64 0] 3)).alloc (.cells #[.pointer (some ⟨p, 0, none⟩)] 24)).heap.size = w.heap.size + 1 + 1 := by simp
  have hB : Below w.heap.size w ((w.alloc (.cells #[.int .i64 0] 3)).alloc (.cells #[.pointer (some ⟨p, 0, none⟩)] 24)) := ((Below.refl _ _).alloc (Nat.le_refl _) _).alloc (by simp) _
  have hgo := all_goes 4 (by decide) (w.heap.size + 1) p N most m hm ((w.alloc (.cells #[.int .i64 0] 3)).alloc (.cells #[.pointer (some ⟨p, 0, none⟩)] 24))
  have HG : Hid (∀ W, Below w.heap.size w W → GMem W p N most m) := fun W hW => hg.on hW
  have HC : Hid (((GM.arcs m 64).length : Nat) = GM.cnt m) := GM.arcs_len m 64
  clear hg hm
  generalize GM.cnt m = C at *
  generalize GM.arcs m 64 = L at *
  refine callsIn_of_wp_marks Tryz.func42 rfl trivial ?_ rfl
  simp only [Tryz.ntmps42, List.size_toArray, List.length_cons, List.length_nil, Nat.reduceAdd, Nat.reduceSub, Array.replicate_succ, Array.replicate_zero, List.push_toArray, List.append_toArray, List.nil_append, List.cons_append]
  refine wpIn_wide.2 ?_
  go_wp2_with fail
  refine hal.mono ?_
  rintro e w9 ⟨rfl, hw9⟩
  rw [hw9]
  clear hw9 w9 hal
  simp only [World.size_alloc]
  generalize (w.alloc (.cells #[.int .i64 0] 3)).alloc (.cells #[.pointer (some ⟨p, 0, none⟩)] 24) = W0 at *
  go_wp2_with fail
  refine (wpIn_wide (n := 5)).1 (range_goes (by decide) (gf := 94) (lb := #[.pointer (some ⟨w.heap.size + 1, 0, none⟩)]) rfl (enters_of Tryz.func94 (by kernel_rfl) rfl) hgo (fun _ => rfl)
    (fun pre W => Boxed W w.heap.size 3 (.int .i64 (pre.length : Nat)) ∧ Boxed W (w.heap.size + 1) 24 (.pointer (some ⟨p, 0, none⟩)) ∧ Below w.heap.size w W)
    (fun _ _ _ => False)
    (fun pre A A' h hb => ⟨(hb.block _ (by omega)).trans h.1, (hb.block _ (by omega)).trans h.2.1, h.2.2.trans (hb.mono (by omega))⟩)
    (fun _ _ _ _ h _ => h)
    (fun pre A h => ⟨h.2.1.cell, HG.out A h.2.2⟩)
    ⟨bK, bP, hB⟩
    (fun x => { tmps := #[.pointer (some ⟨p, 0, none⟩), undef, .int .i64 0, .pointer (some ⟨w.heap.size, 0, none⟩), .pointer (some ⟨p, 0, none⟩), .func (.func 94) #[] #[.pointer (some ⟨w.heap.size + 1, 0, none⟩)], .int .i64 (x.1 : Nat), .agg #[.int .i64 x.2.tail, .int .i64 x.2.head, .int .i64 x.2.weight, .bool x.2.closed], undef, undef, undef], defers := [] }) ?assign ?body ?done ?stop)
  case assign =>
    intro l x W K hK
    simp only [numArc]
    gi_wp2
    simpa using hK
  case body =>
    rintro l pre ⟨i, t, h, x, c⟩ W ⟨b1, b2, hW⟩ hlt
    have c1 := b1.cell
    have f1 := b1.frozen
    have el : ((pre ++ [(i, (⟨t, h, x, c⟩ : Arc))]).length : Int) = (pre.length : Int) + 1 := by simp
    have HB1 : Hid (Boxed (W.setCell ⟨w.heap.size, 0, none⟩ (.int .i64 ((pre.length : Int) + 1))) w.heap.size 3 (.int .i64 ((pre ++ [(i, (⟨t, h, x, c⟩ : Arc))]).length : Nat))) := by
      show Boxed _ _ _ _
      rw [el]
      exact b1.set _
    have HB2 : Hid (Boxed (W.setCell ⟨w.heap.size, 0, none⟩ (.int .i64 ((pre.length : Int) + 1))) (w.heap.size + 1) 24 (.pointer (some ⟨p, 0, none⟩))) := b2.other (by omega) _
    have HBW : Hid (Below w.heap.size w (W.setCell ⟨w.heap.size, 0, none⟩ (.int .i64 ((pre.length : Int) + 1)))) := hW.setCell (p := ⟨w.heap.size, 0, none⟩) (Nat.le_refl _) _
    have HAS : Hid (Above W0.heap.size W (W.setCell ⟨w.heap.size, 0, none⟩ (.int .i64 ((pre.length : Int) + 1)))) := (keeps_set W w.heap.size 0 _).mono (fun b hb => by omega)
    clear el b1 b2 hW hgo bK bP hB
    generalize pre.length = P at *
    gi_wp2_with fail
    exact ⟨HAS.out, HB1.out, HB2.out, HBW.out⟩
  case done =>
    rintro ys W rfl ⟨b1, b2, hW⟩ hK
    rw [HC.out] at b1
    have c1 := b1.cell
    clear b1 b2 hgo bK bP hB
    go_wp2_with fail
    refine ⟨by simp, .inl ⟨_, _, rfl, run_takeDeferred hK, ?_⟩⟩
    exact ⟨_, results_tmp rfl _ _ _, rfl, hW.trans (belowK_b (w := w) (Nat.le_refl _) W _ _ _ (by omega) hK rfl rfl)⟩
  case stop =>
    rintro c pre W _ h _
    exact h.elim
/-- How many arcs there are. -/
theorem len_any {w : World} {p N most : Nat} {m : GM.M} (hg : GMem w p N most m) (hm : GM.Good most m) :
    Calls Tryz.prog 42 #[.pointer (some ⟨p, 0, none⟩)] w fun e w' => e = .returned (.int .i64 (GM.cnt m : Nat)) ∧ Below w.heap.size w w' := callsIn_wide.1 (len_in hg hm)
end Go.Proofs.YtkcfepppnclniaaGreatDoor
end
