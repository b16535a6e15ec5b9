/-
  OrdMath, Range.
-/
import Derived.Test.YtkcfepppnclniaaMmMeshDefs
import Derived.Test.YtkcfepppnclniaaMmWitMath
import Derived.Test.YtkcfepppnclniaaMmMem
import Derived.RangeFuncNested
import Derived.RangeFuncBound
import Derived.RangeFuncCalls
import Derived.RangeFuncBox
import Derived.RangeFuncLeaves
import Derived.RangeFuncRecord
import Derived.Shelf.Abstract
import Derived.Shelf.RegionOpen
import Derived.OwnWalkIn
import Derived.TacticsInMore
import Derived.LoopNIn
import Derived.LoopIn
section
/-
  A vertex's need, its difference, and the order by cost (layer 14), as functions of a mesh. Nothing of the program.
-/
namespace Go.Proofs.Ytkcfepppnclniaa
namespace OM
open WM
/-- Each search comes to its end. -/
theorem got_run {N : Nat} {D : Nat → Nat → Int} {s : Nat} {W : Nat → Bool} {X : Int} {k : Nat} : ∀ (n : Nat) (L : List (Nat × Int)), Seq N D s W X L → L.length ≤ k → k - L.length ≤ n → ∃ M, Got N D s W X k M := by
  classical
  intro n
  induction n with
  | zero => exact fun L hq hl hn => ⟨L, hq, hl, .inl (by omega)⟩
  | succ n ih =>
    intro L hq hl hn
    by_cases hst : Stuck N D s W X L
    · exact ⟨L, hq, hl, .inr hst⟩
    · by_cases hk : L.length = k
      · exact ⟨L, hq, hl, .inl hk⟩
      · have : ∃ v d, WM.Next N D s W L v d ∧ d ≤ X := Classical.byContradiction fun hc => hst (fun v d h1 h2 => hc ⟨v, d, h1, h2⟩)
        obtain ⟨v, d, h1, h2⟩ := this
        exact ih (L ++ [(v, d)]) (.snoc hq h1 h2) (by rw [List.length_append, List.length_singleton]; omega) (by rw [List.length_append, List.length_singleton]; omega)
theorem got_ex (N : Nat) (D : Nat → Nat → Int) (s : Nat) (W : Nat → Bool) (X : Int) (k : Nat) : ∃ M, Got N D s W X k M := got_run k [] .nil (Nat.zero_le _) (by simp)
/-- What a search settles. -/
noncomputable def got (N : Nat) (D : Nat → Nat → Int) (s : Nat) (W : Nat → Bool) (X : Int) (k : Nat) : List (Nat × Int) := (got_ex N D s W X k).choose
theorem got_spec (N : Nat) (D : Nat → Nat → Int) (s : Nat) (W : Nat → Bool) (X : Int) (k : Nat) : Got N D s W X k (got N D s W X k) := (got_ex N D s W X k).choose_spec
theorem got_eq {N : Nat} {D : Nat → Nat → Int} {s : Nat} {W : Nat → Bool} {X : Int} {k : Nat} {M : List (Nat × Int)} (h : Got N D s W X k M) : got N D s W X k = M := (got_spec N D s W X k).one h
/-- Is the detour by v from u to x spared by a search of k vertices? -/
noncomputable def spares (N : Nat) (D : Nat → Nat → Int) (u v x k : Nat) : Bool := has (got N D u (fun y => decide (y = v)) (DM.two (D u v) (D v x)) k) x
/-- How many detours by v aren't spared. -/
noncomputable def need (N : Nat) (D : Nat → Nat → Int) (v k : Nat) : Nat := ((XM.dets N D (v : Int) N).filter (fun d => !spares N D d.u v d.w k)).length
/-- The same, of the first j. -/
noncomputable def needTo (N : Nat) (D : Nat → Nat → Int) (v k j : Nat) : Nat := (((XM.dets N D (v : Int) N).take j).filter (fun d => !spares N D d.u v d.w k)).length
theorem needTo_zero (N : Nat) (D : Nat → Nat → Int) (v k : Nat) : needTo N D v k 0 = 0 := rfl
theorem needTo_all (N : Nat) (D : Nat → Nat → Int) (v k : Nat) : needTo N D v k (XM.dets N D (v : Int) N).length = need N D v k := by unfold needTo need; rw [List.take_length]
theorem needTo_step (N : Nat) (D : Nat → Nat → Int) (v k j : Nat) (hj : j < (XM.dets N D (v : Int) N).length) : needTo N D v k (j + 1) = needTo N D v k j + (if spares N D ((XM.dets N D (v : Int) N)[j]).u v ((XM.dets N D (v : Int) N)[j]).w k = true then 0 else 1) := by
  unfold needTo
  rw [List.take_succ_eq_append_getElem hj, List.filter_append, List.length_append]
  congr 1
  cases e : spares N D ((XM.dets N D (v : Int) N)[j]).u v ((XM.dets N D (v : Int) N)[j]).w k with
  | true => simp [e]
  | false => simp [e]
theorem needTo_le (N : Nat) (D : Nat → Nat → Int) (v k j : Nat) : needTo N D v k j ≤ j := by
  unfold needTo
  refine Nat.le_trans (List.length_filter_le _ _) ?_
  rw [List.length_take]
  omega
/-- Its edges, its difference. -/
def edges (N : Nat) (D : Nat → Nat → Int) (v : Nat) (back : Bool) : Nat := (XM.steps N D (v : Int) back N).length
noncomputable def diff (N : Nat) (D : Nat → Nat → Int) (v k : Nat) : Int := (need N D v k : Int) - (edges N D v false : Nat) - (edges N D v true : Nat)
/-- Is there a step between two vertices, one way or the other? -/
def edge (D : Nat → Nat → Int) (v w : Nat) : Bool := decide (D v w < 4611686018427387906) || decide (D w v < 4611686018427387906)
/-! The order by cost. -/
/-- While ranks are given: the mesh, who is left, how many have gone beside each, the ranks. -/
structure RS where
  D : Nat → Nat → Int
  left : Nat → Bool
  gone : Nat → Int
  rank : Nat → Int
/-- Of the first j vertices, those that are left: the one of the least cost, of like ones the least; its cost. -/
def scan (left : Nat → Bool) (c : Nat → Int) : Nat → Int × Int
  | 0 => (-1, 0)
  | j + 1 => if left j = true ∧ ((scan left c j).1 < 0 ∨ c j < (scan left c j).2) then ((j : Int), c j) else scan left c j
theorem scan_lt (left : Nat → Bool) (c : Nat → Int) : ∀ j, -1 ≤ (scan left c j).1 ∧ (scan left c j).1 < j
  | 0 => by show (-1 : Int) ≤ -1 ∧ (-1 : Int) < 0; omega
  | j + 1 => by
    have := scan_lt left c j
    unfold scan
    split
    · dsimp only; omega
    · omega
theorem scan_left (left : Nat → Bool) (c : Nat → Int) : ∀ j, 0 ≤ (scan left c j).1 → left (scan left c j).1.toNat = true
  | 0 => fun h => absurd h (by show ¬ (0 : Int) ≤ -1; omega)
  | j + 1 => by
    unfold scan
    split
    · rename_i h
      intro _
      dsimp only
      rw [Int.toNat_natCast]
      exact h.1
    · exact scan_left left c j
theorem scan_some (left : Nat → Bool) (c : Nat → Int) : ∀ j v, v < j → left v = true → 0 ≤ (scan left c j).1
  | 0, v, h, _ => by omega
  | j + 1, v, h, hl => by
    unfold scan
    split
    · dsimp only; omega
    · rename_i hn
      by_cases e : v = j
      · rw [e] at hl
        refine Classical.byContradiction fun hc => hn ⟨hl, .inl (by omega)⟩
      · exact scan_some left c j v (by omega) hl
/-- One rank more. -/
noncomputable def turn (N k r : Nat) (s : RS) : RS :=
  let b := (scan s.left (fun v => diff N s.D v k + s.gone v) N).1.toNat
  ⟨XM.con s.D b, fun v => if v = b then false else s.left v, fun v => if edge s.D b v = true then s.gone v + 1 else s.gone v, fun v => if v = b then (r : Int) else s.rank v⟩
noncomputable def run (N : Nat) (D : Nat → Nat → Int) (k : Nat) : Nat → RS
  | 0 => ⟨D, fun v => decide (v < N), fun _ => 0, fun _ => 0⟩
  | r + 1 => turn N k r (run N D k r)
/-- The vertex of rank r. -/
noncomputable def best (N : Nat) (D : Nat → Nat → Int) (k r : Nat) : Nat := (scan (run N D k r).left (fun v => diff N (run N D k r).D v k + (run N D k r).gone v) N).1.toNat
/-- How many are left. -/
def cnt (N : Nat) (left : Nat → Bool) : Nat := ((List.range N).filter left).length
theorem cnt_succ (n : Nat) (left : Nat → Bool) : cnt (n + 1) left = cnt n left + if left n = true then 1 else 0 := by
  unfold cnt
  rw [List.range_succ, List.filter_append]
  by_cases h : left n = true <;> simp [h]
theorem cnt_congr {n : Nat} {l l' : Nat → Bool} (h : ∀ v, v < n → l v = l' v) : cnt n l = cnt n l' := by
  induction n with
  | zero => rfl
  | succ n ih =>
    rw [cnt_succ, cnt_succ, ih (fun v hv => h v (by omega)), h n (by omega)]
theorem cnt_take {left : Nat → Bool} {b : Nat} : ∀ {n : Nat}, b < n → left b = true → cnt n (fun v => if v = b then false else left v) + 1 = cnt n left
  | 0, h, _ => by omega
  | n + 1, h, hb => by
    rw [cnt_succ, cnt_succ]
    by_cases e : b = n
    · rw [if_neg (by simp [e]), if_pos (by rw [← e]; exact hb), cnt_congr (l' := left) (fun v hv => if_neg (by omega))]
    · have := cnt_take (n := n) (by omega) hb
      rw [if_neg (show ¬ n = b by omega)]
      omega
theorem cnt_some {left : Nat → Bool} : ∀ {n : Nat}, 0 < cnt n left → ∃ v, v < n ∧ left v = true
  | 0, h => by simp [cnt] at h
  | n + 1, h => by
    rw [cnt_succ] at h
    by_cases e : left n = true
    · exact ⟨n, by omega, e⟩
    · rw [if_neg e] at h
      obtain ⟨v, h1, h2⟩ := cnt_some (n := n) (by omega)
      exact ⟨v, by omega, h2⟩
theorem cnt_all (n : Nat) : ∀ m, m ≤ n → cnt m (fun v => decide (v < n)) = m
  | 0, _ => rfl
  | m + 1, h => by rw [cnt_succ, cnt_all n m (by omega), if_pos (by simp; omega)]
theorem run_cnt (N : Nat) (D : Nat → Nat → Int) (k : Nat) : ∀ r, r ≤ N → cnt N (run N D k r).left = N - r ∧ ∀ r', r' < r → best N D k r' < N ∧ (run N D k r').left (best N D k r') = true
  | 0, _ => ⟨by show cnt N (fun v => decide (v < N)) = _; rw [cnt_all N N (Nat.le_refl _)]; omega, fun r' h => by omega⟩
  | r + 1, h => by
    obtain ⟨h1, h2⟩ := run_cnt N D k r (by omega)
    obtain ⟨v, hv, hl⟩ := cnt_some (n := N) (left := (run N D k r).left) (by omega)
    have h3 := scan_some _ (fun v => diff N (run N D k r).D v k + (run N D k r).gone v) N v hv hl
    have h4 := scan_lt (run N D k r).left (fun v => diff N (run N D k r).D v k + (run N D k r).gone v) N
    have h5 := scan_left _ _ N h3
    have hb : best N D k r < N ∧ (run N D k r).left (best N D k r) = true := ⟨by unfold best; omega, h5⟩
    refine ⟨?_, fun r' hr => ?_⟩
    · have := cnt_take hb.1 hb.2
      show cnt N (fun v => if v = best N D k r then false else (run N D k r).left v) = _
      omega
    · rcases Nat.lt_or_ge r' r with e | e
      · exact h2 r' e
      · obtain rfl : r' = r := by omega
        exact hb
theorem best_is (N : Nat) (D : Nat → Nat → Int) (k r : Nat) (hr : r < N) : best N D k r < N ∧ (run N D k r).left (best N D k r) = true ∧ (scan (run N D k r).left (fun v => diff N (run N D k r).D v k + (run N D k r).gone v) N).1 = (best N D k r : Nat) := by
  obtain ⟨h1, h2⟩ := (run_cnt N D k (r + 1) (by omega)).2 r (by omega)
  obtain ⟨h3, -⟩ := run_cnt N D k r (by omega)
  obtain ⟨v, hv, hl⟩ := cnt_some (n := N) (left := (run N D k r).left) (by omega)
  have h4 := scan_some _ (fun v => diff N (run N D k r).D v k + (run N D k r).gone v) N v hv hl
  exact ⟨h1, h2, by unfold best; omega⟩
theorem run_mesh {N : Nat} {D : Nat → Nat → Int} (hm : XM.Mesh N D) (k : Nat) : ∀ r, XM.Mesh N (run N D k r).D
  | 0 => hm
  | r + 1 => (run_mesh hm k r).con
end OM
end Go.Proofs.Ytkcfepppnclniaa
end

section
/-
  A range over a function that makes memory of its own between rounds: it may turn whatever lies behind the loop's own two blocks; a round may turn whatever lay ahead of the loop but what the function reads there (R).
-/
namespace Go.Proofs.Ytkcfepppnclniaa
open Go.RowKit Go.Shelf

/-- From block N on all lies as it lay. -/
def Above (N : Nat) (W W' : World) : Prop := Keeps (fun b => b < N) W W'
theorem Above.refl (N : Nat) (W : World) : Above N W W := Keeps.refl _ W
theorem Above.trans {N : Nat} {a b c : World} (h : Above N a b) (k : Above N b c) : Above N a c := Keeps.trans h k (fun _ hx => .inl hx)
theorem Above.mono {N N' : Nat} {a b : World} (h : Above N a b) (hN : N ≤ N') : Above N' a b := Keeps.mono h (fun x hx => by omega)

/-- The loop's record. -/
def recd (fn : FuncId) (tmps : Array Value) (ps : Array Tmp) (assign body : Code) (D : Nat) (st : LoopState) (pe : Option Code) : Loop := { state := st, pending := pe, fn := fn, tmps := tmps, params := ps, assign := assign, body := body, defers := D }
/-- The loop's two blocks, from B on: what is deferred (nothing), and the record. -/
structure Book (W : World) (B : Nat) (r : Loop) : Prop where
  keep : W.heap[B + 1]? = some (.loop r)
  dfr : W.heap[B]? = some (.deferred (some []))
section
variable {W W' : World} {B : Nat} {r : Loop}
theorem Book.lt (h : Book W B r) : B + 1 < W.heap.size := (Array.getElem?_eq_some_iff.1 h.keep).1
theorem Book.below (h : Book W B r) (hb : Below (B + 2) W W') : Book W' B r := ⟨(hb.block _ (by omega)).trans h.keep, (hb.block _ (by omega)).trans h.dfr⟩
theorem Book.above (h : Book W B r) (ha : Above B W W') : Book W' B r := by
  have := h.lt
  exact ⟨(ha.block _ this (by omega)).trans h.keep, (ha.block _ (by omega) (by omega)).trans h.dfr⟩
theorem Book.put (h : Book W B r) (r' : Loop) : Book (W.putObj (B + 1) (.loop r')) B r' := ⟨World.putObj_heap_same h.lt, (World.putObj_heap_other (by omega)).trans h.dfr⟩
theorem below_put (W : World) (B : Nat) (o : Obj) : Below B W (W.putObj (B + 1) o) := ⟨rfl, rfl, rfl, by simp, fun k hk => World.putObj_heap_other (by omega)⟩
theorem above_put (W : World) (B : Nat) (o : Obj) : Above (B + 2) W (W.putObj (B + 1) o) := ⟨rfl, rfl, rfl, by simp, fun k _ hn => World.putObj_heap_other (by omega)⟩
end

/-- How a round may end. -/
def leftBy {α : Type} (B : Nat) (I : List α → World → Prop) (Ix : Code → List α → World → Prop) (xs : List α) (W : World) : Exit → Act → World → Prop
  | .normal, _, W' => Above B W W' ∧ I xs W'
  | .ret, _, W' => Above B W W' ∧ Ix .ret xs W'
  | .exit id, _, W' => Above B W W' ∧ Ix (.exit id) xs W'
  | .goto t, _, W' => Above B W W' ∧ Ix (.goto t) xs W'
  | .panic _, _, _ => False
  | .outgrown, _, _ => False

/-- What the function that is ranged over owes: of rounds that leave alone what lies behind the loop's two blocks, and keep R (what it reads), it hands on what S says, or, where one says no more, what Sp says. -/
def Goes {α : Type} (n : Nat) (P : Program) (g : Nat) (lb : Array Value) (encs : α → Array Value) (S Sp : List α → Prop) (N : Nat) (R : World → Prop) (w : World) : Prop :=
  ∀ (l : Nat) (J Jx : List α → World → Prop) (W : World), Below w.heap.size w W → w.heap.size + 2 ≤ W.heap.size →
    (∀ s A, J s A → R A) → (∀ s A A', J s A → Below (w.heap.size + 2) A A' → J s A') → (∀ s A A', Jx s A → Below (w.heap.size + 2) A A' → Jx s A') →
    (∀ pre x W1, J pre W1 → pre.length < N → YieldAt Fence.wide (n - 1) P l (encs x) W1 fun e W' =>
      (e = .returned (.bool true) ∧ J (pre ++ [x]) W' ∧ Above (w.heap.size + 2) W1 W') ∨ (e = .returned (.bool false) ∧ Jx (pre ++ [x]) W' ∧ Above (w.heap.size + 2) W1 W')) →
    J [] W →
    CallsIn Fence.wide n P g (#[.func (.yield l) #[] #[]] ++ lb) W fun e W' => (∃ v, e = .returned v) ∧ ((∃ xs, S xs ∧ J xs W') ∨ (∃ pre, Sp pre ∧ Jx pre W'))

theorem range_goes {α : Type} {P : Program} {n : Nat} (h1 : 1 ≤ n) {g : Operand} {ps : Array Tmp} {assign body : Code} {Q : Exit → Act → World → Prop} {a : Act} {w : World}
    {gf : Nat} {lb : Array Value} (hg : a.eval g = .func (.func gf) #[] lb) (eg : ∀ args w, (callFunc gf args).run P w = .ok (.enter gf args) w)
    {encs : α → Array Value} {S Sp : List α → Prop} {N : Nat} {R : World → Prop} (hseq : Goes (n - 1) P gf lb encs S Sp N R w) (hps : ∀ x, (encs x).size = ps.size)
    (I : List α → World → Prop) (Ix : Code → List α → World → Prop) (hI : ∀ s A A', I s A → Below w.heap.size A A' → I s A') (hIx : ∀ c s A A', Ix c s A → Below w.heap.size A A' → Ix c s A') (hR : ∀ s A, I s A → R A) (h0 : I [] w) (a₁ : α → Act)
    (hassign : ∀ (l : Nat) (x : α) (W : World) (K : Act → World → Prop), K (a₁ x) W →
      assign.wpIn (Fence.wide.inRound l) (n - 1 - 1) P (Exit.then K (fun _ _ _ => False)) { tmps := (ps.zip (encs x)).foldl (fun t (p, v) => t.setIfInBounds p v) a.tmps, defers := [] } W)
    (hbody : ∀ (l : Nat) (pre : List α) (x : α) (W : World), I pre W → pre.length < N → body.wpIn (Fence.wide.inRound l) (n - 1 - 1) P (leftBy w.heap.size I Ix (pre ++ [x]) W) (a₁ x) W)
    (hdone : ∀ (xs : List α) (W : World), S xs → I xs W → W.heap[w.heap.size]? = some (.deferred (some [])) → Q .normal { a with defers := { target := .collected w.heap.size, args := #[] } :: a.defers } W)
    (hstop : ∀ (c : Code) (pre : List α) (W : World), Sp pre → Ix c pre W → W.heap[w.heap.size]? = some (.deferred (some [])) → c.wpIn Fence.wide n P Q { a with defers := { target := .collected w.heap.size, args := #[] } :: a.defers } W) :
    (Code.rangeFunc g ps assign body).wpIn Fence.wide n P Q a w := by
  refine wpIn_rangeFunc fun fn _ => ?_
  have hs : ((w.alloc (.deferred (some []))).alloc (.loop (recd fn a.tmps ps assign body w.heap.size .ready none))).heap.size = w.heap.size + 1 + 1 := by simp
  have hb1 : Below w.heap.size w ((w.alloc (.deferred (some []))).alloc (.loop (recd fn a.tmps ps assign body w.heap.size .ready none))) := ((Below.refl _ w).alloc (Nat.le_refl _) _).alloc (by simp) _
  have hbk : Book ((w.alloc (.deferred (some []))).alloc (.loop (recd fn a.tmps ps assign body w.heap.size .ready none))) w.heap.size (recd fn a.tmps ps assign body w.heap.size .ready none) := by
    constructor
    · have := World.alloc_heap_new (w.alloc (.deferred (some []))) (.loop (recd fn a.tmps ps assign body w.heap.size .ready none))
      rwa [World.size_alloc] at this
    · exact (Below.heap_alloc _ _ _ (by simp)).trans (World.alloc_heap_new w _)
  have hen : (Instr.enterLoop fn a.tmps ps assign body none).run P w = .ok (w.heap.size + 1, [{ target := .collected w.heap.size, args := #[] }]) ((w.alloc (.deferred (some []))).alloc (.loop (recd fn a.tmps ps assign body w.heap.size .ready none))) := run_enterLoop_outer _ _ _ _ _
  generalize (w.alloc (.deferred (some []))).alloc (.loop (recd fn a.tmps ps assign body w.heap.size .ready none)) = W1 at *
  refine ⟨w.heap.size + 1, [{ target := .collected w.heap.size, args := #[] }], W1, { target := .fn (.func gf) lb, args := #[.func (.yield (w.heap.size + 1)) #[] #[]] }, W1, gf, #[.func (.yield (w.heap.size + 1)) #[] #[]] ++ lb, W1, hen, ?_, fun _ _ => trivial, ?_, fun _ => h1, ?_⟩
  · simp only [resolve, hg]
    simp [go_sem]
  · simp [invoke, go_sem, eg]
  refine (hseq (w.heap.size + 1) (fun pre W => I pre W ∧ Book W w.heap.size (recd fn a.tmps ps assign body w.heap.size .ready none))
    (fun pre W => ∃ c, Ix c pre W ∧ Book W w.heap.size (recd fn a.tmps ps assign body w.heap.size .done (some c))) W1 hb1 (by omega) (fun s A h => hR s A h.1)
    (fun s A A' h hb => ⟨hI s A A' h.1 (hb.mono (by omega)), h.2.below hb⟩) (fun s A A' h hb => by
      obtain ⟨c, h1, h2⟩ := h
      exact ⟨c, hIx c s A A' h1 (hb.mono (by omega)), h2.below hb⟩) ?_ ⟨hI _ _ _ h0 hb1, hbk⟩).mono ?_
  · -- one round
    rintro pre x W ⟨hi, hb⟩ hlen
    have hy := run_yield (P := P) (args := encs x) hb.keep (hps x)
    refine ⟨_, _, _, _, hy, roundIn_of_wpIn trivial (hassign _ x W _ ⟨_, run_beginRound hb.keep rfl, ?_⟩)⟩
    have hb2 : Book (W.putObj (w.heap.size + 1) (.loop (recd fn a.tmps ps assign body w.heap.size .busy none))) w.heap.size (recd fn a.tmps ps assign body w.heap.size .busy none) := hb.put _
    have hi2 : I pre (W.putObj (w.heap.size + 1) (.loop (recd fn a.tmps ps assign body w.heap.size .busy none))) := hI _ _ _ hi (below_put _ _ _)
    have hab := above_put W w.heap.size (.loop (recd fn a.tmps ps assign body w.heap.size .busy none))
    have ends : ∀ (j : Option Code) (W3 : World), Above w.heap.size (W.putObj (w.heap.size + 1) (.loop (recd fn a.tmps ps assign body w.heap.size .busy none))) W3 →
        (Instr.endRound (w.heap.size + 1) j).run P W3 = .ok (.bool j.isNone) (W3.putObj (w.heap.size + 1) (.loop (recd fn a.tmps ps assign body w.heap.size (if j.isNone then .ready else .done) j))) ∧
        Book (W3.putObj (w.heap.size + 1) (.loop (recd fn a.tmps ps assign body w.heap.size (if j.isNone then .ready else .done) j))) w.heap.size (recd fn a.tmps ps assign body w.heap.size (if j.isNone then .ready else .done) j) ∧
        Above (w.heap.size + 2) W (W3.putObj (w.heap.size + 1) (.loop (recd fn a.tmps ps assign body w.heap.size (if j.isNone then .ready else .done) j))) := fun j W3 ha => by
      have hb3 := hb2.above ha
      exact ⟨run_endRound j hb3.keep, hb3.put _, (hab.trans (ha.mono (by omega))).trans (above_put _ _ _)⟩
    refine wpIn_mono (hbody _ pre x _ hi2 hlen) ?_
    rintro e a3 W3 hp
    cases e with
    | normal =>
      obtain ⟨r1, r2, r3⟩ := ends none W3 hp.1
      exact ⟨_, _, r1, .inl ⟨rfl, ⟨hI _ _ _ hp.2 (below_put _ _ _), r2⟩, r3⟩⟩
    | ret =>
      obtain ⟨r1, r2, r3⟩ := ends (some .ret) W3 hp.1
      exact ⟨_, _, r1, .inr ⟨rfl, ⟨_, hIx _ _ _ _ hp.2 (below_put _ _ _), r2⟩, r3⟩⟩
    | exit id =>
      obtain ⟨r1, r2, r3⟩ := ends (some (.exit id)) W3 hp.1
      exact ⟨_, _, r1, .inr ⟨rfl, ⟨_, hIx _ _ _ _ hp.2 (below_put _ _ _), r2⟩, r3⟩⟩
    | goto t =>
      obtain ⟨r1, r2, r3⟩ := ends (some (.goto t)) W3 hp.1
      exact ⟨_, _, r1, .inr ⟨rfl, ⟨_, hIx _ _ _ _ hp.2 (below_put _ _ _), r2⟩, r3⟩⟩
    | panic ch => exact hp.elim
    | outgrown => exact hp.elim
  · -- behind it
    rintro e W2 ⟨⟨v, rfl⟩, (⟨xs, hS, hi, hb⟩ | ⟨pre, hSp, c, hi, hb⟩)⟩
    · exact ⟨none, _, run_endLoop hb.keep (by intro h; cases h), hdone xs _ hS (hI _ _ _ hi (below_put _ _ _)) (hb.put _).dfr⟩
    · exact ⟨some c, _, run_endLoop hb.keep (by intro h; cases h), hstop c pre _ hSp (hIx _ _ _ _ hi (below_put _ _ _)) (hb.put _).dfr⟩
end Go.Proofs.Ytkcfepppnclniaa
end
