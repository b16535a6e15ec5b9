/-
  OrdMath, Range2, GraphSeq.
-/
import Derived.Test.YtkcfepppnclniaaGreatDoorMmMeshDefs
import Derived.Test.YtkcfepppnclniaaGreatDoorMmWitMath
import Derived.Test.YtkcfepppnclniaaGreatDoorMmRange
import Derived.Test.YtkcfepppnclniaaGreatDoorMmGraphA
section
/-
  A vertex's need, its difference, and the order by cost (layer 14), as functions of a mesh. Nothing of the program.
-/
namespace Go.Proofs.YtkcfepppnclniaaGreatDoor
namespace OM
open WM
/-- Each search comes to its end. -/
theorem got_run {N : Nat} {D : Nat → Nat → Int} {s : Nat} {W : Nat → Bool} {X : Int} {k : Nat} : ∀ (n : Nat) (L : List (Nat × Int)), Seq N D s W X L → L.length ≤ k → k - L.length ≤ n → ∃ M, Got N D s W X k M := by
  classical
  intro n
  induction n with
  | zero => exact fun L hq hl hn => ⟨L, hq, hl, .inl (by omega)⟩
  | succ n ih =>
    intro L hq hl hn
    by_cases hst : Stuck N D s W X L
    · exact ⟨L, hq, hl, .inr hst⟩
    · by_cases hk : L.length = k
      · exact ⟨L, hq, hl, .inl hk⟩
      · have : ∃ v d, WM.Next N D s W L v d ∧ d ≤ X := Classical.byContradiction fun hc => hst (fun v d h1 h2 => hc ⟨v, d, h1, h2⟩)
        obtain ⟨v, d, h1, h2⟩ := this
        exact ih (L ++ [(v, d)]) (.snoc hq h1 h2) (by rw [List.length_append, List.length_singleton]; omega) (by rw [List.length_append, List.length_singleton]; omega)
theorem got_ex (N : Nat) (D : Nat → Nat → Int) (s : Nat) (W : Nat → Bool) (X : Int) (k : Nat) : ∃ M, Got N D s W X k M := got_run k [] .nil (Nat.zero_le _) (by simp)
/-- What a search settles. -/
noncomputable def got (N : Nat) (D : Nat → Nat → Int) (s : Nat) (W : Nat → Bool) (X : Int) (k : Nat) : List (Nat × Int) := (got_ex N D s W X k).choose
theorem got_spec (N : Nat) (D : Nat → Nat → Int) (s : Nat) (W : Nat → Bool) (X : Int) (k : Nat) : Got N D s W X k (got N D s W X k) := (got_ex N D s W X k).choose_spec
theorem got_eq {N : Nat} {D : Nat → Nat → Int} {s : Nat} {W : Nat → Bool} {X : Int} {k : Nat} {M : List (Nat × Int)} (h : Got N D s W X k M) : got N D s W X k = M := (got_spec N D s W X k).one h
/-- Is the detour by v from u to x spared by a search of k vertices? -/
noncomputable def spares (N : Nat) (D : Nat → Nat → Int) (u v x k : Nat) : Bool := has (got N D u (fun y => decide (y = v)) (DM.two (D u v) (D v x)) k) x
/-- How many detours by v aren't spared. -/
noncomputable def need (N : Nat) (D : Nat → Nat → Int) (v k : Nat) : Nat := ((XM.dets N D (v : Int) N).filter (fun d => !spares N D d.u v d.w k)).length
/-- The same, of the first j. -/
noncomputable def needTo (N : Nat) (D : Nat → Nat → Int) (v k j : Nat) : Nat := (((XM.dets N D (v : Int) N).take j).filter (fun d => !spares N D d.u v d.w k)).length
theorem needTo_zero (N : Nat) (D : Nat → Nat → Int) (v k : Nat) : needTo N D v k 0 = 0 := rfl
theorem needTo_all (N : Nat) (D : Nat → Nat → Int) (v k : Nat) : needTo N D v k (XM.dets N D (v : Int) N).length = need N D v k := by unfold needTo need; rw [List.take_length]
theorem needTo_step (N : Nat) (D : Nat → Nat → Int) (v k j : Nat) (hj : j < (XM.dets N D (v : Int) N).length) : needTo N D v k (j + 1) = needTo N D v k j + (if spares N D ((XM.dets N D (v : Int) N)[j]).u v ((XM.dets N D (v : Int) N)[j]).w k = true then 0 else 1) := by
  unfold needTo
  rw [List.take_succ_eq_append_getElem hj, List.filter_append, List.length_append]
  congr 1
  cases e : spares N D ((XM.dets N D (v : Int) N)[j]).u v ((XM.dets N D (v : Int) N)[j]).w k with
  | true => simp [e]
  | false => simp [e]
theorem needTo_le (N : Nat) (D : Nat → Nat → Int) (v k j : Nat) : needTo N D v k j ≤ j := by
  unfold needTo
  refine Nat.le_trans (List.length_filter_le _ _) ?_
  rw [List.length_take]
  omega
/-- Its edges, its difference. -/
def edges (N : Nat) (D : Nat → Nat → Int) (v : Nat) (back : Bool) : Nat := (XM.steps N D (v : Int) back N).length
noncomputable def diff (N : Nat) (D : Nat → Nat → Int) (v k : Nat) : Int := (need N D v k : Int) - (edges N D v false : Nat) - (edges N D v true : Nat)
/-- Is there a step between two vertices, one way or the other? -/
def edge (D : Nat → Nat → Int) (v w : Nat) : Bool := decide (D v w < 4611686018427387906) || decide (D w v < 4611686018427387906)
/-! The order by cost. -/
/-- While ranks are given: the mesh, who is left, how many have gone beside each, the ranks. -/
structure RS where
  D : Nat → Nat → Int
  left : Nat → Bool
  gone : Nat → Int
  rank : Nat → Int
/-- Of the first j vertices, those that are left: the one of the least cost, of like ones the least; its cost. -/
def scan (left : Nat → Bool) (c : Nat → Int) : Nat → Int × Int
  | 0 => (-1, 0)
  | j + 1 => if left j = true ∧ ((scan left c j).1 < 0 ∨ c j < (scan left c j).2) then ((j : Int), c j) else scan left c j
theorem scan_lt (left : Nat → Bool) (c : Nat → Int) : ∀ j, -1 ≤ (scan left c j).1 ∧ (scan left c j).1 < j
  | 0 => by show (-1 : Int) ≤ -1 ∧ (-1 : Int) < 0; omega
  | j + 1 => by
    have := scan_lt left c j
    unfold scan
    split
    · dsimp only; omega
    · omega
theorem scan_left (left : Nat → Bool) (c : Nat → Int) : ∀ j, 0 ≤ (scan left c j).1 → left (scan left c j).1.toNat = true
  | 0 => fun h => absurd h (by show ¬ (0 : Int) ≤ -1; omega)
  | j + 1 => by
    unfold scan
    split
    · rename_i h
      intro _
      dsimp only
      rw [Int.toNat_natCast]
      exact h.1
    · exact scan_left left c j
theorem scan_some (left : Nat → Bool) (c : Nat → Int) : ∀ j v, v < j → left v = true → 0 ≤ (scan left c j).1
  | 0, v, h, _ => by omega
  | j + 1, v, h, hl => by
    unfold scan
    split
    · dsimp only; omega
    · rename_i hn
      by_cases e : v = j
      · rw [e] at hl
        refine Classical.byContradiction fun hc => hn ⟨hl, .inl (by omega)⟩
      · exact scan_some left c j v (by omega) hl
/-- One rank more. -/
noncomputable def turn (N k r : Nat) (s : RS) : RS :=
  let b := (scan s.left (fun v => diff N s.D v k + s.gone v) N).1.toNat
  ⟨XM.con s.D b, fun v => if v = b then false else s.left v, fun v => if edge s.D b v = true then s.gone v + 1 else s.gone v, fun v => if v = b then (r : Int) else s.rank v⟩
noncomputable def run (N : Nat) (D : Nat → Nat → Int) (k : Nat) : Nat → RS
  | 0 => ⟨D, fun v => decide (v < N), fun _ => 0, fun _ => 0⟩
  | r + 1 => turn N k r (run N D k r)
/-- The vertex of rank r. -/
noncomputable def best (N : Nat) (D : Nat → Nat → Int) (k r : Nat) : Nat := (scan (run N D k r).left (fun v => diff N (run N D k r).D v k + (run N D k r).gone v) N).1.toNat
/-- How many are left. -/
def cnt (N : Nat) (left : Nat → Bool) : Nat := ((List.range N).filter left).length
theorem cnt_succ (n : Nat) (left : Nat → Bool) : cnt (n + 1) left = cnt n left + if left n = true then 1 else 0 := by
  unfold cnt
  rw [List.range_succ, List.filter_append]
  by_cases h : left n = true <;> simp [h]
theorem cnt_congr {n : Nat} {l l' : Nat → Bool} (h : ∀ v, v < n → l v = l' v) : cnt n l = cnt n l' := by
  induction n with
  | zero => rfl
  | succ n ih =>
    rw [cnt_succ, cnt_succ, ih (fun v hv => h v (by omega)), h n (by omega)]
theorem cnt_take {left : Nat → Bool} {b : Nat} : ∀ {n : Nat}, b < n → left b = true → cnt n (fun v => if v = b then false else left v) + 1 = cnt n left
  | 0, h, _ => by omega
  | n + 1, h, hb => by
    rw [cnt_succ, cnt_succ]
    by_cases e : b = n
    · rw [if_neg (by simp [e]), if_pos (by rw [← e]; exact hb), cnt_congr (l' := left) (fun v hv => if_neg (by omega))]
    · have := cnt_take (n := n) (by omega) hb
      rw [if_neg (show ¬ n = b by omega)]
      omega
theorem cnt_some {left : Nat → Bool} : ∀ {n : Nat}, 0 < cnt n left → ∃ v, v < n ∧ left v = true
  | 0, h => by simp [cnt] at h
  | n + 1, h => by
    rw [cnt_succ] at h
    by_cases e : left n = true
    · exact ⟨n, by omega, e⟩
    · rw [if_neg e] at h
      obtain ⟨v, h1, h2⟩ := cnt_some (n := n) (by omega)
      exact ⟨v, by omega, h2⟩
theorem cnt_all (n : Nat) : ∀ m, m ≤ n → cnt m (fun v => decide (v < n)) = m
  | 0, _ => rfl
  | m + 1, h => by rw [cnt_succ, cnt_all n m (by omega), if_pos (by simp; omega)]
theorem run_cnt (N : Nat) (D : Nat → Nat → Int) (k : Nat) : ∀ r, r ≤ N → cnt N (run N D k r).left = N - r ∧ ∀ r', r' < r → best N D k r' < N ∧ (run N D k r').left (best N D k r') = true
  | 0, _ => ⟨by show cnt N (fun v => decide (v < N)) = _; rw [cnt_all N N (Nat.le_refl _)]; omega, fun r' h => by omega⟩
  | r + 1, h => by
    obtain ⟨h1, h2⟩ := run_cnt N D k r (by omega)
    obtain ⟨v, hv, hl⟩ := cnt_some (n := N) (left := (run N D k r).left) (by omega)
    have h3 := scan_some _ (fun v => diff N (run N D k r).D v k + (run N D k r).gone v) N v hv hl
    have h4 := scan_lt (run N D k r).left (fun v => diff N (run N D k r).D v k + (run N D k r).gone v) N
    have h5 := scan_left _ _ N h3
    have hb : best N D k r < N ∧ (run N D k r).left (best N D k r) = true := ⟨by unfold best; omega, h5⟩
    refine ⟨?_, fun r' hr => ?_⟩
    · have := cnt_take hb.1 hb.2
      show cnt N (fun v => if v = best N D k r then false else (run N D k r).left v) = _
      omega
    · rcases Nat.lt_or_ge r' r with e | e
      · exact h2 r' e
      · obtain rfl : r' = r := by omega
        exact hb
theorem best_is (N : Nat) (D : Nat → Nat → Int) (k r : Nat) (hr : r < N) : best N D k r < N ∧ (run N D k r).left (best N D k r) = true ∧ (scan (run N D k r).left (fun v => diff N (run N D k r).D v k + (run N D k r).gone v) N).1 = (best N D k r : Nat) := by
  obtain ⟨h1, h2⟩ := (run_cnt N D k (r + 1) (by omega)).2 r (by omega)
  obtain ⟨h3, -⟩ := run_cnt N D k r (by omega)
  obtain ⟨v, hv, hl⟩ := cnt_some (n := N) (left := (run N D k r).left) (by omega)
  have h4 := scan_some _ (fun v => diff N (run N D k r).D v k + (run N D k r).gone v) N v hv hl
  exact ⟨h1, h2, by unfold best; omega⟩
theorem run_mesh {N : Nat} {D : Nat → Nat → Int} (hm : XM.Mesh N D) (k : Nat) : ∀ r, XM.Mesh N (run N D k r).D
  | 0 => hm
  | r + 1 => (run_mesh hm k r).con
end OM
end Go.Proofs.YtkcfepppnclniaaGreatDoor
end

section
/-
  A range over a function that turns nothing that lies there (it may make new memory between rounds), and whose rounds never leave the loop early: a round may turn whatever it likes but the loop's own two blocks, also memory that earlier rounds have made (a list that is appended to).
-/
namespace Go.Proofs.YtkcfepppnclniaaGreatDoor
open Go.RowKit Go.Shelf

/-- What the function owes: of rounds that go on it hands on what S says. -/
def GoesX {α : Type} (n : Nat) (P : Program) (g : Nat) (lb : Array Value) (encs : α → Array Value) (S : List α → Prop) (N : Nat) (R : World → Prop) : Prop :=
  ∀ (l : Nat) (J : List α → World → Prop) (W : World),
    (∀ s A, J s A → R A) → (∀ s A A', J s A → Below A.heap.size A A' → J s A') →
    (∀ pre x W1, J pre W1 → pre.length < N → YieldAt Fence.wide (n - 1) P l (encs x) W1 fun e W' => e = .returned (.bool true) ∧ J (pre ++ [x]) W') →
    J [] W →
    CallsIn Fence.wide n P g (#[.func (.yield l) #[] #[]] ++ lb) W fun e W' => (∃ v, e = .returned v) ∧ ∃ xs, S xs ∧ J xs W'
/-- How a round ends. -/
def wentOn {α : Type} (B : Nat) (I : List α → World → Prop) (xs : List α) (W : World) : Exit → Act → World → Prop
  | .normal, _, W' => (W'.heap[B]? = W.heap[B]? ∧ W'.heap[B + 1]? = W.heap[B + 1]?) ∧ I xs W'
  | _, _, _ => False

theorem range_goesX {α : Type} {P : Program} {n : Nat} (h1 : 1 ≤ n) {g : Operand} {ps : Array Tmp} {assign body : Code} {Q : Exit → Act → World → Prop} {a : Act} {w : World}
    {gf : Nat} {lb : Array Value} (hg : a.eval g = .func (.func gf) #[] lb) (eg : ∀ args w, (callFunc gf args).run P w = .ok (.enter gf args) w)
    {encs : α → Array Value} {S : List α → Prop} {N : Nat} {R : World → Prop} (hseq : GoesX (n - 1) P gf lb encs S N R) (hps : ∀ x, (encs x).size = ps.size)
    (I : List α → World → Prop) (hI : ∀ s A A', I s A → Below A.heap.size A A' → I s A') (hP : ∀ s A o, I s A → w.heap.size + 1 < A.heap.size → I s (A.putObj (w.heap.size + 1) (.loop o))) (hR : ∀ s A, I s A → R A) (h0 : I [] w) (a₁ : α → Act)
    (hassign : ∀ (l : Nat) (x : α) (W : World) (K : Act → World → Prop), K (a₁ x) W →
      assign.wpIn (Fence.wide.inRound l) (n - 1 - 1) P (Exit.then K (fun _ _ _ => False)) { tmps := (ps.zip (encs x)).foldl (fun t (p, v) => t.setIfInBounds p v) a.tmps, defers := [] } W)
    (hbody : ∀ (l : Nat) (pre : List α) (x : α) (W : World), I pre W → pre.length < N → w.heap.size + 1 < W.heap.size → body.wpIn (Fence.wide.inRound l) (n - 1 - 1) P (wentOn w.heap.size I (pre ++ [x]) W) (a₁ x) W)
    (hdone : ∀ (xs : List α) (W : World), S xs → I xs W → W.heap[w.heap.size]? = some (.deferred (some [])) → Q .normal { a with defers := { target := .collected w.heap.size, args := #[] } :: a.defers } W) :
    (Code.rangeFunc g ps assign body).wpIn Fence.wide n P Q a w := by
  refine wpIn_rangeFunc fun fn _ => ?_
  have hb1 : Below w.heap.size w ((w.alloc (.deferred (some []))).alloc (.loop (recd fn a.tmps ps assign body w.heap.size .ready none))) := ((Below.refl _ w).alloc (Nat.le_refl _) _).alloc (by simp) _
  have hbk : Book ((w.alloc (.deferred (some []))).alloc (.loop (recd fn a.tmps ps assign body w.heap.size .ready none))) w.heap.size (recd fn a.tmps ps assign body w.heap.size .ready none) := by
    constructor
    · have := World.alloc_heap_new (w.alloc (.deferred (some []))) (.loop (recd fn a.tmps ps assign body w.heap.size .ready none))
      rwa [World.size_alloc] at this
    · exact (Below.heap_alloc _ _ _ (by simp)).trans (World.alloc_heap_new w _)
  have hen : (Instr.enterLoop fn a.tmps ps assign body none).run P w = .ok (w.heap.size + 1, [{ target := .collected w.heap.size, args := #[] }]) ((w.alloc (.deferred (some []))).alloc (.loop (recd fn a.tmps ps assign body w.heap.size .ready none))) := run_enterLoop_outer _ _ _ _ _
  generalize (w.alloc (.deferred (some []))).alloc (.loop (recd fn a.tmps ps assign body w.heap.size .ready none)) = W1 at *
  refine ⟨w.heap.size + 1, [{ target := .collected w.heap.size, args := #[] }], W1, { target := .fn (.func gf) lb, args := #[.func (.yield (w.heap.size + 1)) #[] #[]] }, W1, gf, #[.func (.yield (w.heap.size + 1)) #[] #[]] ++ lb, W1, hen, ?_, fun _ _ => trivial, ?_, fun _ => h1, ?_⟩
  · simp only [resolve, hg]
    simp [go_sem]
  · simp [invoke, go_sem, eg]
  refine (hseq (w.heap.size + 1) (fun pre W => I pre W ∧ Book W w.heap.size (recd fn a.tmps ps assign body w.heap.size .ready none)) W1 (fun s A h => hR s A h.1)
    (fun s A A' h hb => ⟨hI s A A' h.1 hb, h.2.below (hb.mono h.2.lt)⟩) ?_ ⟨hI _ _ _ h0 hb1, hbk⟩).mono ?_
  · -- one round
    rintro pre x W ⟨hi, hb⟩ hlen
    have hy := run_yield (P := P) (args := encs x) hb.keep (hps x)
    refine ⟨_, _, _, _, hy, roundIn_of_wpIn trivial (hassign _ x W _ ⟨_, run_beginRound hb.keep rfl, ?_⟩)⟩
    have hb2 : Book (W.putObj (w.heap.size + 1) (.loop (recd fn a.tmps ps assign body w.heap.size .busy none))) w.heap.size (recd fn a.tmps ps assign body w.heap.size .busy none) := hb.put _
    have hi2 : I pre (W.putObj (w.heap.size + 1) (.loop (recd fn a.tmps ps assign body w.heap.size .busy none))) := hP _ _ _ hi hb.lt
    refine wpIn_mono (hbody _ pre x _ hi2 hlen hb2.lt) ?_
    rintro e a3 W3 hp
    cases e with
    | normal =>
      have hb3 : Book W3 w.heap.size (recd fn a.tmps ps assign body w.heap.size .busy none) := ⟨hp.1.2.trans hb2.keep, hp.1.1.trans hb2.dfr⟩
      exact ⟨_, _, run_endRound none hb3.keep, rfl, hP _ _ _ hp.2 hb3.lt, hb3.put _⟩
    | ret => exact hp.elim
    | exit id => exact hp.elim
    | goto t => exact hp.elim
    | panic ch => exact hp.elim
    | outgrown => exact hp.elim
  · -- behind it
    rintro e W2 ⟨⟨v, rfl⟩, xs, hS, hi, hb⟩
    exact ⟨none, _, run_endLoop hb.keep (by intro h; cases h), hdone xs _ hS (hP _ _ _ hi hb.lt) (hb.put _).dfr⟩
end Go.Proofs.YtkcfepppnclniaaGreatDoor
end

section
/-
  The program's all, gone through: each arc that there is, by rising numbers.
-/
namespace Go.Proofs.YtkcfepppnclniaaGreatDoor
open Go.RowKit Go.Shelf
attribute [local go_sem] Oper.semAt_some

set_option maxHeartbeats 400000 in
theorem all_any (p : Nat) (w : World) :
    Calls Tryz.prog 73 #[.pointer (some ⟨p, 0, none⟩)] w fun e w' => e = .returned (.func (.func 94) #[] #[.pointer (some ⟨w.heap.size, 0, none⟩)]) ∧ w' = w.alloc (.cells #[.pointer (some ⟨p, 0, none⟩)] 24) := by
  go_enter Tryz.func73, Tryz.ntmps73
  go_wp2_with fail
  go_ret
  exact ⟨rfl, rfl⟩

/-- A number and its arc, as the loop's variables. -/
def numArc (x : Nat × Arc) : Array Value := #[.int .i64 (x.1 : Nat), .agg #[.int .i64 x.2.tail, .int .i64 x.2.head, .int .i64 x.2.weight, .bool x.2.closed]]

set_option maxRecDepth 100000 in
set_option maxHeartbeats 2000000 in
theorem all_goes (n : Nat) (_hn : 1 ≤ n) (Bn p N most : Nat) (m : GM.M) (hm : GM.Good most m) (w : World) :
    Goes n Tryz.prog 94 #[.pointer (some ⟨Bn, 0, none⟩)] numArc (fun ys => ys = GM.arcs m 64) (fun pre => pre <+: GM.arcs m 64) 64
      (fun A => A.cell? ⟨Bn, 0, none⟩ = some (.pointer (some ⟨p, 0, none⟩)) ∧ GMem A p N most m) w := by
  intro l J Jx W hW hs hR hJ hJx hY h0
  have HJ : Hid (∀ s A A', J s A → Below (w.heap.size + 2) A A' → J s A') := hJ
  have HR : Hid (∀ s A, J s A → A.cell? ⟨Bn, 0, none⟩ = some (.pointer (some ⟨p, 0, none⟩)) ∧ GMem A p N most m) := hR
  have HY : Hid (∀ pre x W1, J pre W1 → pre.length < 64 → YieldAt Fence.wide (n - 1) Tryz.prog l (numArc x) W1 fun e W' => (e = .returned (.bool true) ∧ J (pre ++ [x]) W' ∧ Above (w.heap.size + 2) W1 W') ∨ (e = .returned (.bool false) ∧ Jx (pre ++ [x]) W' ∧ Above (w.heap.size + 2) W1 W')) := hY
  have H0 : Hid (J [] W) := h0
  clear hJ hJx hR hY h0
  refine callsIn_of_wp Tryz.func94 rfl trivial ?_ rfl
  simp only [Tryz.ntmps94, List.size_toArray, List.length_cons, List.length_nil, Nat.reduceAdd, Nat.reduceSub, Array.replicate_succ, Array.replicate_zero, List.push_toArray, List.append_toArray, List.nil_append, List.cons_append]
  gi_wp2_with fail
  gi_loopw [6] (fun iv wr => ∃ k : Nat, k ≤ 64 ∧ iv = .int .i64 k ∧ J (GM.arcs m k) wr ∧ w.heap.size + 2 ≤ wr.heap.size) (fun iv _ => 64 - (intOf iv).toNat)
  case atStart => exact ⟨0, Nat.zero_le _, rfl, H0.out, hs⟩
  case round =>
    obtain ⟨k, hk, rfl, hJs, hsr⟩ := hrel
    by_cases hlt : k < 64
    · obtain ⟨hcb, hkm⟩ := HR.out _ _ hJs
      have har := arc_in hkm hm k hlt
      have HJS : Hid (J (GM.arcs m k) wr) := hJs
      have HLEN : Hid ((GM.arcs m k).length < 64) := by
        have := GM.ids_le m k
        show _ < _
        rw [GM.arcs_len]
        omega
      have k64 : (k : Int) < 64 := by omega
      clear hkm hJs
      cases hsk : GM.is m k with
      | false =>
        rw [hsk] at har
        have HA : Hid (GM.arcs m (k + 1) = GM.arcs m k) := GM.arcs_skip hsk
        unfold arcV at har
        generalize GM.arc m k = a at *
        obtain ⟨t, h, x, c⟩ := a
        dsimp only at har
        clear hsk
        gi_wp2_with fail
        refine ⟨trivial, (callsIn_wide.2 har).mono ?_⟩
        rintro e w2 ⟨rfl, hb2⟩
        have HJ2 : Hid (J (GM.arcs m (k + 1)) (w2.alloc (.cells #[.int .i64 t, .int .i64 h, .int .i64 x, .bool c] 35))) := by
          show J _ _
          rw [HA.out]
          exact HJ.out _ _ _ HJS.out ((hb2.alloc hb2.size _).mono hsr)
        have hs2 : w.heap.size + 2 ≤ (w2.alloc (.cells #[.int .i64 t, .int .i64 h, .int .i64 x, .bool c] 35)).heap.size := by have := hb2.size; simp; omega
        clear har hb2 hcb
        gi_wp2_with fail
        refine ⟨(fun _ h => by cases h), ?_⟩
        gi_wp2_with fail
        go_roundw
        case rel => exact ⟨k + 1, by omega, by go_num, HJ2.out, hs2⟩
        case measure => simp [intOf]; omega
      | true =>
        rw [hsk] at har
        have HA : Hid (GM.arcs m (k + 1) = GM.arcs m k ++ [(k, GM.arc m k)]) := GM.arcs_take hsk
        have HP : Hid (GM.arcs m (k + 1) <+: GM.arcs m 64) := GM.arcs_pre m (by omega)
        unfold arcV at har
        generalize GM.arc m k = a at *
        obtain ⟨t, h, x, c⟩ := a
        dsimp only at har
        have HYX : Hid (∀ W1, J (GM.arcs m k) W1 → YieldAt Fence.wide (n - 1) Tryz.prog l #[.int .i64 (k : Nat), .agg #[.int .i64 t, .int .i64 h, .int .i64 x, .bool c]] W1 fun e W' => (e = .returned (.bool true) ∧ J (GM.arcs m (k + 1)) W' ∧ Above (w.heap.size + 2) W1 W') ∨ (e = .returned (.bool false) ∧ Jx (GM.arcs m (k + 1)) W' ∧ Above (w.heap.size + 2) W1 W')) := fun W1 h1 => by
          rw [HA.out]
          exact HY.out _ (k, ⟨t, h, x, c⟩) W1 h1 HLEN.out
        clear hsk
        gi_wp2_with fail
        refine ⟨trivial, (callsIn_wide.2 har).mono ?_⟩
        rintro e w2 ⟨rfl, hb2⟩
        have hJ2 : J (GM.arcs m k) (w2.alloc (.cells #[.int .i64 t, .int .i64 h, .int .i64 x, .bool c] 35)) := HJ.out _ _ _ HJS.out ((hb2.alloc hb2.size _).mono hsr)
        have hs2 : w.heap.size + 2 ≤ (w2.alloc (.cells #[.int .i64 t, .int .i64 h, .int .i64 x, .bool c] 35)).heap.size := by have := hb2.size; simp; omega
        obtain ⟨fn, tmps, assign, body, hy, hRd⟩ := HYX.out _ hJ2
        clear har hb2 hcb hJ2
        gi_wp2_with fail
        refine hRd.mono ?_
        rintro e W4 (⟨rfl, hJ4, hk4⟩ | ⟨rfl, hJx4, -⟩)
        · have hs4 : w.heap.size + 2 ≤ W4.heap.size := Nat.le_trans hs2 hk4.size
          have HJ4 : Hid (J (GM.arcs m (k + 1)) W4) := hJ4
          clear hJ4 hk4 hy hRd
          gi_wp2_with fail
          go_roundw
          case rel => exact ⟨k + 1, by omega, by go_num, HJ4.out, hs4⟩
          case measure => simp [intOf]; omega
        · have HJ4 : Hid (Jx (GM.arcs m (k + 1)) W4) := hJx4
          clear hJx4 hy hRd
          gi_wp2_with fail
          (try simp only [Exit.inBlock, Exit.then]); refine bodyPost_ret (results_none rfl _ _ _) rfl ?_
          exact ⟨⟨_, rfl⟩, .inr ⟨_, HP.out, HJ4.out⟩⟩
    · obtain rfl : k = 64 := by omega
      have HJS : Hid (J (GM.arcs m 64) wr) := hJs
      clear hJs hlt hk
      gi_wp2_with fail
      go_end0
      exact ⟨⟨_, rfl⟩, .inl ⟨_, rfl, HJS.out⟩⟩
end Go.Proofs.YtkcfepppnclniaaGreatDoor
end
