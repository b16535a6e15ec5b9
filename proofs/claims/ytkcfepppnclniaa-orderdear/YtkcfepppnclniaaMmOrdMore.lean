/-
  OrdMore, OrdEnds, OrdRow.
-/
import Derived.Test.YtkcfepppnclniaaMmOrdMath
import Derived.Test.YtkcfepppnclniaaMmMeshActs
import Derived.Test.YtkcfepppnclniaaMmMem
section
/-
  What follows of needs and of the order by cost (layer 14). Nothing of the program.
-/
namespace Go.Proofs.Ytkcfepppnclniaa
namespace OM
open WM
theorem has_prefix {L M : List (Nat × Int)} (h : L <+: M) {x : Nat} (hx : has L x = true) : has M x = true := by
  obtain ⟨t, rfl⟩ := h
  unfold has at *
  rw [List.any_append, hx]
  rfl
/-- A greater search spares what a smaller one spares. -/
theorem spares_mono {N : Nat} {D : Nat → Nat → Int} {u v x j k : Nat} (hjk : j ≤ k) (h : spares N D u v x j = true) : spares N D u v x k = true := by
  unfold spares at *
  exact has_prefix ((got_spec N D u _ _ j).pre (got_spec N D u _ _ k) hjk (Int.le_refl _)) h
theorem filter_len {α : Type} {p q : α → Bool} : ∀ l : List α, (∀ d ∈ l, p d = true → q d = true) → (l.filter p).length ≤ (l.filter q).length
  | [], _ => Nat.le_refl _
  | d :: l, h => by
    have ih := filter_len l (fun x hx => h x (by simp [hx]))
    cases hp : p d with
    | true =>
      have hq := h d (by simp) hp
      rw [List.filter_cons_of_pos hp, List.filter_cons_of_pos hq, List.length_cons, List.length_cons]
      omega
    | false =>
      rw [List.filter_cons_of_neg (by simp [hp])]
      refine Nat.le_trans ih ?_
      rw [List.filter_cons]
      split
      · rw [List.length_cons]; omega
      · exact Nat.le_refl _
theorem need_mono {N : Nat} {D : Nat → Nat → Int} {v j k : Nat} (hjk : j ≤ k) : need N D v k ≤ need N D v j := by
  unfold need
  refine filter_len _ (fun d _ h => ?_)
  cases hj : spares N D d.u v d.w j with
  | true =>
    rw [spares_mono hjk hj] at h
    cases h
  | false => rfl
theorem need_dets (N : Nat) (D : Nat → Nat → Int) (v k : Nat) : need N D v k ≤ (XM.dets N D (v : Int) N).length := by
  unfold need
  exact List.length_filter_le _ _
/-- A vertex with steps to and from at most one other has no detours. -/
theorem ends_row {N : Nat} {D : Nat → Nat → Int} (hm : XM.Mesh N D) {x y : Nat} (h : ∀ w, w ≠ y → D x w = 4611686018427387906 ∧ D w x = 4611686018427387906) (u : Nat) : ∀ j, XM.detRow N D (x : Int) u j = []
  | 0 => rfl
  | j + 1 => by
    unfold XM.detRow
    rw [ends_row hm h u j]
    have ht := XM.two_told (XM.atE_bd hm (u : Int) (x : Int)) (XM.atE_bd hm (x : Int) (j : Int))
    rw [if_neg]
    · rfl
    · rintro ⟨h1, h2⟩
      have h3 := ht.1 h2
      rw [XM.atE_nat hm, XM.atE_nat hm] at h3
      by_cases e : u = y
      · exact h3.2 (h j (fun e2 => h1 (e.trans e2.symm))).1
      · exact h3.1 (h u e).2
theorem ends_dets {N : Nat} {D : Nat → Nat → Int} (hm : XM.Mesh N D) {x y : Nat} (h : ∀ w, w ≠ y → D x w = 4611686018427387906 ∧ D w x = 4611686018427387906) : ∀ k, XM.dets N D (x : Int) k = []
  | 0 => rfl
  | k + 1 => by
    unfold XM.dets
    rw [ends_dets hm h k, ends_row hm h k N]
    rfl
theorem ends_need {N : Nat} {D : Nat → Nat → Int} (hm : XM.Mesh N D) {x y : Nat} (h : ∀ w, w ≠ y → D x w = 4611686018427387906 ∧ D w x = 4611686018427387906) (k : Nat) : need N D x k = 0 := by
  have := need_dets N D x k
  rw [ends_dets hm h N] at this
  exact Nat.le_zero.1 this
/-! Ranks are an order. -/
theorem run_left (N : Nat) (D : Nat → Nat → Int) (k : Nat) : ∀ r, r ≤ N → (∀ r', r' < r → (run N D k r).rank (best N D k r') = r' ∧ (run N D k r).left (best N D k r') = false) ∧ ∀ v, v < N → (run N D k r).left v = true ∨ ∃ r', r' < r ∧ v = best N D k r'
  | 0, _ => ⟨fun r' h => by omega, fun v hv => .inl (decide_eq_true hv)⟩
  | r + 1, hr => by
    obtain ⟨h1, h2⟩ := run_left N D k r (by omega)
    obtain ⟨b1, b2, -⟩ := best_is N D k r (by omega)
    have el : (run N D k (r + 1)).left = fun v => if v = best N D k r then false else (run N D k r).left v := rfl
    have er : (run N D k (r + 1)).rank = fun v => if v = best N D k r then (r : Int) else (run N D k r).rank v := rfl
    rw [el, er]
    refine ⟨fun r' h => ?_, fun v hv => ?_⟩
    · by_cases e : r' = r
      · rw [e]
        exact ⟨if_pos rfl, if_pos rfl⟩
      · obtain ⟨g1, g2⟩ := h1 r' (by omega)
        have hne : best N D k r' ≠ best N D k r := fun he => by
          rw [he, b2] at g2
          cases g2
        exact ⟨(if_neg hne).trans g1, (if_neg hne).trans g2⟩
    · by_cases e : v = best N D k r
      · exact .inr ⟨r, by omega, e⟩
      · rcases h2 v hv with h | ⟨r', h, e2⟩
        · exact .inl ((if_neg e).trans h)
        · exact .inr ⟨r', by omega, e2⟩
theorem run_all (N : Nat) (D : Nat → Nat → Int) (k : Nat) : ∀ v, v < N → ∃ r, r < N ∧ v = best N D k r := fun v hv => by
  rcases (run_left N D k N (Nat.le_refl _)).2 v hv with h | h
  · have h0 := (run_cnt N D k N (Nat.le_refl _)).1
    exfalso
    have : ∀ n, v < n → 0 < cnt n (run N D k N).left := fun n => by
      induction n with
      | zero => omega
      | succ n ih =>
        intro hn
        rw [cnt_succ]
        by_cases e : v = n
        · rw [if_pos (e ▸ h)]; omega
        · have := ih (by omega); omega
    have := this N hv
    omega
  · exact h
theorem rank_iff (N : Nat) (D : Nat → Nat → Int) (k r : Nat) (hr : r < N) (v : Nat) (hv : v < N) : (run N D k N).rank v = r ↔ v = best N D k r := by
  have hl := (run_left N D k N (Nat.le_refl _)).1
  constructor
  · intro h
    obtain ⟨r', hr', e⟩ := run_all N D k v hv
    rw [e, (hl r' hr').1] at h
    obtain rfl : r' = r := by omega
    exact e
  · intro h
    rw [h]
    exact (hl r hr).1
theorem count_one {α : Type} [BEq α] [LawfulBEq α] (f : Nat → α) (a : α) (b : Nat) : ∀ n, b < n → (∀ v, v < n → (f v = a ↔ v = b)) → ((List.range n).map f).count a = 1
  | 0, h, _ => by omega
  | n + 1, hb, h => by
    rw [List.range_succ, List.map_append, List.count_append, List.map_singleton]
    by_cases e : b = n
    · have h0 : ((List.range n).map f).count a = 0 := List.count_eq_zero.2 (fun hm => by
        obtain ⟨v, hv, hf⟩ := List.mem_map.1 hm
        have hv := List.mem_range.1 hv
        have := (h v (by omega)).1 hf
        omega)
      rw [h0, (h n (by omega)).2 e.symm]
      simp
    · have h1 := count_one f a b n (by omega) (fun v hv => h v (by omega))
      have h2 : f n ≠ a := fun hf => e ((h n (by omega)).1 hf).symm
      rw [h1, List.count_singleton]
      simp [h2]
/-- Each rank is one vertex's. -/
theorem rank_one (N : Nat) (D : Nat → Nat → Int) (k r : Nat) (hr : r < N) : ((List.range N).map (run N D k N).rank).count (r : Int) = 1 :=
  count_one _ _ (best N D k r) N (best_is N D k r hr).1 (fun v hv => rank_iff N D k r hr v hv)
end OM
end Go.Proofs.Ytkcfepppnclniaa
end

section
/-
  Steps beside a vertex left out (layer 14's third law), as lists. Nothing of the program.
-/
namespace Go.Proofs.Ytkcfepppnclniaa
namespace OM
/-- A step is left out: it leads from x to another than y, or from another than y to x. -/
def drop (x y : Int) (s : Stp) : Bool := decide (s.u = x ∧ s.w ≠ y) || decide (s.w = x ∧ s.u ≠ y)
def some' (x y : Int) (xs : List Stp) : List Stp := xs.filter (fun s => !drop x y s)
theorem some_snoc {x y : Int} {xs : List Stp} {k : Nat} (hk : k < xs.length) : some' x y (xs.take (k + 1)) = some' x y (xs.take k) ++ (if drop x y (stpAt xs k) = true then [] else [stpAt xs k]) := by
  unfold some'
  rw [List.take_succ_eq_append_getElem hk, List.filter_append]
  congr 1
  have e : xs[k] = stpAt xs k := by
    unfold stpAt
    rw [List.getElem?_eq_getElem hk, Option.getD_some]
  rw [e]
  cases h : drop x y (stpAt xs k) with
  | true => simp [h]
  | false => simp [h]
theorem some_len (x y : Int) (xs : List Stp) (k : Nat) : (some' x y (xs.take k)).length ≤ k := by
  unfold some'
  refine Nat.le_trans (List.length_filter_le _ _) ?_
  rw [List.length_take]
  omega
theorem put_ends {N : Nat} {D : Nat → Nat → Int} {x y : Nat} (h : ∀ w, w ≠ y → D x w = 4611686018427387906 ∧ D w x = 4611686018427387906) (s : Stp) (hs : drop (x : Int) (y : Int) s = false) : ∀ w, w ≠ y → XM.put N D s.u s.w s.x x w = 4611686018427387906 ∧ XM.put N D s.u s.w s.x w x = 4611686018427387906 := fun w hw => by
  unfold XM.put
  by_cases hc : XM.putCode N s.u s.w s.x = 0
  · rw [if_pos hc]
    unfold drop at hs
    rw [Bool.or_eq_false_iff] at hs
    have h1 := of_decide_eq_false hs.1
    have h2 := of_decide_eq_false hs.2
    have hv : 0 ≤ s.u ∧ 0 ≤ s.w := by
      unfold XM.putCode GM.vert at hc
      by_cases hu : 0 ≤ s.u ∧ 0 ≤ s.w
      · exact hu
      · exfalso
        revert hc
        simp
        omega
    unfold NM.set2
    refine ⟨?_, ?_⟩
    · rw [if_neg (by omega)]
      exact (h w hw).1
    · rw [if_neg (by omega)]
      exact (h w hw).2
  · rw [if_neg hc]
    exact h w hw
theorem made_ends (N : Nat) (x y : Nat) (ys : List Stp) (hy : ∀ s ∈ ys, drop (x : Int) (y : Int) s = false) : ∀ k, k ≤ ys.length → ∀ w, w ≠ y → XM.made N ys k x w = 4611686018427387906 ∧ XM.made N ys k w x = 4611686018427387906
  | 0, _ => fun w _ => ⟨rfl, rfl⟩
  | k + 1, hk => by
    have ih := made_ends N x y ys hy k (by omega)
    have e : stpAt ys k = ys[k] := by
      unfold stpAt
      rw [List.getElem?_eq_getElem (by omega), Option.getD_some]
    exact put_ends ih (stpAt ys k) (by rw [e]; exact hy _ (List.getElem_mem _))
theorem some_ends (N : Nat) (x y : Nat) (xs : List Stp) (k : Nat) (j : Nat) : need N (XM.made N (some' (x : Int) (y : Int) (xs.take k)) (min (some' (x : Int) (y : Int) (xs.take k)).length 400)) x j = 0 :=
  ends_need (XM.made_mesh N _ _) (y := y) (made_ends N x y _ (fun s hs => by
    unfold some' at hs
    have := (List.mem_filter.1 hs).2
    simpa using this) _ (Nat.min_le_left _ _)) j
end OM
end Go.Proofs.Ytkcfepppnclniaa
end

section
/-
  A row of steps of the call's own (layer 14's third law): each is three cells.
-/
namespace Go.Proofs.Ytkcfepppnclniaa
open Go.RowKit
def stpCells (s : Stp) : List Value := [.int .i64 s.u, .int .i64 s.w, .int .i64 s.x]
def rowCells (xs : List Stp) : List Value := xs.flatMap stpCells
/-- A slice of the call's own under which the steps lie. -/
def OwnS (w : World) (B : Nat) (v : Value) (xs : List Stp) : Prop := w.ownsRow B 35 3 v xs.length (rowCells xs)
theorem rowCells_len : ∀ xs : List Stp, (rowCells xs).length = xs.length * 3
  | [] => rfl
  | s :: xs => by
    have := rowCells_len xs
    unfold rowCells at *
    rw [List.flatMap_cons, List.length_append, this, List.length_cons]
    simp [stpCells]
    omega
theorem rowCells_snoc (xs : List Stp) (s : Stp) : rowCells (xs ++ [s]) = rowCells xs ++ stpCells s := by
  unfold rowCells
  rw [List.flatMap_append]
  simp
theorem rowCells_get : ∀ (xs : List Stp) (i : Nat), i < xs.length → ∀ r, r < 3 → (rowCells xs)[i * 3 + r]? = (stpCells (stpAt xs i))[r]?
  | [], i, h, _, _ => by simp at h
  | s :: xs, i, h, r, hr => by
    have e : rowCells (s :: xs) = stpCells s ++ rowCells xs := by simp [rowCells]
    have hl : (stpCells s).length = 3 := rfl
    rw [e]
    cases i with
    | zero =>
      rw [List.getElem?_append_left (by omega)]
      simp [stpAt]
    | succ i =>
      rw [List.getElem?_append_right (by omega), hl, show (i + 1) * 3 + r - 3 = i * 3 + r by omega]
      rw [rowCells_get xs i (by simpa using h) r hr]
      simp [stpAt]
theorem stpCells_one (s : Stp) : ∀ v ∈ stpCells s, v.oneCell' = true := by
  intro v hv
  simp only [stpCells, List.mem_cons, List.not_mem_nil, or_false] at hv
  rcases hv with rfl | rfl | rfl <;> rfl
section
variable {w w' : World} {B : Nat} {v : Value} {xs : List Stp}
theorem OwnS.nil (w : World) (B : Nat) : OwnS w B (.slice none 0 0) [] := World.ownsRow_nil _ _ _ _
theorem OwnS.on (h : OwnS w B v xs) (hb : Below w.heap.size w w') : OwnS w' B v xs := (Below.keeps hb (fun _ => False)).row h (fun _ _ h => h)
theorem OwnS.alloc (h : OwnS w B v xs) (o : Obj) : OwnS (w.alloc o) B v xs := World.ownsRow.alloc h o
/-- It is a slice of steps. -/
theorem OwnS.stps (h : OwnS w B v xs) : Stps w v xs := by
  have h0 := h
  rcases h.2 with ⟨rfl, hn⟩ | ⟨g, cap, cur, rfl, hb, hg, hc, hm, hcs, ht⟩
  · exact ⟨none, 0, by rw [hn], ⟨by omega, by simp [maxLen]⟩, fun hp => by omega⟩
  · refine ⟨some ⟨g, 0, none⟩, cap, rfl, ⟨hc, hm⟩, fun _ => ⟨g, 0, rfl, (Array.getElem?_eq_some_iff.1 hg).1, fun i hi => ?_⟩⟩
    have hcell : ∀ j u, (rowCells xs)[j]? = some u → w.cell? ((⟨g, 0, none⟩ : Addr).add j) = some u := World.ownsRow.cells h0 (g := g) rfl
    have each : ∀ r, r < 3 → ∀ u, (stpCells (stpAt xs i))[r]? = some u → w.cell? ⟨g, 0 + i * 3 + r, none⟩ = some u := fun r hr u hu => by
      have := hcell (i * 3 + r) u ((rowCells_get xs i hi r hr).trans hu)
      rw [Addr.add_lit, Nat.zero_add] at this
      rwa [Nat.zero_add]
    exact ⟨each 0 (by omega) _ rfl, each 1 (by omega) _ rfl, each 2 (by omega) _ rfl⟩
end
theorem cell_new3s (w : World) (a b c : Value) (t : TypeId) : ∀ j u, [a, b, c][j]? = some u → (w.alloc (.cells #[a, b, c] t)).cell? ((⟨w.heap.size, 0, none⟩ : Addr).add j) = some u := by
  intro j u h
  rw [Addr.add_lit, Nat.zero_add, World.cell?_alloc_new, List.getElem?_toArray]
  exact h
def zStep : Value := .agg #[.int .i64 0, .int .i64 0, .int .i64 0]
theorem infoStep : (Try.prog.info? 35).map (fun i => (i.zero, i.size, i.bytes)) = some (some zStep, 3, 24) := by kernel_rfl
end Go.Proofs.Ytkcfepppnclniaa
end
