/-
  OrdFull, OrdMore.
-/
import Derived.Test.YtkcfepppnclniaaGreatDoorMmWitSpareP
import Derived.Test.YtkcfepppnclniaaGreatDoorMmBitsPop
import Derived.Test.YtkcfepppnclniaaGreatDoorMmWitAwake
import Derived.Test.YtkcfepppnclniaaGreatDoorMmOrdRankP
import Derived.Test.YtkcfepppnclniaaGreatDoorMmOrdMath
section
/-
  What layer 14's laws ask of the program is so.
-/
namespace Go.Proofs.YtkcfepppnclniaaGreatDoor
open Go.RowKit
theorem awake14_any : AwakeIs := awake14_is need_ok need_no (diff_ok need_ok)
theorem rank_ok : RankIs := by
  intro w p N m hT hg hgm hN1 hN k
  have h := rank_in (diff_ok need_ok) hT hg hgm hN1 hN _ rfl (XM.ofD_mesh hgm (s := N) (t := 0) (.inr ⟨rfl, rfl⟩)) k
  exact callsIn_wide.1 h
end Go.Proofs.YtkcfepppnclniaaGreatDoor
end

section
/-
  What follows of needs and of the order by cost (layer 14). Nothing of the program.
-/
namespace Go.Proofs.YtkcfepppnclniaaGreatDoor
namespace OM
open WM
theorem has_prefix {L M : List (Nat × Int)} (h : L <+: M) {x : Nat} (hx : has L x = true) : has M x = true := by
  obtain ⟨t, rfl⟩ := h
  unfold has at *
  rw [List.any_append, hx]
  rfl
/-- A greater search spares what a smaller one spares. -/
theorem spares_mono {N : Nat} {D : Nat → Nat → Int} {u v x j k : Nat} (hjk : j ≤ k) (h : spares N D u v x j = true) : spares N D u v x k = true := by
  unfold spares at *
  exact has_prefix ((got_spec N D u _ _ j).pre (got_spec N D u _ _ k) hjk (Int.le_refl _)) h
theorem filter_len {α : Type} {p q : α → Bool} : ∀ l : List α, (∀ d ∈ l, p d = true → q d = true) → (l.filter p).length ≤ (l.filter q).length
  | [], _ => Nat.le_refl _
  | d :: l, h => by
    have ih := filter_len l (fun x hx => h x (by simp [hx]))
    cases hp : p d with
    | true =>
      have hq := h d (by simp) hp
      rw [List.filter_cons_of_pos hp, List.filter_cons_of_pos hq, List.length_cons, List.length_cons]
      omega
    | false =>
      rw [List.filter_cons_of_neg (by simp [hp])]
      refine Nat.le_trans ih ?_
      rw [List.filter_cons]
      split
      · rw [List.length_cons]; omega
      · exact Nat.le_refl _
theorem need_mono {N : Nat} {D : Nat → Nat → Int} {v j k : Nat} (hjk : j ≤ k) : need N D v k ≤ need N D v j := by
  unfold need
  refine filter_len _ (fun d _ h => ?_)
  cases hj : spares N D d.u v d.w j with
  | true =>
    rw [spares_mono hjk hj] at h
    cases h
  | false => rfl
theorem need_dets (N : Nat) (D : Nat → Nat → Int) (v k : Nat) : need N D v k ≤ (XM.dets N D (v : Int) N).length := by
  unfold need
  exact List.length_filter_le _ _
/-- A vertex with steps to and from at most one other has no detours. -/
theorem ends_row {N : Nat} {D : Nat → Nat → Int} (hm : XM.Mesh N D) {x y : Nat} (h : ∀ w, w ≠ y → D x w = 4611686018427387906 ∧ D w x = 4611686018427387906) (u : Nat) : ∀ j, XM.detRow N D (x : Int) u j = []
  | 0 => rfl
  | j + 1 => by
    unfold XM.detRow
    rw [ends_row hm h u j]
    have ht := XM.two_told (XM.atE_bd hm (u : Int) (x : Int)) (XM.atE_bd hm (x : Int) (j : Int))
    rw [if_neg]
    · rfl
    · rintro ⟨h1, h2⟩
      have h3 := ht.1 h2
      rw [XM.atE_nat hm, XM.atE_nat hm] at h3
      by_cases e : u = y
      · exact h3.2 (h j (fun e2 => h1 (e.trans e2.symm))).1
      · exact h3.1 (h u e).2
theorem ends_dets {N : Nat} {D : Nat → Nat → Int} (hm : XM.Mesh N D) {x y : Nat} (h : ∀ w, w ≠ y → D x w = 4611686018427387906 ∧ D w x = 4611686018427387906) : ∀ k, XM.dets N D (x : Int) k = []
  | 0 => rfl
  | k + 1 => by
    unfold XM.dets
    rw [ends_dets hm h k, ends_row hm h k N]
    rfl
theorem ends_need {N : Nat} {D : Nat → Nat → Int} (hm : XM.Mesh N D) {x y : Nat} (h : ∀ w, w ≠ y → D x w = 4611686018427387906 ∧ D w x = 4611686018427387906) (k : Nat) : need N D x k = 0 := by
  have := need_dets N D x k
  rw [ends_dets hm h N] at this
  exact Nat.le_zero.1 this
/-! Ranks are an order. -/
theorem run_left (N : Nat) (D : Nat → Nat → Int) (k : Nat) : ∀ r, r ≤ N → (∀ r', r' < r → (run N D k r).rank (best N D k r') = r' ∧ (run N D k r).left (best N D k r') = false) ∧ ∀ v, v < N → (run N D k r).left v = true ∨ ∃ r', r' < r ∧ v = best N D k r'
  | 0, _ => ⟨fun r' h => by omega, fun v hv => .inl (decide_eq_true hv)⟩
  | r + 1, hr => by
    obtain ⟨h1, h2⟩ := run_left N D k r (by omega)
    obtain ⟨b1, b2, -⟩ := best_is N D k r (by omega)
    have el : (run N D k (r + 1)).left = fun v => if v = best N D k r then false else (run N D k r).left v := rfl
    have er : (run N D k (r + 1)).rank = fun v => if v = best N D k r then (r : Int) else (run N D k r).rank v := rfl
    rw [el, er]
    refine ⟨fun r' h => ?_, fun v hv => ?_⟩
    · by_cases e : r' = r
      · rw [e]
        exact ⟨if_pos rfl, if_pos rfl⟩
      · obtain ⟨g1, g2⟩ := h1 r' (by omega)
        have hne : best N D k r' ≠ best N D k r := fun he => by
          rw [he, b2] at g2
          cases g2
        exact ⟨(if_neg hne).trans g1, (if_neg hne).trans g2⟩
    · by_cases e : v = best N D k r
      · exact .inr ⟨r, by omega, e⟩
      · rcases h2 v hv with h | ⟨r', h, e2⟩
        · exact .inl ((if_neg e).trans h)
        · exact .inr ⟨r', by omega, e2⟩
theorem run_all (N : Nat) (D : Nat → Nat → Int) (k : Nat) : ∀ v, v < N → ∃ r, r < N ∧ v = best N D k r := fun v hv => by
  rcases (run_left N D k N (Nat.le_refl _)).2 v hv with h | h
  · have h0 := (run_cnt N D k N (Nat.le_refl _)).1
    exfalso
    have : ∀ n, v < n → 0 < cnt n (run N D k N).left := fun n => by
      induction n with
      | zero => omega
      | succ n ih =>
        intro hn
        rw [cnt_succ]
        by_cases e : v = n
        · rw [if_pos (e ▸ h)]; omega
        · have := ih (by omega); omega
    have := this N hv
    omega
  · exact h
theorem rank_iff (N : Nat) (D : Nat → Nat → Int) (k r : Nat) (hr : r < N) (v : Nat) (hv : v < N) : (run N D k N).rank v = r ↔ v = best N D k r := by
  have hl := (run_left N D k N (Nat.le_refl _)).1
  constructor
  · intro h
    obtain ⟨r', hr', e⟩ := run_all N D k v hv
    rw [e, (hl r' hr').1] at h
    obtain rfl : r' = r := by omega
    exact e
  · intro h
    rw [h]
    exact (hl r hr).1
theorem count_one {α : Type} [BEq α] [LawfulBEq α] (f : Nat → α) (a : α) (b : Nat) : ∀ n, b < n → (∀ v, v < n → (f v = a ↔ v = b)) → ((List.range n).map f).count a = 1
  | 0, h, _ => by omega
  | n + 1, hb, h => by
    rw [List.range_succ, List.map_append, List.count_append, List.map_singleton]
    by_cases e : b = n
    · have h0 : ((List.range n).map f).count a = 0 := List.count_eq_zero.2 (fun hm => by
        obtain ⟨v, hv, hf⟩ := List.mem_map.1 hm
        have hv := List.mem_range.1 hv
        have := (h v (by omega)).1 hf
        omega)
      rw [h0, (h n (by omega)).2 e.symm]
      simp
    · have h1 := count_one f a b n (by omega) (fun v hv => h v (by omega))
      have h2 : f n ≠ a := fun hf => e ((h n (by omega)).1 hf).symm
      rw [h1, List.count_singleton]
      simp [h2]
/-- Each rank is one vertex's. -/
theorem rank_one (N : Nat) (D : Nat → Nat → Int) (k r : Nat) (hr : r < N) : ((List.range N).map (run N D k N).rank).count (r : Int) = 1 :=
  count_one _ _ (best N D k r) N (best_is N D k r hr).1 (fun v hv => rank_iff N D k r hr v hv)
end OM
end Go.Proofs.YtkcfepppnclniaaGreatDoor
end
