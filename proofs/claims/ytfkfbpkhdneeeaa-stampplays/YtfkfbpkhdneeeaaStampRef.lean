/-
  The walks of the reference's row: New, There, Set, Clear, Len.
-/
import Derived.Test.YtfkfbpkhdneeeaaStampObj
namespace Go.Proofs.Ytfkfbpkhdneeeaa
namespace RR
open Go.RowKit

/-- At each place, whether anything is there, and what. -/
structure Rep (n : Nat) (m : Nat → Option Int) (vs : List Int) (is : List Bool) : Prop where
  is : ∀ t, t < n → bat is t = (m t).isSome
  vs : ∀ t, t < n → ∀ v, m t = some v → pat vs t = v
  out : ∀ t, n ≤ t → m t = none
theorem bat_set (l : List Bool) (i : Nat) (v : Bool) (k : Nat) (h : i < l.length) : bat (l.set i v) k = if k = i then v else bat l k := by
  unfold bat
  rw [List.getElem?_set]
  by_cases e : i = k
  · subst e; simp [h]
  · rw [if_neg e, if_neg (fun h => e h.symm)]
theorem pat_set (l : List Int) (i : Nat) (v : Int) (k : Nat) (h : i < l.length) : pat (l.set i v) k = if k = i then v else pat l k := by
  unfold pat
  rw [List.getElem?_set]
  by_cases e : i = k
  · subst e; simp [h]
  · rw [if_neg e, if_neg (fun h => e h.symm)]
theorem Rep.put {n : Nat} {m : Nat → Option Int} {vs : List Int} {is : List Bool} (h : Rep n m vs is) (hv : vs.length = n) (hi : is.length = n) {k : Nat} (hk : k < n) (v : Int) : Rep n (SM.upd m k (some v)) (vs.set k v) (is.set k true) where
  is := fun t ht => by
    rw [bat_set _ _ _ _ (by omega)]
    unfold SM.upd
    by_cases e : t = k
    · simp [e]
    · rw [if_neg e, if_neg e]; exact h.is t ht
  vs := fun t ht u hu => by
    rw [pat_set _ _ _ _ (by omega)]
    unfold SM.upd at hu
    by_cases e : t = k
    · rw [if_pos e] at hu ⊢; exact Option.some.inj hu
    · rw [if_neg e] at hu ⊢; exact h.vs t ht u hu
  out := fun t ht => by
    unfold SM.upd
    rw [if_neg (by omega)]
    exact h.out t ht
theorem rep_none (n : Nat) (vs : List Int) : Rep n (fun _ => none) vs (List.replicate n false) where
  is := fun t ht => by simp [bat, ht]
  vs := fun t _ v hv => by cases hv
  out := fun _ _ => rfl

section
variable {w : World} {B q bv bi n : Nat} {vs : List Int} {is : List Bool} {m : Nat → Option Int}
set_option maxHeartbeats 400000 in
theorem there_any (h : RMem w B q bv bi n vs is) (t : Int) :
    Calls Try.prog 10 #[.pointer (some ⟨q, 0, none⟩), .int .i64 t] w fun e w' => e = .returned (.bool (decide (0 ≤ t ∧ t < (n : Int)))) ∧ w' = w := by
  have c0 := h.c0
  clear h
  by_cases h0 : 0 ≤ t
  · go_enter Try.func10, Try.ntmps10
    go_wp2_with fail
    go_ret
    exact ⟨ret_bool (by simp [h0]), rfl⟩
  · go_enter Try.func10, Try.ntmps10
    go_wp2_with fail
    go_ret
    exact ⟨ret_bool (by simp; omega), rfl⟩
set_option maxHeartbeats 1000000 in
theorem set_in (h : RMem w B q bv bi n vs is) (hr : Rep n m vs is) (_hn : n ≤ 64) (k : Nat) (hk : k < n) (v : Int) :
    Calls Try.prog 11 #[.pointer (some ⟨q, 0, none⟩), .int .i64 k, .int .i64 v] w fun e w' => e = .returned (.tuple #[]) ∧ ∃ vs' is', RMem w' B q bv bi n vs' is' ∧ Rep n (SM.upd m k (some v)) vs' is' ∧ Keeps (rfoot q bv bi) w w' := by
  have c0 := h.c0
  obtain ⟨v1, f1⟩ := h.vCell hk
  have h2 := h.setV k v
  have c1 := h2.c1
  obtain ⟨i1, g1⟩ := h2.iCell hk
  have H3 : Hid (RMem ((w.setCell ⟨bv, k, none⟩ (.int .i64 v)).setCell ⟨bi, k, none⟩ (.bool true)) B q bv bi n (vs.set k v) (is.set k true)) := h2.setI k true
  have HR : Hid (Rep n (SM.upd m k (some v)) (vs.set k v) (is.set k true)) := hr.put h.vlen h.ilen hk v
  have kn : (k : Int) < (n : Int) := by omega
  have n1 := h.n1
  have n2 := h.n2
  have n3 := h.n3
  clear h h2 hr
  go_enter Try.func11, Try.ntmps11
  go_wp2_with fail
  go_end0
  exact ⟨rfl, _, _, H3.out, HR.out, ((Keeps.refl _ _).setCell (p := ⟨bv, k, none⟩) (.inl (.inr (.inl rfl))) _).setCell (p := ⟨bi, k, none⟩) (.inl (.inr (.inr rfl))) _⟩
set_option maxHeartbeats 1000000 in
theorem clear_any (h : RMem w B q bv bi n vs is) (hn : n ≤ 64) :
    Calls Try.prog 13 #[.pointer (some ⟨q, 0, none⟩)] w fun e w' => e = .returned (.tuple #[]) ∧ ∃ bi' is', RMem w' B q bv bi' n vs is' ∧ Rep n (fun _ => none) vs is' ∧ Keeps (rfoot q bv bi) w w' ∧ w.heap.size ≤ bi' := by
  have hmb := run_make_row' (P := Try.prog) 39 4 (.bool false) 1 Try.underlying39 infoB rfl .i64 .i64 n (by omega) (by omega)
  have hb1 : Below w.heap.size w (w.alloc (.cells (madeCells #[.bool false] n) 4)) := (Below.refl _ _).alloc (Nat.le_refl _) _
  have lq := h.lt q (.inl rfl)
  have lv := h.lt bv (.inr (.inl rfl))
  have h1 := h.kept (Below.keeps hb1 (fun _ => False)) (fun _ _ h => h)
  have h2 := h1.setRow (made_bools w B n (by omega) hn) (by omega) (by omega)
  have H2 : Hid (RMem ((w.alloc (.cells (madeCells #[.bool false] n) 4)).setCell ⟨q, 1, none⟩ (.slice (some ⟨w.heap.size, 0, none⟩) n n)) B q bv w.heap.size n vs (List.replicate n false)) := h2
  have HK : Hid (Keeps (rfoot q bv bi) w (w.alloc (.cells (madeCells #[.bool false] n) 4))) := Below.keeps hb1 _
  have c0 := h.c0
  have c1 := h1.c1
  have fz := h1.fz
  clear h h1 h2 hb1
  go_enter Try.func13, Try.ntmps13
  go_wp2_with fail
  go_end0
  rw [← World.setCell_alloc_past (w := w) (.cells (madeCells #[.bool false] n) 4) q 1 _ lq.2]
  exact ⟨rfl, _, _, H2.out, rep_none n vs, HK.out.setCell (p := ⟨q, 1, none⟩) (.inl (.inl rfl)) _, Nat.le_refl _⟩
set_option maxHeartbeats 1000000 in
theorem len_any (h : RMem w B q bv bi n vs is) (hr : Rep n m vs is) (hn : n ≤ 64) :
    Calls Try.prog 26 #[.pointer (some ⟨q, 0, none⟩)] w fun e w' => e = .returned (.int .i64 (SM.cnt n m : Nat)) ∧ w' = w := by
  have c1 := h.c1
  have HMm : Hid (∀ k, k < n → w.cell? ⟨bi, k, none⟩ = some (.bool (m k).isSome)) := fun k hk => by
    rw [(h.iCell hk).1, hr.is k hk]
  clear h hr
  go_enter Try.func26, Try.ntmps26
  go_wp2_with fail
  go_loop [3, 4] (fun c i => ∃ k : Nat, k ≤ n ∧ i = .int .i64 k ∧ c = .int .i64 (SM.cnt k m : Nat)) (fun _ i => n - (intOf i).toNat)
  case atStart => exact ⟨0, Nat.zero_le _, rfl, by simp [SM.cnt]⟩
  case round =>
    obtain ⟨k, hk, rfl, rfl⟩ := hrel
    by_cases hlt : k < n
    · have ck := HMm.out k hlt
      have HS : Hid (SM.cnt (k + 1) m = SM.cnt k m + if (m k).isSome then 1 else 0) := SM.cnt_succ k m
      have hcl := SM.cnt_le k m
      have kn : (k : Int) < (n : Int) := by omega
      generalize (m k).isSome = b at *
      cases b with
      | true =>
        go_wp2_with fail
        go_round
        case rel => exact ⟨k + 1, by omega, by simp, by rw [HS.out]; simp⟩
        case measure => simp [intOf]; omega
      | false =>
        go_wp2_with fail
        go_round
        case rel => exact ⟨k + 1, by omega, by simp, by rw [HS.out]; simp⟩
        case measure => simp [intOf]; omega
    · obtain rfl : k = n := by omega
      go_wp2_with fail
      go_ret
      exact ⟨rfl, rfl⟩
end
theorem rmem_new {w : World} {B g c n : Nat} {vs : List Int} {is : List Bool} {sty : TypeId} (h1 : w.ownsRow B 3 1 (.slice (some ⟨g, 0, none⟩) n n) n (vs.map (Value.int .i64))) (h2 : w.ownsRow B 4 1 (.slice (some ⟨c, 0, none⟩) n n) n (is.map Value.bool)) (hgc : g ≠ c) (hB : B ≤ w.heap.size) {q : Nat} (hq : q = w.heap.size) :
    RMem (w.alloc (.cells #[.slice (some ⟨g, 0, none⟩) n n, .slice (some ⟨c, 0, none⟩) n n] sty)).drew B q g c n vs is := by
  subst hq
  have l1 := (World.ownsRow.lt h1 g rfl).2
  have l2 := (World.ownsRow.lt h2 c rfl).2
  exact ⟨by simp, by simp, by simp, h1.alloc _, h2.alloc _, hB, by omega, by omega, hgc⟩
set_option maxHeartbeats 2000000 in
theorem new_any (n : Nat) (hn : n ≤ 64) (w : World) :
    Calls Try.prog 8 #[.int .i64 n] w fun e w' => ∃ q bv bi vs is, e = .returned (.pointer (some ⟨q, 0, none⟩)) ∧ RMem w' w.heap.size q bv bi n vs is ∧ Rep n (fun _ => none) vs is ∧ Below w.heap.size w w' := by
  have hmk := run_make_row' (P := Try.prog) 43 3 (.int .i64 0) 8 Try.underlying43 infoI rfl .i64 .i64 n (by omega) (by omega)
  have hmb := run_make_row' (P := Try.prog) 39 4 (.bool false) 1 Try.underlying39 infoB rfl .i64 .i64 n (by omega) (by omega)
  go_enter Try.func8, Try.ntmps8
  go_wp2_with fail
  go_region
  all_goals (go_wp2_with fail; go_ret)
  · have q2 := made_bools (w.alloc (.cells (madeCells #[.int .i64 0] n) 3)) w.heap.size n (by simp) hn
    rw [World.size_alloc] at q2
    exact ⟨_, w.heap.size, w.heap.size + 1, _, _, rfl, rmem_new ((made_ints w w.heap.size n (Nat.le_refl _) hn).alloc _) q2 (by omega) (by simp; omega) (by simp), rep_none n _, ((((Below.refl _ w).alloc (Nat.le_refl _) _).alloc (by simp) _).alloc (by simp; omega) _).drew⟩
  · have q1 := made_ints (w.alloc (.cells (madeCells #[.bool false] n) 4)) w.heap.size n (by simp) hn
    rw [World.size_alloc] at q1
    exact ⟨_, w.heap.size + 1, w.heap.size, _, _, rfl, rmem_new q1 ((made_bools w w.heap.size n (Nat.le_refl _) hn).alloc _) (by omega) (by simp; omega) (by simp), rep_none n _, ((((Below.refl _ w).alloc (Nat.le_refl _) _).alloc (by simp) _).alloc (by simp; omega) _).drew⟩
end RR
end Go.Proofs.Ytfkfbpkhdneeeaa
