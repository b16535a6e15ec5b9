/-
  The program's List.
-/
import Derived.Test.YtnfhjdealagckaaDoorBitsAll
namespace Go.Proofs.YtnfhjdealagckaaDoor
open Go.RowKit Go.Shelf
attribute [local go_sem] Oper.semAt_some

theorem ilst_len (s : Nat) : (BM.ilst s).length = (BM.lst s).length := by unfold BM.ilst; rw [List.length_map]
theorem ilst_le (s : Nat) : (BM.ilst s).length ≤ 64 := by rw [ilst_len]; exact BM.lst_len s

set_option maxRecDepth 100000 in
set_option maxHeartbeats 2000000 in
theorem list_in (n : Nat) (hn : 3 ≤ n) (s : Nat) (hs : s < 18446744073709551616) (w : World) (hR : Ready w) :
    CallsIn Fence.wide n Tryd.prog 15 #[.int .u64 s] w fun e w' => ∃ r, e = .returned r ∧ w'.ownsRow w.heap.size 3 1 r (BM.ilst s).length ((BM.ilst s).map (Value.int .i64)) ∧ Below w.heap.size w w' := by
  have h1 : 1 ≤ n := by omega
  have hle := ilst_le s
  have hpos := hR.1
  obtain ⟨i0, hi, hz0, hz1, hz2⟩ := info_parts info3
  have hlen := len_any s hs w
  rw [← ilst_len] at hlen
  refine callsIn_of_wp_marks Tryd.func15 rfl trivial ?_ rfl
  simp only [Tryd.ntmps15, List.size_toArray, List.length_cons, List.length_nil, Nat.reduceAdd, Nat.reduceSub, Array.replicate_succ, Array.replicate_zero, List.push_toArray, List.append_toArray, List.nil_append, List.cons_append]
  gi_wp2_with fail
  refine ⟨trivial, (callsIn_wide.2 hlen).mono ?_⟩
  rintro e w' ⟨rfl, rfl⟩
  gi_wp2_with (gi_at_make; refine wpListIn_make_own _ rfl _ _ 25 rfl w'.heap.size 3 i0 (.int .i64 0) 1 Tryd.underlying25 hi hz0 hz1 _ _ _ (BM.ilst s).length rfl rfl rfl (by rw [hz2]; omega) (by unfold maxLen; omega) (Nat.le_refl _) ?_)
  intro w1 hrow1 hgrow1
  gi_wp2_with fail
  refine ⟨trivial, (all_in _ s _).mono ?_⟩
  rintro e w2 ⟨rfl, rfl⟩
  gi_wp2_with fail
  obtain ⟨L, hL⟩ : ∃ L, L = (BM.ilst s).length := ⟨_, rfl⟩
  rw [← hL] at hrow1 hle ⊢
  have hsz1 : w'.heap.size ≤ w1.heap.size := hgrow1.size
  have hB1 : Below w'.heap.size w' w1 := (Below.refl _ _).grown hgrow1 (Nat.le_refl _) (fun k h => by cases h)
  have bO := Boxed.new w1 25 (.slice (some ⟨w'.heap.size, 0, none⟩) 0 L)
  have bN := Boxed.new (w1.alloc (.cells #[.slice (some ⟨w'.heap.size, 0, none⟩) 0 L] 25)) 24 (.int .u64 s)
  rw [World.size_alloc] at bN
  have hB0 : Below w'.heap.size w' ((w1.alloc (.cells #[.slice (some ⟨w'.heap.size, 0, none⟩) 0 L] 25)).alloc (.cells #[.int .u64 s] 24)) := (hB1.alloc hsz1 _).alloc (by simp; omega) _
  refine wpIn_rangeFunc_ownG rfl h1 (gf := 25) (lb := #[.pointer (some ⟨w1.heap.size + 1, 0, none⟩)]) rfl trivial (enters_of Tryd.func25 (by kernel_rfl) rfl)
    (all_stops (n - 1) (by omega) (w1.heap.size + 1) w'.heap.size hpos s hs _ (by simp) (by simp; omega) bN.cell (hR.below hpos hB0)) belowK_t (belowK_b (by simp; omega)) (Below.refl _ _) (fun _ => rfl)
    (fun pre W => (∃ v, Boxed W w1.heap.size 25 v ∧ W.ownsRow w'.heap.size 3 1 v pre.length (pre.map (Value.int .i64)) ∧ True) ∧ Below w'.heap.size w' W)
    (fun _ _ _ => False)
    (OwnFrom.and (Go.Own.from (holdsRow_own w'.heap.size w1.heap.size 25 3 1 (fun pre : List Int => pre.length) (fun pre : List Int => pre.map (Value.int .i64)) (fun _ _ => True)) _) (ownFrom_below (Nat.le_refl _) (by simp; omega)))
    (fun _ _ _ _ _ hs _ _ => hs)
    ⟨⟨_, bO.alloc _, (hrow1.alloc _).alloc _, trivial⟩, hB0⟩
    (fun x => { tmps := #[.int .u64 s, undef, .slice none 0 0, .pointer (some ⟨w1.heap.size, 0, none⟩), .int .i64 x, .int .u64 s, .int .i64 L, .slice (some ⟨w'.heap.size, 0, none⟩) 0 L, .int .u64 s, .func (.func 25) #[] #[.pointer (some ⟨w1.heap.size + 1, 0, none⟩)], .int .i64 x, undef, undef, undef, undef, undef], defers := [] }) ?assign ?body ?done ?stop
  case assign =>
    intro l x W K hK
    subst hL
    gi_wp2
    exact hK
  case body =>
    rintro l pre x W ⟨⟨v, hv, hrow, _⟩, hB⟩ hlt
    have hc := hv.cell
    rw [← hL] at hlt
    gi_wp2_with (gi_at_builtin; refine wpListIn_append_own _ rfl _ _ 25 rfl w'.heap.size 3 i0 (.int .i64 0) 1 8 Tryd.underlying25 hi hz0 hz1 hz2 rfl (by decide) _ _ _ rfl (hrow.alloc _) ⟨W.heap.size, 0, none⟩ 1 1 [.int .i64 x] rfl rfl (cell_one_new _ _ _) (by simp [Value.oneCell']) (by unfold maxLen; omega) (by omega) (by have := hB.size; simp; omega) ?_; intro v' w2 hown' hgrow _; obtain ⟨g', cap', rfl⟩ := ownsRow_succ hown'; obtain ⟨hv1, hv2, hr2, hk2, hb2⟩ := hv.appended (by decide) hrow hB.size hsz1 hown' hgrow; have hc1 := hv1.cell; have hf1 := hv1.frozen)
    exact ⟨hk2.from _, hb2, ⟨_, hv2, by simpa using hr2, trivial⟩, hB.trans hb2⟩
  case done =>
    rintro D ys W hD rfl ⟨⟨v, hv, hrow, _⟩, hB⟩ hK
    have hc := hv.cell
    gi_wp2
    refine ⟨by simp, .inl ⟨_, _, rfl, run_takeDeferred hK, ?_⟩⟩
    exact ⟨_, results_tmp rfl _ _ _, v, rfl, ownsRow_putObj hrow _ hK rfl, hB.trans (belowK_b (w := w') (Nat.le_refl _) W D _ _ (by simp at hD; omega) hK rfl rfl)⟩
  case stop =>
    rintro D c pre W _ _ h _
    exact h.elim

/-- The program's List: what is in the set, rising, in new memory. -/
theorem list_any (s : Nat) (hs : s < 18446744073709551616) (w : World) (hR : Ready w) :
    Calls Tryd.prog 15 #[.int .u64 s] w fun e w' => ∃ r, e = .returned r ∧ Own .i64 3 w' w.heap.size r (BM.ilst s) ∧ Below w.heap.size w w' :=
  (callsIn_wide (n := 3)).1 (list_in 3 (by omega) s hs w hR)
end Go.Proofs.YtnfhjdealagckaaDoor
