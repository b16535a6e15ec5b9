/-
  The walk of perm's Of: a range over the ranks that are handed out.
-/
import Derived.Test.YtdfipaojahdgcaaPermSeq
import Derived.Test.YtdfipaojahdgcaaPermInv
namespace Go.Proofs.Ytdfipaojahdgcaa
open Go.RowKit Go.Shelf
attribute [local go_sem] Oper.semAt_some

theorem own_belowN {k : IntKind} {e : TypeId} {w w' : World} {base g cap n N : Nat} {zs : List Int} (hn : n = zs.length) (h : Own k e w base (.slice (some ⟨g, 0, none⟩) n cap) zs) (hb : Below N w w') (hg : g < N) : Own k e w' base (.slice (some ⟨g, 0, none⟩) n cap) zs := by
  subst hn
  refine ⟨h.1, ?_⟩
  rcases h.2 with h' | ⟨g', cap', cur, hv, hb', hgg, r⟩
  · exact .inl h'
  · cases hv
    exact .inr ⟨g, cap, cur, rfl, hb', by rw [hb.block g hg]; exact hgg, r⟩

set_option maxRecDepth 100000 in
set_option maxHeartbeats 4000000 in
theorem pof_in (n0 : Int) (a : Nat) (ha : a < 18446744073709551616) (w : World) :
    CallsIn Fence.wide 5 Try.prog 15 #[.int .i64 n0, .int .u64 a] w fun e w' => ∃ r, e = .returned r ∧ Own .i64 3 w' w.heap.size r (PM.of (PM.cnt n0) a) ∧ Below w.heap.size w w' := by
  obtain ⟨i0, hi, hz0, hz1, hz2⟩ := info_parts info3
  have hh := counted_any n0 w
  have h24 := PM.cnt_le n0
  generalize PM.cnt n0 = n at *
  refine callsIn_of_wp_marks Try.func15 rfl trivial ?_ rfl
  simp only [Try.ntmps15, List.size_toArray, List.length_cons, List.length_nil, Nat.reduceAdd, Nat.reduceSub, Array.replicate_succ, Array.replicate_zero, List.push_toArray, List.append_toArray, List.nil_append, List.cons_append]
  refine wpIn_wide.2 ?_
  go_wp2_with fail
  refine hh.mono ?_
  rintro e w9 ⟨rfl, hw9⟩
  rw [hw9]
  clear hh hw9 w9
  go_wp2_with (at_make; refine wpList_make_full _ rfl _ _ 22 rfl w.heap.size 3 i0 (.int .i64 0) 1 Try.underlying22 hi hz0 hz1 _ _ _ _ n rfl rfl (by omega) (by omega) (by rw [hz2]; omega) (by unfold maxLen; omega) (Nat.le_refl _) ?_)
  intro w0 hown0 hgrow0
  have hb0 : Below w.heap.size w w0 := (Below.refl _ _).grown hgrow0 (Nat.le_refl _) (fun k h => by cases h)
  have hO0 : Own .i64 3 w0 w.heap.size (.slice (some ⟨w.heap.size, 0, none⟩) n n) (filP n []) := by
    show World.ownsRow _ _ _ _ _ _ _
    rw [filP_len, filP, List.foldl_nil, ← made_zeros]; exact hown0
  have hs0 : w.heap.size < w0.heap.size := (World.ownsRow.lt hO0 _ rfl).2
  have HO0 : Hid (Own .i64 3 w0 w.heap.size (.slice (some ⟨w.heap.size, 0, none⟩) n n) (filP n [])) := hO0
  clear hown0 hgrow0 hO0
  go_wp2_with fail
  have hbA : Below w0.heap.size w0 (w0.alloc (.cells #[.slice (some ⟨w.heap.size, 0, none⟩) n n] 22)) := (Below.refl _ _).alloc (Nat.le_refl _) _
  have bS : Boxed (w0.alloc (.cells #[.slice (some ⟨w.heap.size, 0, none⟩) n n] 22)) w0.heap.size 22 (.slice (some ⟨w.heap.size, 0, none⟩) n n) := Boxed.new _ _ _
  have hsA : (w0.alloc (.cells #[.slice (some ⟨w.heap.size, 0, none⟩) n n] 22)).heap.size = w0.heap.size + 1 := by simp
  have hho := handedOut_any n a (w0.alloc (.cells #[.slice (some ⟨w.heap.size, 0, none⟩) n n] 22))
  generalize w0.alloc (.cells #[.slice (some ⟨w.heap.size, 0, none⟩) n n] 22) = w1 at *
  rw [hsA] at hho
  refine hho.mono ?_
  rintro e w2 ⟨rfl, hw2⟩
  have hb2 : Below w1.heap.size w1 w2 := by rw [hw2]; exact ((Below.refl _ _).alloc (Nat.le_refl _) _).alloc (by simp) _
  have bN : Boxed w2 (w0.heap.size + 1) 3 (.int .i64 n) := by
    rw [hw2, ← hsA]
    exact (Boxed.new w1 3 (.int .i64 n)).alloc _
  have bA : Boxed w2 (w0.heap.size + 1 + 1) 30 (.int .u64 a) := by
    have := Boxed.new (w1.alloc (.cells #[.int .i64 n] 3)) 30 (.int .u64 a)
    rw [World.size_alloc, hsA] at this
    rw [hw2]
    exact this
  have hs2 : w2.heap.size = w0.heap.size + 1 + 1 + 1 := by rw [hw2]; simp [hsA]
  have bS2 : Boxed w2 w0.heap.size 22 (.slice (some ⟨w.heap.size, 0, none⟩) n n) := (hb2.block _ (by omega)).trans bS
  have hO2 : Own .i64 3 w2 w.heap.size (.slice (some ⟨w.heap.size, 0, none⟩) n n) (filP n []) := own_belowN (by rw [filP_len]) (own_belowN (by rw [filP_len]) HO0.out hbA hs0) hb2 (by omega)
  have hB2 : Below w.heap.size w w2 := hb0.trans ((hbA.mono (by omega)).trans (hb2.mono (by omega)))
  clear hho hw2 bS hbA hb2 hb0 HO0 hsA
  go_wp2_with fail
  have hgo := handed_goes 4 (by decide) (w0.heap.size + 1) (w0.heap.size + 1 + 1) n a h24 ha w2
  refine (wpIn_wide (n := 5)).1 (range_goes (by decide) (gf := 31) (lb := #[.pointer (some ⟨w0.heap.size + 1, 0, none⟩), .pointer (some ⟨w0.heap.size + 1 + 1, 0, none⟩)]) rfl (enters_of Try.func31 (by kernel_rfl) rfl) hgo (fun _ => rfl)
    (fun pre W => Own .i64 3 W w.heap.size (.slice (some ⟨w.heap.size, 0, none⟩) n n) (filP n pre) ∧ Boxed W w0.heap.size 22 (.slice (some ⟨w.heap.size, 0, none⟩) n n) ∧ Boxed W (w0.heap.size + 1) 3 (.int .i64 n) ∧ Boxed W (w0.heap.size + 1 + 1) 30 (.int .u64 a) ∧ Below w.heap.size w W)
    (fun _ _ _ => False)
    (fun pre A A' h hb => ⟨own_belowN (by rw [filP_len]) h.1 hb (by omega), (hb.block _ (by omega)).trans h.2.1, (hb.block _ (by omega)).trans h.2.2.1, (hb.block _ (by omega)).trans h.2.2.2.1, h.2.2.2.2.trans (hb.mono (by omega))⟩)
    (fun _ _ _ _ h _ => h)
    (fun pre A h => ⟨h.2.2.1.cell, h.2.2.2.1.cell⟩)
    ⟨hO2, bS2, bN, bA, hB2⟩
    (fun x => { tmps := #[.int .i64 n, .int .u64 a, undef, undef, .slice none 0 0, .pointer (some ⟨w0.heap.size, 0, none⟩), .int .i64 x.1, .int .i64 x.2.1, .int .i64 n0, .int .i64 n, .int .i64 n, .slice (some ⟨w.heap.size, 0, none⟩) n n, .int .i64 n, .int .u64 a, .func (.func 31) #[] #[.pointer (some ⟨w0.heap.size + 1, 0, none⟩), .pointer (some ⟨w0.heap.size + 1 + 1, 0, none⟩)], .int .i64 x.1, .int .i64 x.2.1, undef, undef, undef, undef, undef], defers := [] }) ?assign ?body ?done ?stop)
  case assign =>
    intro l x W K hK
    simp only [encP]
    gi_wp2
    exact hK
  case body =>
    rintro l pre ⟨r, ⟨v, hv⟩⟩ W ⟨ho, b1, b2, b3, hB⟩ hlt
    have c1 := b1.cell
    obtain ⟨cv, fv⟩ := Own.cell (by rw [filP_len]) ho v hv
    have hst := Own.stored (by rw [filP_len]) ho v (r : Int)
    have HST : Hid (Own .i64 3 (W.setCell ⟨w.heap.size, v, none⟩ (.int .i64 r)) w.heap.size (.slice (some ⟨w.heap.size, 0, none⟩) n n) (filP n (pre ++ [(r, ⟨v, hv⟩)]))) := by
      show Own _ _ _ _ _ _
      rw [filP_snoc]
      exact hst.1
    have HK : Hid (Keeps (fun b => b = w.heap.size) W (W.setCell ⟨w.heap.size, v, none⟩ (.int .i64 r))) := keeps_set _ _ _ _
    have HB : Hid (Below w.heap.size w (W.setCell ⟨w.heap.size, v, none⟩ (.int .i64 r))) := hB.setCell (p := ⟨w.heap.size, v, none⟩) (Nat.le_refl _) _
    have H1 : Hid (Boxed W w0.heap.size 22 (.slice (some ⟨w.heap.size, 0, none⟩) n n)) := b1
    have H2 : Hid (Boxed W (w0.heap.size + 1) 3 (.int .i64 n)) := b2
    have H3 : Hid (Boxed W (w0.heap.size + 1 + 1) 30 (.int .u64 a)) := b3
    have hv0 : (0 : Int) ≤ (v : Int) := by omega
    have hv1 : (v : Int) < (n : Int) := by omega
    clear hst b1 b2 b3 hB ho hgo bN bA bS2 hO2 hB2
    gi_wp2_with fail
    exact ⟨HK.out.mono (fun b hb => by omega), HST.out, (HK.out.block _ H1.out.lt (by omega)).trans H1.out, (HK.out.block _ H2.out.lt (by omega)).trans H2.out, (HK.out.block _ H3.out.lt (by omega)).trans H3.out, HB.out⟩
  case done =>
    rintro xs W ⟨hxl, hxp⟩ ⟨ho, b1, b2, b3, hB⟩ hK
    have c1 := b1.cell
    have hfin : filP n xs = PM.of n a := by rw [filP_pre n xs hxl hxp, PM.of, PM.inv, PM.whose_len]
    have hlen : (filP n xs).length = n := filP_len n xs
    rw [hfin] at ho
    clear hgo bN bA bS2 hO2 hB2 b1 b2 b3 hfin hlen
    have HO : Hid (Own .i64 3 W w.heap.size (.slice (some ⟨w.heap.size, 0, none⟩) n n) (PM.of n a)) := ho
    clear ho
    go_wp2_with fail
    refine ⟨by simp, .inl ⟨_, _, rfl, run_takeDeferred hK, ?_⟩⟩
    refine ⟨_, results_tmp rfl _ _ _, _, rfl, ?_, hB.trans (belowK_b (w := w) (Nat.le_refl _) W _ _ _ (by omega) hK rfl rfl)⟩
    have ho := HO.out
    unfold Own at ho ⊢
    exact ownsRow_putObj ho _ hK rfl
  case stop =>
    rintro c pre W _ h _
    exact h.elim
/-- The program's Of: the order of a number. -/
theorem pof_any (n0 : Int) (a : Nat) (ha : a < 18446744073709551616) (w : World) :
    Calls Try.prog 15 #[.int .i64 n0, .int .u64 a] w fun e w' => ∃ r, e = .returned r ∧ Own .i64 3 w' w.heap.size r (PM.of (PM.cnt n0) a) ∧ Below w.heap.size w w' :=
  callsIn_wide.1 (pof_in n0 a ha w)
end Go.Proofs.Ytdfipaojahdgcaa
