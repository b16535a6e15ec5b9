/-
  The walk of package walk's Sum: a range over arcs that adds in a cell, left early where an arc isn't there.
-/
import Derived.Test.YtjnihkfnnokmdaaWalkCheck
import Derived.Test.YtjnihkfnnokmdaaWalkDist
import Derived.WalkMore
namespace Go.Proofs.Ytjnihkfnnokmdaa
open Go.RowKit Go.Shelf
attribute [local go_sem] Oper.semAt_some

/-- Two numbers, just laid. -/
theorem rowAt_lit2 (k : IntKind) (w : World) (x y : Int) (t : TypeId) : RowAt k (w.alloc (.cells #[.int k x, .int k y] t)) (some ⟨w.heap.size, 0, none⟩) 2 [x, y] :=
  ⟨Nat.le_refl _, by simp [maxLen], (fun h => by cases h), fun _ => ⟨w.heap.size, 0, rfl, fun i hi => by
    match i, hi with
    | 0, _ => simp
    | 1, _ => simp⟩⟩
theorem add2_any (a b : Int) (W : World) (t : TypeId) :
    Calls Try.prog 32 #[.slice (some ⟨W.heap.size, 0, none⟩) 2 2] (W.alloc (.cells #[.int .i64 a, .int .i64 b] t)) fun e w' => e = .returned (.int .i64 (DM.two a b)) ∧ w' = W.alloc (.cells #[.int .i64 a, .int .i64 b] t) := by
  have := add_row (.slice (some ⟨W.heap.size, 0, none⟩) 2 2) [a, b] (W.alloc (.cells #[.int .i64 a, .int .i64 b] t)) ⟨_, _, rfl, rowAt_lit2 _ _ _ _ _⟩
  rwa [WK.two_norm] at this

/-- What lies in Sum's cells. -/
structure Sm (w : World) (p : Nat) (v : Value) (s : Int) (W : World) : Prop where
  sum : Boxed W w.heap.size 3 (.int .i64 s)
  bg : Boxed W (w.heap.size + 1) 25 (.pointer (some ⟨p, 0, none⟩))
  bi : Boxed W (w.heap.size + 1 + 1) 23 v
  bel : Below w.heap.size w W
theorem Sm.below {w W W' : World} {p : Nat} {s : Int} {v : Value} (h : Sm w p v s W) (hb : Below (w.heap.size + 3) W W') : Sm w p v s W' :=
  ⟨(hb.block _ (by omega)).trans h.sum, (hb.block _ (by omega)).trans h.bg, (hb.block _ (by omega)).trans h.bi, h.bel.trans (hb.mono (by omega))⟩
theorem Sm.put {w W : World} {p : Nat} {s : Int} {v : Value} (h : Sm w p v s W) (s' : Int) : Sm w p v s' (W.setCell ⟨w.heap.size, 0, none⟩ (.int .i64 s')) :=
  ⟨h.sum.set _, h.bg.other (by omega) _, h.bi.other (by omega) _, h.bel.setCell (p := ⟨w.heap.size, 0, none⟩) (Nat.le_refl _) _⟩
theorem sm_new (w : World) (p : Nat) (v : Value) : Sm w p v 0 (((w.alloc (.cells #[.int .i64 0] 3)).alloc (.cells #[.pointer (some ⟨p, 0, none⟩)] 25)).alloc (.cells #[v] 23)) := by
  have s1 : (w.alloc (.cells #[.int .i64 0] 3)).heap.size = w.heap.size + 1 := by simp
  have b1 := Boxed.new w 3 (.int .i64 0)
  have l1 : Below w.heap.size w (w.alloc (.cells #[.int .i64 0] 3)) := (Below.refl _ _).alloc (Nat.le_refl _) _
  generalize w.alloc (.cells #[.int .i64 0] 3) = w1 at *
  have s2 : (w1.alloc (.cells #[.pointer (some ⟨p, 0, none⟩)] 25)).heap.size = w.heap.size + 1 + 1 := by simp [s1]
  have b2 := Boxed.new w1 25 (.pointer (some ⟨p, 0, none⟩))
  rw [s1] at b2
  replace b1 := b1.alloc (.cells #[.pointer (some ⟨p, 0, none⟩)] 25)
  replace l1 := l1.alloc (by omega) (.cells #[.pointer (some ⟨p, 0, none⟩)] 25)
  generalize w1.alloc (.cells #[.pointer (some ⟨p, 0, none⟩)] 25) = w2 at *
  have b3 := Boxed.new w2 23 v
  rw [s2] at b3
  exact ⟨b1.alloc _, b2.alloc _, b3, l1.alloc (by omega) _⟩

set_option maxRecDepth 100000 in
set_option maxHeartbeats 2000000 in
theorem sum_in {w : World} {p N most : Nat} {m : GM.M} (hg : GMem w p N most m) (hm : GM.Good most m) {v : Value} {zs : List Int} (hrow : Row .i64 w v zs) :
    CallsIn Fence.wide 5 Try.prog 12 #[.pointer (some ⟨p, 0, none⟩), v] w fun e w' => e = .returned (.int .i64 (WK.wsum (WK.list m zs))) ∧ Below w.heap.size w w' := by
  have HG : Hid (∀ W, Below w.heap.size w W → GMem W p N most m) := fun W hW => hg.on hW
  have HR : Hid (∀ W, Below w.heap.size w W → Row .i64 W v zs) := fun W hW => hrow.below hW
  obtain ⟨ao, cap, rfl, -⟩ := hrow
  have hgo := arcs_goes 4 (by decide) (w.heap.size + 1 + 1) (w.heap.size + 1) (.slice ao zs.length cap) zs p N most m hm
  have hsa := arcs_any p ao zs.length cap (w.alloc (.cells #[.int .i64 0] 3))
  have HC1 : Hid (∀ pre, pre <+: WK.list m zs → WK.gone pre = true → WK.wsum (WK.list m zs) = 4611686018427387906) := fun pre h1 h2 => WK.wsum_gone h1 h2
  have HC2 : Hid (WK.gone (WK.list m zs) = false → WK.wsum (WK.list m zs) = WK.tsum (WK.list m zs)) := fun h => WK.wsum_all h
  clear hg hm
  generalize WK.wsum (WK.list m zs) = C at *
  refine callsIn_of_wp_marks Try.func12 rfl trivial ?_ rfl
  simp only [Try.ntmps12, List.size_toArray, List.length_cons, List.length_nil, Nat.reduceAdd, Nat.reduceSub, Array.replicate_succ, Array.replicate_zero, List.push_toArray, List.append_toArray, List.nil_append, List.cons_append]
  refine wpIn_wide.2 ?_
  go_wp2_with fail
  go_step3
  go_wp2_with fail
  go_step3
  go_wp2_with fail
  refine hsa.mono ?_
  rintro e w9 ⟨rfl, hw9⟩
  rw [hw9]
  clear hw9 w9 hsa
  simp only [World.size_alloc]
  have hB0 := sm_new w p (.slice ao zs.length cap)
  have hS : (((w.alloc (.cells #[.int .i64 0] 3)).alloc (.cells #[.pointer (some ⟨p, 0, none⟩)] 25)).alloc (.cells #[.slice ao zs.length cap] 23)).heap.size = w.heap.size + 3 := by simp
  generalize ((w.alloc (.cells #[.int .i64 0] 3)).alloc (.cells #[.pointer (some ⟨p, 0, none⟩)] 25)).alloc (.cells #[.slice ao zs.length cap] 23) = W0 at *
  go_wp2_with fail
  refine (wpIn_wide (n := 5)).1 (range_low (by decide) (gf := 55) (lb := #[.pointer (some ⟨w.heap.size + 1 + 1, 0, none⟩), .pointer (some ⟨w.heap.size + 1, 0, none⟩)]) rfl (enters_of Try.func55 (by kernel_rfl) rfl) hgo (fun _ => rfl)
    (fun pre W => Sm w p (.slice ao zs.length cap) (WK.tsum pre) W ∧ WK.gone pre = false)
    (fun c pre W => c = .exit 0 ∧ WK.gone pre = true ∧ Sm w p (.slice ao zs.length cap) 4611686018427387906 W)
    (fun pre A A' h hb => ⟨h.1.below (hb.mono (by omega)), h.2⟩)
    (fun c pre A A' h hb => ⟨h.1, h.2.1, h.2.2.below (hb.mono (by omega))⟩)
    (fun pre A h => ⟨h.1.bi.cell, HR.out A h.1.bel, h.1.bg.cell, HG.out A h.1.bel⟩)
    ⟨hB0, rfl⟩
    (fun x A => { tmps := #[.pointer (some ⟨p, 0, none⟩), .slice ao zs.length cap, undef, undef, .int .i64 0, .pointer (some ⟨w.heap.size, 0, none⟩), .pointer (some ⟨A.heap.size, 0, none⟩), .int .i64 x.2, .pointer (some ⟨p, 0, none⟩), .slice ao zs.length cap, .func (.func 55) #[] #[.pointer (some ⟨w.heap.size + 1 + 1, 0, none⟩), .pointer (some ⟨w.heap.size + 1, 0, none⟩)], .agg #[.int .i64 x.1.tail, .int .i64 x.1.head, .int .i64 x.1.weight, .bool x.1.closed], .int .i64 x.2, undef, undef, undef, undef, undef, undef, undef, undef, undef], defers := [] })
    (fun x A => A.alloc (.cells #[.int .i64 x.1.tail, .int .i64 x.1.head, .int .i64 x.1.weight, .bool x.1.closed] 47))
    (fun x W => (Below.refl _ _).alloc (Nat.le_refl _) _) ?assign ?body ?done ?stop)
  case assign =>
    rintro l ⟨⟨t, h, x, c⟩, cd⟩ W K hK
    simp only [arcCode]
    gi_wp2
    exact hK
  case body =>
    rintro l pre ⟨⟨t, h, x, c⟩, cd⟩ A W ⟨hb, hgn⟩ hlt hA hblk hsz
    have hin := arcIn_block' (hblk A.heap.size (by omega))
    obtain ⟨-, -, a2, -⟩ := hin
    simp only [Nat.zero_add] at a2
    have k0 := hb.sum.cell
    have f0 := hb.sum.frozen
    have HB : Hid (Sm w p (.slice ao zs.length cap) (WK.tsum pre) W) := hb
    have HS : Hid (w.heap.size + 3 = W0.heap.size) := hS.symm
    have HT : Hid (WK.tsum (pre ++ [((⟨t, h, x, c⟩ : Arc), cd)]) = DM.two (WK.tsum pre) x) := WK.tsum_snoc _ _
    have HGN : Hid (WK.gone (pre ++ [((⟨t, h, x, c⟩ : Arc), cd)]) = decide (cd = 3)) := by
      show _ = _
      rw [WK.gone_snoc, hgn]
      rfl
    have hWs : W0.heap.size ≤ W.heap.size := by
      have : A.heap.size ≤ W.heap.size := by rw [hsz]; simp
      omega
    clear hb hblk hgo hB0 hsz hgn hS
    generalize WK.tsum pre = s at *
    generalize A.heap.size = g at *
    by_cases h3 : cd = 3
    · have HN : Hid (WK.gone (pre ++ [((⟨t, h, x, c⟩ : Arc), cd)]) = true ∧ Sm w p (.slice ao zs.length cap) 4611686018427387906 (W.setCell ⟨w.heap.size, 0, none⟩ (.int .i64 4611686018427387906))) := ⟨by rw [HGN.out]; simpa using h3, HB.out.put _⟩
      have HA : Hid (Above W0.heap.size W (W.setCell ⟨w.heap.size, 0, none⟩ (.int .i64 4611686018427387906))) := above_set _ _ _ (by have := HS.out; omega) _
      subst h3
      gi_wp2_with fail
      exact ⟨HA.out, rfl, HN.out⟩
    · have h3' : (cd == 3) = false := by simpa using h3
      have HN : Hid (∀ W9 : World, Sm w p (.slice ao zs.length cap) s W9 → Sm w p (.slice ao zs.length cap) (WK.tsum (pre ++ [((⟨t, h, x, c⟩ : Arc), cd)])) (W9.setCell ⟨w.heap.size, 0, none⟩ (.int .i64 (DM.two s x))) ∧ WK.gone (pre ++ [((⟨t, h, x, c⟩ : Arc), cd)]) = false) := fun W9 h9 => by
        rw [HT.out, HGN.out]
        exact ⟨h9.put _, decide_eq_false h3⟩
      have HAD : Hid (∀ T, Calls Try.prog 32 #[.slice (some ⟨W.heap.size, 0, none⟩) 2 2] (W.alloc (.cells #[.int .i64 s, .int .i64 x] T)) fun e w' => e = .returned (.int .i64 (DM.two s x)) ∧ w' = W.alloc (.cells #[.int .i64 s, .int .i64 x] T)) := fun T => add2_any s x W T
      have HAL : Hid (∀ o, Sm w p (.slice ao zs.length cap) s (W.alloc o) ∧ Above W0.heap.size W (W.alloc o)) := fun o => ⟨HB.out.below ((Below.refl _ _).alloc (by have := HS.out; omega) _), (Keeps.refl _ _).alloc _⟩
      have HA : Hid (∀ W9 : World, Above W0.heap.size W9 (W9.setCell ⟨w.heap.size, 0, none⟩ (.int .i64 (DM.two s x)))) := fun W9 => above_set _ _ _ (by have := HS.out; omega) _
      gi_wp2_with fail
      refine ⟨trivial, (CallsIn.inRound l (callsIn_wide.2 (HAD.out _))).mono ?_⟩
      rintro e w9 ⟨rfl, hw9⟩
      have h9 : Sm w p (.slice ao zs.length cap) s w9 ∧ Above W0.heap.size W w9 := by rw [hw9]; exact HAL.out _
      have c9 := h9.1.sum.cell
      have f9 := h9.1.sum.frozen
      have H9 : Hid (Sm w p (.slice ao zs.length cap) s w9 ∧ Above W0.heap.size W w9) := h9
      clear hw9 h9 HAD HAL k0 f0 a2
      generalize DM.two s x = s2 at *
      gi_wp2_with fail
      exact ⟨H9.out.2.trans (HA.out w9), HN.out w9 H9.out.1⟩
  case done =>
    rintro ys W rfl ⟨hb, hgn⟩ hK
    rw [← HC2.out hgn] at hb
    have k0 := hb.sum.cell
    have HBL : Hid (Below w.heap.size w W) := hb.bel
    clear hb hgo hB0 hgn
    go_wp2_with fail
    refine ⟨by simp, .inl ⟨_, _, rfl, run_takeDeferred hK, ?_⟩⟩
    exact ⟨_, results_tmp rfl _ _ _, rfl, HBL.out.trans (belowK_b (w := w) (Nat.le_refl _) W _ _ _ (by omega) hK rfl rfl)⟩
  case stop =>
    rintro c pre W hpre ⟨rfl, hgn, hb⟩ hK
    obtain rfl := HC1.out _ hpre hgn
    have k0 := hb.sum.cell
    have HBL : Hid (Below w.heap.size w W) := hb.bel
    rw [hS] at hK
    clear hb hgo hB0 hgn
    refine wpIn_wide.2 ?_
    go_wp2_with fail
    refine ⟨by simp, .inl ⟨_, _, rfl, run_takeDeferred hK, ?_⟩⟩
    exact ⟨_, results_tmp rfl _ _ _, rfl, HBL.out.trans (belowK_b (w := w) (Nat.le_refl _) W _ _ _ (by omega) hK rfl rfl)⟩
/-- Sum: the document's answer. -/
theorem sum_any {w : World} {p N most : Nat} {m : GM.M} (hg : GMem w p N most m) (hm : GM.Good most m) {v : Value} {zs : List Int} (hrow : Row .i64 w v zs) :
    Calls Try.prog 12 #[.pointer (some ⟨p, 0, none⟩), v] w fun e w' => e = .returned (.int .i64 (WK.wsum (WK.list m zs))) ∧ Below w.heap.size w w' := callsIn_wide.1 (sum_in hg hm hrow)
end Go.Proofs.Ytjnihkfnnokmdaa
