/-
  The walks of graph's Len, Ids and Best: ranges over all.
-/
import Derived.Test.YtleckkpfnjpbiaaGraphSeq
namespace Go.Proofs.Ytleckkpfnjpbiaa
open Go.RowKit Go.Shelf
attribute [local go_sem] Oper.semAt_some

set_option maxRecDepth 100000 in
set_option maxHeartbeats 2000000 in
theorem len_in {w : World} {p N most : Nat} {m : GM.M} (hg : GMem w p N most m) (hm : GM.Good most m) :
    CallsIn Fence.wide 5 Try.prog 68 #[.pointer (some ⟨p, 0, none⟩)] w fun e w' => e = .returned (.int .i64 (GM.cnt m : Nat)) ∧ Below w.heap.size w w' := by
  have hal := all_any p (w.alloc (.cells #[.int .i64 0] 3))
  have bK : Boxed ((w.alloc (.cells #[.int .i64 0] 3)).alloc (.cells #[.pointer (some ⟨p, 0, none⟩)] 40)) w.heap.size 3 (.int .i64 0) := (Boxed.new w 3 (.int .i64 0)).alloc _
  have bP : Boxed ((w.alloc (.cells #[.int .i64 0] 3)).alloc (.cells #[.pointer (some ⟨p, 0, none⟩)] 40)) (w.heap.size + 1) 40 (.pointer (some ⟨p, 0, none⟩)) := by
    have := Boxed.new (w.alloc (.cells #[.int .i64 0] 3)) 40 (.pointer (some ⟨p, 0, none⟩))
    rwa [World.size_alloc] at this
  have hS : ((w.alloc (.cells #[.int .i64 0] 3)).alloc (.cells #[.pointer (some ⟨p, 0, none⟩)] 40)).heap.size = w.heap.size + 1 + 1 := by simp
  have hB : Below w.heap.size w ((w.alloc (.cells #[.int .i64 0] 3)).alloc (.cells #[.pointer (some ⟨p, 0, none⟩)] 40)) := ((Below.refl _ _).alloc (Nat.le_refl _) _).alloc (by simp) _
  have hgo := all_goes 4 (by decide) (w.heap.size + 1) p N most m hm ((w.alloc (.cells #[.int .i64 0] 3)).alloc (.cells #[.pointer (some ⟨p, 0, none⟩)] 40))
  have HG : Hid (∀ W, Below w.heap.size w W → GMem W p N most m) := fun W hW => hg.on hW
  have HC : Hid (((GM.arcs m 64).length : Nat) = GM.cnt m) := GM.arcs_len m 64
  clear hg hm
  generalize GM.cnt m = C at *
  generalize GM.arcs m 64 = L at *
  refine callsIn_of_wp_marks Try.func68 rfl trivial ?_ rfl
  simp only [Try.ntmps68, List.size_toArray, List.length_cons, List.length_nil, Nat.reduceAdd, Nat.reduceSub, Array.replicate_succ, Array.replicate_zero, List.push_toArray, List.append_toArray, List.nil_append, List.cons_append]
  refine wpIn_wide.2 ?_
  go_wp2_with fail
  refine hal.mono ?_
  rintro e w9 ⟨rfl, hw9⟩
  rw [hw9]
  clear hw9 w9 hal
  simp only [World.size_alloc]
  generalize (w.alloc (.cells #[.int .i64 0] 3)).alloc (.cells #[.pointer (some ⟨p, 0, none⟩)] 40) = W0 at *
  go_wp2_with fail
  refine (wpIn_wide (n := 5)).1 (range_goes (by decide) (gf := 77) (lb := #[.pointer (some ⟨w.heap.size + 1, 0, none⟩)]) rfl (enters_of Try.func77 (by kernel_rfl) rfl) hgo (fun _ => rfl)
    (fun pre W => Boxed W w.heap.size 3 (.int .i64 (pre.length : Nat)) ∧ Boxed W (w.heap.size + 1) 40 (.pointer (some ⟨p, 0, none⟩)) ∧ Below w.heap.size w W)
    (fun _ _ _ => False)
    (fun pre A A' h hb => ⟨(hb.block _ (by omega)).trans h.1, (hb.block _ (by omega)).trans h.2.1, h.2.2.trans (hb.mono (by omega))⟩)
    (fun _ _ _ _ h _ => h)
    (fun pre A h => ⟨h.2.1.cell, HG.out A h.2.2⟩)
    ⟨bK, bP, hB⟩
    (fun x => { tmps := #[.pointer (some ⟨p, 0, none⟩), undef, .int .i64 0, .pointer (some ⟨w.heap.size, 0, none⟩), .pointer (some ⟨p, 0, none⟩), .func (.func 77) #[] #[.pointer (some ⟨w.heap.size + 1, 0, none⟩)], .int .i64 (x.1 : Nat), .agg #[.int .i64 x.2.tail, .int .i64 x.2.head, .int .i64 x.2.weight, .bool x.2.closed], undef, undef, undef], defers := [] }) ?assign ?body ?done ?stop)
  case assign =>
    intro l x W K hK
    simp only [numArc]
    gi_wp2
    simpa using hK
  case body =>
    rintro l pre ⟨i, t, h, x, c⟩ W ⟨b1, b2, hW⟩ hlt
    have c1 := b1.cell
    have f1 := b1.frozen
    have el : ((pre ++ [(i, (⟨t, h, x, c⟩ : Arc))]).length : Int) = (pre.length : Int) + 1 := by simp
    have HB1 : Hid (Boxed (W.setCell ⟨w.heap.size, 0, none⟩ (.int .i64 ((pre.length : Int) + 1))) w.heap.size 3 (.int .i64 ((pre ++ [(i, (⟨t, h, x, c⟩ : Arc))]).length : Nat))) := by
      show Boxed _ _ _ _
      rw [el]
      exact b1.set _
    have HB2 : Hid (Boxed (W.setCell ⟨w.heap.size, 0, none⟩ (.int .i64 ((pre.length : Int) + 1))) (w.heap.size + 1) 40 (.pointer (some ⟨p, 0, none⟩))) := b2.other (by omega) _
    have HBW : Hid (Below w.heap.size w (W.setCell ⟨w.heap.size, 0, none⟩ (.int .i64 ((pre.length : Int) + 1)))) := hW.setCell (p := ⟨w.heap.size, 0, none⟩) (Nat.le_refl _) _
    have HAS : Hid (Above W0.heap.size W (W.setCell ⟨w.heap.size, 0, none⟩ (.int .i64 ((pre.length : Int) + 1)))) := (keeps_set W w.heap.size 0 _).mono (fun b hb => by omega)
    clear el b1 b2 hW hgo bK bP hB
    generalize pre.length = P at *
    gi_wp2_with fail
    exact ⟨HAS.out, HB1.out, HB2.out, HBW.out⟩
  case done =>
    rintro ys W rfl ⟨b1, b2, hW⟩ hK
    rw [HC.out] at b1
    have c1 := b1.cell
    clear b1 b2 hgo bK bP hB
    go_wp2_with fail
    refine ⟨by simp, .inl ⟨_, _, rfl, run_takeDeferred hK, ?_⟩⟩
    exact ⟨_, results_tmp rfl _ _ _, rfl, hW.trans (belowK_b (w := w) (Nat.le_refl _) W _ _ _ (by omega) hK rfl rfl)⟩
  case stop =>
    rintro c pre W _ h _
    exact h.elim
/-- How many arcs there are. -/
theorem len_any {w : World} {p N most : Nat} {m : GM.M} (hg : GMem w p N most m) (hm : GM.Good most m) :
    Calls Try.prog 68 #[.pointer (some ⟨p, 0, none⟩)] w fun e w' => e = .returned (.int .i64 (GM.cnt m : Nat)) ∧ Below w.heap.size w w' := callsIn_wide.1 (len_in hg hm)
end Go.Proofs.Ytleckkpfnjpbiaa
