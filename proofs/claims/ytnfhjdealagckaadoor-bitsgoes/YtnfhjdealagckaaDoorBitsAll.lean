/-
  The program's All (a range over a function) and List.
-/
import Derived.RangeFuncNested
import Derived.RangeFuncBound
import Derived.RangeFuncCalls
import Derived.RangeFuncBox
import Derived.RangeFuncLeaves
import Derived.Shelf.Abstract
import Derived.Shelf.RegionOpen
import Derived.OwnWalkIn
import Derived.TacticsInMore
import Derived.LoopNIn
import Derived.LoopIn
import Derived.Maps.AppendAt
import Derived.Test.YtnfhjdealagckaaDoorBitsRef
namespace Go.Proofs.YtnfhjdealagckaaDoor
open Go.RowKit Go.Shelf
attribute [local go_sem] Oper.semAt_some

theorem ilst_cons (t : Nat) (ht : t < 18446744073709551616) (h0 : t ≠ 0) : BM.ilst t = fst t :: BM.ilst (BM.less t (BM.only (fst t))) ∧ BM.less t (BM.only (fst t)) < t := by
  obtain ⟨h1, h2, h3⟩ := BM.lst_cons t h0 ht
  have e : fst t = ((Lib.ctz 64 t : Nat) : Int) := by unfold fst; rw [h1]; rfl
  rw [e]
  refine ⟨?_, h3⟩
  unfold BM.ilst
  rw [h1]; rfl
theorem ilst_zero : BM.ilst 0 = [] := by unfold BM.ilst; rw [BM.lst_zero]; rfl

set_option maxRecDepth 100000 in
set_option maxHeartbeats 1000000 in
theorem all1_in (n : Nat) (hn : 1 ≤ n) (l Bn n₀ : Nat) (hn0 : 0 < n₀) (s : Nat) (hs : s < 18446744073709551616) (J Jx : List Int → World → Prop)
    (hY : ∀ pre x W, J pre W → pre.length < (BM.ilst s).length → YieldAt Fence.wide (n - 1) Tryd.prog l #[.int .i64 x] W fun e W' =>
      (e = .returned (.bool true) ∧ J (pre ++ [x]) W' ∧ Below n₀ W W') ∨ (e = .returned (.bool false) ∧ Jx (pre ++ [x]) W'))
    (W : World) (hBn : W.cell? ⟨Bn, 0, none⟩ = some (.int .u64 s)) (hR : Ready W) (h0 : J [] W) :
    CallsIn Fence.wide n Tryd.prog 25 #[.func (.yield l) #[] #[], .pointer (some ⟨Bn, 0, none⟩)] W fun e W' => (∃ v, e = .returned v) ∧
      ((∃ ys, ys = BM.ilst s ∧ J ys W') ∨ (∃ pre, pre <+: BM.ilst s ∧ Jx pre W')) := by
  have hf0 := first_any s hs W hR
  refine callsIn_of_wp Tryd.func25 rfl trivial ?_ rfl
  simp only [Tryd.ntmps25, List.size_toArray, List.length_cons, List.length_nil, Nat.reduceAdd, Nat.reduceSub, Array.replicate_succ, Array.replicate_zero, List.push_toArray, List.append_toArray, List.nil_append, List.cons_append]
  gi_wp2_with fail
  refine ⟨trivial, (callsIn_wide.2 hf0).mono ?_⟩
  rintro e w' ⟨rfl, rfl⟩
  gi_wp2_with fail
  gi_loopw [3, 4, 5] (fun p x ok wr => ∃ (pre : List Int) (t : Nat), t < 18446744073709551616 ∧ BM.ilst s = pre ++ BM.ilst t ∧ p = .int .u64 t ∧ x = .int .i64 (fst t) ∧ ok = .bool (some? t) ∧ J pre wr ∧ Ready wr)
    (fun p _ _ _ => (intOf p).toNat)
  case atStart => exact ⟨[], s, hs, rfl, rfl, rfl, rfl, h0, hR⟩
  case round =>
    obtain ⟨pre, t, ht, hx, rfl, rfl, rfl, hJs, hRr⟩ := hrel
    by_cases h0 : t = 0
    · subst h0
      have e : some? 0 = false := by decide
      rw [e]
      gi_wp2_with fail
      refine ⟨fun _ h => (by cases h), ?_⟩
      gi_wp2_with fail
      go_end0
      exact ⟨⟨_, rfl⟩, .inl ⟨pre, by rw [hx, ilst_zero, List.append_nil], hJs⟩⟩
    · have e : some? t = true := by simp [some?, h0]
      rw [e]
      obtain ⟨hc, hlt⟩ := ilst_cons t ht h0
      have hx2 : BM.ilst s = (pre ++ [fst t]) ++ BM.ilst (BM.less t (BM.only (fst t))) := by rw [hx, hc]; simp
      have hwl := BM.less_lt t (BM.only (fst t))
      obtain ⟨fn, tmps, assign, body, hy, hRd⟩ := hY pre (fst t) wr hJs (by rw [hx, hc]; simp)
      have HX : Hid (BM.ilst s = (pre ++ [fst t]) ++ BM.ilst (BM.less t (BM.only (fst t)))) := hx2
      clear hx hx2 hc
      gi_wp2_with fail
      refine hRd.mono ?_
      rintro e W3 (⟨rfl, hJ3, hk3⟩ | ⟨rfl, hJx3⟩)
      · have hR3 := hRr.below hn0 hk3
        have hw3 := without_any t (fst t) ht W3
        have hf3 := first_any _ hwl W3 hR3
        generalize BM.less t (BM.only (fst t)) = t' at *
        gi_wp2_with fail
        refine ⟨trivial, (callsIn_wide.2 hw3).mono ?_⟩
        rintro e w4 ⟨rfl, rfl⟩
        gi_wp2_with fail
        refine ⟨trivial, (callsIn_wide.2 hf3).mono ?_⟩
        rintro e w5 ⟨rfl, rfl⟩
        gi_wp2_with fail
        go_roundw
        case rel => exact ⟨pre ++ [fst t], t', hwl, HX.out, rfl, rfl, rfl, hJ3, hR3⟩
        case measure => simp [intOf]; omega
      · gi_wp2_with fail
        go_end0
        exact ⟨⟨_, rfl⟩, .inr ⟨pre ++ [fst t], ⟨_, HX.out.symm⟩, hJx3⟩⟩

set_option maxHeartbeats 1000000 in
theorem all_in (n : Nat) (s : Nat) (w : World) :
    CallsIn Fence.wide n Tryd.prog 21 #[.int .u64 s] w fun e w' => e = .returned (.func (.func 25) #[] #[.pointer (some ⟨w.heap.size, 0, none⟩)]) ∧ w' = w.alloc (.cells #[.int .u64 s] 24) := by
  refine callsIn_of_wp Tryd.func21 rfl trivial ?_ rfl
  simp only [Tryd.ntmps21, List.size_toArray, List.length_cons, List.length_nil, Nat.reduceAdd, Nat.reduceSub, Array.replicate_succ, Array.replicate_zero, List.push_toArray, List.append_toArray, List.nil_append, List.cons_append]
  gi_wp2
  go_ret
  exact ⟨rfl, rfl⟩

theorem all_stops (n : Nat) (hn : 1 ≤ n) (Bn n₀ : Nat) (hn0 : 0 < n₀) (s : Nat) (hs : s < 18446744073709551616) (w : World) (hBn : Bn < w.heap.size) (hn₀ : n₀ ≤ w.heap.size)
    (hc : w.cell? ⟨Bn, 0, none⟩ = some (.int .u64 s)) (hR : Ready w) :
    SeqStopsK Fence.wide n Tryd.prog 25 #[.pointer (some ⟨Bn, 0, none⟩)] (fun x : Int => #[Value.int .i64 x]) (Below n₀) (fun ys => ys = BM.ilst s) (fun pre => pre <+: BM.ilst s) (BM.ilst s).length w := fun l J Jx W hW _ _ hY h0 =>
  all1_in n hn l Bn n₀ hn0 s hs J Jx hY W ((hW.cell (p := ⟨Bn, 0, none⟩) hBn).trans hc) (hR.below hn0 (hW.mono hn₀)) h0
end Go.Proofs.YtnfhjdealagckaaDoor
