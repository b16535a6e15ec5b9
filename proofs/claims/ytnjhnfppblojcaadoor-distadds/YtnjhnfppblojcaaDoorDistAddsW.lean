/-
  The walk of the law DistAdds.
-/
import Derived.Test.YtnjhnfppblojcaaDoorDistAwake
import Derived.Deep.QuietTactic
import Derived.BigQuiet
import Derived.OpenShut
namespace Go.Proofs.YtnjhnfppblojcaaDoor
open Go.RowKit

/-- What the walk is told of a slice of integers that came in. -/
def IsRow (w : World) (a : Option Addr) (len cap : Nat) (zs : List Int) : Prop :=
  (a = none ∧ len = 0 ∧ cap = 0 ∧ zs = []) ∨
  ∃ x, a = some x ∧ len ≤ cap ∧ cap ≤ maxLen ∧ zs.length = cap ∧ (∀ i, i < zs.length → w.cell? (x.add i) = some (.int .i64 (zs.getD i 0))) ∧ ∀ n ∈ zs, (Lit.int .i64 n).wf = true

theorem cell_lt {w : World} {p : Addr} {v : Value} (h : w.cell? p = some v) : p.block < w.heap.size := by
  rcases Nat.lt_or_ge p.block w.heap.size with h' | h'
  · exact h'
  · simp [World.cell?, Array.getElem?_eq_none h'] at h

theorem told_dec (a : Int) (w : World) :
    Calls Tryd.prog 11 #[.int .i64 a] w fun e w' => e = .returned (.bool (decide (DM.norm a ≤ 4611686018427387904))) ∧ w' = w := told_any a w

set_option maxHeartbeats 400000 in
theorem adds_body (b o cap : Nat) (zs : List Int) (w : World) (hw : Ready w) (hb : b < w.heap.size) (hm : zs.length ≤ maxLen) (hc : ∀ i, i < zs.length → w.cell? ⟨b, o + i, none⟩ = some (.int .i64 (zs[i]?.getD 0))) :
    Calls Tryd.prog 3 #[.slice (some ⟨b, o, none⟩) zs.length cap] w fun e w' => e = .returned (.bool true) ∧ Below w.heap.size w w' := by
  have hm2 := hm
  unfold maxLen at hm2
  by_cases h200 : 200 < zs.length
  · go_enter Tryd.func3, Tryd.ntmps3
    go_wp2_with fail
    refine (awake_any _ hw).mono ?_
    rintro e w1 ⟨rfl, hb1⟩
    go_wp2_with fail
    go_ret
    exact ⟨rfl, hb1⟩
  have hcb : ∀ wr, Below w.heap.size w wr → ∀ i, i < zs.length → wr.cell? ⟨b, o + i, none⟩ = some (.int .i64 (zs[i]?.getD 0)) := fun wr hbr i hi => by
    rw [hbr.cell (by dsimp only; exact hb)]; exact hc i hi
  have HC : Hid _ := hcb
  clear hcb
  go_enter Tryd.func3, Tryd.ntmps3
  go_wp2_with fail
  refine (awake_any _ hw).mono ?_
  rintro e w1 ⟨rfl, hb1⟩
  clear hc
  go_wp2_with fail
  go_loopw [3] (fun i wr => ∃ k : Nat, k ≤ zs.length ∧ i = .int .i64 k ∧ Below w.heap.size w wr) (fun i _ => zs.length - (intOf i).toNat)
  case atStart => exact ⟨0, Nat.zero_le _, rfl, hb1⟩
  case round =>
    obtain ⟨k, hk, rfl, hbr⟩ := hrel
    by_cases hlt : k < zs.length
    · have hck := HC.out _ hbr k hlt
      go_wp2_with fail
      have hi0 : (0 : Int) ≤ (k : Int) := by omega
      have hi1 : (k : Int) < (zs.length : Int) := by omega
      go_quiet ((first
        | (go_at_call 9; exact Calls.quiet_of_same (norm_any _ _))
        | (go_at_call 10; exact Calls.quiet_of_same (rnorm_any _ _))
        | (go_at_call 11; exact Calls.quiet_of_same (told_dec _ _))))
      go_wp2_with fail
      go_roundw
      case rel => exact ⟨k + 1, by omega, by go_num, below_drewN hbr _⟩
      case measure => simp [intOf]; omega
    · go_wp2_with fail
      refine (add_row _ zs _ (.inr ⟨b, o, cap, rfl, hm, HC.out _ hbr⟩)).mono ?_
      rintro e w2 ⟨rfl, rfl⟩
      go_wp2_with fail
      refine (radd_row _ zs _ (.inr ⟨b, o, cap, rfl, hm, HC.out _ hbr⟩)).mono ?_
      rintro e w2 ⟨rfl, rfl⟩
      go_wp2_with fail
      refine (min_row _ zs _ (.inr ⟨b, o, cap, rfl, hm, HC.out _ hbr⟩)).mono ?_
      rintro e w2 ⟨rfl, rfl⟩
      go_wp2_with fail
      refine (rmin_row _ zs _ (.inr ⟨b, o, cap, rfl, hm, HC.out _ hbr⟩)).mono ?_
      rintro e w2 ⟨rfl, rfl⟩
      go_wp2_with fail
      go_ret
      exact ⟨ret_bool (by simp), hbr⟩

set_option maxHeartbeats 400000 in
theorem adds_none (a : Option Addr) (cap : Nat) (w : World) (hw : Ready w) :
    Calls Tryd.prog 3 #[.slice a 0 cap] w fun e w' => e = .returned (.bool true) ∧ Below w.heap.size w w' := by
  go_enter Tryd.func3, Tryd.ntmps3
  go_wp2_with fail
  refine (awake_any _ hw).mono ?_
  rintro e w1 ⟨rfl, hb1⟩
  go_wp2_with fail
  go_loop [3] (fun i => i = .int .i64 0) (fun _ => 0)
  case atStart => exact rfl
  case round =>
    obtain rfl := hrel
    go_wp2_with fail
    refine (add_row _ [] _ (Row.nil _ _ _)).mono ?_
    rintro e w2 ⟨rfl, rfl⟩
    go_wp2_with fail
    refine (radd_row _ [] _ (Row.nil _ _ _)).mono ?_
    rintro e w2 ⟨rfl, rfl⟩
    go_wp2_with fail
    refine (min_row _ [] _ (Row.nil _ _ _)).mono ?_
    rintro e w2 ⟨rfl, rfl⟩
    go_wp2_with fail
    refine (rmin_row _ [] _ (Row.nil _ _ _)).mono ?_
    rintro e w2 ⟨rfl, rfl⟩
    go_wp2_with fail
    go_ret
    exact ⟨ret_bool (by simp), hb1⟩

theorem adds_walk (a : Option Addr) (len cap : Nat) (zs : List Int) (w : World) (hw : Ready w) (hz : IsRow w a len cap zs) :
    Calls Tryd.prog 3 #[.slice a len cap] w fun e w' => e = .returned (.bool true) ∧ Below w.heap.size w w' := by
  rcases hz with ⟨rfl, rfl, rfl, rfl⟩ | ⟨x, rfl, hl, hm, hz, hc, _⟩
  · exact adds_none none 0 w hw
  rcases Nat.eq_zero_or_pos len with rfl | hp
  · exact adds_none _ cap w hw
  obtain ⟨bb, oo, rfl, hcc⟩ := ints_at hc (by omega)
  have hlen : (zs.take len).length = len := by rw [List.length_take]; omega
  have h := adds_body bb oo cap (zs.take len) w hw (cell_lt (hcc 0 (by omega))) (by omega) (fun i hi => by
    rw [hcc i (by omega), List.getElem?_take_of_lt (by omega)]; simp)
  rw [hlen] at h
  exact h
end Go.Proofs.YtnjhnfppblojcaaDoor
