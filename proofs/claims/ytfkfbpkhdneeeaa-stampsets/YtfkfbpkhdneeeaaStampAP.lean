/-
  The walks of package stamp's may, Len, Set, Get, Clear and New, where things are of type [2]int.
-/
import Derived.Test.YtfkfbpkhdneeeaaStampMem
import Derived.BigRegion
import Derived.BigQuiet
import Derived.BigFrame
import Derived.Deep.QuietTactic
import Derived.Deep.DeepCutAuto
import Derived.Deep.OwnRows
namespace Go.Proofs.Ytfkfbpkhdneeeaa
namespace RP
open Go.RowKit

/-- At a place of the cells lies v, in two cells. -/
def At (xs : List Value) (t : Nat) (v : Int × Int) : Prop := xs[t * 2]? = some (.int .i64 v.1) ∧ xs[t * 2 + 1]? = some (.int .i64 v.2)
theorem at_put {n : Nat} {xs : List Value} (hl : xs.length = n * 2) {k : Nat} (hk : k < n) (a b : Int) : At ((xs.set (k * 2) (.int .i64 a)).set (k * 2 + 1) (.int .i64 b)) k (a, b) ∧ ∀ t, t ≠ k → t < n → ∀ u, At xs t u → At ((xs.set (k * 2) (.int .i64 a)).set (k * 2 + 1) (.int .i64 b)) t u := by
  refine ⟨⟨?_, ?_⟩, fun t ht _ u hu => ⟨?_, ?_⟩⟩
  · rw [List.getElem?_set, if_neg (by omega), List.getElem?_set, if_pos rfl, if_pos (by omega)]
  · rw [List.getElem?_set, if_pos rfl, if_pos (by rw [List.length_set]; omega)]
  · rw [List.getElem?_set, if_neg (by omega), List.getElem?_set, if_neg (by omega)]
    exact hu.1
  · rw [List.getElem?_set, if_neg (by omega), List.getElem?_set, if_neg (by omega)]
    exact hu.2
theorem at_zero {n t : Nat} (ht : t < n) : ∃ v, At (List.replicate (n * 2) (.int .i64 0)) t v := ⟨(0, 0), by rw [List.getElem?_replicate, if_pos (by omega)], by rw [List.getElem?_replicate, if_pos (by omega)]⟩

set_option maxHeartbeats 400000 in
theorem may_any {w : World} {B p bt bs n : Nat} {xs : List Value} {st : List Nat} {now : Nat} (h : SMem 52 2 w B p bt bs n xs st now) (t : Int) :
    Calls Try.prog 30 #[.pointer (some ⟨p, 0, none⟩), .int .i64 t] w fun e w' => e = .returned (.bool (decide (0 ≤ t ∧ t < (n : Int)))) ∧ w' = w := by
  have c1 := h.c1
  clear h
  by_cases h0 : 0 ≤ t
  · go_enter Try.func30, Try.ntmps30
    go_wp2_with fail
    go_ret
    exact ⟨ret_bool (by simp [h0]), rfl⟩
  · go_enter Try.func30, Try.ntmps30
    go_wp2_with fail
    go_ret
    exact ⟨ret_bool (by simp; omega), rfl⟩

set_option maxHeartbeats 1000000 in
theorem len_any {w : World} {B p bt bs n : Nat} {xs : List Value} {st : List Nat} {now : Nat} (h : SMem 52 2 w B p bt bs n xs st now) {m : Nat → Option (Int × Int)} (hr : SM.Rep At n m xs st now) (hn : n ≤ 64) :
    Calls Try.prog 22 #[.pointer (some ⟨p, 0, none⟩)] w fun e w' => e = .returned (.int .i64 (SM.cnt n m : Nat)) ∧ w' = w := by
  have c1 := h.c1
  have c2 := h.c2
  have HC : Hid (∀ k, k < n → w.cell? ⟨bs, k, none⟩ = some (.int .u8 (SM.at0 st k : Nat)) ∧ (m k).isSome = decide (SM.at0 st k = now)) := fun k hk => ⟨(h.stamp hk).1, hr.some hk⟩
  clear h hr
  go_enter Try.func22, Try.ntmps22
  go_wp2_with fail
  go_loop [3, 11] (fun c i => ∃ k : Nat, k ≤ n ∧ i = .int .i64 k ∧ c = .int .i64 (SM.cnt k m : Nat)) (fun _ i => n - (intOf i).toNat)
  case atStart => exact ⟨0, Nat.zero_le _, rfl, by simp [SM.cnt]⟩
  case round =>
    obtain ⟨k, hk, rfl, rfl⟩ := hrel
    by_cases hlt : k < n
    · obtain ⟨ck, hs⟩ := HC.out k hlt
      have HS : Hid (SM.cnt (k + 1) m = SM.cnt k m + if (m k).isSome then 1 else 0) := SM.cnt_succ k m
      rw [hs] at HS
      have hcl := SM.cnt_le k m
      clear hs
      generalize SM.at0 st k = s at *
      have kn : (k : Int) < (n : Int) := by omega
      by_cases e : s = now
      · subst e
        go_wp2_with fail
        go_round
        case rel => exact ⟨k + 1, by omega, by simp, by rw [HS.out]; simp⟩
        case measure => simp [intOf]; omega
      · have e' : ((s : Int) == (now : Int)) = false := beq_eq_false_iff_ne.2 (by omega)
        go_wp2_with fail
        go_round
        case rel => exact ⟨k + 1, by omega, by simp, by rw [HS.out]; simp [e]⟩
        case measure => simp [intOf]; omega
    · obtain rfl : k = n := by omega
      go_wp2_with fail
      go_ret
      exact ⟨rfl, rfl⟩




end RP
end Go.Proofs.Ytfkfbpkhdneeeaa
