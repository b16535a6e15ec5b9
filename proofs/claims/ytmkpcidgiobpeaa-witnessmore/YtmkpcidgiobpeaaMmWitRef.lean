/-
  The walks of layer 13's document, of its small calls: has, sum, Three; layer 3's Has.
-/
import Derived.Test.YtmkpcidgiobpeaaMmMeshA
import Derived.Test.YtmkpcidgiobpeaaMmWalkDist
import Derived.Test.YtmkpcidgiobpeaaMmWMaths
import Derived.Test.YtmkpcidgiobpeaaMmInts
import Derived.Deep.DeepCutAuto
import Derived.Laws.Tables
import Derived.Deep.QuietTactic
import Derived.BigQuiet
namespace Go.Proofs.Ytmkpcidgiobpeaa
open Go.RowKit
namespace WM
def vsL (L : List (Nat × Int)) : List Int := L.map (fun x => ((x.1 : Nat) : Int))
def dsL (L : List (Nat × Int)) : List Int := L.map (·.2)
theorem vsL_len (L : List (Nat × Int)) : (vsL L).length = L.length := by simp [vsL]
theorem dsL_len (L : List (Nat × Int)) : (dsL L).length = L.length := by simp [dsL]
theorem vsL_snoc (L : List (Nat × Int)) (x : Nat × Int) : vsL (L ++ [x]) = vsL L ++ [((x.1 : Nat) : Int)] := by simp [vsL]
theorem dsL_snoc (L : List (Nat × Int)) (x : Nat × Int) : dsL (L ++ [x]) = dsL L ++ [x.2] := by simp [dsL]
theorem vsL_mem (L : List (Nat × Int)) (v : Nat) : decide ((v : Int) ∈ vsL L) = has L v := by
  rw [Bool.eq_iff_iff, decide_eq_true_iff, has_iff]
  unfold vsL
  rw [List.mem_map]
  constructor
  · rintro ⟨x, h1, h2⟩
    exact ⟨x, h1, by omega⟩
  · rintro ⟨x, h1, h2⟩
    exact ⟨x, h1, by omega⟩
theorem sum_take (D : Nat → Nat → Int) (L : List (Nat × Int)) (v k : Nat) (h : k < L.length) : sum D (L.take (k + 1)) v = low (sum D (L.take k) v) (DM.two L[k].2 (D L[k].1 v)) := by
  rw [List.take_succ_eq_append_getElem h, sum_snoc]
end WM
set_option maxHeartbeats 400000 in
/-- Layer 3's document: Has. -/
theorem rhas3_any (s : Nat) (x : Int) (hs : s < 18446744073709551616) (w : World) :
    Calls Try.prog 12 #[.int .u64 s, .int .i64 x] w fun e w' => e = .returned (.bool (BM.has s x)) ∧ w' = w := by
  by_cases h : 0 ≤ x ∧ x < 64
  · obtain ⟨n, rfl⟩ : ∃ n : Nat, x = n := ⟨x.toNat, by omega⟩
    have hn : n < 64 := by omega
    have e : BM.has s (n : Int) = s.testBit n := by unfold BM.has; rw [decide_eq_true h, Bool.true_and, Int.toNat_natCast]
    rw [e]
    clear e h
    go_enter Try.func12, Try.ntmps12
    go_wp2_with fail
    go_loop [0, 5] (fun sv i => ∃ k : Nat, k ≤ n ∧ i = .int .i64 k ∧ sv = .int .u64 (s / 2 ^ k : Nat)) (fun _ i => n - (intOf i).toNat)
    case atStart => exact ⟨0, Nat.zero_le _, rfl, by simp⟩
    case round =>
      obtain ⟨k, hk, rfl, rfl⟩ := hrel
      have hq : s / 2 ^ k < 18446744073709551616 := Nat.lt_of_le_of_lt (Nat.div_le_self _ _) hs
      have HS : Hid (s / 2 ^ (k + 1) = s / 2 ^ k / 2) := by show _ = _; rw [Nat.pow_succ, Nat.div_div_eq_div_mul]
      have HT : Hid (k = n → s.testBit n = decide (s / 2 ^ k % 2 = 1)) := fun e => by rw [e, Nat.testBit_eq_decide_div_mod_eq]
      generalize s / 2 ^ k = q at *
      by_cases hlt : k < n
      · go_wp2_with fail
        go_round
        case rel => exact ⟨k + 1, by omega, by simp, by rw [HS.out]; simp⟩
        case measure => simp [intOf]; omega
      · go_wp2_with fail
        go_ret
        refine ⟨ret_bool ?_, rfl⟩
        rw [HT.out (by omega), Bool.eq_iff_iff]
        simp
        omega
  · have e : BM.has s x = false := by simp [BM.has]; omega
    rw [e]
    go_enter Try.func12, Try.ntmps12
    by_cases h0 : x < 0
    · go_wp2_with fail
      go_ret
      exact ⟨rfl, rfl⟩
    · have h64 : 64 ≤ x := by omega
      go_wp2_with fail
      go_ret
      exact ⟨rfl, rfl⟩
set_option maxHeartbeats 400000 in
/-- Is a number in a list? -/
theorem rhas13_any (v : Value) (zs : List Int) (n : Int) (w : World) (hrow : Row .i64 w v zs) :
    Calls Try.prog 31 #[v, .int .i64 n] w fun e w' => e = .returned (.bool (decide (n ∈ zs))) ∧ w' = w := by
  obtain ⟨a, cap, rfl, h1, h2, h3, h4⟩ := hrow
  have hml : zs.length ≤ 9223372036854775807 := by unfold maxLen at h2; omega
  go_enter Try.func31, Try.ntmps31
  go_wp2_with fail
  go_loop [5] (fun i => ∃ k : Nat, k ≤ zs.length ∧ i = .int .i64 k ∧ Hid (n ∉ zs.take k)) (fun i => zs.length - (intOf i).toNat)
  case atStart => exact ⟨0, Nat.zero_le _, rfl, by simp [Hid]⟩
  case round =>
    obtain ⟨k, hk, rfl, HN⟩ := hrel
    by_cases hlt : k < zs.length
    · obtain ⟨b, o, rfl, hc⟩ := h4 (by omega)
      have hck := hc k hlt
      rw [List.getElem?_eq_getElem hlt, Option.getD_some] at hck
      have HY : Hid (zs[k] = n → n ∈ zs) := fun e => e ▸ List.getElem_mem hlt
      have HO : Hid (zs[k] ≠ n → n ∉ zs.take (k + 1)) := fun e => by
        rw [take_one zs k hlt, List.mem_append]
        rintro (h | h)
        · exact HN.out h
        · exact e (List.mem_singleton.1 h).symm
      clear hc HN
      have hi0 : (0 : Int) ≤ (k : Int) := by omega
      have hi1 : (k : Int) < (zs.length : Int) := by omega
      generalize zs[k] = z at *
      by_cases hz : z = n
      · have HE : Hid (n ∈ zs) := HY.out hz
        subst hz
        clear HY HO
        go_wp2_with fail
        go_ret
        exact ⟨ret_bool (by rw [decide_eq_true HE.out]), rfl⟩
      · have HE : Hid (n ∉ zs.take (k + 1)) := HO.out hz
        have hzb : (z == n) = false := beq_eq_false_iff_ne.2 hz
        clear HY HO hz
        go_wp2_with fail
        go_round
        case rel => exact ⟨k + 1, by omega, by simp, HE⟩
        case measure => simp [intOf]; omega
    · obtain rfl : k = zs.length := by omega
      have HE : Hid (n ∉ zs) := by
        have := HN.out
        rwa [List.take_length] at this
      go_wp2_with fail
      go_ret
      exact ⟨ret_bool (by rw [decide_eq_false HE.out]), rfl⟩
end Go.Proofs.Ytmkpcidgiobpeaa
