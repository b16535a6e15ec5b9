/-
  The walks of the program's small functions of sets, and of the library's two: how many bits, the lowest one.
-/
import Derived.Test.YtnfhjdealagckaaDoorBase
import Derived.Test.YtnfhjdealagckaaDoorBitsPop
import Derived.Laws.Bits64b
import Derived.Shelf.Spec.TrailingZeros
namespace Go.Proofs.YtnfhjdealagckaaDoor
open Go.RowKit

/-- The library's table lies where its variable is. -/
def Ready (w : World) : Prop := 0 < w.heap.size ∧ ∀ j, j < 64 → w.cell? ⟨0, j, none⟩ = some (.int .u8 (Lib.deBruijn64tab.getD j 0))
theorem Ready.below {w w' : World} {n : Nat} (h : Ready w) (hn : 0 < n) (hb : Below n w w') : Ready w' := by
  refine ⟨by have := hb.size; have := h.1; omega, fun j hj => ?_⟩
  rw [hb.cell (by exact hn)]; exact h.2 j hj

theorem pow_cast (n : Nat) : ((2 : Int) ^ n) = ((2 ^ n : Nat) : Int) := (Int.natCast_pow 2 n).symm
theorem shl_one (n : Nat) (h : n < 64) : IntKind.u64.wrap (2 ^ n) = ((2 ^ n : Nat) : Int) := by
  have := BM.pow64 h
  rw [IntKind.wrap_u64, pow_cast]
  generalize 2 ^ n = p at *
  omega
theorem shl_below (m : Nat) (h : m ≤ 64) : IntKind.u64.wrap (IntKind.u64.wrap (2 ^ m) - 1) = ((2 ^ m - 1 : Nat) : Int) := by
  have h1 : 2 ^ m ≤ 2 ^ 64 := Nat.pow_le_pow_right (by decide) h
  have h2 : 0 < 2 ^ m := Nat.two_pow_pos m
  rw [IntKind.wrap_u64, IntKind.wrap_u64, pow_cast]
  generalize 2 ^ m = p at *
  omega

set_option maxHeartbeats 400000 in
theorem only_any (x : Int) (w : World) :
    Calls Tryd.prog 23 #[.int .i64 x] w fun e w' => e = .returned (.int .u64 (BM.only x : Nat)) ∧ w' = w := by
  by_cases h : 0 ≤ x ∧ x < 64
  · have e : BM.only x = 2 ^ x.toNat := by unfold BM.only; rw [if_pos h]
    obtain ⟨n, rfl⟩ : ∃ n : Nat, x = n := ⟨x.toNat, by omega⟩
    rw [e]
    go_enter Tryd.func23, Tryd.ntmps23
    go_wp2_with fail
    go_ret
    exact ⟨ret_int (shl_one n (by omega)), rfl⟩
  · have e : BM.only x = 0 := by unfold BM.only; rw [if_neg h]
    rw [e]
    go_enter Tryd.func23, Tryd.ntmps23
    go_wp2_with fail
    all_goals (try (exfalso; omega))
    all_goals go_ret
    all_goals exact ⟨rfl, rfl⟩

set_option maxHeartbeats 400000 in
theorem below_any (n : Int) (w : World) :
    Calls Tryd.prog 20 #[.int .i64 n] w fun e w' => e = .returned (.int .u64 (BM.below n : Nat)) ∧ w' = w := by
  go_enter Tryd.func20, Tryd.ntmps20
  go_wp2_with fail
  · go_ret
    refine ⟨ret_int ?_, rfl⟩
    unfold BM.below BM.cut
    rw [show min (max n 0).toNat 64 = 0 by omega]
    rfl
  · go_ret
    refine ⟨ret_int ?_, rfl⟩
    unfold BM.below BM.cut
    rw [show min (max n 0).toNat 64 = min n.toNat 64 by omega]
    exact shl_below _ (by omega)

theorem int_bne (a : Nat) : (!(a : Int) == 0) = !(a == 0) := by
  rw [Bool.eq_iff_iff]; simp

set_option maxHeartbeats 400000 in
theorem has_any (s : Nat) (x : Int) (hs : s < 18446744073709551616) (w : World) :
    Calls Tryd.prog 11 #[.int .u64 s, .int .i64 x] w fun e w' => e = .returned (.bool (BM.has s x)) ∧ w' = w := by
  have hc := only_any x w
  have hr : (!bits BinOp.and IntKind.u64 (s : Int) (BM.only x : Nat) == 0) = BM.has s x := by
    rw [bits_and_u64_nat s _ hs (BM.only_lt x), ← BM.has_only, int_bne]
  go_enter Tryd.func11, Tryd.ntmps11
  go_wp2_with fail
  refine hc.mono ?_
  rintro e w' ⟨rfl, rfl⟩
  go_wp2_with fail
  go_ret
  exact ⟨ret_bool hr, rfl⟩

set_option maxHeartbeats 400000 in
theorem with_any (s : Nat) (x : Int) (hs : s < 18446744073709551616) (w : World) :
    Calls Tryd.prog 17 #[.int .u64 s, .int .i64 x] w fun e w' => e = .returned (.int .u64 (s ||| BM.only x : Nat)) ∧ w' = w := by
  have hc := only_any x w
  have hr := bits_or_u64_nat s _ hs (BM.only_lt x)
  go_enter Tryd.func17, Tryd.ntmps17
  go_wp2_with fail
  refine hc.mono ?_
  rintro e w' ⟨rfl, rfl⟩
  go_wp2_with fail
  go_ret
  exact ⟨rfl, rfl⟩

set_option maxHeartbeats 400000 in
theorem without_any (s : Nat) (x : Int) (hs : s < 18446744073709551616) (w : World) :
    Calls Tryd.prog 18 #[.int .u64 s, .int .i64 x] w fun e w' => e = .returned (.int .u64 (BM.less s (BM.only x) : Nat)) ∧ w' = w := by
  have hc := only_any x w
  have hr := BM.bits_andNot_u64_nat s _ hs (BM.only_lt x)
  go_enter Tryd.func18, Tryd.ntmps18
  go_wp2_with fail
  refine hc.mono ?_
  rintro e w' ⟨rfl, rfl⟩
  go_wp2_with fail
  go_ret
  exact ⟨rfl, rfl⟩

set_option maxHeartbeats 1000000 in
/-- The library's TrailingZeros64, where it is told at which place of the table it looks. -/
theorem tz_at {x k i : Nat} {w : World} (hx : x ≠ 0) (hi : i < 64) (hk : k < 64) (hcell : w.cell? ⟨0, i, none⟩ = some (.int .u8 k))
    (look : IntKind.u64.wrap (bits BinOp.and IntKind.u64 (x : Int) (IntKind.u64.wrap (-(x : Int))) * 285870213051353865) / 288230376151711744 = (i : Int)) :
    Calls Tryd.prog 22 #[.int .u64 x] w fun e w' => e = .returned (.int .i64 k) ∧ w' = w := by
  have hne : ((x : Int) == 0) = false := by simp [hx]
  go_enter Tryd.func22, Tryd.ntmps22
  go_wp2_with (simp only [look])
  go_ret
  exact ⟨rfl, rfl⟩
theorem tz_any (x : Nat) (hx : x < 18446744073709551616) (hx0 : x ≠ 0) (w : World) (hT : Ready w) :
    Calls Tryd.prog 22 #[.int .u64 x] w fun e w' => e = .returned (.int .i64 (Lib.ctz 64 x : Nat)) ∧ w' = w := by
  obtain ⟨low, hk⟩ := Lib.lowest_bit 64 x hx0 hx
  obtain ⟨hi, tab⟩ := Lib.deBruijn64_at _ hk
  have hcell := hT.2 _ hi
  rw [tab] at hcell
  exact tz_at hx0 hi hk hcell (tz64_key x _ hx hx0 low)

/-- What First answers. -/
def fst (s : Nat) : Int := (((BM.lst s).head?.getD 0 : Nat) : Int)
def some? (s : Nat) : Bool := !(s == 0)
set_option maxHeartbeats 400000 in
theorem first_any (s : Nat) (hs : s < 18446744073709551616) (w : World) (hT : Ready w) :
    Calls Tryd.prog 10 #[.int .u64 s] w fun e w' => e = .returned (.tuple #[.int .i64 (fst s), .bool (some? s)]) ∧ w' = w := by
  by_cases h0 : s = 0
  · subst h0
    go_enter Tryd.func10, Tryd.ntmps10
    go_wp2_with fail
    go_ret2
    exact ⟨by simp [fst, some?, BM.lst_zero], rfl⟩
  · have hc := tz_any s hs h0 w hT
    have e1 : fst s = ((Lib.ctz 64 s : Nat) : Int) := by unfold fst; rw [(BM.lst_cons s h0 hs).1]; rfl
    have e2 : some? s = true := by simp [some?, h0]
    rw [e1, e2]
    have hn : ¬ ((s : Int) = 0) := by omega
    go_enter Tryd.func10, Tryd.ntmps10
    go_wp2_with fail
    refine hc.mono ?_
    rintro e w' ⟨rfl, rfl⟩
    go_wp2_with fail
    go_ret2
    exact ⟨rfl, rfl⟩

theorem and127 (z : Nat) (h : z < 9223372036854775808) : bits .and .i64 (z : Int) 127 = ((z % 128 : Nat) : Int) := by
  refine (congrArg (fun n : Nat => IntKind.i64.wrap (n : Int)) (BM.bits_and127 z h)).trans ?_
  show IntKind.i64.wrap _ = _
  rw [IntKind.wrap_i64]
  omega

set_option maxHeartbeats 1000000 in
theorem ones_core (x x1 x2 x3 x4 x5 x6 r : Int) (w : World)
    (k1 : IntKind.u64.wrap (bits .and .u64 (x / 2) 6148914691236517205 + bits .and .u64 x 6148914691236517205) = x1)
    (k2 : IntKind.u64.wrap (bits .and .u64 (x1 / 4) 3689348814741910323 + bits .and .u64 x1 3689348814741910323) = x2)
    (k3 : bits .and .u64 (IntKind.u64.wrap (x2 / 16 + x2)) 1085102592571150095 = x3)
    (k4 : IntKind.u64.wrap (x3 + x3 / 256) = x4) (k5 : IntKind.u64.wrap (x4 + x4 / 65536) = x5) (k6 : IntKind.u64.wrap (x5 + x5 / 4294967296) = x6)
    (k7 : bits .and .i64 (wrap64 x6) 127 = r) :
    Calls Tryd.prog 24 #[.int .u64 x] w fun e w' => e = .returned (.int .i64 r) ∧ w' = w := by
  go_enter Tryd.func24, Tryd.ntmps24
  go_wp2_with (simp only [k1, k2, k3, k4, k5, k6, k7])
  go_ret
  exact ⟨rfl, rfl⟩

theorem div_cast (a b : Nat) : ((a : Int) / (b : Int)) = ((a / b : Nat) : Int) := (Int.natCast_ediv a b).symm
theorem ones_any (x : Nat) (hx : x < 18446744073709551616) (w : World) :
    Calls Tryd.prog 24 #[.int .u64 x] w fun e w' => e = .returned (.int .i64 ((BM.lst x).length : Nat)) ∧ w' = w := by
  have b1 := BM.s1_le x
  have b2 := BM.s2_le (BM.s1 x)
  have b3 := BM.s3_le (BM.s2 (BM.s1 x))
  have h := BM.ones_eq x hx
  unfold BM.ones at h
  rw [← h]
  refine ones_core x (BM.s1 x : Nat) (BM.s2 (BM.s1 x) : Nat) (BM.s3 (BM.s2 (BM.s1 x)) : Nat) (BM.s4 (BM.s3 (BM.s2 (BM.s1 x))) : Nat) (BM.s5 (BM.s4 (BM.s3 (BM.s2 (BM.s1 x)))) : Nat) (BM.s6 (BM.s5 (BM.s4 (BM.s3 (BM.s2 (BM.s1 x))))) : Nat) _ w ?_ ?_ ?_ ?_ ?_ ?_ ?_
  · have e1 := bits_and_u64_nat (x / 2) 6148914691236517205 (by omega) (by decide)
    have e2 := bits_and_u64_nat x 6148914691236517205 hx (by decide)
    rw [← div_cast] at e1
    rw [show (2 : Int) = ((2 : Nat) : Int) from rfl, show (6148914691236517205 : Int) = ((6148914691236517205 : Nat) : Int) from rfl, e1, e2, IntKind.wrap_u64]
    unfold BM.s1 at b1 ⊢
    omega
  · generalize BM.s1 x = y at *
    have e1 := bits_and_u64_nat (y / 4) 3689348814741910323 (by omega) (by decide)
    have e2 := bits_and_u64_nat y 3689348814741910323 (by omega) (by decide)
    rw [← div_cast] at e1
    rw [show (4 : Int) = ((4 : Nat) : Int) from rfl, show (3689348814741910323 : Int) = ((3689348814741910323 : Nat) : Int) from rfl, e1, e2, IntKind.wrap_u64]
    unfold BM.s2 at b2 ⊢
    omega
  · generalize BM.s2 (BM.s1 x) = y at *
    have e1 := bits_and_u64_nat (y / 16 + y) 1085102592571150095 (by omega) (by decide)
    rw [show IntKind.u64.wrap ((y : Int) / 16 + (y : Int)) = ((y / 16 + y : Nat) : Int) by rw [IntKind.wrap_u64]; omega]
    exact e1
  · generalize BM.s3 (BM.s2 (BM.s1 x)) = y at *
    unfold BM.s4
    rw [IntKind.wrap_u64]; omega
  · generalize BM.s3 (BM.s2 (BM.s1 x)) = y at *
    unfold BM.s5 BM.s4
    rw [IntKind.wrap_u64]; omega
  · generalize BM.s3 (BM.s2 (BM.s1 x)) = y at *
    unfold BM.s6 BM.s5 BM.s4
    rw [IntKind.wrap_u64]; omega
  · generalize BM.s3 (BM.s2 (BM.s1 x)) = y at *
    have hz : BM.s6 (BM.s5 (BM.s4 y)) < 9223372036854775808 := by unfold BM.s6 BM.s5 BM.s4; omega
    generalize BM.s6 (BM.s5 (BM.s4 y)) = z at *
    rw [show wrap64 (z : Int) = (z : Int) by unfold wrap64; omega]
    exact and127 z hz

set_option maxHeartbeats 400000 in
theorem len_any (s : Nat) (hs : s < 18446744073709551616) (w : World) :
    Calls Tryd.prog 13 #[.int .u64 s] w fun e w' => e = .returned (.int .i64 ((BM.lst s).length : Nat)) ∧ w' = w := by
  have hc := ones_any s hs w
  have hl := BM.lst_len s
  generalize (BM.lst s).length = n at *
  go_enter Tryd.func13, Tryd.ntmps13
  go_wp2_with fail
  refine hc.mono ?_
  rintro e w' ⟨rfl, rfl⟩
  go_wp2_with fail
  go_ret
  exact ⟨rfl, rfl⟩
end Go.Proofs.YtnfhjdealagckaaDoor
