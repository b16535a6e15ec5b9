/-
  The walk of the laws' own awake: answers that the document fixes.
-/
import Derived.Test.YtmmokmgljacddaaHeapTwo
namespace Go.Proofs.Ytmmokmgljacddaa
namespace HA
open Go.RowKit

def M0 : Nat → Option Int := fun _ => none
def M1 : Nat → Option Int := HM.upd M0 2 (some 5)
def M2 : Nat → Option Int := HM.upd M1 0 (some 5)
def M3 : Nat → Option Int := HM.upd M2 1 (some 9)
def M4 : Nat → Option Int := HM.upd M3 1 (some 4)
def M5 : Nat → Option Int := HM.upd M4 1 none
def M6 : Nat → Option Int := HM.upd M5 0 none
def M7 : Nat → Option Int := HM.upd M6 2 none
theorem put_ok {n : Nat} {m : Nat → Option Int} {t v : Int} (h : HM.code HM.TI n m t v = 0) : HM.put HM.TI n m t v = HM.upd m t.toNat (some v) := by unfold HM.put; rw [if_pos h]
theorem put_no {n : Nat} {m : Nat → Option Int} {t v : Int} (h : HM.code HM.TI n m t v ≠ 0) : HM.put HM.TI n m t v = m := by unfold HM.put; rw [if_neg h]
theorem k1 : HM.code HM.TI 3 M0 2 5 = 0 := by decide
theorem k2 : HM.code HM.TI 3 M1 0 5 = 0 := by decide
theorem k3 : HM.code HM.TI 3 M2 1 9 = 0 := by decide
theorem k4 : HM.code HM.TI 3 M3 1 9 = 5 := by decide
theorem k5 : HM.code HM.TI 3 M3 1 4 = 0 := by decide
theorem k6 : HM.code HM.TI 3 M4 3 1 = 1 := by decide
theorem at4 (u : Nat) (r : Int) (h : M4 u = some r) : (u = 1 ∧ r = 4) ∨ (u = 0 ∧ r = 5) ∨ (u = 2 ∧ r = 5) := by
  simp only [M4, M3, M2, M1, M0, HM.upd] at h
  repeat' split at h
  all_goals (first | (cases h; done) | (injection h; omega))
theorem at5 (u : Nat) (r : Int) (h : M5 u = some r) : (u = 0 ∧ r = 5) ∨ (u = 2 ∧ r = 5) := by
  simp only [M5, HM.upd] at h
  split at h
  · cases h
  · have := at4 u r h
    omega
theorem at6 (u : Nat) (r : Int) (h : M6 u = some r) : u = 2 ∧ r = 5 := by
  simp only [M6, HM.upd] at h
  split at h
  · cases h
  · have := at5 u r h
    omega
theorem at7 (u : Nat) : M7 u = none := by
  cases h : M7 u with
  | none => rfl
  | some r =>
    simp only [M7, HM.upd] at h
    split at h
    · cases h
    · have := at6 u r h
      omega
theorem f4 : HM.firstOf HM.TI M4 = some (1, 4) := HM.firstOf_eq ⟨rfl, fun u r hu hr => by
  have := at4 u r hu
  simp only [HM.TI, decide_eq_true_eq] at hr
  omega⟩
theorem f5 : HM.firstOf HM.TI M5 = some (0, 5) := HM.firstOf_eq ⟨rfl, fun u r hu hr => by
  have := at5 u r hu
  simp only [HM.TI, decide_eq_true_eq] at hr
  omega⟩
theorem f6 : HM.firstOf HM.TI M6 = some (2, 5) := HM.firstOf_eq ⟨rfl, fun u r hu hr => by
  have := at6 u r hu
  simp only [HM.TI, decide_eq_true_eq] at hr
  omega⟩
theorem f7 : HM.firstOf HM.TI M7 = none := HM.firstOf_none at7

section
variable {w : World} {B p : Nat}
theorem p1 (h : One w B p 3 M0) : Calls Try.prog 11 #[.pointer (some ⟨p, 0, none⟩), .int .i64 2, .int .i64 5] w fun e w' => e = .returned (.int .i64 0) ∧ One w' B p 3 M1 ∧ Below B w w' := by
  have := one_put h (by decide) 2 5
  rw [k1, put_ok k1] at this; exact this
theorem p2 (h : One w B p 3 M1) : Calls Try.prog 11 #[.pointer (some ⟨p, 0, none⟩), .int .i64 0, .int .i64 5] w fun e w' => e = .returned (.int .i64 0) ∧ One w' B p 3 M2 ∧ Below B w w' := by
  have := one_put h (by decide) 0 5
  rw [k2, put_ok k2] at this; exact this
theorem p3 (h : One w B p 3 M2) : Calls Try.prog 11 #[.pointer (some ⟨p, 0, none⟩), .int .i64 1, .int .i64 9] w fun e w' => e = .returned (.int .i64 0) ∧ One w' B p 3 M3 ∧ Below B w w' := by
  have := one_put h (by decide) 1 9
  rw [k3, put_ok k3] at this; exact this
theorem p4 (h : One w B p 3 M3) : Calls Try.prog 11 #[.pointer (some ⟨p, 0, none⟩), .int .i64 1, .int .i64 9] w fun e w' => e = .returned (.int .i64 5) ∧ One w' B p 3 M3 ∧ Below B w w' := by
  have := one_put h (by decide) 1 9
  rw [k4, put_no (by rw [k4]; decide)] at this; exact this
theorem p5 (h : One w B p 3 M3) : Calls Try.prog 11 #[.pointer (some ⟨p, 0, none⟩), .int .i64 1, .int .i64 4] w fun e w' => e = .returned (.int .i64 0) ∧ One w' B p 3 M4 ∧ Below B w w' := by
  have := one_put h (by decide) 1 4
  rw [k5, put_ok k5] at this; exact this
theorem p6 (h : One w B p 3 M4) : Calls Try.prog 11 #[.pointer (some ⟨p, 0, none⟩), .int .i64 3, .int .i64 1] w fun e w' => e = .returned (.int .i64 1) ∧ One w' B p 3 M4 ∧ Below B w w' := by
  have := one_put h (by decide) 3 1
  rw [k6, put_no (by rw [k6]; decide)] at this; exact this
theorem q1 (h : One w B p 3 M4) : Calls Try.prog 13 #[.pointer (some ⟨p, 0, none⟩)] w fun e w' => e = .returned (.tuple #[.int .i64 1, .int .i64 4, .bool true]) ∧ One w' B p 3 M5 ∧ Below B w w' := by
  have := one_pop h (by decide)
  unfold HM.popped at this
  rw [f4] at this; exact this
theorem q2 (h : One w B p 3 M5) : Calls Try.prog 13 #[.pointer (some ⟨p, 0, none⟩)] w fun e w' => e = .returned (.tuple #[.int .i64 0, .int .i64 5, .bool true]) ∧ One w' B p 3 M6 ∧ Below B w w' := by
  have := one_pop h (by decide)
  unfold HM.popped at this
  rw [f5] at this; exact this
theorem q3 (h : One w B p 3 M6) : Calls Try.prog 13 #[.pointer (some ⟨p, 0, none⟩)] w fun e w' => e = .returned (.tuple #[.int .i64 2, .int .i64 5, .bool true]) ∧ One w' B p 3 M7 ∧ Below B w w' := by
  have := one_pop h (by decide)
  unfold HM.popped at this
  rw [f6] at this; exact this
theorem q4 (h : One w B p 3 M7) : Calls Try.prog 13 #[.pointer (some ⟨p, 0, none⟩)] w fun e w' => e = .returned (.tuple #[.int .i64 0, .int .i64 0, .bool false]) ∧ One w' B p 3 M7 ∧ Below B w w' := by
  have := one_pop h (by decide)
  unfold HM.popped at this
  rw [f7] at this; exact this
theorem l0 (h : One w B p 3 M7) : Calls Try.prog 19 #[.pointer (some ⟨p, 0, none⟩)] w fun e w' => e = .returned (.int .i64 0) ∧ w' = w := by
  have := one_len h
  rw [HM.cnt_zero at7] at this; exact this
end
end HA
open Go.RowKit

set_option maxHeartbeats 4000000 in
set_option maxRecDepth 100000 in
theorem awake_any (w : World) : Calls Try.prog 8 #[] w fun e w' => e = .returned (.bool true) ∧ Below w.heap.size w w' := by
  have n1 := one_new 3 (by decide) w
  go_enter Try.func8, Try.ntmps8
  go_wp2_with fail
  refine n1.mono ?_
  rintro e w1 ⟨p, rfl, h1, b1⟩
  have n2 := HI.new_bad 65 (by decide) w1
  clear n1
  go_wp2_with fail
  refine n2.mono ?_
  rintro e w1 ⟨rfl, rfl⟩
  clear n2
  go_wp2_with fail
  refine (HA.p1 h1).mono ?_
  rintro e w2 ⟨rfl, h2, b2⟩
  have b2 := b1.trans b2
  clear h1 b1
  go_wp2_with fail
  refine (HA.p2 h2).mono ?_
  rintro e w3 ⟨rfl, h3, b3⟩
  have b3 := b2.trans b3
  clear h2 b2
  go_wp2_with fail
  refine (HA.p3 h3).mono ?_
  rintro e w4 ⟨rfl, h4, b4⟩
  have b4 := b3.trans b4
  clear h3 b3
  go_wp2_with fail
  refine (HA.p4 h4).mono ?_
  rintro e w5 ⟨rfl, h5, b5⟩
  have b5 := b4.trans b5
  clear h4 b4
  go_wp2_with fail
  refine (HA.p5 h5).mono ?_
  rintro e w6 ⟨rfl, h6, b6⟩
  have b6 := b5.trans b6
  clear h5 b5
  go_wp2_with fail
  refine (HA.p6 h6).mono ?_
  rintro e w7 ⟨rfl, h7, b7⟩
  have b7 := b6.trans b7
  clear h6 b6
  go_wp2_with fail
  refine (HA.q1 h7).mono ?_
  rintro e w8 ⟨rfl, h8, b8⟩
  have b8 := b7.trans b8
  clear h7 b7
  go_wp2_with fail
  refine (HA.q2 h8).mono ?_
  rintro e w9 ⟨rfl, h9, b9⟩
  have b9 := b8.trans b9
  clear h8 b8
  go_wp2_with fail
  refine (HA.q3 h9).mono ?_
  rintro e w10 ⟨rfl, h10, b10⟩
  have b10 := b9.trans b10
  clear h9 b9
  go_wp2_with fail
  refine (HA.q4 h10).mono ?_
  rintro e w11 ⟨rfl, h11, b11⟩
  have b11 := b10.trans b11
  clear h10 b10
  go_wp2_with fail
  refine (HA.l0 h11).mono ?_
  rintro e w12 ⟨rfl, rfl⟩
  go_wp2_with fail
  go_ret
  exact ⟨rfl, b11⟩
end Go.Proofs.Ytmmokmgljacddaa
