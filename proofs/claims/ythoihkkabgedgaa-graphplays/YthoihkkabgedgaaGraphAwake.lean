/-
  The law's awake: answers that the document fixes.
-/
import Derived.Test.YthoihkkabgedgaaInts
import Derived.Test.YthoihkkabgedgaaGraphOps
import Derived.Test.YthoihkkabgedgaaGraphBest
namespace Go.Proofs.Ythoihkkabgedgaa
open Go.RowKit

theorem Keeps.rest {p B : Nat} {w w' : World} (h : Keeps (fun b => b = p) w w') (hB : B ≤ p) (hw : B ≤ w.heap.size) : Below B w w' := h.below (fun b hb => by omega) hw
namespace GA
def A : Arc := ⟨2, 3, 5, false⟩
def M1 : GM.M := GM.upd GM.none0 0 (some A)
def M2 : GM.M := GM.upd M1 1 (some A)
def M3 : GM.M := GM.upd M2 0 (some ⟨2, 3, 5, true⟩)
theorem g0 : GM.Good 2 GM.none0 := GM.Good.zero 2
theorem c1 : GM.insCode 4 2 GM.none0 0 A = 0 := by decide +kernel
theorem m1 : GM.ins 4 2 GM.none0 0 A = M1 := by unfold GM.ins; rw [c1, if_pos rfl]; rfl
theorem g1 : GM.Good 2 M1 := by rw [← m1]; exact GM.good_ins g0 _ _
theorem c2 : GM.insCode 4 2 M1 0 A = 4 := by decide +kernel
theorem m2 : GM.ins 4 2 M1 0 A = M1 := by unfold GM.ins; rw [c2, if_neg (by decide)]
theorem c3 : GM.insCode 4 2 M1 1 A = 0 := by decide +kernel
theorem m3 : GM.ins 4 2 M1 1 A = M2 := by unfold GM.ins; rw [c3, if_pos rfl]; rfl
theorem g2 : GM.Good 2 M2 := by rw [← m3]; exact GM.good_ins g1 _ _
theorem c4 : GM.insCode 4 2 M2 2 A = 2 := by decide +kernel
theorem m4 : GM.ins 4 2 M2 2 A = M2 := by unfold GM.ins; rw [c4, if_neg (by decide)]
theorem b5 : GM.best M2 2 3 64 = (5, 0) := by decide +kernel
theorem c6 : GM.turnCode M2 0 true = 0 := by decide +kernel
theorem m6 : GM.turn M2 0 true = M3 := by unfold GM.turn; rw [c6, if_pos rfl]; rfl
theorem g3 : GM.Good 2 M3 := by rw [← m6]; exact GM.good_turn g2 _ _
theorem b7 : GM.best M3 2 3 64 = (5, 1) := by decide +kernel
theorem c8 : GM.turnCode M3 0 true = 5 := by decide +kernel
theorem m8 : GM.turn M3 0 true = M3 := by unfold GM.turn; rw [c8, if_neg (by decide)]
theorem c9 : GM.atCode M3 2 = 3 := by decide +kernel
theorem m9 : GM.del M3 2 = M3 := by unfold GM.del; rw [c9, if_neg (by decide)]
theorem n10 : GM.cnt M3 = 2 := by decide +kernel
section
variable {w : World} {p : Nat}
theorem s1 (h : GMem w p 4 2 GM.none0) : Calls Try.prog 23 #[.pointer (some ⟨p, 0, none⟩), .int .i64 0, .agg #[.int .i64 2, .int .i64 3, .int .i64 5, .bool false]] w fun e w' => e = .returned (.int .i64 0) ∧ GMem w' p 4 2 M1 ∧ Keeps (fun b => b = p) w w' := by
  have := insert_any h g0 0 A
  rw [c1, m1] at this
  exact this
theorem s2 (h : GMem w p 4 2 M1) : Calls Try.prog 23 #[.pointer (some ⟨p, 0, none⟩), .int .i64 0, .agg #[.int .i64 2, .int .i64 3, .int .i64 5, .bool false]] w fun e w' => e = .returned (.int .i64 4) ∧ GMem w' p 4 2 M1 ∧ Keeps (fun b => b = p) w w' := by
  have := insert_any h g1 0 A
  rw [c2, m2] at this
  exact this
theorem s3 (h : GMem w p 4 2 M1) : Calls Try.prog 23 #[.pointer (some ⟨p, 0, none⟩), .int .i64 1, .agg #[.int .i64 2, .int .i64 3, .int .i64 5, .bool false]] w fun e w' => e = .returned (.int .i64 0) ∧ GMem w' p 4 2 M2 ∧ Keeps (fun b => b = p) w w' := by
  have := insert_any h g1 1 A
  rw [c3, m3] at this
  exact this
theorem s4 (h : GMem w p 4 2 M2) : Calls Try.prog 23 #[.pointer (some ⟨p, 0, none⟩), .int .i64 2, .agg #[.int .i64 2, .int .i64 3, .int .i64 5, .bool false]] w fun e w' => e = .returned (.int .i64 2) ∧ GMem w' p 4 2 M2 ∧ Keeps (fun b => b = p) w w' := by
  have := insert_any h g2 2 A
  rw [c4, m4] at this
  exact this
theorem s5 (h : GMem w p 4 2 M2) : Calls Try.prog 16 #[.pointer (some ⟨p, 0, none⟩), .int .i64 2, .int .i64 3] w fun e w' => e = .returned (.tuple #[.int .i64 5, .int .i64 0]) ∧ Below w.heap.size w w' := by
  have := best_any h g2 2 3
  rw [b5] at this
  exact this
theorem s6 (h : GMem w p 4 2 M2) : Calls Try.prog 27 #[.pointer (some ⟨p, 0, none⟩), .int .i64 0] w fun e w' => e = .returned (.int .i64 0) ∧ GMem w' p 4 2 M3 ∧ Keeps (fun b => b = p) w w' := by
  have := close_any h g2 0
  rw [c6, m6] at this
  exact this
theorem s7 (h : GMem w p 4 2 M3) : Calls Try.prog 16 #[.pointer (some ⟨p, 0, none⟩), .int .i64 2, .int .i64 3] w fun e w' => e = .returned (.tuple #[.int .i64 5, .int .i64 1]) ∧ Below w.heap.size w w' := by
  have := best_any h g3 2 3
  rw [b7] at this
  exact this
theorem s8 (h : GMem w p 4 2 M3) : Calls Try.prog 27 #[.pointer (some ⟨p, 0, none⟩), .int .i64 0] w fun e w' => e = .returned (.int .i64 5) ∧ GMem w' p 4 2 M3 ∧ Keeps (fun b => b = p) w w' := by
  have := close_any h g3 0
  rw [c8, m8] at this
  exact this
theorem s9 (h : GMem w p 4 2 M3) : Calls Try.prog 25 #[.pointer (some ⟨p, 0, none⟩), .int .i64 2] w fun e w' => e = .returned (.int .i64 3) ∧ GMem w' p 4 2 M3 ∧ Keeps (fun b => b = p) w w' := by
  have := delete_any h g3 2
  rw [c9, m9] at this
  exact this
theorem s10 (h : GMem w p 4 2 M3) : Calls Try.prog 21 #[.pointer (some ⟨p, 0, none⟩)] w fun e w' => e = .returned (.int .i64 2) ∧ Below w.heap.size w w' := by
  have := len_any h g3
  rw [n10] at this
  exact this
end
end GA
set_option maxHeartbeats 4000000 in
set_option maxRecDepth 100000 in
theorem awake_any (w : World) : Calls Try.prog 8 #[] w fun e w' => e = .returned (.bool true) ∧ Below w.heap.size w w' := by
  have n1 := new_ok 4 2 (by decide) (by decide) (by decide) (by decide) w
  go_enter Try.func8, Try.ntmps8
  go_wp2_with fail
  refine n1.mono ?_
  rintro e w1 ⟨p, rfl, hp, h1, b1⟩
  have hp' : w.heap.size ≤ p := by omega
  have n2 := new_no 25 1 (by decide) w1
  clear n1 hp
  go_wp2_with fail
  refine n2.mono ?_
  rintro e w9 ⟨rfl, hw9⟩
  rw [hw9]
  clear n2 hw9 w9
  have s1 := GA.s1 h1
  go_wp2_with fail
  refine s1.mono ?_
  rintro e w2 ⟨rfl, h2, k2⟩
  have b2 := b1.trans (k2.rest hp' b1.size)
  clear s1 h1 b1 k2
  have s2 := GA.s2 h2
  go_wp2_with fail
  refine s2.mono ?_
  rintro e w3 ⟨rfl, h3, k3⟩
  have b3 := b2.trans (k3.rest hp' b2.size)
  clear s2 h2 b2 k3
  have s3 := GA.s3 h3
  go_wp2_with fail
  refine s3.mono ?_
  rintro e w4 ⟨rfl, h4, k4⟩
  have b4 := b3.trans (k4.rest hp' b3.size)
  clear s3 h3 b3 k4
  have s4 := GA.s4 h4
  go_wp2_with fail
  refine s4.mono ?_
  rintro e w5 ⟨rfl, h5, k5⟩
  have b5 := b4.trans (k5.rest hp' b4.size)
  clear s4 h4 b4 k5
  have s5 := GA.s5 h5
  go_wp2_with fail
  refine s5.mono ?_
  rintro e w6 ⟨rfl, k6⟩
  have h6 := h5.on k6
  have b6 := below_on b5 k6
  clear s5 h5 b5 k6
  have s6 := GA.s6 h6
  go_wp2_with fail
  refine s6.mono ?_
  rintro e w7 ⟨rfl, h7, k7⟩
  have b7 := b6.trans (k7.rest hp' b6.size)
  clear s6 h6 b6 k7
  have s7 := GA.s7 h7
  go_wp2_with fail
  refine s7.mono ?_
  rintro e w8 ⟨rfl, k8⟩
  have h8 := h7.on k8
  have b8 := below_on b7 k8
  clear s7 h7 b7 k8
  have s8 := GA.s8 h8
  go_wp2_with fail
  refine s8.mono ?_
  rintro e w9 ⟨rfl, h9, k9⟩
  have b9 := b8.trans (k9.rest hp' b8.size)
  clear s8 h8 b8 k9
  have s9 := GA.s9 h9
  go_wp2_with fail
  refine s9.mono ?_
  rintro e w10 ⟨rfl, h10, k10⟩
  have b10 := b9.trans (k10.rest hp' b9.size)
  clear s9 h9 b9 k10
  have s10 := GA.s10 h10
  go_wp2_with fail
  refine s10.mono ?_
  rintro e w11 ⟨rfl, k11⟩
  have b11 := below_on b10 k11
  clear s10 h10 b10 k11
  go_wp2_with fail
  go_ret
  exact ⟨rfl, b11⟩
end Go.Proofs.Ythoihkkabgedgaa
