/-
  Every arc of a graph that changes have made leads from a vertex to one. The law's awake.
-/
import Derived.Test.YtjnihkfnnokmdaaWalkSimple
import Derived.Test.YtjnihkfnnokmdaaWalkSum
import Derived.Test.YtjnihkfnnokmdaaGraphMade
namespace Go.Proofs.Ytjnihkfnnokmdaa
open Go.RowKit

namespace WK
def Inn (N : Nat) (m : GM.M) : Prop := ∀ i a, m i = some a → GM.vert N a.tail = true ∧ GM.vert N a.head = true
theorem Inn.upd {N : Nat} {m : GM.M} (h : Inn N m) (i : Nat) (x : Option Arc) (hx : ∀ a, x = some a → GM.vert N a.tail = true ∧ GM.vert N a.head = true) : Inn N (GM.upd m i x) := fun j a hj => by
  unfold GM.upd at hj
  split at hj
  · exact hx a hj
  · exact h j a hj
theorem Inn.zero (N : Nat) : Inn N GM.none0 := fun i a h => by simp [GM.none0] at h
theorem Inn.at {N : Nat} {m : GM.M} (h : Inn N m) {i : Nat} (hi : GM.is m i = true) : GM.vert N (GM.arc m i).tail = true ∧ GM.vert N (GM.arc m i).head = true := by
  unfold GM.is at hi
  unfold GM.arc
  cases e : m i with
  | none => rw [e] at hi; cases hi
  | some a => exact h i a e
theorem Inn.small {N : Nat} {m : GM.M} (h : Inn N m) (hN : N ≤ 64) : Small m := fun i => by
  unfold GM.arc
  cases e : m i with
  | none => exact ⟨by decide, by decide⟩
  | some a =>
    have := of_decide_eq_true (h i a e).2
    simp only [Option.getD_some]
    omega
theorem Inn.ins {N most : Nat} {m : GM.M} (h : Inn N m) (id : Int) (a : Arc) : Inn N (GM.ins N most m id a) := by
  unfold GM.ins
  split
  · rename_i hc
    refine h.upd _ _ (fun b hb => ?_)
    injection hb with hb
    subst hb
    unfold GM.insCode at hc
    split at hc
    · rename_i hp
      simp only [Bool.and_eq_true] at hp
      exact ⟨hp.1.1.2, hp.1.2⟩
    · cases hc
  · exact h
theorem Inn.del {N : Nat} {m : GM.M} (h : Inn N m) (id : Int) : Inn N (GM.del m id) := by
  unfold GM.del
  split
  · exact h.upd _ _ (fun a ha => by cases ha)
  · exact h
theorem at_is {m : GM.M} {id : Int} (h : GM.atCode m id = 0) : GM.is m id.toNat = true := by
  obtain ⟨i, rfl, -, hi⟩ := GM.atCode_zero h
  rwa [Int.toNat_natCast]
theorem Inn.turn {N : Nat} {m : GM.M} (h : Inn N m) (id : Int) (c : Bool) : Inn N (GM.turn m id c) := by
  unfold GM.turn
  split
  · rename_i hc
    refine h.upd _ _ (fun b hb => ?_)
    injection hb with hb
    subst hb
    unfold GM.turnCode at hc
    split at hc
    · rename_i h0
      exact h.at (at_is h0)
    · rename_i h0
      exact absurd hc h0
  · exact h
theorem Inn.weigh {N : Nat} {m : GM.M} (h : Inn N m) (id : Int) (x : Int) : Inn N (GM.weigh m id x) := by
  unfold GM.weigh
  split
  · rename_i hc
    refine h.upd _ _ (fun b hb => ?_)
    injection hb with hb
    subst hb
    unfold GM.weighCode at hc
    split at hc
    · exact h.at (at_is hc)
    · cases hc
  · exact h
theorem Inn.made (N : Nat) (xs : List Chg) : ∀ k, Inn N (GM.made N xs k)
  | 0 => Inn.zero N
  | k + 1 => by
    have h := Inn.made N xs k
    unfold GM.made GM.next
    split
    · exact h.ins _ _
    split
    · exact h.del _
    split
    · exact h.turn _ _
    split
    · exact h.turn _ _
    · exact h.weigh _ _
/-- A walk ends at a vertex. -/
theorem Inn.ends {N : Nat} {m : GM.M} (h : Inn N m) : ∀ {zs : List Int} {u b : Int}, GM.vert N u = true → WK.ends u (WK.list m zs) = some b → GM.vert N b = true
  | [], u, b, hu, he => by
    have : some u = some b := he
    injection this with this
    rw [← this]
    exact hu
  | z :: zs, u, b, hu, he => by
    have e0 : WK.list m (z :: zs) = WK.arcOf m z :: WK.list m zs := rfl
    rw [e0, WK.ends] at he
    split at he
    · rename_i h0
      refine Inn.ends h ?_ he
      have h1 := (codeAt_zero.1 h0).1
      unfold arcOf code1 at h1 ⊢
      dsimp only at h1 ⊢
      split at h1
      · rename_i hl
        unfold GM.look at hl ⊢
        split at hl
        · rename_i hp
          rw [if_pos hp]
          exact (h.at hl).2
        · cases hl
      · cases h1
    · cases he
end WK

namespace WA
def A : Arc := ⟨0, 1, 2, false⟩
def B : Arc := ⟨1, 0, 3, false⟩
def M1 : GM.M := GM.upd GM.none0 4 (some A)
def M2 : GM.M := GM.upd M1 7 (some B)
theorem g0 : GM.Good 4 GM.none0 := GM.Good.zero 4
theorem c1 : GM.insCode 2 4 GM.none0 4 A = 0 := by decide +kernel
theorem m1 : GM.ins 2 4 GM.none0 4 A = M1 := by unfold GM.ins; rw [c1, if_pos rfl]; rfl
theorem g1 : GM.Good 4 M1 := by rw [← m1]; exact GM.good_ins g0 _ _
theorem c2 : GM.insCode 2 4 M1 7 B = 0 := by decide +kernel
theorem m2 : GM.ins 2 4 M1 7 B = M2 := by unfold GM.ins; rw [c2, if_pos rfl]; rfl
theorem g2 : GM.Good 4 M2 := by rw [← m2]; exact GM.good_ins g1 _ _
theorem sm : WK.Small M2 := by
  refine WK.Inn.small (N := 2) ?_ (by decide)
  rw [← m2, ← m1]
  exact ((WK.Inn.zero 2).ins _ _).ins _ _
theorem k3 : WK.ccode 2 0 0 (WK.list M2 [4, 7]) = 0 := by decide +kernel
theorem k4 : WK.ccode 2 0 1 (WK.list M2 [4, 7]) = 8 := by decide +kernel
theorem k5 : WK.ccode 2 0 2 (WK.list M2 []) = 1 := by decide +kernel
theorem k6 : WK.wsum (WK.list M2 [4, 7]) = 5 := by decide +kernel
theorem k7 : WK.simple 2 0 (WK.list M2 [4, 7]) = false := by decide +kernel
theorem k8 : WK.simple 2 0 (WK.list M2 [4]) = true := by decide +kernel
section
variable {w : World} {p : Nat}
theorem s1 (h : GMem w p 2 4 GM.none0) : Calls Try.prog 24 #[.pointer (some ⟨p, 0, none⟩), .int .i64 4, .agg #[.int .i64 0, .int .i64 1, .int .i64 2, .bool false]] w fun e w' => e = .returned (.int .i64 0) ∧ GMem w' p 2 4 M1 ∧ Keeps (fun b => b = p) w w' := by
  have := insert_any h g0 4 A
  rw [c1, m1] at this
  exact this
theorem s2 (h : GMem w p 2 4 M1) : Calls Try.prog 24 #[.pointer (some ⟨p, 0, none⟩), .int .i64 7, .agg #[.int .i64 1, .int .i64 0, .int .i64 3, .bool false]] w fun e w' => e = .returned (.int .i64 0) ∧ GMem w' p 2 4 M2 ∧ Keeps (fun b => b = p) w w' := by
  have := insert_any h g1 7 B
  rw [c2, m2] at this
  exact this
theorem al (w : World) (o : Go.Obj) : Below w.heap.size w (w.alloc o) := (Below.refl _ _).alloc (Nat.le_refl _) _
theorem s3 (h : GMem w p 2 4 M2) (t : TypeId) : Calls Try.prog 10 #[.pointer (some ⟨p, 0, none⟩), .int .i64 0, .int .i64 0, .slice (some ⟨w.heap.size, 0, none⟩) 2 2] (w.alloc (.cells #[.int .i64 4, .int .i64 7] t)) fun e w' => e = .returned (.int .i64 0) ∧ Below w.heap.size w w' := by
  have := check_any (h.on (al w _)) g2 0 0 ⟨_, _, rfl, rowAt_lit2 .i64 w 4 7 t⟩
  rw [k3] at this
  exact this.mono (fun e w' h => ⟨h.1, below_on (al w _) h.2⟩)
theorem s4 (h : GMem w p 2 4 M2) (t : TypeId) : Calls Try.prog 10 #[.pointer (some ⟨p, 0, none⟩), .int .i64 0, .int .i64 1, .slice (some ⟨w.heap.size, 0, none⟩) 2 2] (w.alloc (.cells #[.int .i64 4, .int .i64 7] t)) fun e w' => e = .returned (.int .i64 8) ∧ Below w.heap.size w w' := by
  have := check_any (h.on (al w _)) g2 0 1 ⟨_, _, rfl, rowAt_lit2 .i64 w 4 7 t⟩
  rw [k4] at this
  exact this.mono (fun e w' h => ⟨h.1, below_on (al w _) h.2⟩)
theorem s5 (h : GMem w p 2 4 M2) : Calls Try.prog 10 #[.pointer (some ⟨p, 0, none⟩), .int .i64 0, .int .i64 2, .slice none 0 0] w fun e w' => e = .returned (.int .i64 1) ∧ Below w.heap.size w w' := by
  have := check_any h g2 0 2 (Row.nil .i64 w)
  rw [k5] at this
  exact this
theorem s6 (h : GMem w p 2 4 M2) (t : TypeId) : Calls Try.prog 12 #[.pointer (some ⟨p, 0, none⟩), .slice (some ⟨w.heap.size, 0, none⟩) 2 2] (w.alloc (.cells #[.int .i64 4, .int .i64 7] t)) fun e w' => e = .returned (.int .i64 5) ∧ Below w.heap.size w w' := by
  have := sum_any (h.on (al w _)) g2 ⟨_, _, rfl, rowAt_lit2 .i64 w 4 7 t⟩
  rw [k6] at this
  exact this.mono (fun e w' h => ⟨h.1, below_on (al w _) h.2⟩)
theorem s7 (h : GMem w p 2 4 M2) (t : TypeId) : Calls Try.prog 17 #[.pointer (some ⟨p, 0, none⟩), .int .i64 0, .slice (some ⟨w.heap.size, 0, none⟩) 2 2] (w.alloc (.cells #[.int .i64 4, .int .i64 7] t)) fun e w' => e = .returned (.bool false) ∧ Below w.heap.size w w' := by
  have := simple_any (h.on (al w _)) g2 (by decide) sm 0 ⟨_, _, rfl, rowAt_lit2 .i64 w 4 7 t⟩
  rw [k7] at this
  exact this.mono (fun e w' h => ⟨h.1, below_on (al w _) h.2⟩)
theorem s8 (h : GMem w p 2 4 M2) (t : TypeId) : Calls Try.prog 17 #[.pointer (some ⟨p, 0, none⟩), .int .i64 0, .slice (some ⟨w.heap.size, 0, none⟩) 1 1] (w.alloc (.cells #[.int .i64 4] t)) fun e w' => e = .returned (.bool true) ∧ Below w.heap.size w w' := by
  have := simple_any (h.on (al w _)) g2 (by decide) sm 0 ⟨_, _, rfl, rowAt_lit1 .i64 w 4 t⟩
  rw [k8] at this
  exact this.mono (fun e w' h => ⟨h.1, below_on (al w _) h.2⟩)
end
end WA
set_option maxHeartbeats 4000000 in
set_option maxRecDepth 100000 in
theorem awake_any (w : World) : Calls Try.prog 8 #[] w fun e w' => e = .returned (.bool true) ∧ Below w.heap.size w w' := by
  have n1 := new_ok 2 4 (by decide) (by decide) (by decide) (by decide) w
  go_enter Try.func8, Try.ntmps8
  go_wp2_with fail
  refine n1.mono ?_
  rintro e w1 ⟨p, rfl, hp, h1, b1⟩
  have hp' : w.heap.size ≤ p := by omega
  clear n1 hp
  have s1 := WA.s1 h1
  go_wp2_with fail
  refine s1.mono ?_
  rintro e w2 ⟨rfl, h2, k2⟩
  have b2 := b1.trans (k2.rest hp' b1.size)
  clear s1 h1 b1 k2
  have s2 := WA.s2 h2
  go_wp2_with fail
  refine s2.mono ?_
  rintro e w3 ⟨rfl, h3, k3⟩
  have b3 := b2.trans (k3.rest hp' b2.size)
  clear s2 h2 b2 k3
  have s3 := WA.s3 h3
  go_wp2_with fail
  refine (s3 _).mono ?_
  rintro e w4 ⟨rfl, k4⟩
  have h4 := h3.on k4
  have b4 := below_on b3 k4
  clear s3 h3 b3 k4
  have s4 := WA.s4 h4
  go_wp2_with fail
  refine (s4 _).mono ?_
  rintro e w5 ⟨rfl, k5⟩
  have h5 := h4.on k5
  have b5 := below_on b4 k5
  clear s4 h4 b4 k5
  have s5 := WA.s5 h5
  go_wp2_with fail
  refine s5.mono ?_
  rintro e w6 ⟨rfl, k6⟩
  have h6 := h5.on k6
  have b6 := below_on b5 k6
  clear s5 h5 b5 k6
  have s6 := WA.s6 h6
  go_wp2_with fail
  refine (s6 _).mono ?_
  rintro e w7 ⟨rfl, k7⟩
  have h7 := h6.on k7
  have b7 := below_on b6 k7
  clear s6 h6 b6 k7
  have s7 := WA.s7 h7
  go_wp2_with fail
  refine (s7 _).mono ?_
  rintro e w8 ⟨rfl, k8⟩
  have h8 := h7.on k8
  have b8 := below_on b7 k8
  clear s7 h7 b7 k8
  have s8 := WA.s8 h8
  go_wp2_with fail
  refine (s8 _).mono ?_
  rintro e w9 ⟨rfl, k9⟩
  have b9 := below_on b8 k9
  clear s8 h8 b8 k9
  go_wp2_with fail
  go_ret
  exact ⟨rfl, b9⟩
end Go.Proofs.Ytjnihkfnnokmdaa
