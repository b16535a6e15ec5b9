/-
  A row of the program's as one thing: where it lies, and what is at its places. The laws' own awake.
-/
import Derived.Test.YtfkfbpkhdneeeaaStampAI
namespace Go.Proofs.Ytfkfbpkhdneeeaa
open Go.RowKit

/-- A row of n places in block p, of the call's own from block B on; F: its blocks. -/
def Obj {α : Type} (At : List Value → Nat → α → Prop) (e : TypeId) (sz : Nat) (w : World) (B p n : Nat) (m : Nat → Option α) (F : Nat → Prop) : Prop := ∃ bt bs xs st now, SMem e sz w B p bt bs n xs st now ∧ SM.Rep At n m xs st now ∧ F = sfoot p bt bs
section
variable {α : Type} {At : List Value → Nat → α → Prop} {e : TypeId} {sz : Nat} {w w' : World} {B p n : Nat} {m : Nat → Option α} {F : Nat → Prop}
theorem Obj.lt (h : Obj At e sz w B p n m F) : ∀ b, F b → B ≤ b ∧ b < w.heap.size := by
  obtain ⟨bt, bs, xs, st, now, h1, _, rfl⟩ := h
  exact h1.lt
theorem Obj.base (h : Obj At e sz w B p n m F) : B ≤ w.heap.size := by
  obtain ⟨bt, bs, xs, st, now, h1, _, rfl⟩ := h
  have := h1.lt p (.inl rfl)
  omega
theorem Obj.kept {G : Nat → Prop} (h : Obj At e sz w B p n m F) (hk : Keeps G w w') (hG : ∀ b, F b → ¬ G b) : Obj At e sz w' B p n m F := by
  obtain ⟨bt, bs, xs, st, now, h1, h2, rfl⟩ := h
  exact ⟨bt, bs, xs, st, now, h1.kept hk hG, h2, rfl⟩
theorem Obj.below (h : Obj At e sz w B p n m F) (hb : Below w.heap.size w w') : Obj At e sz w' B p n m F := h.kept (Below.keeps hb (fun _ => False)) (fun _ _ h => h)
theorem Obj.out (h : Obj At e sz w B p n m F) : ∀ t, n ≤ t → m t = none := by
  obtain ⟨bt, bs, xs, st, now, _, h2, _⟩ := h
  exact h2.out
/-- What a call that turns its blocks alone leaves below. -/
theorem Obj.rest (h : Obj At e sz w B p n m F) (hk : Keeps F w w') : Below B w w' := hk.below (fun b hb => (h.lt b hb).1) h.base
end
/-- A row of numbers. -/
abbrev ObjI := Obj RI.At 3 1
section
variable {w : World} {B p n : Nat} {m : Nat → Option Int} {F : Nat → Prop}
theorem oi_new (n : Nat) (hn : n ≤ 64) (w : World) :
    Calls Try.prog 7 #[.int .i64 n] w fun e w' => ∃ p F, e = .returned (.tuple #[.pointer (some ⟨p, 0, none⟩), .int .i64 0]) ∧ ObjI w' w.heap.size p n (fun _ => none) F ∧ Below w.heap.size w w' := by
  refine (RI.new_any n hn w).mono ?_
  rintro e w' ⟨p, bt, bs, xs, st, now, rfl, h1, h2, h3⟩
  exact ⟨p, _, rfl, ⟨bt, bs, xs, st, now, h1, h2, rfl⟩, h3⟩
theorem oi_set (h : ObjI w B p n m F) (hn : n ≤ 64) (t v : Int) :
    Calls Try.prog 9 #[.pointer (some ⟨p, 0, none⟩), .int .i64 t, .int .i64 v] w fun e w' => e = .returned (.int .i64 (SM.code n t)) ∧ ObjI w' B p n (SM.put n m t v) F ∧ Keeps F w w' := by
  obtain ⟨bt, bs, xs, st, now, h1, h2, rfl⟩ := h
  refine (RI.set_any h1 h2 hn t v).mono ?_
  rintro e w' ⟨rfl, xs', st', a1, a2, a3⟩
  exact ⟨rfl, ⟨bt, bs, xs', st', now, a1, a2, rfl⟩, a3⟩
theorem oi_get (h : ObjI w B p n m F) (t : Int) :
    Calls Try.prog 23 #[.pointer (some ⟨p, 0, none⟩), .int .i64 t] w fun e w' => e = .returned (getT (Value.int .i64) 0 (SM.look m t)) ∧ Below w.heap.size w w' := by
  obtain ⟨bt, bs, xs, st, now, h1, h2, rfl⟩ := h
  exact RI.get_any h1 h2 t
theorem oi_clear (h : ObjI w B p n m F) :
    Calls Try.prog 12 #[.pointer (some ⟨p, 0, none⟩)] w fun e w' => e = .returned (.tuple #[]) ∧ ObjI w' B p n (fun _ => none) F ∧ Keeps F w w' := by
  obtain ⟨bt, bs, xs, st, now, h1, h2, rfl⟩ := h
  refine (RI.clear_any h1 h2).mono ?_
  rintro e w' ⟨rfl, xs', st', now', a1, a2, a3⟩
  exact ⟨rfl, ⟨bt, bs, xs', st', now', a1, a2, rfl⟩, a3⟩
theorem oi_len (h : ObjI w B p n m F) (hn : n ≤ 64) :
    Calls Try.prog 24 #[.pointer (some ⟨p, 0, none⟩)] w fun e w' => e = .returned (.int .i64 (SM.cnt n m : Nat)) ∧ w' = w := by
  obtain ⟨bt, bs, xs, st, now, h1, h2, rfl⟩ := h
  exact RI.len_any h1 h2 hn
end

namespace SA
def M0 : Nat → Option Int := fun _ => none
def M1 : Nat → Option Int := SM.upd M0 1 (some 7)
section
variable {w : World} {B p : Nat} {F : Nat → Prop}
theorem s1 (h : ObjI w B p 3 M0 F) : Calls Try.prog 9 #[.pointer (some ⟨p, 0, none⟩), .int .i64 1, .int .i64 7] w fun e w' => e = .returned (.int .i64 0) ∧ ObjI w' B p 3 M1 F ∧ Keeps F w w' := oi_set h (by decide) 1 7
theorem s2 (h : ObjI w B p 3 M1 F) : Calls Try.prog 9 #[.pointer (some ⟨p, 0, none⟩), .int .i64 3, .int .i64 7] w fun e w' => e = .returned (.int .i64 1) ∧ ObjI w' B p 3 M1 F ∧ Keeps F w w' := oi_set h (by decide) 3 7
theorem g1 (h : ObjI w B p 3 M1 F) : Calls Try.prog 23 #[.pointer (some ⟨p, 0, none⟩), .int .i64 1] w fun e w' => e = .returned (.tuple #[.int .i64 7, .bool true]) ∧ Below w.heap.size w w' := oi_get h 1
theorem g0 (h : ObjI w B p 3 M0 F) : Calls Try.prog 23 #[.pointer (some ⟨p, 0, none⟩), .int .i64 1] w fun e w' => e = .returned (.tuple #[.int .i64 0, .bool false]) ∧ Below w.heap.size w w' := oi_get h 1
theorem l1 (h : ObjI w B p 3 M1 F) : Calls Try.prog 24 #[.pointer (some ⟨p, 0, none⟩)] w fun e w' => e = .returned (.int .i64 1) ∧ w' = w := oi_len h (by decide)
theorem l0 (h : ObjI w B p 3 M0 F) : Calls Try.prog 24 #[.pointer (some ⟨p, 0, none⟩)] w fun e w' => e = .returned (.int .i64 0) ∧ w' = w := oi_len h (by decide)
theorem c1 (h : ObjI w B p 3 M1 F) : Calls Try.prog 12 #[.pointer (some ⟨p, 0, none⟩)] w fun e w' => e = .returned (.tuple #[]) ∧ ObjI w' B p 3 M0 F ∧ Keeps F w w' := oi_clear h
theorem n0 (w : World) : Calls Try.prog 7 #[.int .i64 3] w fun e w' => ∃ p F, e = .returned (.tuple #[.pointer (some ⟨p, 0, none⟩), .int .i64 0]) ∧ ObjI w' w.heap.size p 3 M0 F ∧ Below w.heap.size w w' := oi_new 3 (by decide) w
end
end SA
set_option maxHeartbeats 4000000 in
set_option maxRecDepth 100000 in
theorem awake_any (w : World) : Calls Try.prog 6 #[] w fun e w' => e = .returned (.bool true) ∧ Below w.heap.size w w' := by
  have n1 := SA.n0 w
  go_enter Try.func6, Try.ntmps6
  go_wp2_with fail
  refine n1.mono ?_
  rintro e w1 ⟨p, F, rfl, h1, b1⟩
  have n2 := RI.new_bad 65 (by decide) w1
  clear n1
  go_wp2_with fail
  refine n2.mono ?_
  rintro e w1 ⟨rfl, rfl⟩
  clear n2
  have s1 := SA.s1 h1
  go_wp2_with fail
  refine s1.mono ?_
  rintro e w2 ⟨rfl, h2, k2⟩
  have b2 := b1.trans (h1.rest k2)
  clear s1 h1 b1 k2
  have s2 := SA.s2 h2
  go_wp2_with fail
  refine s2.mono ?_
  rintro e w3 ⟨rfl, h3, k3⟩
  have b3 := b2.trans (h2.rest k3)
  clear s2 h2 b2 k3
  have g3 := SA.g1 h3
  go_wp2_with fail
  refine g3.mono ?_
  rintro e w4 ⟨rfl, k4⟩
  have h4 := h3.below k4
  have b4 := b3.trans (k4.mono b3.size)
  clear g3 h3 b3 k4
  have l4 := SA.l1 h4
  go_wp2_with fail
  refine l4.mono ?_
  rintro e w5 ⟨rfl, rfl⟩
  clear l4
  have c5 := SA.c1 h4
  go_wp2_with fail
  refine c5.mono ?_
  rintro e w6 ⟨rfl, h6, k6⟩
  have b6 := b4.trans (h4.rest k6)
  clear c5 h4 b4 k6
  have g6 := SA.g0 h6
  go_wp2_with fail
  refine g6.mono ?_
  rintro e w7 ⟨rfl, k7⟩
  have h7 := h6.below k7
  have b7 := b6.trans (k7.mono b6.size)
  clear g6 h6 b6 k7
  have l7 := SA.l0 h7
  go_wp2_with fail
  refine l7.mono ?_
  rintro e w8 ⟨rfl, rfl⟩
  go_wp2_with fail
  go_ret
  exact ⟨rfl, b7⟩
end Go.Proofs.Ytfkfbpkhdneeeaa
