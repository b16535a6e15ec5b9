/-
  A stack of the program's as one thing, where things are of type int: New, Push, Pop, Top, Len, Room.
-/
import Derived.Test.YtdgdhaonalppnaaRingObj
import Derived.Test.YtdgdhaonalppnaaRingBI
namespace Go.Proofs.Ytdgdhaonalppnaa
open Go.RowKit

abbrev ObjI := Obj (Value.int .i64) 3
section
variable {w : World} {B p n : Nat} {L : List Int} {F : Nat → Prop}
theorem oI_new (n : Nat) (h1 : 1 ≤ n) (hn : n ≤ 32) (w : World) :
    Calls Try.prog 8 #[.int .i64 n] w fun e w' => ∃ p F, e = .returned (.tuple #[.pointer (some ⟨p, 0, none⟩), .int .i64 0]) ∧ ObjI w' w.heap.size p n [] F ∧ Below w.heap.size w w' := by
  refine (RI.new_any n h1 hn w).mono ?_
  rintro e w' ⟨p, bt, xs, rfl, h1, h2, h3⟩
  exact ⟨p, _, rfl, ⟨bt, xs, 0, h1, h2, rfl, hn⟩, h3⟩
theorem oI_push (h : ObjI w B p n L F) (v : Int) :
    Calls Try.prog 11 #[.pointer (some ⟨p, 0, none⟩), (Value.int .i64) v] w fun e w' => e = .returned (.tuple #[(Value.int .i64) (RK.went n (0 : Int) L), .bool (decide (L.length = n))]) ∧ ObjI w' B p n (RK.pushed n L v) F ∧ Keeps F w w' := by
  obtain ⟨bt, xs, o, h1, h2, rfl, hn⟩ := h
  by_cases hl : L.length = n
  · cases L with
    | nil =>
      have := h2.lo
      simp at hl
      omega
    | cons u L =>
      simp only [List.length_cons] at hl
      rw [RK.went_full hl, RK.pushed_full hl, decide_eq_true (by simpa using hl)]
      refine (RI.push_full h1 h2 hn hl v).mono ?_
      rintro e w' ⟨rfl, o', xs', a1, a2, a3⟩
      exact ⟨rfl, ⟨bt, xs', o', by simpa using a1, a2, rfl, hn⟩, a3⟩
  · have hlt : L.length < n := by have := h2.len; omega
    rw [RK.went_room hlt, RK.pushed_room hlt, decide_eq_false hl]
    refine (RI.push_room h1 h2 hn hlt v).mono ?_
    rintro e w' ⟨rfl, xs', a1, a2, a3⟩
    exact ⟨rfl, ⟨bt, xs', o, by simpa using a1, a2, rfl, hn⟩, a3⟩
theorem oI_pop (h : ObjI w B p n L F) :
    Calls Try.prog 9 #[.pointer (some ⟨p, 0, none⟩)] w fun e w' => e = .returned (getT (Value.int .i64) (0 : Int) L.getLast?) ∧ ObjI w' B p n L.dropLast F ∧ Keeps F w w' := by
  obtain ⟨bt, xs, o, h1, h2, rfl, hn⟩ := h
  refine (RI.pop_any h1 h2 hn).mono ?_
  rintro e w' ⟨rfl, xs', a1, a2, a3⟩
  exact ⟨rfl, ⟨bt, xs', o, a1, a2, rfl, hn⟩, a3⟩
theorem oI_top (h : ObjI w B p n L F) :
    Calls Try.prog 13 #[.pointer (some ⟨p, 0, none⟩)] w fun e w' => e = .returned (getT (Value.int .i64) (0 : Int) L.getLast?) ∧ Below w.heap.size w w' := by
  obtain ⟨bt, xs, o, h1, h2, rfl, hn⟩ := h
  exact RI.top_any h1 h2 hn
theorem oI_len (h : ObjI w B p n L F) :
    Calls Try.prog 15 #[.pointer (some ⟨p, 0, none⟩)] w fun e w' => e = .returned (.int .i64 (L.length : Nat)) ∧ w' = w := by
  obtain ⟨bt, xs, o, h1, h2, rfl, hn⟩ := h
  exact RI.len_any h1
theorem oI_room (h : ObjI w B p n L F) :
    Calls Try.prog 16 #[.pointer (some ⟨p, 0, none⟩)] w fun e w' => e = .returned (.int .i64 (n : Nat)) ∧ w' = w := by
  obtain ⟨bt, xs, o, h1, h2, rfl, hn⟩ := h
  exact RI.room_any h1
end
end Go.Proofs.Ytdgdhaonalppnaa
