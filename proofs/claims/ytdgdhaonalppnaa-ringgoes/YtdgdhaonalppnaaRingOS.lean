/-
  A stack of the program's as one thing, where things are of type string: New, Push, Pop, Top, Len, Room.
-/
import Derived.Test.YtdgdhaonalppnaaRingObj
import Derived.Test.YtdgdhaonalppnaaRingBS
namespace Go.Proofs.Ytdgdhaonalppnaa
open Go.RowKit

abbrev ObjS := Obj Value.string 9
section
variable {w : World} {B p n : Nat} {L : List ByteArray} {F : Nat → Prop}
theorem oS_new (n : Nat) (h1 : 1 ≤ n) (hn : n ≤ 32) (w : World) :
    Calls Try.prog 17 #[.int .i64 n] w fun e w' => ∃ p F, e = .returned (.tuple #[.pointer (some ⟨p, 0, none⟩), .int .i64 0]) ∧ ObjS w' w.heap.size p n [] F ∧ Below w.heap.size w w' := by
  refine (RS.new_any n h1 hn w).mono ?_
  rintro e w' ⟨p, bt, xs, rfl, h1, h2, h3⟩
  exact ⟨p, _, rfl, ⟨bt, xs, 0, h1, h2, rfl, hn⟩, h3⟩
theorem oS_push (h : ObjS w B p n L F) (v : ByteArray) :
    Calls Try.prog 18 #[.pointer (some ⟨p, 0, none⟩), Value.string v] w fun e w' => e = .returned (.tuple #[Value.string (RK.went n (⟨#[]⟩ : ByteArray) L), .bool (decide (L.length = n))]) ∧ ObjS w' B p n (RK.pushed n L v) F ∧ Keeps F w w' := by
  obtain ⟨bt, xs, o, h1, h2, rfl, hn⟩ := h
  by_cases hl : L.length = n
  · cases L with
    | nil =>
      have := h2.lo
      simp at hl
      omega
    | cons u L =>
      simp only [List.length_cons] at hl
      rw [RK.went_full hl, RK.pushed_full hl, decide_eq_true (by simpa using hl)]
      refine (RS.push_full h1 h2 hn hl v).mono ?_
      rintro e w' ⟨rfl, o', xs', a1, a2, a3⟩
      exact ⟨rfl, ⟨bt, xs', o', by simpa using a1, a2, rfl, hn⟩, a3⟩
  · have hlt : L.length < n := by have := h2.len; omega
    rw [RK.went_room hlt, RK.pushed_room hlt, decide_eq_false hl]
    refine (RS.push_room h1 h2 hn hlt v).mono ?_
    rintro e w' ⟨rfl, xs', a1, a2, a3⟩
    exact ⟨rfl, ⟨bt, xs', o, by simpa using a1, a2, rfl, hn⟩, a3⟩
theorem oS_top (h : ObjS w B p n L F) :
    Calls Try.prog 21 #[.pointer (some ⟨p, 0, none⟩)] w fun e w' => e = .returned (getT Value.string (⟨#[]⟩ : ByteArray) L.getLast?) ∧ Below w.heap.size w w' := by
  obtain ⟨bt, xs, o, h1, h2, rfl, hn⟩ := h
  exact RS.top_any h1 h2 hn
theorem oS_len (h : ObjS w B p n L F) :
    Calls Try.prog 20 #[.pointer (some ⟨p, 0, none⟩)] w fun e w' => e = .returned (.int .i64 (L.length : Nat)) ∧ w' = w := by
  obtain ⟨bt, xs, o, h1, h2, rfl, hn⟩ := h
  exact RS.len_any h1
theorem oS_room (h : ObjS w B p n L F) :
    Calls Try.prog 22 #[.pointer (some ⟨p, 0, none⟩)] w fun e w' => e = .returned (.int .i64 (n : Nat)) ∧ w' = w := by
  obtain ⟨bt, xs, o, h1, h2, rfl, hn⟩ := h
  exact RS.room_any h1
end
end Go.Proofs.Ytdgdhaonalppnaa
