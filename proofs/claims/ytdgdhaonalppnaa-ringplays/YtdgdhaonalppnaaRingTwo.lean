/-
  A stack of the program's, and behind it one of the reference's.
-/
import Derived.Test.YtdgdhaonalppnaaRingRef
import Derived.Test.YtdgdhaonalppnaaRingOI
namespace Go.Proofs.Ytdgdhaonalppnaa
open Go.RowKit

/-- The program's stack in block p, on which L lies; the reference's in block q, on which M lies, all of whose blocks lie behind the program's. -/
def Two (w : World) (B p q n : Nat) (L M : List Int) : Prop := ∃ F v, ObjI w B p n L F ∧ RMem w q n v M ∧ M.length ≤ n ∧ (∀ b, F b → b < q) ∧ B ≤ q
section
variable {w w' : World} {B p q n : Nat} {L M : List Int}
theorem Two.below (h : Two w B p q n L M) (hb : Below w.heap.size w w') : Two w' B p q n L M := by
  obtain ⟨F, v, h1, h2, h3, h4, h5⟩ := h
  exact ⟨F, v, h1.below hb, h2.below hb, h3, h4, h5⟩
theorem Two.base (h : Two w B p q n L M) : B ≤ w.heap.size := by
  obtain ⟨F, v, h1, -⟩ := h
  exact h1.base
theorem Two.cell (h : Two w B p q n L M) : ∃ ao cap, w.cell? ⟨q, 1, none⟩ = some (.slice ao M.length cap) := by
  obtain ⟨F, v, h1, h2, -⟩ := h
  obtain ⟨ao, cap, rfl, -⟩ := h2.own.at
  exact ⟨ao, cap, h2.c1⟩
/-- The reference's stack, just made. -/
theorem two_new {F : Nat → Prop} (h : ObjI w B p n L F) {sty : TypeId} {q : Nat} (hq : q = w.heap.size) : Two (w.alloc (.cells #[.int .i64 (n : Nat), .slice none 0 0] sty)) B p q n L [] := by
  subst hq
  exact ⟨F, .slice none 0 0, h.below ((Below.refl _ _).alloc (Nat.le_refl _) _), ⟨by simp, by simp, by simp, Own.nil _ _ _ _⟩, by simp, fun b hb => (h.lt b hb).2, h.base⟩
/-- Behind a call that turns the program's blocks alone. -/
theorem two_mine {F : Nat → Prop} {v : Value} {L' : List Int} (h1 : ObjI w B p n L F) (h2 : RMem w q n v M) (h3 : M.length ≤ n) (h4 : ∀ b, F b → b < q) (h5 : B ≤ q) (hk : Keeps F w w') (h1' : ObjI w' B p n L' F) : Two w' B p q n L' M ∧ Below B w w' :=
  ⟨⟨F, v, h1', h2.kept hk (fun b hb hf => by have := h4 b hf; omega), h3, h4, h5⟩, h1.rest hk⟩
/-- Behind a call that turns the reference's alone. -/
theorem two_its {F : Nat → Prop} {v' : Value} {M' : List Int} (h1 : ObjI w B p n L F) (h3 : M'.length ≤ n) (h4 : ∀ b, F b → b < q) (h5 : B ≤ q) (hb : Below q w w') (h2' : RMem w' q n v' M') : Two w' B p q n L M' ∧ Below B w w' := by
  have hk : Keeps (fun b => q ≤ b) w w' := ⟨hb.os, hb.tape, hb.output, hb.size, fun k _ hn => hb.block k (by omega)⟩
  exact ⟨⟨F, v', h1.kept hk (fun b hf hq => by have := h4 b hf; omega), h2', h3, h4, h5⟩, hb.mono h5⟩
theorem x_push (h : Two w B p q n L M) (v : Int) :
    Calls Try.prog 11 #[.pointer (some ⟨p, 0, none⟩), .int .i64 v] w fun e w' => e = .returned (.tuple #[.int .i64 (RK.went n 0 L), .bool (decide (L.length = n))]) ∧ Two w' B p q n (RK.pushed n L v) M ∧ Below B w w' := by
  obtain ⟨F, u, h1, h2, h3, h4, h5⟩ := h
  refine (oI_push h1 v).mono ?_
  rintro e w' ⟨rfl, a1, a2⟩
  exact ⟨rfl, two_mine h1 h2 h3 h4 h5 a2 a1⟩
theorem x_pop (h : Two w B p q n L M) :
    Calls Try.prog 9 #[.pointer (some ⟨p, 0, none⟩)] w fun e w' => e = .returned (getT (Value.int .i64) 0 L.getLast?) ∧ Two w' B p q n L.dropLast M ∧ Below B w w' := by
  obtain ⟨F, u, h1, h2, h3, h4, h5⟩ := h
  refine (oI_pop h1).mono ?_
  rintro e w' ⟨rfl, a1, a2⟩
  exact ⟨rfl, two_mine h1 h2 h3 h4 h5 a2 a1⟩
theorem x_top (h : Two w B p q n L M) :
    Calls Try.prog 13 #[.pointer (some ⟨p, 0, none⟩)] w fun e w' => e = .returned (getT (Value.int .i64) 0 L.getLast?) ∧ Two w' B p q n L M ∧ Below B w w' := by
  have hB := h.base
  have h0 := h
  obtain ⟨F, u, h1, h2, h3, h4, h5⟩ := h
  refine (oI_top h1).mono ?_
  rintro e w' ⟨rfl, a1⟩
  exact ⟨rfl, h0.below a1, a1.mono hB⟩
theorem x_len (h : Two w B p q n L M) :
    Calls Try.prog 15 #[.pointer (some ⟨p, 0, none⟩)] w fun e w' => e = .returned (.int .i64 (L.length : Nat)) ∧ w' = w := by
  obtain ⟨F, u, h1, -⟩ := h
  exact oI_len h1
theorem x_room (h : Two w B p q n L M) :
    Calls Try.prog 16 #[.pointer (some ⟨p, 0, none⟩)] w fun e w' => e = .returned (.int .i64 (n : Nat)) ∧ w' = w := by
  obtain ⟨F, u, h1, -⟩ := h
  exact oI_room h1
theorem x_rpush (h : Two w B p q n L M) (x : Int) :
    Calls Try.prog 12 #[.pointer (some ⟨q, 0, none⟩), .int .i64 x] w fun e w' => e = .returned (.tuple #[.int .i64 (RK.went n 0 M), .bool (decide (M.length = n))]) ∧ Two w' B p q n L (RK.pushed n M x) ∧ Below B w w' := by
  obtain ⟨F, u, h1, h2, h3, h4, h5⟩ := h
  obtain ⟨-, l1, l2⟩ := h1.len
  have hpl := (RK.pushed_len l1 h3 x).1
  by_cases hl : M.length = n
  · cases M with
    | nil =>
      simp at hl
      omega
    | cons y M =>
      simp only [List.length_cons] at hl
      rw [RK.went_full hl, decide_eq_true (by simpa using hl)]
      rw [RK.pushed_full hl] at hpl ⊢
      refine (rpush_full h2 l2 hl x).mono ?_
      rintro e w' ⟨rfl, v', a1, a2⟩
      exact ⟨rfl, two_its h1 hpl h4 h5 a2 a1⟩
  · have hlt : M.length < n := by omega
    rw [RK.went_room hlt, decide_eq_false hl]
    rw [RK.pushed_room hlt] at hpl ⊢
    refine (rpush_room h2 l2 hlt x).mono ?_
    rintro e w' ⟨rfl, v', a1, a2⟩
    exact ⟨rfl, two_its h1 hpl h4 h5 a2 a1⟩
theorem x_rpop (h : Two w B p q n L M) :
    Calls Try.prog 10 #[.pointer (some ⟨q, 0, none⟩)] w fun e w' => e = .returned (getT (Value.int .i64) 0 M.getLast?) ∧ Two w' B p q n L M.dropLast ∧ Below B w w' := by
  obtain ⟨F, u, h1, h2, h3, h4, h5⟩ := h
  obtain ⟨-, l1, l2⟩ := h1.len
  refine (rpop_any h2 (by omega)).mono ?_
  rintro e w' ⟨rfl, v', a1, a2⟩
  exact ⟨rfl, two_its h1 (by simp; omega) h4 h5 a2 a1⟩
theorem x_rtop (h : Two w B p q n L M) :
    Calls Try.prog 14 #[.pointer (some ⟨q, 0, none⟩)] w fun e w' => e = .returned (getT (Value.int .i64) 0 M.getLast?) ∧ Two w' B p q n L M ∧ Below B w w' := by
  have hB := h.base
  have h0 := h
  obtain ⟨F, u, h1, h2, h3, h4, h5⟩ := h
  obtain ⟨-, l1, l2⟩ := h1.len
  refine (rtop_any h2 (by omega)).mono ?_
  rintro e w' ⟨rfl, m, rfl⟩
  exact ⟨rfl, h0.below (below_drewN (Below.refl _ _) _), below_drewN (Below.refl _ _) _⟩
theorem getT_form (o : Option Int) : ∃ z b, getT (Value.int .i64) 0 o = .tuple #[.int .i64 z, .bool b] := by
  cases o with
  | none => exact ⟨0, false, rfl⟩
  | some v => exact ⟨v, true, rfl⟩
end
end Go.Proofs.Ytdgdhaonalppnaa
