/-
  What settled's iterator has between the rounds (layer 13): the search, four variables of its own; what the rounds may read of it.
-/
import Derived.Test.YtkcfepppnclniaaMmWitSettle
namespace Go.Proofs.Ytkcfepppnclniaa
open Go.RowKit Go.Shelf

/-- What settled hands on: the vertex that is settled. -/
def setV (x : Nat × Int) : Array Value := #[.int .i64 (x.1 : Nat)]
/-- What a round may read: what is noted, and touched. -/
def ZW (B : Nat) (z : Wid) (mp N O : Nat) (D : Nat → Nat → Int) (s : Nat) (Y : Int) (K : Nat) (L : List (Nat × Int)) (X : Nat → Prop) (A : World) : Prop :=
  ∃ k hm T F, WD A B z mp N O k hm T F ∧ WM.noted L k ∧ WM.TT N D (WM.outOf O) L T ∧ WM.Seq N D s (WM.outOf O) Y L ∧ L.length ≤ K ∧ ∀ b, F b → X b
/-- The iterator's own variables, from block c on. -/
structure IB (z : Wid) (s : Nat) (most settles : Int) (c : Nat) (A : World) : Prop where
  b0 : Boxed A c 72 (.pointer (some ⟨z.q, 0, none⟩))
  b1 : Boxed A (c + 1) 3 (.int .i64 (s : Nat))
  b2 : Boxed A (c + 1 + 1) 3 (.int .i64 most)
  b3 : Boxed A (c + 1 + 1 + 1) 3 (.int .i64 settles)
theorem IB.same {z : Wid} {s : Nat} {most settles : Int} {c : Nat} {A A' : World} (h : IB z s most settles c A) (hb : ∀ b, c ≤ b → b < c + 4 → A'.heap[b]? = A.heap[b]?) : IB z s most settles c A' :=
  ⟨(hb c (by omega) (by omega)).trans h.b0, (hb (c + 1) (by omega) (by omega)).trans h.b1, (hb (c + 1 + 1) (by omega) (by omega)).trans h.b2, (hb (c + 1 + 1 + 1) (by omega) (by omega)).trans h.b3⟩
theorem IB.lt {z : Wid} {s : Nat} {most settles : Int} {c : Nat} {A : World} (h : IB z s most settles c A) : c + 4 ≤ A.heap.size := by
  have := h.b3.lt
  omega
/-- All of it, ahead of the first round. -/
def Z0 (B : Nat) (z : Wid) (mp N O s : Nat) (most settles : Int) (c : Nat) (X : Nat → Prop) (A : World) : Prop :=
  ∃ F, WD A B z mp N O (fun _ => none) (fun _ => none) 0 F ∧ IB z s most settles c A ∧ (∀ b, F b → X b ∧ ¬ (c ≤ b ∧ b < c + 4)) ∧ ∀ b, c ≤ b → b < c + 4 → X b
/-- All of it, between the rounds. -/
def ZS (B : Nat) (z : Wid) (mp N O : Nat) (D : Nat → Nat → Int) (s : Nat) (most settles : Int) (c : Nat) (L : List (Nat × Int)) (X : Nat → Prop) (A : World) : Prop :=
  ∃ k hm T F, WD A B z mp N O k hm T F ∧ WM.noted L k ∧ WM.Waits N D s (WM.outOf O) L hm ∧ WM.TT N D (WM.outOf O) L T ∧ WM.Seq N D s (WM.outOf O) (DM.norm most) L ∧ L.length ≤ settles.toNat ∧ IB z s most settles c A ∧ (∀ b, F b → X b ∧ ¬ (c ≤ b ∧ b < c + 4)) ∧ ∀ b, c ≤ b → b < c + 4 → X b
section
variable {B : Nat} {z : Wid} {mp N O : Nat} {D : Nat → Nat → Int} {s : Nat} {Y most settles : Int} {K c : Nat} {L : List (Nat × Int)} {X X' : Nat → Prop} {A A' : World}
theorem ZW.rest (h : ZW B z mp N O D s Y K L X A) (hr : Rest X A A') : ZW B z mp N O D s Y K L X A' := by
  obtain ⟨k, hm, T, F, h1, h2, h3, h4, h5, h6⟩ := h
  exact ⟨k, hm, T, F, h1.kept hr (fun b hb hc => hc (h6 b hb)), h2, h3, h4, h5, h6⟩
theorem Z0.rest (h : Z0 B z mp N O s most settles c X A) (hr : Rest X A A') : Z0 B z mp N O s most settles c X A' := by
  obtain ⟨F, h1, h2, h3, h4⟩ := h
  have hl := h2.lt
  exact ⟨F, h1.kept hr (fun b hb hc => hc (h3 b hb).1), h2.same (fun b b1 b2 => hr.block b (by omega) (fun hc => hc (h4 b b1 b2))), h3, h4⟩
theorem ZS.rest (h : ZS B z mp N O D s most settles c L X A) (hr : Rest X A A') : ZS B z mp N O D s most settles c L X A' := by
  obtain ⟨k, hm, T, F, h1, h2, h3, h4, h5, h6, h7, h8, h9⟩ := h
  have hl := h7.lt
  exact ⟨k, hm, T, F, h1.kept hr (fun b hb hc => hc (h8 b hb).1), h2, h3, h4, h5, h6, h7.same (fun b b1 b2 => hr.block b (by omega) (fun hc => hc (h9 b b1 b2))), h8, h9⟩
theorem ZS.weak (h : ZS B z mp N O D s most settles c L X A) : ZW B z mp N O D s (DM.norm most) settles.toNat L X A := by
  obtain ⟨k, hm, T, F, h1, h2, h3, h4, h5, h6, h7, h8, h9⟩ := h
  exact ⟨k, hm, T, F, h1, h2, h4, h5, h6, fun b hb => (h8 b hb).1⟩
/-- Either nothing waits, or one is first. -/
theorem WD.either {k : Nat → Option Int} {hm : Nat → Option Int} {T : Nat} {F : Nat → Prop} (h : WD A B z mp N O k hm T F) : (∀ t, hm t = none) ∨ ∃ x, HM.IsFirst HM.TI hm x := by
  obtain ⟨-, -, -, -, -, -, ⟨bp, bc, lv, line, place, come, h1, h2, -⟩, -, -, -, -, -⟩ := h
  by_cases h0 : line.length = 0
  · exact .inl (h2.empty h0)
  · exact .inr ⟨_, h2.first (by omega)⟩
/-- X with what was laid meanwhile. -/
theorem grow_lt (h : ∀ b, X b → b < A.heap.size) (hs : A.heap.size ≤ A'.heap.size) : ∀ b, grow X A A' b → b < A'.heap.size := fun b hb => by
  rcases hb with hb | hb
  · have := h b hb
    omega
  · exact hb.2
theorem grow_apart {α : Type} {J : List α → (Nat → Prop) → World → Prop} (hJ : Apart J) {l : List α} (h : J l X A) (hk : Keeps X A A') : J l (grow X A A') A' := hJ _ _ _ _ _ h hk (fun _ hb => hb.imp id (·.1))
/-- The first vertex waits. -/
theorem Z0.begin (h : Z0 B z mp N O s most settles c X A) (_hX : ∀ b, X b → b < A.heap.size) (hB : B ≤ A.heap.size) (hs : s < N) (hO : WM.outOf O s = false) :
    Calls Try.prog 52 #[.pointer (some ⟨z.p, 0, none⟩), .int .i64 (s : Nat), .int .i64 0] A fun e A' => e = .returned (.int .i64 0) ∧ Keeps X A A' ∧ ZS B z mp N O D s most settles c [] (grow X A A') A' := by
  obtain ⟨F, h1, h2, h3, h4⟩ := h
  have hl := h2.lt
  have hp := h1.put hB s 0
  have hc : HM.code HM.TI N (fun _ => none) (s : Int) 0 = 0 := by
    unfold HM.code
    rw [if_pos (by omega)]
  unfold HM.put at hp
  rw [if_pos hc, hc, Int.toNat_natCast] at hp
  refine hp.mono ?_
  rintro e A' ⟨rfl, hk, hwd⟩
  have hkX : Keeps X A A' := hk.mono (fun b hb => (h3 b hb).1)
  refine ⟨rfl, hkX, _, _, 0, _, hwd, WM.noted_nil, WM.Waits.begin hs hO, WM.TT.zero, .nil, Nat.zero_le _, h2.same (fun b b1 b2 => hk.block b (by omega) (fun hf => (h3 b hf).2 ⟨b1, b2⟩)), fun b hb => ?_, fun b b1 b2 => .inl (h4 b b1 b2)⟩
  rcases hb with hb | hb
  · exact ⟨.inl (h3 b hb).1, (h3 b hb).2⟩
  · exact ⟨.inr hb, by omega⟩
end
/-- A round's search: the first one is out, and nothing else is turned yet. -/
def ZP (B : Nat) (z : Wid) (mp N O : Nat) (D : Nat → Nat → Int) (s : Nat) (most settles : Int) (c : Nat) (L : List (Nat × Int)) (v : Nat) (d : Int) (X : Nat → Prop) (A : World) : Prop :=
  ∃ k hm T F, WD A B z mp N O k hm T F ∧ WM.noted L k ∧ WM.MidL N D (WM.outOf O) L (v, d) [] hm ∧ WM.TT N D (WM.outOf O) L T ∧ WM.Seq N D s (WM.outOf O) (DM.norm most) L ∧ WM.Next N D s (WM.outOf O) L v d ∧ L.length ≤ settles.toNat ∧ IB z s most settles c A ∧ (∀ b, F b → X b ∧ ¬ (c ≤ b ∧ b < c + 4)) ∧ ∀ b, c ≤ b → b < c + 4 → X b
section
variable {B : Nat} {z : Wid} {mp N O : Nat} {D : Nat → Nat → Int} {s : Nat} {Y most settles : Int} {K c : Nat} {L : List (Nat × Int)} {v : Nat} {d : Int} {X X' : Nat → Prop} {A A' : World}
theorem ZP.weak (h : ZP B z mp N O D s most settles c L v d X A) : ZW B z mp N O D s (DM.norm most) settles.toNat L X A := by
  obtain ⟨k, hm, T, F, h1, h2, h3, h4, h5, h6, h7, h8, h9, -⟩ := h
  exact ⟨k, hm, T, F, h1, h2, h4, h5, h7, fun b hb => (h9 b hb).1⟩
/-- What Pop does: nothing more may be settled, or the next one comes out. -/
theorem ZS.pop (h : ZS B z mp N O D s most settles c L X A) (hs : s < N) (hO : WM.outOf O s = false) :
    (WM.Stuck N D s (WM.outOf O) (DM.norm most) L ∧ Calls Try.prog 53 #[.pointer (some ⟨z.p, 0, none⟩)] A fun e A' => e = .returned (.tuple #[.int .i64 0, .int .i64 0, .bool false]) ∧ Keeps X A A' ∧ ZW B z mp N O D s (DM.norm most) settles.toNat L X A') ∨
    ∃ v d, WM.Next N D s (WM.outOf O) L v d ∧ Calls Try.prog 53 #[.pointer (some ⟨z.p, 0, none⟩)] A fun e A' => e = .returned (.tuple #[.int .i64 (v : Nat), .int .i64 d, .bool true]) ∧ Keeps X A A' ∧ ZP B z mp N O D s most settles c L v d X A' := by
  obtain ⟨k, hm, T, F, h1, h2, h3, h4, h5, h6, h7, h8, h9⟩ := h
  have hl := h7.lt
  have hp := h1.pop
  rcases h1.either with h0 | ⟨⟨v, d⟩, hf⟩
  · refine .inl ⟨h3.stuck h0 _, ?_⟩
    rw [HM.firstOf_none h0] at hp
    refine hp.mono ?_
    rintro e A' ⟨rfl, hk, hwd⟩
    exact ⟨rfl, hk.mono (fun b hb => (h8 b hb).1), k, _, T, F, hwd, h2, h4, h5, h6, fun b hb => (h8 b hb).1⟩
  · have hn := h3.next hf
    refine .inr ⟨v, d, hn, ?_⟩
    have e1 : HM.popped HM.TI hm = HM.upd hm v none := by
      unfold HM.popped
      rw [HM.firstOf_eq hf]
    rw [HM.firstOf_eq hf, e1] at hp
    refine hp.mono ?_
    rintro e A' ⟨rfl, hk, hwd⟩
    exact ⟨rfl, hk.mono (fun b hb => (h8 b hb).1), k, _, T, F, hwd, h2, (h3.out hn hs hO).congr (fun w => by simp [WM.has_nil]), h4, h5, hn, h6, h7.same (fun b b1 b2 => hk.block b (by omega) (fun hf => (h8 b hf).2 ⟨b1, b2⟩)), h8, h9⟩
/-- The next one is settled. -/
theorem ZP.settle (h : ZP B z mp N O D s most settles c L v d X A) (hB : B ≤ A.heap.size) (hx : XMem A mp N D) (hmp : mp < B) (hmm : XM.Mesh N D) (hO : O < 18446744073709551616) (hd : d ≤ DM.norm most) (hlt : L.length < settles.toNat) :
    Calls Try.prog 55 #[.pointer (some ⟨z.q, 0, none⟩), .int .i64 (v : Nat), .int .i64 d] A fun e A' => e = .returned (.tuple #[]) ∧ Keeps X A A' ∧ ZS B z mp N O D s most settles c (L ++ [(v, d)]) (grow X A A') A' := by
  obtain ⟨k, hm, T, F, h1, h2, h3, h4, h5, h6, h7, h8, h9, h10⟩ := h
  have hl := h8.lt
  have hkb := WM.key_bd D s L v
  rw [h6.is] at hkb
  refine (settle_any (s := s) h1 hB hx hmp hmm hO h6.free.1 ⟨hkb.1, h6.lt⟩ h2 h6.free.2.2 h3 h4).mono ?_
  rintro e A' ⟨rfl, k', hm', T', F', q1, q2, q3, q4, q5, q6⟩
  refine ⟨rfl, q5.mono (fun b hb => (h9 b hb).1), k', hm', T', F', q1, q2, q3, q4, .snoc h5 h6 hd, by rw [List.length_append]; exact hlt, h8.same (fun b b1 b2 => q5.block b (by omega) (fun hf => (h9 b hf).2 ⟨b1, b2⟩)), fun b hb => ?_, fun b b1 b2 => .inl (h10 b b1 b2)⟩
  have hb2 := (q1.lt b hb).2
  rcases q6 b hb with hb | hb
  · exact ⟨.inl (h9 b hb).1, (h9 b hb).2⟩
  · exact ⟨.inr ⟨hb, hb2⟩, by omega⟩
end
end Go.Proofs.Ytkcfepppnclniaa
