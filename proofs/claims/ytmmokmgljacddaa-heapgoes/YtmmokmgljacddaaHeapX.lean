/-
  A heap of the program's, one of the reference's, and blocks that both leave alone.
-/
import Derived.Test.YtmmokmgljacddaaHeapSortsW
import Derived.Test.YtmmokmgljacddaaHeapActs
namespace Go.Proofs.Ytmmokmgljacddaa
open Go.RowKit

/-- Both heaps, and blocks X of neither. -/
def TwoX (w : World) (B p q n : Nat) (m mr : Nat → Option Int) (X : Nat → Prop) : Prop := ∃ F G, Hp w B p n m F ∧ Rf w B q n mr G ∧ (∀ b, F b → ¬ G b) ∧ ∀ b, X b → b < w.heap.size ∧ ¬ F b ∧ ¬ G b
/-- What all but X may have become. -/
def Rest (X : Nat → Prop) (w w' : World) : Prop := Keeps (fun b => ¬ X b) w w'
theorem Rest.trans {X : Nat → Prop} {a b c : World} (h : Rest X a b) (k : Rest X b c) : Rest X a c := Keeps.trans h k (fun _ hx => .inl hx)
theorem Rest.cell {X : Nat → Prop} {w w' : World} (h : Rest X w w') {p : Addr} {v : Value} (hc : w.cell? p = some v) (hp : X p.block) : w'.cell? p = some v := Keeps.cell h hc (fun hn => hn hp)
theorem Rest.frozen {X : Nat → Prop} {w w' : World} (h : Rest X w w') {p : Addr} (hl : p.block < w.heap.size) (hp : X p.block) : w'.frozen? p = w.frozen? p := Keeps.frozen h hl (fun hn => hn hp)
theorem Rest.below {X : Nat → Prop} {w w' : World} {B : Nat} (h : Rest X w w') (hX : ∀ b, b < B → X b) (hB : B ≤ w.heap.size) : Below B w w' :=
  Keeps.below h (fun b hb => by
    rcases Nat.lt_or_ge b B with h' | h'
    · exact absurd (hX b h') hb
    · exact h') hB
theorem Rest.of_below {X : Nat → Prop} {w w' : World} (h : Below w.heap.size w w') : Rest X w w' := Below.keeps h _
theorem TwoX.two {w : World} {B p q n : Nat} {m mr : Nat → Option Int} {X : Nat → Prop} (h : TwoX w B p q n m mr X) : Two w B p q n m mr := by
  obtain ⟨F, G, h1, h2, h3, _⟩ := h
  exact ⟨F, G, h1, h2, h3⟩
theorem Two.guest {w w' : World} {B p q n g : Nat} {m mr : Nat → Option Int} (h : Two w B p q n m mr) (hb : Below w.heap.size w w') (hg : w.heap.size ≤ g) (hg' : g < w'.heap.size) : TwoX w' B p q n m mr (fun b => b < B ∨ b = g) := by
  have hB := h.base
  obtain ⟨F, G, h1, h2, h3⟩ := h
  have hs := hb.size
  refine ⟨F, G, h1.kept (Below.keeps hb (fun _ => False)) (fun _ _ h => h), h2.kept (Below.keeps hb (fun _ => False)) (fun _ _ h => h), h3, fun b hX => ⟨by omega, fun hf => ?_, fun hf => ?_⟩⟩
  · have := h1.lt b hf
    omega
  · have := h2.lt b hf
    omega
theorem TwoX.below {w w' : World} {B p q n : Nat} {m mr : Nat → Option Int} {X : Nat → Prop} (h : TwoX w B p q n m mr X) (hb : Below w.heap.size w w') : TwoX w' B p q n m mr X := by
  obtain ⟨F, G, h1, h2, h3, h4⟩ := h
  exact ⟨F, G, h1.kept (Below.keeps hb (fun _ => False)) (fun _ _ h => h), h2.kept (Below.keeps hb (fun _ => False)) (fun _ _ h => h), h3, fun b hX => ⟨Nat.lt_of_lt_of_le (h4 b hX).1 hb.size, (h4 b hX).2⟩⟩
theorem TwoX.of {w w' : World} {B p q n : Nat} {m m' mr : Nat → Option Int} {X F F' G : Nat → Prop} (_h1 : Hp w B p n m F) (h2 : Rf w B q n mr G) (h3 : ∀ b, F b → ¬ G b) (h4 : ∀ b, X b → b < w.heap.size ∧ ¬ F b ∧ ¬ G b) (a1 : Hp w' B p n m' F') (a2 : Keeps F w w') (a3 : ∀ b, F' b → F b ∨ w.heap.size ≤ b) : TwoX w' B p q n m' mr X ∧ Rest X w w' := by
  refine ⟨⟨F', G, a1, h2.kept a2 (fun b hb hf => h3 b hf hb), fun b hb hg => ?_, fun b hX => ⟨Nat.lt_of_lt_of_le (h4 b hX).1 a2.size, fun hf => ?_, (h4 b hX).2.2⟩⟩, a2.mono (fun b hf hX => (h4 b hX).2.1 hf)⟩
  · rcases a3 b hb with h | h
    · exact h3 b h hg
    · have := (h2.lt b hg).2
      omega
  · rcases a3 b hf with h | h
    · exact (h4 b hX).2.1 h
    · have := (h4 b hX).1
      omega
theorem TwoX.ofR {w w' : World} {B p q n : Nat} {m mr mr' : Nat → Option Int} {X F G : Nat → Prop} (h1 : Hp w B p n m F) (_h2 : Rf w B q n mr G) (h3 : ∀ b, F b → ¬ G b) (h4 : ∀ b, X b → b < w.heap.size ∧ ¬ F b ∧ ¬ G b) (a1 : Rf w' B q n mr' G) (a2 : Keeps G w w') : TwoX w' B p q n m mr' X ∧ Rest X w w' :=
  ⟨⟨F, G, h1.kept a2 h3, a1, h3, fun b hX => ⟨Nat.lt_of_lt_of_le (h4 b hX).1 a2.size, (h4 b hX).2⟩⟩, a2.mono (fun b hf hX => (h4 b hX).2.2 hf)⟩
section
variable {w : World} {B p q n : Nat} {m mr : Nat → Option Int} {X : Nat → Prop}
theorem x_put (h : TwoX w B p q n m mr X) (hn : n ≤ 64) (t v : Int) :
    Calls Try.prog 11 #[.pointer (some ⟨p, 0, none⟩), .int .i64 t, .int .i64 v] w fun e w' => e = .returned (.int .i64 (HM.code HM.TI n m t v)) ∧ TwoX w' B p q n (HM.put HM.TI n m t v) mr X ∧ Rest X w w' := by
  obtain ⟨F, G, h1, h2, h3, h4⟩ := h
  refine (hp_put h1 hn t v).mono ?_
  rintro e w' ⟨rfl, F', a1, a2, a3⟩
  exact ⟨rfl, TwoX.of h1 h2 h3 h4 a1 a2 a3⟩
theorem x_pop (h : TwoX w B p q n m mr X) (hn : n ≤ 64) :
    Calls Try.prog 13 #[.pointer (some ⟨p, 0, none⟩)] w fun e w' => e = .returned (peekT (Value.int .i64) 0 (HM.firstOf HM.TI m)) ∧ TwoX w' B p q n (HM.popped HM.TI m) mr X ∧ Rest X w w' := by
  obtain ⟨F, G, h1, h2, h3, h4⟩ := h
  refine (hp_pop h1 hn).mono ?_
  rintro e w' ⟨rfl, F', a1, a2, a3⟩
  exact ⟨rfl, TwoX.of h1 h2 h3 h4 a1 a2 a3⟩
theorem x_peek (h : TwoX w B p q n m mr X) :
    Calls Try.prog 15 #[.pointer (some ⟨p, 0, none⟩)] w fun e w' => e = .returned (peekT (Value.int .i64) 0 (HM.firstOf HM.TI m)) ∧ TwoX w' B p q n m mr X ∧ Rest X w w' := by
  have h0 := h
  obtain ⟨F, G, h, _⟩ := h
  refine (hp_peek h).mono ?_
  rintro e w' ⟨rfl, a1⟩
  exact ⟨rfl, h0.below a1, Rest.of_below a1⟩
theorem x_at (h : TwoX w B p q n m mr X) (t : Int) :
    Calls Try.prog 17 #[.pointer (some ⟨p, 0, none⟩), .int .i64 t] w fun e w' => e = .returned (atT (Value.int .i64) 0 (HM.look m t)) ∧ TwoX w' B p q n m mr X ∧ Rest X w w' := by
  have h0 := h
  obtain ⟨F, G, h, _⟩ := h
  refine (hp_at h t).mono ?_
  rintro e w' ⟨rfl, a1⟩
  exact ⟨rfl, h0.below a1, Rest.of_below a1⟩
theorem x_rput (h : TwoX w B p q n m mr X) (t v : Int) :
    Calls Try.prog 12 #[.pointer (some ⟨q, 0, none⟩), .int .i64 t, .int .i64 v] w fun e w' => e = .returned (.int .i64 (HM.code HM.TI n mr t v)) ∧ TwoX w' B p q n m (HM.put HM.TI n mr t v) X ∧ Rest X w w' := by
  obtain ⟨F, G, h1, h2, h3, h4⟩ := h
  obtain ⟨bi, bq, ins, ps, r1, r2, rfl⟩ := id h2
  refine (HR.put_any r1 r2 t v).mono ?_
  rintro e w' ⟨rfl, ins', ps', a1, a2, a3⟩
  exact ⟨rfl, TwoX.ofR h1 h2 h3 h4 ⟨_, _, _, _, a1, a2, rfl⟩ a3⟩
theorem x_rpop (h : TwoX w B p q n m mr X) (hn : n ≤ 64) :
    Calls Try.prog 14 #[.pointer (some ⟨q, 0, none⟩)] w fun e w' => e = .returned (peekT (Value.int .i64) 0 (HM.firstOf HM.TI mr)) ∧ TwoX w' B p q n m (HM.popped HM.TI mr) X ∧ Rest X w w' := by
  obtain ⟨F, G, h1, h2, h3, h4⟩ := h
  obtain ⟨bi, bq, ins, ps, r1, r2, rfl⟩ := id h2
  refine (HR.pop_any r1 r2 hn).mono ?_
  rintro e w' ⟨rfl, ins', a1, a2, a3⟩
  exact ⟨rfl, TwoX.ofR h1 h2 h3 h4 ⟨_, _, _, _, a1, a2, rfl⟩ a3⟩
theorem x_rpeek (h : TwoX w B p q n m mr X) (hn : n ≤ 64) :
    Calls Try.prog 16 #[.pointer (some ⟨q, 0, none⟩)] w fun e w' => e = .returned (peekT (Value.int .i64) 0 (HM.firstOf HM.TI mr)) ∧ TwoX w' B p q n m mr X ∧ Rest X w w' := by
  have h0 := h
  obtain ⟨F, G, h1, h2, h3, h4⟩ := h
  obtain ⟨bi, bq, ins, ps, r1, r2, rfl⟩ := id h2
  refine (HR.peek_any r1 r2 hn).mono ?_
  rintro e w' ⟨rfl, k, rfl⟩
  have hb : Below w.heap.size w (w.drewN k) := below_drewN (Below.refl _ _) _
  exact ⟨rfl, h0.below hb, Rest.of_below hb⟩
theorem x_rat (h : TwoX w B p q n m mr X) (t : Int) :
    Calls Try.prog 18 #[.pointer (some ⟨q, 0, none⟩), .int .i64 t] w fun e w' => e = .returned (atT (Value.int .i64) 0 (HM.look mr t)) ∧ w' = w := two_rat h.two t
theorem x_len (h : TwoX w B p q n m mr X) :
    Calls Try.prog 19 #[.pointer (some ⟨p, 0, none⟩)] w fun e w' => e = .returned (.int .i64 (HM.cnt n m : Nat)) ∧ w' = w := two_len h.two
theorem x_rlen (h : TwoX w B p q n m mr X) (hn : n ≤ 64) :
    Calls Try.prog 20 #[.pointer (some ⟨q, 0, none⟩)] w fun e w' => e = .returned (.int .i64 (HM.cnt n mr : Nat)) ∧ w' = w := two_rlen h.two hn
end
/-- What Peek and At answer, written out. -/
theorem peekT_form (o : Option (Nat × Int)) : ∃ f r c, peekT (Value.int .i64) 0 o = .tuple #[.int .i64 f, .int .i64 r, .bool c] := by
  cases o with
  | none => exact ⟨_, _, _, rfl⟩
  | some x => exact ⟨_, _, _, rfl⟩
theorem atT_form (o : Option Int) : ∃ r c, atT (Value.int .i64) 0 o = .tuple #[.int .i64 r, .bool c] := by
  cases o with
  | none => exact ⟨_, _, rfl⟩
  | some x => exact ⟨_, _, rfl⟩
end Go.Proofs.Ytmmokmgljacddaa
