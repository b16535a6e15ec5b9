/-
  WitIterM, WitIter, WitFindM, WitFind.
-/
import Derived.Test.YtkcfepppnclniaaGreatDoorMmWitSettle
import Derived.Maps.AppendAt
section
/-
  What settled's iterator has between the rounds (layer 13): the search, four variables of its own; what the rounds may read of it.
-/
namespace Go.Proofs.YtkcfepppnclniaaGreatDoor
open Go.RowKit Go.Shelf

/-- What settled hands on: the vertex that is settled. -/
def setV (x : Nat × Int) : Array Value := #[.int .i64 (x.1 : Nat)]
/-- What a round may read: what is noted, and touched. -/
def ZW (B : Nat) (z : Wid) (mp N O : Nat) (D : Nat → Nat → Int) (s : Nat) (Y : Int) (K : Nat) (L : List (Nat × Int)) (X : Nat → Prop) (A : World) : Prop :=
  ∃ k hm T F, WD A B z mp N O k hm T F ∧ WM.noted L k ∧ WM.TT N D (WM.outOf O) L T ∧ WM.Seq N D s (WM.outOf O) Y L ∧ L.length ≤ K ∧ ∀ b, F b → X b
/-- The iterator's own variables, from block c on. -/
structure IB (z : Wid) (s : Nat) (most settles : Int) (c : Nat) (A : World) : Prop where
  b0 : Boxed A c 113 (.pointer (some ⟨z.q, 0, none⟩))
  b1 : Boxed A (c + 1) 3 (.int .i64 (s : Nat))
  b2 : Boxed A (c + 1 + 1) 3 (.int .i64 most)
  b3 : Boxed A (c + 1 + 1 + 1) 3 (.int .i64 settles)
theorem IB.same {z : Wid} {s : Nat} {most settles : Int} {c : Nat} {A A' : World} (h : IB z s most settles c A) (hb : ∀ b, c ≤ b → b < c + 4 → A'.heap[b]? = A.heap[b]?) : IB z s most settles c A' :=
  ⟨(hb c (by omega) (by omega)).trans h.b0, (hb (c + 1) (by omega) (by omega)).trans h.b1, (hb (c + 1 + 1) (by omega) (by omega)).trans h.b2, (hb (c + 1 + 1 + 1) (by omega) (by omega)).trans h.b3⟩
theorem IB.lt {z : Wid} {s : Nat} {most settles : Int} {c : Nat} {A : World} (h : IB z s most settles c A) : c + 4 ≤ A.heap.size := by
  have := h.b3.lt
  omega
/-- All of it, ahead of the first round. -/
def Z0 (B : Nat) (z : Wid) (mp N O s : Nat) (most settles : Int) (c : Nat) (X : Nat → Prop) (A : World) : Prop :=
  ∃ F, WD A B z mp N O (fun _ => none) (fun _ => none) 0 F ∧ IB z s most settles c A ∧ (∀ b, F b → X b ∧ ¬ (c ≤ b ∧ b < c + 4)) ∧ ∀ b, c ≤ b → b < c + 4 → X b
/-- All of it, between the rounds. -/
def ZS (B : Nat) (z : Wid) (mp N O : Nat) (D : Nat → Nat → Int) (s : Nat) (most settles : Int) (c : Nat) (L : List (Nat × Int)) (X : Nat → Prop) (A : World) : Prop :=
  ∃ k hm T F, WD A B z mp N O k hm T F ∧ WM.noted L k ∧ WM.Waits N D s (WM.outOf O) L hm ∧ WM.TT N D (WM.outOf O) L T ∧ WM.Seq N D s (WM.outOf O) (DM.norm most) L ∧ L.length ≤ settles.toNat ∧ IB z s most settles c A ∧ (∀ b, F b → X b ∧ ¬ (c ≤ b ∧ b < c + 4)) ∧ ∀ b, c ≤ b → b < c + 4 → X b
section
variable {B : Nat} {z : Wid} {mp N O : Nat} {D : Nat → Nat → Int} {s : Nat} {Y most settles : Int} {K c : Nat} {L : List (Nat × Int)} {X X' : Nat → Prop} {A A' : World}
theorem ZW.rest (h : ZW B z mp N O D s Y K L X A) (hr : Rest X A A') : ZW B z mp N O D s Y K L X A' := by
  obtain ⟨k, hm, T, F, h1, h2, h3, h4, h5, h6⟩ := h
  exact ⟨k, hm, T, F, h1.kept hr (fun b hb hc => hc (h6 b hb)), h2, h3, h4, h5, h6⟩
theorem Z0.rest (h : Z0 B z mp N O s most settles c X A) (hr : Rest X A A') : Z0 B z mp N O s most settles c X A' := by
  obtain ⟨F, h1, h2, h3, h4⟩ := h
  have hl := h2.lt
  exact ⟨F, h1.kept hr (fun b hb hc => hc (h3 b hb).1), h2.same (fun b b1 b2 => hr.block b (by omega) (fun hc => hc (h4 b b1 b2))), h3, h4⟩
theorem ZS.rest (h : ZS B z mp N O D s most settles c L X A) (hr : Rest X A A') : ZS B z mp N O D s most settles c L X A' := by
  obtain ⟨k, hm, T, F, h1, h2, h3, h4, h5, h6, h7, h8, h9⟩ := h
  have hl := h7.lt
  exact ⟨k, hm, T, F, h1.kept hr (fun b hb hc => hc (h8 b hb).1), h2, h3, h4, h5, h6, h7.same (fun b b1 b2 => hr.block b (by omega) (fun hc => hc (h9 b b1 b2))), h8, h9⟩
theorem ZS.weak (h : ZS B z mp N O D s most settles c L X A) : ZW B z mp N O D s (DM.norm most) settles.toNat L X A := by
  obtain ⟨k, hm, T, F, h1, h2, h3, h4, h5, h6, h7, h8, h9⟩ := h
  exact ⟨k, hm, T, F, h1, h2, h4, h5, h6, fun b hb => (h8 b hb).1⟩
/-- Either nothing waits, or one is first. -/
theorem WD.either {k : Nat → Option Int} {hm : Nat → Option Int} {T : Nat} {F : Nat → Prop} (h : WD A B z mp N O k hm T F) : (∀ t, hm t = none) ∨ ∃ x, HM.IsFirst HM.TI hm x := by
  obtain ⟨-, -, -, -, -, -, ⟨bp, bc, lv, line, place, come, h1, h2, -⟩, -, -, -, -, -⟩ := h
  by_cases h0 : line.length = 0
  · exact .inl (h2.empty h0)
  · exact .inr ⟨_, h2.first (by omega)⟩
/-- X with what was laid meanwhile. -/
theorem grow_lt (h : ∀ b, X b → b < A.heap.size) (hs : A.heap.size ≤ A'.heap.size) : ∀ b, grow X A A' b → b < A'.heap.size := fun b hb => by
  rcases hb with hb | hb
  · have := h b hb
    omega
  · exact hb.2
theorem grow_apart {α : Type} {J : List α → (Nat → Prop) → World → Prop} (hJ : Apart J) {l : List α} (h : J l X A) (hk : Keeps X A A') : J l (grow X A A') A' := hJ _ _ _ _ _ h hk (fun _ hb => hb.imp id (·.1))
/-- The first vertex waits. -/
theorem Z0.begin (h : Z0 B z mp N O s most settles c X A) (_hX : ∀ b, X b → b < A.heap.size) (hB : B ≤ A.heap.size) (hs : s < N) (hO : WM.outOf O s = false) :
    Calls Tryz.prog 101 #[.pointer (some ⟨z.p, 0, none⟩), .int .i64 (s : Nat), .int .i64 0] A fun e A' => e = .returned (.int .i64 0) ∧ Keeps X A A' ∧ ZS B z mp N O D s most settles c [] (grow X A A') A' := by
  obtain ⟨F, h1, h2, h3, h4⟩ := h
  have hl := h2.lt
  have hp := h1.put hB s 0
  have hc : HM.code HM.TI N (fun _ => none) (s : Int) 0 = 0 := by
    unfold HM.code
    rw [if_pos (by omega)]
  unfold HM.put at hp
  rw [if_pos hc, hc, Int.toNat_natCast] at hp
  refine hp.mono ?_
  rintro e A' ⟨rfl, hk, hwd⟩
  have hkX : Keeps X A A' := hk.mono (fun b hb => (h3 b hb).1)
  refine ⟨rfl, hkX, _, _, 0, _, hwd, WM.noted_nil, WM.Waits.begin hs hO, WM.TT.zero, .nil, Nat.zero_le _, h2.same (fun b b1 b2 => hk.block b (by omega) (fun hf => (h3 b hf).2 ⟨b1, b2⟩)), fun b hb => ?_, fun b b1 b2 => .inl (h4 b b1 b2)⟩
  rcases hb with hb | hb
  · exact ⟨.inl (h3 b hb).1, (h3 b hb).2⟩
  · exact ⟨.inr hb, by omega⟩
end
/-- A round's search: the first one is out, and nothing else is turned yet. -/
def ZP (B : Nat) (z : Wid) (mp N O : Nat) (D : Nat → Nat → Int) (s : Nat) (most settles : Int) (c : Nat) (L : List (Nat × Int)) (v : Nat) (d : Int) (X : Nat → Prop) (A : World) : Prop :=
  ∃ k hm T F, WD A B z mp N O k hm T F ∧ WM.noted L k ∧ WM.MidL N D (WM.outOf O) L (v, d) [] hm ∧ WM.TT N D (WM.outOf O) L T ∧ WM.Seq N D s (WM.outOf O) (DM.norm most) L ∧ WM.Next N D s (WM.outOf O) L v d ∧ L.length ≤ settles.toNat ∧ IB z s most settles c A ∧ (∀ b, F b → X b ∧ ¬ (c ≤ b ∧ b < c + 4)) ∧ ∀ b, c ≤ b → b < c + 4 → X b
section
variable {B : Nat} {z : Wid} {mp N O : Nat} {D : Nat → Nat → Int} {s : Nat} {Y most settles : Int} {K c : Nat} {L : List (Nat × Int)} {v : Nat} {d : Int} {X X' : Nat → Prop} {A A' : World}
theorem ZP.weak (h : ZP B z mp N O D s most settles c L v d X A) : ZW B z mp N O D s (DM.norm most) settles.toNat L X A := by
  obtain ⟨k, hm, T, F, h1, h2, h3, h4, h5, h6, h7, h8, h9, -⟩ := h
  exact ⟨k, hm, T, F, h1, h2, h4, h5, h7, fun b hb => (h9 b hb).1⟩
/-- What Pop does: nothing more may be settled, or the next one comes out. -/
theorem ZS.pop (h : ZS B z mp N O D s most settles c L X A) (hs : s < N) (hO : WM.outOf O s = false) :
    (WM.Stuck N D s (WM.outOf O) (DM.norm most) L ∧ Calls Tryz.prog 102 #[.pointer (some ⟨z.p, 0, none⟩)] A fun e A' => e = .returned (.tuple #[.int .i64 0, .int .i64 0, .bool false]) ∧ Keeps X A A' ∧ ZW B z mp N O D s (DM.norm most) settles.toNat L X A') ∨
    ∃ v d, WM.Next N D s (WM.outOf O) L v d ∧ Calls Tryz.prog 102 #[.pointer (some ⟨z.p, 0, none⟩)] A fun e A' => e = .returned (.tuple #[.int .i64 (v : Nat), .int .i64 d, .bool true]) ∧ Keeps X A A' ∧ ZP B z mp N O D s most settles c L v d X A' := by
  obtain ⟨k, hm, T, F, h1, h2, h3, h4, h5, h6, h7, h8, h9⟩ := h
  have hl := h7.lt
  have hp := h1.pop
  rcases h1.either with h0 | ⟨⟨v, d⟩, hf⟩
  · refine .inl ⟨h3.stuck h0 _, ?_⟩
    rw [HM.firstOf_none h0] at hp
    refine hp.mono ?_
    rintro e A' ⟨rfl, hk, hwd⟩
    exact ⟨rfl, hk.mono (fun b hb => (h8 b hb).1), k, _, T, F, hwd, h2, h4, h5, h6, fun b hb => (h8 b hb).1⟩
  · have hn := h3.next hf
    refine .inr ⟨v, d, hn, ?_⟩
    have e1 : HM.popped HM.TI hm = HM.upd hm v none := by
      unfold HM.popped
      rw [HM.firstOf_eq hf]
    rw [HM.firstOf_eq hf, e1] at hp
    refine hp.mono ?_
    rintro e A' ⟨rfl, hk, hwd⟩
    exact ⟨rfl, hk.mono (fun b hb => (h8 b hb).1), k, _, T, F, hwd, h2, (h3.out hn hs hO).congr (fun w => by simp [WM.has_nil]), h4, h5, hn, h6, h7.same (fun b b1 b2 => hk.block b (by omega) (fun hf => (h8 b hf).2 ⟨b1, b2⟩)), h8, h9⟩
/-- The next one is settled. -/
theorem ZP.settle (h : ZP B z mp N O D s most settles c L v d X A) (hB : B ≤ A.heap.size) (hx : XMem A mp N D) (hmp : mp < B) (hmm : XM.Mesh N D) (hO : O < 18446744073709551616) (hd : d ≤ DM.norm most) (hlt : L.length < settles.toNat) :
    Calls Tryz.prog 103 #[.pointer (some ⟨z.q, 0, none⟩), .int .i64 (v : Nat), .int .i64 d] A fun e A' => e = .returned (.tuple #[]) ∧ Keeps X A A' ∧ ZS B z mp N O D s most settles c (L ++ [(v, d)]) (grow X A A') A' := by
  obtain ⟨k, hm, T, F, h1, h2, h3, h4, h5, h6, h7, h8, h9, h10⟩ := h
  have hl := h8.lt
  have hkb := WM.key_bd D s L v
  rw [h6.is] at hkb
  refine (settle_any (s := s) h1 hB hx hmp hmm hO h6.free.1 ⟨hkb.1, h6.lt⟩ h2 h6.free.2.2 h3 h4).mono ?_
  rintro e A' ⟨rfl, k', hm', T', F', q1, q2, q3, q4, q5, q6⟩
  refine ⟨rfl, q5.mono (fun b hb => (h9 b hb).1), k', hm', T', F', q1, q2, q3, q4, .snoc h5 h6 hd, by rw [List.length_append]; exact hlt, h8.same (fun b b1 b2 => q5.block b (by omega) (fun hf => (h9 b hf).2 ⟨b1, b2⟩)), fun b hb => ?_, fun b b1 b2 => .inl (h10 b b1 b2)⟩
  have hb2 := (q1.lt b hb).2
  rcases q6 b hb with hb | hb
  · exact ⟨.inl (h9 b hb).1, (h9 b hb).2⟩
  · exact ⟨.inr ⟨hb, hb2⟩, by omega⟩
end
end Go.Proofs.YtkcfepppnclniaaGreatDoor
end

section
/-
  The walks of settled, and of what it answers, gone through (layer 13).
-/
namespace Go.Proofs.YtkcfepppnclniaaGreatDoor
open Go.RowKit Go.Shelf
attribute [local go_sem] Oper.semAt_some

/-- What settled lays. -/
def setW (q s : Nat) (most settles : Int) (W : World) : World := (((W.alloc (.cells #[.pointer (some ⟨q, 0, none⟩)] 113)).alloc (.cells #[.int .i64 (s : Nat)] 3)).alloc (.cells #[.int .i64 most] 3)).alloc (.cells #[.int .i64 settles] 3)
theorem setW_ib (z : Wid) (s : Nat) (most settles : Int) (w : World) : IB z s most settles w.heap.size (setW z.q s most settles w) ∧ Below w.heap.size w (setW z.q s most settles w) ∧ (setW z.q s most settles w).heap.size = w.heap.size + 4 := by
  have s1 : (w.alloc (.cells #[.pointer (some ⟨z.q, 0, none⟩)] 113)).heap.size = w.heap.size + 1 := by simp
  have b1 := Boxed.new w 113 (.pointer (some ⟨z.q, 0, none⟩))
  have l1 : Below w.heap.size w (w.alloc (.cells #[.pointer (some ⟨z.q, 0, none⟩)] 113)) := (Below.refl _ _).alloc (Nat.le_refl _) _
  unfold setW
  generalize w.alloc (.cells #[.pointer (some ⟨z.q, 0, none⟩)] 113) = w1 at *
  have s2 : (w1.alloc (.cells #[.int .i64 (s : Nat)] 3)).heap.size = w.heap.size + 1 + 1 := by simp [s1]
  have b2 := Boxed.new w1 3 (.int .i64 (s : Nat))
  have b1 := b1.alloc (.cells #[.int .i64 (s : Nat)] 3)
  have l2 : Below w.heap.size w (w1.alloc (.cells #[.int .i64 (s : Nat)] 3)) := l1.alloc (by omega) _
  rw [s1] at b2
  generalize w1.alloc (.cells #[.int .i64 (s : Nat)] 3) = w2 at *
  have s3 : (w2.alloc (.cells #[.int .i64 most] 3)).heap.size = w.heap.size + 1 + 1 + 1 := by simp [s2]
  have b3 := Boxed.new w2 3 (.int .i64 most)
  have b1 := b1.alloc (.cells #[.int .i64 most] 3)
  have b2 := b2.alloc (.cells #[.int .i64 most] 3)
  have l3 : Below w.heap.size w (w2.alloc (.cells #[.int .i64 most] 3)) := l2.alloc (by omega) _
  rw [s2] at b3
  generalize w2.alloc (.cells #[.int .i64 most] 3) = w3 at *
  have b4 := Boxed.new w3 3 (.int .i64 settles)
  rw [s3] at b4
  have l4 : Below w.heap.size w (w3.alloc (.cells #[.int .i64 settles] 3)) := l3.alloc (by omega) _
  exact ⟨⟨b1.alloc _, b2.alloc _, b3.alloc _, b4⟩, l4, by simp [s3]⟩
def setF (c : Nat) : Value := .func (.func 100) #[] #[.pointer (some ⟨c, 0, none⟩), .pointer (some ⟨c + 1, 0, none⟩), .pointer (some ⟨c + 1 + 1 + 1, 0, none⟩), .pointer (some ⟨c + 1 + 1, 0, none⟩)]
set_option maxHeartbeats 400000 in
theorem settled_any (q s : Nat) (most settles : Int) (w : World) :
    Calls Tryz.prog 78 #[.pointer (some ⟨q, 0, none⟩), .int .i64 (s : Nat), .int .i64 most, .int .i64 settles] w fun e w' => e = .returned (setF w.heap.size) ∧ w' = setW q s most settles w := by
  go_enter Tryz.func78, Tryz.ntmps78
  go_wp2_with fail
  go_ret
  exact ⟨by simp [setF], rfl⟩
set_option maxRecDepth 100000 in
set_option maxHeartbeats 2000000 in
theorem settled_goes (n : Nat) (_hn : 1 ≤ n) (B : Nat) (z : Wid) (mp N O : Nat) (D : Nat → Nat → Int) (s : Nat) (most settles : Int) (c : Nat) (hBc : B ≤ c) (hmp : mp < B) (hmm : XM.Mesh N D) (hO : O < 18446744073709551616) (hs : s < N) (hOs : WM.outOf O s = false) :
    GoesS n Tryz.prog 100 #[.pointer (some ⟨c, 0, none⟩), .pointer (some ⟨c + 1, 0, none⟩), .pointer (some ⟨c + 1 + 1 + 1, 0, none⟩), .pointer (some ⟨c + 1 + 1, 0, none⟩)] setV (Z0 B z mp N O s most settles c) (ZW B z mp N O D s (DM.norm most) settles.toNat) (WM.Got N D s (WM.outOf O) (DM.norm most) settles.toNat) (fun A => XMem A mp N D) := by
  intro l J Jx X W hR hJ hJx hY h0 hz hX
  have HR : Hid (∀ s X A, J s X A → XMem A mp N D) := hR
  have HJ : Hid (Apart J) := hJ
  have HY : Hid (∀ pre x X W1, J pre X W1 → ZW B z mp N O D s (DM.norm most) settles.toNat (pre ++ [x]) X W1 → (∀ b, X b → b < W1.heap.size) → YieldAt Fence.wide (n - 1) Tryz.prog l (setV x) W1 fun e W' => (e = .returned (.bool true) ∧ J (pre ++ [x]) X W' ∧ Rest X W1 W') ∨ (e = .returned (.bool false) ∧ Jx (pre ++ [x]) X W' ∧ Rest X W1 W')) := hY
  have H0 : Hid (J [] X W ∧ Z0 B z mp N O s most settles c X W ∧ ∀ b, X b → b < W.heap.size) := ⟨h0, hz, hX⟩
  have hib : IB z s most settles c W := by obtain ⟨F, -, h, -⟩ := hz; exact h
  have cq : W.cell? ⟨z.q, 2, none⟩ = some (.pointer (some ⟨z.p, 0, none⟩)) := by obtain ⟨F, h, -⟩ := hz; exact h.c2
  have hBW : B ≤ W.heap.size := by have := hib.lt; omega
  have k0 := hib.b0.cell
  have k1 := hib.b1.cell
  have k3 := hib.b3.cell
  have k0d : W.drew.cell? ⟨c, 0, none⟩ = some (.pointer (some ⟨z.q, 0, none⟩)) := k0
  have k1d : W.drew.cell? ⟨c + 1, 0, none⟩ = some (.int .i64 (s : Nat)) := k1
  have k3d : W.drew.cell? ⟨c + 1 + 1 + 1, 0, none⟩ = some (.int .i64 settles) := k3
  have cqd : W.drew.cell? ⟨z.q, 2, none⟩ = some (.pointer (some ⟨z.p, 0, none⟩)) := cq
  have HPUT : Hid (Calls Tryz.prog 101 #[.pointer (some ⟨z.p, 0, none⟩), .int .i64 (s : Nat), .int .i64 0] W.drew fun e A' => e = .returned (.int .i64 0) ∧ ∃ X', J [] X' A' ∧ ZS B z mp N O D s most settles c [] X' A' ∧ (∀ b, X' b → b < A'.heap.size)) := by
    have hd := hz.rest (Rest.of_below (Below.refl _ W).drew)
    refine (hd.begin (D := D) hX hBW hs hOs).mono ?_
    rintro e A' ⟨rfl, hk, hzs⟩
    exact ⟨rfl, _, grow_apart hJ (hJ _ _ X _ _ h0 (Below.keeps (Below.refl _ W).drew _) (fun b hb => .inl hb)) hk, hzs, grow_lt (A := W.drew) hX hk.size⟩
  have HC : Hid (∀ L X A, ZS B z mp N O D s most settles c L X A → (A.cell? ⟨c, 0, none⟩ = some (.pointer (some ⟨z.q, 0, none⟩)) ∧ A.cell? ⟨c + 1, 0, none⟩ = some (.int .i64 (s : Nat)) ∧ A.cell? ⟨z.q, 2, none⟩ = some (.pointer (some ⟨z.p, 0, none⟩)) ∧ A.cell? ⟨c + 1 + 1 + 1, 0, none⟩ = some (.int .i64 settles))) := fun L X A h => by
    obtain ⟨k, hm, T, F, h1, -, -, -, -, -, h7, -, -⟩ := h
    exact ⟨h7.b0.cell, h7.b1.cell, h1.c2, h7.b3.cell⟩
  clear hR hJ hY h0 hz hX hib
  refine callsIn_of_wp Tryz.func100 rfl trivial ?_ rfl
  simp only [Tryz.ntmps100, List.size_toArray, List.length_cons, List.length_nil, Nat.reduceAdd, Nat.reduceSub, Array.replicate_succ, Array.replicate_zero, List.push_toArray, List.append_toArray, List.nil_append, List.cons_append]
  refine wpIn_wide.2 ?_
  go_upto_region 1 with (go_region_held3 (fun W => W.cell? ⟨c, 0, none⟩ = some (.pointer (some ⟨z.q, 0, none⟩)) ∧ W.cell? ⟨c + 1, 0, none⟩ = some (.int .i64 (s : Nat)) ∧ W.cell? ⟨z.q, 2, none⟩ = some (.pointer (some ⟨z.p, 0, none⟩)) ∧ W.cell? ⟨c + 1 + 1 + 1, 0, none⟩ = some (.int .i64 settles)) (first | go_keep | exact HC.out _ _ _ HS2.out.2.1) (first
    | (go_at_call 101; refine HPUT.out.mono ?_; rintro e w2 ⟨rfl, X2, hr2⟩; have HS2 : Hid (J [] X2 w2 ∧ ZS B z mp N O D s most settles c [] X2 w2 ∧ (∀ b, X2 b → b < w2.heap.size)) := hr2; clear hr2; obtain ⟨g21, g22, g23, g24⟩ := HC.out _ _ _ HS2.out.2.1)))
  have HB2 : Hid (J [] X2 w2 ∧ ZS B z mp N O D s most settles c [] X2 w2 ∧ (∀ b, X2 b → b < w2.heap.size) ∧ B ≤ w2.heap.size) := ⟨HS2.out.1, HS2.out.2.1, HS2.out.2.2, by
    obtain ⟨k, hm, T, F, h1, -⟩ := HS2.out.2.1
    have := h1.ql
    have := (h1.lt _ (h1.f _ (.inl rfl))).1
    omega⟩
  clear HPUT k0 k1 k3 k0d k1d k3d cq cqd HS2 H0 hBW g21 g22 g23
  go_wp2_with fail
  clear g24
  refine (wpIn_wide (n := n)).1 ?_
  gi_loopw [16] (fun iv wr => ∃ (L : List (Nat × Int)) (X : Nat → Prop), iv = .int .i64 (L.length : Nat) ∧ J L X wr ∧ ZS B z mp N O D s most settles c L X wr ∧ (∀ b, X b → b < wr.heap.size) ∧ B ≤ wr.heap.size) (fun iv _ => settles.toNat - (intOf iv).toNat)
  case atStart => exact ⟨[], X2, rfl, HB2.out⟩
  case round =>
    obtain ⟨L, X, rfl, hJL, hZ, hXb, hBr⟩ := hrel
    clear HB2
    have hL24 : L.length ≤ 24 := by
      obtain ⟨k, hm, T, F, h1, -, -, -, h5, -⟩ := hZ
      exact Nat.le_trans (h5.len hs hOs) h1.few
    have hLK : L.length ≤ settles.toNat := by
      obtain ⟨k, hm, T, F, h1, -, -, -, h5, h6, -⟩ := hZ
      exact h6
    have c0 : wr.cell? ⟨c, 0, none⟩ = some (.pointer (some ⟨z.q, 0, none⟩)) := (HC.out _ _ _ hZ).1
    have cq : wr.cell? ⟨z.q, 2, none⟩ = some (.pointer (some ⟨z.p, 0, none⟩)) := (HC.out _ _ _ hZ).2.2.1
    by_cases hlt : (L.length : Int) < settles
    · have hsq : WM.Seq N D s (WM.outOf O) (DM.norm most) L := by
        obtain ⟨k, hm, T, F, h1, -, -, -, h5, h6, -⟩ := hZ
        exact h5
      have hln : L.length < settles.toNat := by omega
      rcases hZ.pop hs hOs with ⟨hst, hpop⟩ | ⟨v, d, hn, hpop⟩
      · have HE : Hid (∀ A', Keeps X wr A' → ZW B z mp N O D s (DM.norm most) settles.toNat L X A' → ∃ xs, WM.Got N D s (WM.outOf O) (DM.norm most) settles.toNat xs ∧ ∃ X, J xs X A' ∧ ZW B z mp N O D s (DM.norm most) settles.toNat xs X A') := fun A' hk hz => ⟨L, ⟨hsq, hLK, .inr hst⟩, X, HJ.out _ _ X _ _ hJL hk (fun b hb => .inl hb), hz⟩
        clear hJL hZ hXb hBr hLK HJ HC HR HY hJx hmm hO hs hOs hmp hBc hst hsq hln
        generalize L.length = q at *
        gi_wp2_with fail
        refine ⟨trivial, (callsIn_wide.2 hpop).mono ?_⟩
        rintro e w3 ⟨rfl, hk, hzw⟩
        have HX : Hid _ := HE.out _ hk hzw
        clear hpop hk hzw HE c0 cq
        gi_wp2_with fail
        refine ⟨trivial, ?_⟩
        gi_wp2_with fail
        (try simp only [Exit.inBlock, Exit.then]); refine bodyPost_ret (results_none rfl _ _ _) rfl ?_
        exact ⟨⟨_, rfl⟩, .inl HX.out⟩
      · have hdb := WM.key_bd D s L v
        rw [hn.is] at hdb
        have hless := less_any most d
        rw [show GM.norm d = d from DM.norm_of hdb.1 hdb.2, show GM.norm most = DM.norm most from rfl] at hless
        have HGOT : Hid (DM.norm most < d → WM.Got N D s (WM.outOf O) (DM.norm most) settles.toNat L) := fun hc => ⟨hsq, hLK, .inr (fun v' d' hn' hd' => by
          obtain ⟨-, e⟩ := hn'.one hn
          omega)⟩
        have HP : Hid (Calls Tryz.prog 102 #[.pointer (some ⟨z.p, 0, none⟩)] wr fun e A' => e = .returned (.tuple #[.int .i64 (v : Nat), .int .i64 d, .bool true]) ∧ J L X A' ∧ ZP B z mp N O D s most settles c L v d X A' ∧ (∀ b, X b → b < A'.heap.size) ∧ B ≤ A'.heap.size) := by
          refine hpop.mono ?_
          rintro e A' ⟨rfl, hk, hzp⟩
          have := hk.size
          exact ⟨rfl, HJ.out _ _ X _ _ hJL hk (fun b hb => .inl hb), hzp, fun b hb => by have := hXb b hb; omega, by omega⟩
        have HL24 : Hid (L.length ≤ 24 ∧ L.length < settles.toNat) := ⟨hL24, hln⟩
        have HHY : Hid (s < N ∧ WM.outOf O s = false ∧ mp < B ∧ XM.Mesh N D ∧ O < 18446744073709551616 ∧ B ≤ c) := ⟨hs, hOs, hmp, hmm, hO, hBc⟩
        clear hJL hZ hXb hBr hLK hpop hsq hln hn hdb hmm hs hOs hmp hBc hL24 HC hO
        obtain ⟨q, hq⟩ : ∃ q, q = L.length := ⟨_, rfl⟩
        rw [← hq]
        rw [← hq] at hlt
        have HQ : Hid (q = L.length) := hq
        clear hq
        gi_wp2_with fail
        refine ⟨trivial, (callsIn_wide.2 HP.out).mono ?_⟩
        rintro e w3 ⟨rfl, hr3⟩
        have HR3 : Hid (J L X w3 ∧ ZP B z mp N O D s most settles c L v d X w3 ∧ (∀ b, X b → b < w3.heap.size) ∧ B ≤ w3.heap.size) := hr3
        clear hr3 HP c0 cq
        have c2 : w3.cell? ⟨c + 1 + 1, 0, none⟩ = some (.int .i64 most) := by
          obtain ⟨-, ⟨k, hm, T, F, h1, -, -, -, -, -, -, h8, -⟩, -⟩ := HR3.out
          exact h8.b2.cell
        have c0 : w3.cell? ⟨c, 0, none⟩ = some (.pointer (some ⟨z.q, 0, none⟩)) := by
          obtain ⟨-, ⟨k, hm, T, F, h1, -, -, -, -, -, -, h8, -⟩, -⟩ := HR3.out
          exact h8.b0.cell
        by_cases hc : DM.norm most < d
        · rw [decide_eq_true hc] at hless
          have HX : Hid (∃ xs, WM.Got N D s (WM.outOf O) (DM.norm most) settles.toNat xs ∧ ∃ X, J xs X w3 ∧ ZW B z mp N O D s (DM.norm most) settles.toNat xs X w3) := ⟨L, HGOT.out hc, X, HR3.out.1, HR3.out.2.1.weak⟩
          clear hc HGOT HR3 HL24 HHY HQ hlt HJ HR HY hJx
          gi_wp2_with fail
          refine ⟨trivial, (callsIn_wide.2 (hless w3)).mono ?_⟩
          rintro e w4 ⟨rfl, hw4⟩
          rw [hw4]
          clear hw4 w4 hless c0 c2
          gi_wp2_with fail
          (try simp only [Exit.inBlock, Exit.then]); refine bodyPost_ret (results_none rfl _ _ _) rfl ?_
          exact ⟨⟨_, rfl⟩, .inl HX.out⟩
        · rw [decide_eq_false hc] at hless
          have HST : Hid (Calls Tryz.prog 103 #[.pointer (some ⟨z.q, 0, none⟩), .int .i64 (v : Nat), .int .i64 d] w3 fun e A' => e = .returned (.tuple #[]) ∧ ∃ X', J L X' A' ∧ ZS B z mp N O D s most settles c (L ++ [(v, d)]) X' A' ∧ (∀ b, X' b → b < A'.heap.size) ∧ B ≤ A'.heap.size) := by
            obtain ⟨h1, h2, h3, h4⟩ := HR3.out
            obtain ⟨g1, g2, g3, g4, g5, g6⟩ := HHY.out
            refine (h2.settle h4 (HR.out _ _ _ h1) g3 g4 g5 (by omega) HL24.out.2).mono ?_
            rintro e A' ⟨rfl, hk, hzs⟩
            have := hk.size
            exact ⟨rfl, _, grow_apart HJ.out h1 hk, hzs, grow_lt h3 hk.size, by omega⟩
          clear hc HGOT HR3
          gi_wp2_with fail
          refine ⟨trivial, (callsIn_wide.2 (hless w3)).mono ?_⟩
          rintro e w4 ⟨rfl, hw4⟩
          rw [hw4]
          clear hw4 w4 hless c2
          gi_wp2_with fail
          refine ⟨trivial, (callsIn_wide.2 HST.out).mono ?_⟩
          rintro e w5 ⟨rfl, X5, hr5⟩
          have HR5 : Hid (J L X5 w5 ∧ ZS B z mp N O D s most settles c (L ++ [(v, d)]) X5 w5 ∧ (∀ b, X5 b → b < w5.heap.size) ∧ B ≤ w5.heap.size) := hr5
          clear hr5 HST c0
          have HYX : Hid (YieldAt Fence.wide (n - 1) Tryz.prog l #[.int .i64 (v : Nat)] w5 fun e W' => (e = .returned (.bool true) ∧ J (L ++ [(v, d)]) X5 W' ∧ Rest X5 w5 W') ∨ (e = .returned (.bool false) ∧ Jx (L ++ [(v, d)]) X5 W' ∧ Rest X5 w5 W')) := HY.out L (v, d) X5 w5 HR5.out.1 HR5.out.2.1.weak HR5.out.2.2.1
          obtain ⟨fn, tmps, assign, body, hy, hRd⟩ := HYX.out
          clear HYX HY
          gi_wp2_with fail
          refine hRd.mono ?_
          rintro e W4 (⟨rfl, hJ4, hRs⟩ | ⟨rfl, hJ4, hRs⟩)
          · have HN : Hid (J (L ++ [(v, d)]) X5 W4 ∧ ZS B z mp N O D s most settles c (L ++ [(v, d)]) X5 W4 ∧ (∀ b, X5 b → b < W4.heap.size) ∧ B ≤ W4.heap.size) := by
              obtain ⟨h1, h2, h3, h4⟩ := HR5.out
              have := hRs.size
              exact ⟨hJ4, h2.rest hRs, fun b hb => by have := h3 b hb; omega, by omega⟩
            clear hJ4 hRs hy hRd HR5
            have hq24 : q ≤ 24 := by have := HL24.out.1; have := HQ.out; omega
            gi_wp2_with fail
            go_roundw
            case rel =>
              refine ⟨L ++ [(v, d)], X5, ?_, HN.out⟩
              rw [List.length_append, ← HQ.out]
              simp
            case measure => simp [intOf]; omega
          · have HX : Hid (∃ pre X, Jx pre X W4 ∧ ZW B z mp N O D s (DM.norm most) settles.toNat pre X W4) := ⟨_, X5, hJ4, (HR5.out.2.1.rest hRs).weak⟩
            clear hJ4 hRs hy hRd HR5
            gi_wp2_with fail
            (try simp only [Exit.inBlock, Exit.then]); refine bodyPost_ret (results_none rfl _ _ _) rfl ?_
            exact ⟨⟨_, rfl⟩, .inr HX.out⟩
    · have HE : Hid (∃ xs, WM.Got N D s (WM.outOf O) (DM.norm most) settles.toNat xs ∧ ∃ X, J xs X wr ∧ ZW B z mp N O D s (DM.norm most) settles.toNat xs X wr) := by
        refine ⟨L, ⟨?_, hLK, .inl (by omega)⟩, X, hJL, hZ.weak⟩
        obtain ⟨k, hm, T, F, h1, -, -, -, h5, h6, -⟩ := hZ
        exact h5
      clear hJL hZ hXb hBr hLK HJ HC HR HY hJx hmm hO hs hOs hmp hBc
      generalize L.length = q at *
      gi_wp2_with fail
      go_end0
      exact ⟨⟨_, rfl⟩, .inl HE.out⟩
end Go.Proofs.YtkcfepppnclniaaGreatDoor
end

section
/-
  What Search has while its search is gone through (layer 13): its answer's cells, the search, Found with two rows of the call's own.
-/
namespace Go.Proofs.YtkcfepppnclniaaGreatDoor
open Go.RowKit Go.Shelf

/-- append onto an own row, with where the new one lies. -/
theorem wpListIn_append_atW {F : Fence} {n : Nat} {P : Program} (w : World) {ops : Array Oper} {rest : List Oper} {o : Oper} {a : Act} {Q : Exit → Act → World → Prop}
    (hg : o.guard = none) (s x : Operand) (t : TypeId) (hop : o.op = Op.call { callee := Callee.builtin Builtin.append, args := #[s, x], argTypes := #[t, t] })
    (base : Nat) (e : TypeId) (i : TypeInfo) (z : Value) (size bytes : Nat) (h1 : P.underlying t = some (.slice e)) (h2 : P.info? e = some i) (h3 : i.zero = some z) (h4 : i.size = size) (h5 : i.bytes = bytes) (h6 : z.cells.size = size) (h7 : 0 < size)
    (v : Value) (k : Nat) (xs : List Value) (hs : a.eval s = v) (hown : w.ownsRow base e size v k xs) (ad : Addr) (m c : Nat) (news : List Value) (hx : a.eval x = .slice (some ad) m c) (hn : news.length = m * size)
    (hc : ∀ j u, news[j]? = some u → w.cell? (ad.add j) = some u) (h1c : ∀ u ∈ news, u.oneCell' = true) (b1 : k + m ≤ maxLen) (b2 : (k + m) * bytes ≤ 140737488355328) (b3 : base ≤ w.heap.size)
    (hK : ∀ v' w', w'.ownsRow base e size v' (k + m) (xs ++ news) → w.grownBy w' v.ownBlock → (v'.ownBlock = v.ownBlock ∨ v'.ownBlock = some w.heap.size) → wpListIn F n P ops Q rest (a.put o.dst v') w') :
    wpListIn F n P ops Q (o :: rest) a w := by
  refine wpListIn_plain hg fun K hK' => ?_
  obtain ⟨v', w', hrun, r1, r2, _, r3⟩ := run_append_own_at (P := P) w base t o.type e i z size bytes h1 h2 h3 h4 h5 h6 h7 v k xs hown ad m c news hn hc h1c b1 b2 b3
  unfold Oper.wpIn
  refine ⟨?_, ?_⟩
  · simp [Oper.about, hop, resolve, Target.leads, Sem.run_pure]
  · rw [Oper.semAt_plain F _ _ (by rw [hop]; intro c hc'; cases hc')]
    simp [execOp, hop, resolve, invoke, builtin, hs, hx, hrun, Result.andThen]
    exact hK' _ _ (hK v' w' r1 r2 r3)

section
variable {w A A' : World} {mp N : Nat} {D : Nat → Nat → Int} {z : Wid} {bs : Nat} {sv dv : Value} {vs ds : List Int} {X X' : Nat → Prop}
end
end Go.Proofs.YtkcfepppnclniaaGreatDoor
end

section
/-
  The walk of the program's Search (layer 13).
-/
namespace Go.Proofs.YtkcfepppnclniaaGreatDoor
open Go.RowKit Go.Shelf
attribute [local go_sem] Oper.semAt_some

end Go.Proofs.YtkcfepppnclniaaGreatDoor
end
