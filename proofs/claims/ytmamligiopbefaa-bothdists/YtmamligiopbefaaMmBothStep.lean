/-
  BothStepO, BothTurnO, BothStepI, BothTurnI.
-/
import Derived.Test.YtmamligiopbefaaMmBothOne
import Derived.Test.YtmamligiopbefaaMmBothReach
import Derived.Test.YtmamligiopbefaaMmBothAlong
import Derived.Test.YtmamligiopbefaaMmFwds
import Derived.Test.YtmamligiopbefaaMmNearRound
import Derived.Test.YtmamligiopbefaaMmNearWays
section
/-
  The walk of step, onwards: what holds while a vertex is gone on from.
-/
namespace Go.Proofs.Ytmamligiopbefaa
open Go.RowKit Go.Shelf
attribute [local go_sem] Oper.semAt_some

theorem lookO (m : GM.M) {i : Nat} (hi : i < 64) (ids : List Nat) : NM.wayO (NM.opens m (ids ++ [i])) = NM.wayO (NM.opens m ids) ++ (if (GM.arc m i).closed = true then [] else [(NM.hd m i, NM.wt m i)]) := by
  rw [NM.opens_snoc, NM.look_at m hi]
  unfold NM.wayO
  rw [List.map_append, NM.hd_at m hi, NM.wt_at m hi]
  dsimp only
  split <;> rfl
/-- The boxes of a step: the meeting, the turn, the side; how far the vertex is; the iterator's own three. -/
def stBO (b2 bD T : Nat) (b : Nat) : Prop := b = b2 ∨ b = b2 + 1 ∨ b = b2 + 2 ∨ b = bD ∨ b = T ∨ b = T + 1 ∨ b = T + 1 + 1
structure StKO (b2 bD T mq q gp : Nat) (u r : Int) (A : World) : Prop where
  m : Boxed A b2 66 (.pointer (some ⟨mq, 0, none⟩))
  t : Boxed A (b2 + 1) 3 (.int .i64 0)
  s : Boxed A (b2 + 2) 62 (.pointer (some ⟨q, 0, none⟩))
  d : Boxed A bD 3 (.int .i64 r)
  v : Boxed A T 3 (.int .i64 u)
  g : Boxed A (T + 1) 24 (.pointer (some ⟨gp, 0, none⟩))
  f : Boxed A (T + 1 + 1) 135 (.func (.func 99) #[] #[.pointer (some ⟨T, 0, none⟩)])
theorem stO_holds (b2 bD T mq q gp : Nat) (u r : Int) : Holds (stBO b2 bD T) (StKO b2 bD T mq q gp u r) :=
  ⟨fun A A' h hb => ⟨(hb _ (.inl rfl)).trans h.m, (hb _ (.inr (.inl rfl))).trans h.t, (hb _ (.inr (.inr (.inl rfl)))).trans h.s, (hb _ (.inr (.inr (.inr (.inl rfl))))).trans h.d, (hb _ (.inr (.inr (.inr (.inr (.inl rfl)))))).trans h.v, (hb _ (.inr (.inr (.inr (.inr (.inr (.inl rfl))))))).trans h.g, (hb _ (.inr (.inr (.inr (.inr (.inr (.inr rfl))))))).trans h.f⟩, fun A h b hb => by
    rcases hb with rfl | rfl | rfl | rfl | rfl | rfl | rfl
    · exact h.m.lt
    · exact h.t.lt
    · exact h.s.lt
    · exact h.d.lt
    · exact h.v.lt
    · exact h.g.lt
    · exact h.f.lt⟩
/-- Between the rounds. -/
structure SQO (w : World) (B mq gp N : Nat) (zs zo : Sid) (ko : Nat → Option (Int × Int)) (ho : Nat → Option Int) (Fs Fo : Nat → Prop) (b2 bD T : Nat) (m : GM.M) (L : Nat → List (Int × Int)) (s u : Nat) (r : Int) (dn : Nat → Bool) (pre : List Nat) (X : Nat → Prop) (A : World) : Prop where
  s : ∃ at_ x ks hs F, ME A B mq gp N 0 at_ x zs zo ks ko hs ho F Fo ∧ NM.PR m L N s u r dn ko (NM.wayO (NM.opens m pre)) ks hs at_ x ∧ (∀ b, F b → Fs b ∨ w.heap.size ≤ b) ∧ (∀ b, b = mq ∨ F b ∨ Fo b → ¬ X b ∧ ¬ stBO b2 bD T b)
  k : StKO b2 bD T mq zs.q gp u r A
  n : ∀ b, stBO b2 bD T b → ¬ X b
  lo : ∀ b, X b → w.heap.size ≤ b
  kp : Keeps (fun b => Fs b ∨ b = mq) w A
theorem SQO.apart {w : World} {B mq gp N : Nat} {zs zo : Sid} {ko : Nat → Option (Int × Int)} {ho : Nat → Option Int} {Fs Fo : Nat → Prop} {b2 bD T : Nat} {m : GM.M} {L : Nat → List (Int × Int)} {s u : Nat} {r : Int} {dn : Nat → Bool} : Apart (SQO w B mq gp N zs zo ko ho Fs Fo b2 bD T m L s u r dn) := by
  rintro pre X X' A A' ⟨⟨at_, x, ks, hs, F, h1, h2, h3, h4⟩, hk, hn, hlo, hkp⟩ hK hX
  have hs := hkp.size
  have hl := (stO_holds b2 bD T mq zs.q gp u r).lt A hk
  refine ⟨⟨at_, x, ks, _, F, h1.kept hK (fun b hb => (h4 b hb).1), h2, h3, fun b hb => ⟨fun hx => ?_, (h4 b hb).2⟩⟩, (stO_holds b2 bD T mq zs.q gp u r).same _ _ hk (fun b hb => hK.block _ (hl b hb) (hn b hb)), fun b hb hx => ?_, fun b hb => ?_, hkp.trans hK (fun b hb => .inr (hlo b hb))⟩
  · have hbl : b < A.heap.size := by
      rcases hb with rfl | hb | hb
      · exact h1.ml
      · exact (h1.s.lt b hb).2
      · exact (h1.o.lt b hb).2
    rcases hX b hx with h | h
    · exact (h4 b hb).1 h
    · omega
  · rcases hX b hx with h | h
    · exact hn b hb h
    · have := hl b hb; omega
  · rcases hX b hb with h | h
    · exact hlo b h
    · omega
set_option maxHeartbeats 400000 in
theorem arcsO_any {A : World} {B : Nat} {z : Sid} {gp N : Nat} {k : Nat → Option (Int × Int)} {hm : Nat → Option Int} {F : Nat → Prop} (h : SD A B z gp 0 N k hm F) (v : Int) :
    Calls Try.prog 84 #[.pointer (some ⟨z.q, 0, none⟩), .int .i64 v] A fun e w' => ∃ T, e = .returned (.func (.func 107) #[] #[.pointer (some ⟨T + 1, 0, none⟩), .pointer (some ⟨T + 1 + 1, 0, none⟩)]) ∧ T = A.heap.size ∧
      Boxed w' T 3 (.int .i64 v) ∧ Boxed w' (T + 1) 24 (.pointer (some ⟨gp, 0, none⟩)) ∧ Boxed w' (T + 1 + 1) 135 (.func (.func 99) #[] #[.pointer (some ⟨T, 0, none⟩)]) ∧ Below A.heap.size A w' ∧ w'.heap.size = T + 3 := by
  have c2 := h.c2
  have c3 := h.c3
  have hat := atO_any gp v A
  obtain ⟨W', hW', k1, k2, k3, k4, k5⟩ := three_new A gp v 99
  rw [← hW'] at hat
  clear h hW'
  have HK : Hid (Boxed W' A.heap.size 3 (.int .i64 v) ∧ Boxed W' (A.heap.size + 1) 24 (.pointer (some ⟨gp, 0, none⟩)) ∧ Boxed W' (A.heap.size + 1 + 1) 135 (.func (.func 99) #[] #[.pointer (some ⟨A.heap.size, 0, none⟩)]) ∧ Below A.heap.size A W' ∧ W'.heap.size = A.heap.size + 3) := ⟨k1, k2, k3, k4, k5⟩
  clear k1 k2 k3 k4 k5
  go_enter Try.func84, Try.ntmps84
  go_wp2_with fail
  refine hat.mono ?_
  rintro e w1 ⟨rfl, hw1⟩
  rw [hw1]
  clear hat hw1 w1
  go_wp2_with fail
  go_ret
  exact ⟨_, rfl, rfl, HK.out⟩
end Go.Proofs.Ytmamligiopbefaa
end

section
/-
  One arc more is gone along, onwards.
-/
namespace Go.Proofs.Ytmamligiopbefaa
open Go.RowKit Go.Shelf

section
variable {w B1 B4 : World} {B mq gp N : Nat} {zs zo : Sid} {ko : Nat → Option (Int × Int)} {ho : Nat → Option Int} {Fs Fo : Nat → Prop} {b2 bD T : Nat} {m : GM.M} {L : Nat → List (Int × Int)} {s u : Nat} {r : Int} {dn : Nat → Bool} {pre : List Nat} {X X0 : Nat → Prop}
theorem SQO.same {pre' : List Nat} (h : SQO w B mq gp N zs zo ko ho Fs Fo b2 bD T m L s u r dn pre X B1) (e : NM.wayO (NM.opens m pre') = NM.wayO (NM.opens m pre)) : SQO w B mq gp N zs zo ko ho Fs Fo b2 bD T m L s u r dn pre' X B1 := by
  obtain ⟨⟨at_, x, ks, hs, F, h1, h2, h3, h4⟩, hk, hn, hlo, hkp⟩ := h
  exact ⟨⟨at_, x, ks, hs, F, h1, by rw [e]; exact h2, h3, h4⟩, hk, hn, hlo, hkp⟩
theorem turnO_any (hW : NM.Ways m N L) (hu : u < N) (hdu : dn u = true) (hr : r ≠ 4611686018427387906) (hko : ∀ v, 0 ≤ NM.farOf ko v ∧ NM.farOf ko v ≤ 4611686018427387906) (hB : B ≤ w.heap.size)
    (h : SQO w B mq gp N zs zo ko ho Fs Fo b2 bD T m L s u r dn pre X B1) (hX : ∀ z, X0 z → X z) (hXl : ∀ z, X0 z → z < B1.heap.size) (hb : Below B1.heap.size B1 B4) {i : Nat} (hi : i < 64) (hz : NM.opn m u i) (hw : 0 ≤ NM.wt m i ∧ NM.wt m i ≤ 4611686018427387904) (hx : (NM.hd m i, NM.wt m i) ∈ L u) (e : NM.wayO (NM.opens m (pre ++ [i])) = NM.wayO (NM.opens m pre) ++ [(NM.hd m i, NM.wt m i)]) :
    ∃ k : Nat, NM.hd m i = k ∧ Calls Try.prog 51 #[.pointer (some ⟨mq, 0, none⟩), .int .i64 0, .int .i64 (k : Nat), .agg #[.int .i64 (DM.two r (NM.wt m i)), .int .i64 (i : Nat)]] B4 fun e w6 => e = .returned (.tuple #[]) ∧ Rest X0 B1 w6 ∧ SQO w B mq gp N zs zo ko ho Fs Fo b2 bD T m L s u r dn (pre ++ [i]) X0 w6 ∧ (∀ b, B1.heap.size ≤ b → b < B4.heap.size → w6.heap[b]? = B4.heap[b]?) := by
  obtain ⟨⟨at_, x, ks, hs, F, hme1, hpr, hF, hX41⟩, hk0, hn1, hlo1, hkp1⟩ := h
  have hme := hme1.on hb
  have hX4 : ∀ b, b = mq ∨ F b ∨ Fo b → ¬ X0 b ∧ ¬ stBO b2 bD T b := fun b hb' => ⟨fun hx => (hX41 b hb').1 (hX b hx), (hX41 b hb').2⟩
  have hl1 := (stO_holds b2 bD T mq zs.q gp u r).lt B1 hk0
  have hk := (stO_holds b2 bD T mq zs.q gp u r).same _ _ hk0 (fun b hb' => hb.block _ (hl1 b hb'))
  have hn : ∀ b, stBO b2 bD T b → ¬ X0 b := fun b hb' hx => hn1 b hb' (hX b hx)
  have hlo : ∀ b, X0 b → w.heap.size ≤ b := fun b hx => hlo1 b (hX b hx)
  have hkp := hkp1.trans (Below.keeps hb (fun _ => False)) (fun _ h => h.elim)
  obtain ⟨k, hk1, hkN, hyes, hno⟩ := hpr.go hW hu hdu hr hko hi hz hw hx
  refine ⟨k, hk1, ?_⟩
  have hl := (stO_holds b2 bD T mq zs.q gp u r).lt B4 hk
  have hsz := hkp.size
  have e1 := hb.size
  by_cases hlt : DM.two r (NM.wt m i) < NM.farOf ks k
  · obtain ⟨hc, hpr2⟩ := hyes hlt
    refine (reachO_yes hme (by omega) k hkN _ _ (DM.two_bd _ _) (hpr.ar.bd k) (hko k) hpr.mt.bd hlt hc).mono ?_
    rintro e6 w6 ⟨rfl, hk6, hme6⟩
    have nF : ∀ b, stBO b2 bD T b → ¬ (F b ∨ b = mq) := fun b hb hf => by
      rcases hf with hf | hf
      · exact (hX4 b (.inr (.inl hf))).2 hb
      · exact (hX4 b (.inl hf)).2 hb
    refine ⟨rfl, (Rest.of_below hb).trans (Keeps.mono hk6 (fun z hz hx0 => ?_)), ⟨⟨_, _, _, _, _, hme6, by rw [e]; exact hpr2, fun b hb => ?_, fun b hb => ?_⟩, (stO_holds b2 bD T mq zs.q gp u r).same _ _ hk (fun b hb => hk6.block _ (hl b hb) (nF b hb)), hn, hlo, hkp.trans hk6 (fun b hb => ?_)⟩, fun b hb1 hb2 => hk6.block b hb2 (fun hf => ?_)⟩
    · rcases hz with hz | hz
      · exact (hX4 z (.inr (.inl hz))).1 hx0
      · exact (hX4 z (.inl hz)).1 hx0
    · rcases hb with hb | hb
      · exact hF b hb
      · exact .inr (by omega)
    · have hnew : ∀ b, B4.heap.size ≤ b → ¬ X0 b ∧ ¬ stBO b2 bD T b := fun b hb => ⟨fun hx => by have := hXl b hx; omega, fun hx => by have := hl b hx; omega⟩
      rcases hb with hb | hb | hb
      · exact hX4 b (.inl hb)
      · rcases hb with hb | hb
        · exact hX4 b (.inr (.inl hb))
        · exact hnew b hb.1
      · exact hX4 b (.inr (.inr hb))
    · rcases hb with hb | hb
      · rcases hF b hb with h1 | h1
        · exact .inl (.inl h1)
        · exact .inr h1
      · exact .inl (.inr hb)
    · rcases hf with hf | hf
      · have := (hme1.s.lt b hf).2
        omega
      · have := hme1.ml
        omega
  · have hpr2 := hno hlt
    refine (reachO_no hme k hkN _ _ (DM.two_bd _ _) (hpr.ar.bd k) hlt).mono ?_
    rintro e6 w6 ⟨rfl, hb6⟩
    refine ⟨rfl, (Rest.of_below hb).trans (Rest.of_below hb6), SQO.apart _ _ X0 _ _ ⟨⟨at_, x, ks, hs, F, hme, by rw [e]; exact hpr2, hF, hX4⟩, hk, hn, hlo, hkp⟩ (Below.keeps hb6 _) (fun b hb => .inl hb), fun b _ hb2 => hb6.block b hb2⟩
end
end Go.Proofs.Ytmamligiopbefaa
end

section
/-
  The walk of step, back: what holds while a vertex is gone on from.
-/
namespace Go.Proofs.Ytmamligiopbefaa
open Go.RowKit Go.Shelf
attribute [local go_sem] Oper.semAt_some

theorem lookI (m : GM.M) {i : Nat} (hi : i < 64) (ids : List Nat) : NM.wayI (NM.opens m (ids ++ [i])) = NM.wayI (NM.opens m ids) ++ (if (GM.arc (NM.rev m) i).closed = true then [] else [(NM.hd (NM.rev m) i, NM.wt (NM.rev m) i)]) := by
  rw [NM.opens_snoc, NM.look_at m hi]
  unfold NM.wayI
  rw [List.map_append, NM.hd_at _ hi, NM.wt_at _ hi, NM.arc_rev]
  dsimp only [NM.turnArc]
  split <;> rename_i h <;> simp [h]
/-- The boxes of a step: the meeting, the turn, the side; how far the vertex is; the iterator's own three. -/
def stBI (b2 bD T : Nat) (b : Nat) : Prop := b = b2 ∨ b = b2 + 1 ∨ b = b2 + 2 ∨ b = bD ∨ b = T ∨ b = T + 1 ∨ b = T + 1 + 1
structure StKI (b2 bD T mq q gp : Nat) (u r : Int) (A : World) : Prop where
  m : Boxed A b2 66 (.pointer (some ⟨mq, 0, none⟩))
  t : Boxed A (b2 + 1) 3 (.int .i64 1)
  s : Boxed A (b2 + 2) 62 (.pointer (some ⟨q, 0, none⟩))
  d : Boxed A bD 3 (.int .i64 r)
  v : Boxed A T 3 (.int .i64 u)
  g : Boxed A (T + 1) 24 (.pointer (some ⟨gp, 0, none⟩))
  f : Boxed A (T + 1 + 1) 135 (.func (.func 108) #[] #[.pointer (some ⟨T, 0, none⟩)])
theorem stI_holds (b2 bD T mq q gp : Nat) (u r : Int) : Holds (stBI b2 bD T) (StKI b2 bD T mq q gp u r) :=
  ⟨fun A A' h hb => ⟨(hb _ (.inl rfl)).trans h.m, (hb _ (.inr (.inl rfl))).trans h.t, (hb _ (.inr (.inr (.inl rfl)))).trans h.s, (hb _ (.inr (.inr (.inr (.inl rfl))))).trans h.d, (hb _ (.inr (.inr (.inr (.inr (.inl rfl)))))).trans h.v, (hb _ (.inr (.inr (.inr (.inr (.inr (.inl rfl))))))).trans h.g, (hb _ (.inr (.inr (.inr (.inr (.inr (.inr rfl))))))).trans h.f⟩, fun A h b hb => by
    rcases hb with rfl | rfl | rfl | rfl | rfl | rfl | rfl
    · exact h.m.lt
    · exact h.t.lt
    · exact h.s.lt
    · exact h.d.lt
    · exact h.v.lt
    · exact h.g.lt
    · exact h.f.lt⟩
/-- Between the rounds. -/
structure SQI (w : World) (B mq gp N : Nat) (zs zo : Sid) (ko : Nat → Option (Int × Int)) (ho : Nat → Option Int) (Fs Fo : Nat → Prop) (b2 bD T : Nat) (m : GM.M) (L : Nat → List (Int × Int)) (s u : Nat) (r : Int) (dn : Nat → Bool) (pre : List Nat) (X : Nat → Prop) (A : World) : Prop where
  s : ∃ at_ x ks hs F, ME A B mq gp N 1 at_ x zs zo ks ko hs ho F Fo ∧ NM.PR (NM.rev m) L N s u r dn ko (NM.wayI (NM.opens m pre)) ks hs at_ x ∧ (∀ b, F b → Fs b ∨ w.heap.size ≤ b) ∧ (∀ b, b = mq ∨ F b ∨ Fo b → ¬ X b ∧ ¬ stBI b2 bD T b)
  k : StKI b2 bD T mq zs.q gp u r A
  n : ∀ b, stBI b2 bD T b → ¬ X b
  lo : ∀ b, X b → w.heap.size ≤ b
  kp : Keeps (fun b => Fs b ∨ b = mq) w A
theorem SQI.apart {w : World} {B mq gp N : Nat} {zs zo : Sid} {ko : Nat → Option (Int × Int)} {ho : Nat → Option Int} {Fs Fo : Nat → Prop} {b2 bD T : Nat} {m : GM.M} {L : Nat → List (Int × Int)} {s u : Nat} {r : Int} {dn : Nat → Bool} : Apart (SQI w B mq gp N zs zo ko ho Fs Fo b2 bD T m L s u r dn) := by
  rintro pre X X' A A' ⟨⟨at_, x, ks, hs, F, h1, h2, h3, h4⟩, hk, hn, hlo, hkp⟩ hK hX
  have hs := hkp.size
  have hl := (stI_holds b2 bD T mq zs.q gp u r).lt A hk
  refine ⟨⟨at_, x, ks, _, F, h1.kept hK (fun b hb => (h4 b hb).1), h2, h3, fun b hb => ⟨fun hx => ?_, (h4 b hb).2⟩⟩, (stI_holds b2 bD T mq zs.q gp u r).same _ _ hk (fun b hb => hK.block _ (hl b hb) (hn b hb)), fun b hb hx => ?_, fun b hb => ?_, hkp.trans hK (fun b hb => .inr (hlo b hb))⟩
  · have hbl : b < A.heap.size := by
      rcases hb with rfl | hb | hb
      · exact h1.ml
      · exact (h1.s.lt b hb).2
      · exact (h1.o.lt b hb).2
    rcases hX b hx with h | h
    · exact (h4 b hb).1 h
    · omega
  · rcases hX b hx with h | h
    · exact hn b hb h
    · have := hl b hb; omega
  · rcases hX b hb with h | h
    · exact hlo b h
    · omega
set_option maxHeartbeats 400000 in
theorem arcsI_any {A : World} {B : Nat} {z : Sid} {gp N : Nat} {k : Nat → Option (Int × Int)} {hm : Nat → Option Int} {F : Nat → Prop} (h : SD A B z gp 1 N k hm F) (v : Int) :
    Calls Try.prog 84 #[.pointer (some ⟨z.q, 0, none⟩), .int .i64 v] A fun e w' => ∃ T, e = .returned (.func (.func 107) #[] #[.pointer (some ⟨T + 1, 0, none⟩), .pointer (some ⟨T + 1 + 1, 0, none⟩)]) ∧ T = A.heap.size ∧
      Boxed w' T 3 (.int .i64 v) ∧ Boxed w' (T + 1) 24 (.pointer (some ⟨gp, 0, none⟩)) ∧ Boxed w' (T + 1 + 1) 135 (.func (.func 108) #[] #[.pointer (some ⟨T, 0, none⟩)]) ∧ Below A.heap.size A w' ∧ w'.heap.size = T + 3 := by
  have c2 := h.c2
  have c3 := h.c3
  have hat := atI_any gp v A
  obtain ⟨W', hW', k1, k2, k3, k4, k5⟩ := three_new A gp v 108
  rw [← hW'] at hat
  clear h hW'
  have HK : Hid (Boxed W' A.heap.size 3 (.int .i64 v) ∧ Boxed W' (A.heap.size + 1) 24 (.pointer (some ⟨gp, 0, none⟩)) ∧ Boxed W' (A.heap.size + 1 + 1) 135 (.func (.func 108) #[] #[.pointer (some ⟨A.heap.size, 0, none⟩)]) ∧ Below A.heap.size A W' ∧ W'.heap.size = A.heap.size + 3) := ⟨k1, k2, k3, k4, k5⟩
  clear k1 k2 k3 k4 k5
  go_enter Try.func84, Try.ntmps84
  go_wp2_with fail
  refine hat.mono ?_
  rintro e w1 ⟨rfl, hw1⟩
  rw [hw1]
  clear hat hw1 w1
  go_wp2_with fail
  go_ret
  exact ⟨_, rfl, rfl, HK.out⟩
end Go.Proofs.Ytmamligiopbefaa
end

section
/-
  One arc more is gone along, back.
-/
namespace Go.Proofs.Ytmamligiopbefaa
open Go.RowKit Go.Shelf

section
variable {w B1 B4 : World} {B mq gp N : Nat} {zs zo : Sid} {ko : Nat → Option (Int × Int)} {ho : Nat → Option Int} {Fs Fo : Nat → Prop} {b2 bD T : Nat} {m : GM.M} {L : Nat → List (Int × Int)} {s u : Nat} {r : Int} {dn : Nat → Bool} {pre : List Nat} {X X0 : Nat → Prop}
theorem SQI.same {pre' : List Nat} (h : SQI w B mq gp N zs zo ko ho Fs Fo b2 bD T m L s u r dn pre X B1) (e : NM.wayI (NM.opens m pre') = NM.wayI (NM.opens m pre)) : SQI w B mq gp N zs zo ko ho Fs Fo b2 bD T m L s u r dn pre' X B1 := by
  obtain ⟨⟨at_, x, ks, hs, F, h1, h2, h3, h4⟩, hk, hn, hlo, hkp⟩ := h
  exact ⟨⟨at_, x, ks, hs, F, h1, by rw [e]; exact h2, h3, h4⟩, hk, hn, hlo, hkp⟩
theorem turnI_any (hW : NM.Ways (NM.rev m) N L) (hu : u < N) (hdu : dn u = true) (hr : r ≠ 4611686018427387906) (hko : ∀ v, 0 ≤ NM.farOf ko v ∧ NM.farOf ko v ≤ 4611686018427387906) (hB : B ≤ w.heap.size)
    (h : SQI w B mq gp N zs zo ko ho Fs Fo b2 bD T m L s u r dn pre X B1) (hX : ∀ z, X0 z → X z) (hXl : ∀ z, X0 z → z < B1.heap.size) (hb : Below B1.heap.size B1 B4) {i : Nat} (hi : i < 64) (hz : NM.opn (NM.rev m) u i) (hw : 0 ≤ NM.wt (NM.rev m) i ∧ NM.wt (NM.rev m) i ≤ 4611686018427387904) (hx : (NM.hd (NM.rev m) i, NM.wt (NM.rev m) i) ∈ L u) (e : NM.wayI (NM.opens m (pre ++ [i])) = NM.wayI (NM.opens m pre) ++ [(NM.hd (NM.rev m) i, NM.wt (NM.rev m) i)]) :
    ∃ k : Nat, NM.hd (NM.rev m) i = k ∧ Calls Try.prog 51 #[.pointer (some ⟨mq, 0, none⟩), .int .i64 1, .int .i64 (k : Nat), .agg #[.int .i64 (DM.two r (NM.wt (NM.rev m) i)), .int .i64 (i : Nat)]] B4 fun e w6 => e = .returned (.tuple #[]) ∧ Rest X0 B1 w6 ∧ SQI w B mq gp N zs zo ko ho Fs Fo b2 bD T m L s u r dn (pre ++ [i]) X0 w6 ∧ (∀ b, B1.heap.size ≤ b → b < B4.heap.size → w6.heap[b]? = B4.heap[b]?) := by
  obtain ⟨⟨at_, x, ks, hs, F, hme1, hpr, hF, hX41⟩, hk0, hn1, hlo1, hkp1⟩ := h
  have hme := hme1.on hb
  have hX4 : ∀ b, b = mq ∨ F b ∨ Fo b → ¬ X0 b ∧ ¬ stBI b2 bD T b := fun b hb' => ⟨fun hx => (hX41 b hb').1 (hX b hx), (hX41 b hb').2⟩
  have hl1 := (stI_holds b2 bD T mq zs.q gp u r).lt B1 hk0
  have hk := (stI_holds b2 bD T mq zs.q gp u r).same _ _ hk0 (fun b hb' => hb.block _ (hl1 b hb'))
  have hn : ∀ b, stBI b2 bD T b → ¬ X0 b := fun b hb' hx => hn1 b hb' (hX b hx)
  have hlo : ∀ b, X0 b → w.heap.size ≤ b := fun b hx => hlo1 b (hX b hx)
  have hkp := hkp1.trans (Below.keeps hb (fun _ => False)) (fun _ h => h.elim)
  obtain ⟨k, hk1, hkN, hyes, hno⟩ := hpr.go hW hu hdu hr hko hi hz hw hx
  refine ⟨k, hk1, ?_⟩
  have hl := (stI_holds b2 bD T mq zs.q gp u r).lt B4 hk
  have hsz := hkp.size
  have e1 := hb.size
  by_cases hlt : DM.two r (NM.wt (NM.rev m) i) < NM.farOf ks k
  · obtain ⟨hc, hpr2⟩ := hyes hlt
    refine (reachI_yes hme (by omega) k hkN _ _ (DM.two_bd _ _) (hpr.ar.bd k) (hko k) hpr.mt.bd hlt hc).mono ?_
    rintro e6 w6 ⟨rfl, hk6, hme6⟩
    have nF : ∀ b, stBI b2 bD T b → ¬ (F b ∨ b = mq) := fun b hb hf => by
      rcases hf with hf | hf
      · exact (hX4 b (.inr (.inl hf))).2 hb
      · exact (hX4 b (.inl hf)).2 hb
    refine ⟨rfl, (Rest.of_below hb).trans (Keeps.mono hk6 (fun z hz hx0 => ?_)), ⟨⟨_, _, _, _, _, hme6, by rw [e]; exact hpr2, fun b hb => ?_, fun b hb => ?_⟩, (stI_holds b2 bD T mq zs.q gp u r).same _ _ hk (fun b hb => hk6.block _ (hl b hb) (nF b hb)), hn, hlo, hkp.trans hk6 (fun b hb => ?_)⟩, fun b hb1 hb2 => hk6.block b hb2 (fun hf => ?_)⟩
    · rcases hz with hz | hz
      · exact (hX4 z (.inr (.inl hz))).1 hx0
      · exact (hX4 z (.inl hz)).1 hx0
    · rcases hb with hb | hb
      · exact hF b hb
      · exact .inr (by omega)
    · have hnew : ∀ b, B4.heap.size ≤ b → ¬ X0 b ∧ ¬ stBI b2 bD T b := fun b hb => ⟨fun hx => by have := hXl b hx; omega, fun hx => by have := hl b hx; omega⟩
      rcases hb with hb | hb | hb
      · exact hX4 b (.inl hb)
      · rcases hb with hb | hb
        · exact hX4 b (.inr (.inl hb))
        · exact hnew b hb.1
      · exact hX4 b (.inr (.inr hb))
    · rcases hb with hb | hb
      · rcases hF b hb with h1 | h1
        · exact .inl (.inl h1)
        · exact .inr h1
      · exact .inl (.inr hb)
    · rcases hf with hf | hf
      · have := (hme1.s.lt b hf).2
        omega
      · have := hme1.ml
        omega
  · have hpr2 := hno hlt
    refine (reachI_no hme k hkN _ _ (DM.two_bd _ _) (hpr.ar.bd k) hlt).mono ?_
    rintro e6 w6 ⟨rfl, hb6⟩
    refine ⟨rfl, (Rest.of_below hb).trans (Rest.of_below hb6), SQI.apart _ _ X0 _ _ ⟨⟨at_, x, ks, hs, F, hme, by rw [e]; exact hpr2, hF, hX4⟩, hk, hn, hlo, hkp⟩ (Below.keeps hb6 _) (fun b hb => .inl hb), fun b _ hb2 => hb6.block b hb2⟩
end
end Go.Proofs.Ytmamligiopbefaa
end
