/-
  BothSearch, BothSearchW.
-/
import Derived.Test.YtmamligiopbefaaMmBothOne
import Derived.Test.YtmamligiopbefaaMmBothStepW
import Derived.Deep.LoopGhost
section
/-
  The walk of both's search.
-/
namespace Go.Proofs.Ytmamligiopbefaa
open Go.RowKit Go.Shelf

/-- What is known of both sides. -/
structure BP (A : World) (B mq gp N : Nat) (m : GM.M) (s t at_ : Nat) (x : Int) (z1 z2 : Sid) (k1 k2 : Nat → Option (Int × Int)) (h1 h2 : Nat → Option Int) (F1 F2 : Nat → Prop) (d1 d2 : Nat → Bool) : Prop where
  me : ME A B mq gp N 0 at_ x z1 z2 k1 k2 h1 h2 F1 F2
  j1 : NM.DJ m (fun v => NM.wayO (NM.opens m (GM.ends m (v : Int) false))) N s N [] (NM.farOf k1) h1 d1
  b1 : NM.BY m N s k1 d1
  j2 : NM.DJ (NM.rev m) (fun v => NM.wayI (NM.opens m (GM.ends m (v : Int) true))) N t N [] (NM.farOf k2) h2 d2
  b2 : NM.BY (NM.rev m) N t k2 d2
  mt : NM.MT N (NM.farOf k1) (NM.farOf k2) at_ x
/-- Between the rounds: so many vertices at most aren't settled. -/
structure BS (w : World) (mq gp N : Nat) (m : GM.M) (s t : Nat) (z1 z2 : Sid) (gk : Nat) (A : World) : Prop where
  e : ∃ at_ x k1 k2 h1 h2 F1 F2 d1 d2, BP A w.heap.size mq gp N m s t at_ x z1 z2 k1 k2 h1 h2 F1 F2 d1 d2 ∧ NM.rest N d1 + NM.rest N d2 ≤ gk
  b : Below w.heap.size w A
theorem BS.on {w A A' : World} {mq gp N : Nat} {m : GM.M} {s t : Nat} {z1 z2 : Sid} {gk : Nat} (h : BS w mq gp N m s t z1 z2 gk A) (hb : Below A.heap.size A A') : BS w mq gp N m s t z1 z2 gk A' := by
  obtain ⟨⟨at_, x, k1, k2, h1, h2, F1, F2, d1, d2, ⟨me, j1, b1, j2, b2, mt⟩, hr⟩, b⟩ := h
  exact ⟨⟨at_, x, k1, k2, h1, h2, F1, F2, d1, d2, ⟨me.on hb, j1, b1, j2, b2, mt⟩, hr⟩, below_on b hb⟩
section
variable {w A : World} {mq gp N most : Nat} {m : GM.M} {s t : Nat} {z1 z2 : Sid} {gk : Nat}
/-- One more step of a side. -/
theorem BS.step (hg : GMem w gp N most m) (hgm : GM.Good most m) (hin : WK.Inn N m) (hs : s < N) (ht : t < N) (h : BS w mq gp N m s t z1 z2 gk A) (hnd : ∃ at_ x k1 k2 h1 h2 F1 F2 d1 d2, BP A w.heap.size mq gp N m s t at_ x z1 z2 k1 k2 h1 h2 F1 F2 d1 d2 ∧ NM.rest N d1 + NM.rest N d2 ≤ gk ∧ better h1 h2 x = true) :
    0 < gk ∧ Calls Try.prog 53 #[.pointer (some ⟨mq, 0, none⟩), .int .i64 0] A (fun e w' => e = .returned (.tuple #[]) ∧ BS w mq gp N m s t z1 z2 (gk - 1) w') ∧
      Calls Try.prog 53 #[.pointer (some ⟨mq, 0, none⟩), .int .i64 1] A (fun e w' => e = .returned (.tuple #[]) ∧ BS w mq gp N m s t z1 z2 (gk - 1) w') := by
  obtain ⟨at_, x, k1, k2, h1, h2, F1, F2, d1, d2, ⟨me, j1, b1, j2, b2, mt⟩, hr, hbt⟩ := hnd
  have hb := h.b
  have hsz := hb.size
  have hg2 := hg.on hb
  have hgl := hg.lt
  have hf1 : ∃ f, HM.IsFirst HM.TI h1 f := by
    rcases me.s.either with e | e
    · rw [better_none1 e] at hbt
      cases hbt
    · exact e
  have hf2 : ∃ f, HM.IsFirst HM.TI h2 f := by
    rcases me.o.either with e | e
    · rw [better_none2 e] at hbt
      cases hbt
    · exact e
  obtain ⟨⟨u1, r1⟩, hf1⟩ := hf1
  obtain ⟨⟨u2, r2⟩, hf2⟩ := hf2
  have s1 := stepO_any me hsz hg2 hgl hgm hin hs j1 b1 mt (fun v => b2.bd v) hf1
  have s2 := stepI_any me.swap hsz hg2 hgl hgm hin ht j2 b2 mt.swap (fun v => b1.bd v) hf2
  have hpos : 0 < NM.rest N d1 := by
    obtain ⟨hu, hdu, -⟩ := j1.pop (NM.ways_fwd hin) hs (fun v hv => me.s.out hv) hf1
    have := NM.rest_upd hu hdu
    omega
  have hbel : ∀ (F : Nat → Prop) (w' : World), (∀ b, F b → w.heap.size ≤ b) → Keeps (fun b => F b ∨ b = mq) A w' → Below w.heap.size w w' := fun F w' hF hk => hb.trans (hk.below (fun b hb' => by
    rcases hb' with hb' | hb'
    · exact hF b hb'
    · rw [hb']; exact me.lo) hsz)
  refine ⟨by omega, s1.mono ?_, s2.mono ?_⟩
  · rintro e w' ⟨rfl, at2, x2, ks2, hs2, F2', dn2, q1, q2, q3, q4, q5, q6, q7⟩
    exact ⟨rfl, ⟨at2, x2, ks2, k2, hs2, h2, F2', F2, dn2, d2, ⟨q1, q2, q3, j2, b2, q4⟩, by omega⟩, hbel _ _ (fun b hb' => (me.s.lt b hb').1) q6⟩
  · rintro e w' ⟨rfl, at2, x2, ks2, hs2, F2', dn2, q1, q2, q3, q4, q5, q6, q7⟩
    exact ⟨rfl, ⟨at2, x2, k1, ks2, h1, hs2, F1, F2', d1, dn2, ⟨q1.swap, j1, b1, q2, q3, q4.swap⟩, by omega⟩, hbel _ _ (fun b hb' => (me.o.lt b hb').1) q6⟩
end
end Go.Proofs.Ytmamligiopbefaa
end

section
/-
  The walk of both's search, from its beginning to its end.
-/
namespace Go.Proofs.Ytmamligiopbefaa
open Go.RowKit Go.Shelf

/-- What search has found: the meeting, by which both sides' marks lead back. -/
structure BF (w : World) (mq gp N : Nat) (m : GM.M) (s t : Nat) (A : World) : Prop where
  e : ∃ at_ z1 z2 k1 k2 h1 h2 F1 F2 d1 d2, ME A w.heap.size mq gp N 0 at_ (NM.dist m s t) z1 z2 k1 k2 h1 h2 F1 F2 ∧ NM.BY m N s k1 d1 ∧ NM.BY (NM.rev m) N t k2 d2 ∧ NM.MT N (NM.farOf k1) (NM.farOf k2) at_ (NM.dist m s t)
  b : Below w.heap.size w A
theorem me_new {w3 : World} {B gp N : Nat} {z1 z2 : Sid} {F1 F2 : Nat → Prop} (hB : B ≤ w3.heap.size) (h1 : SD w3 B z1 gp 0 N (fun _ => none) (fun _ => none) F1) (h2 : SD w3 B z2 gp 1 N (fun _ => none) (fun _ => none) F2) (hd : ∀ b, F1 b → ¬ F2 b) :
    ME (w3.alloc (.cells #[.pointer (some ⟨z1.q, 0, none⟩), .pointer (some ⟨z2.q, 0, none⟩), .int .i64 0, .int .i64 4611686018427387906] 65)) B w3.heap.size gp N 0 0 4611686018427387906 z1 z2 (fun _ => none) (fun _ => none) (fun _ => none) (fun _ => none) F1 F2 := by
  have hb : Below w3.heap.size w3 (w3.alloc (.cells #[.pointer (some ⟨z1.q, 0, none⟩), .pointer (some ⟨z2.q, 0, none⟩), .int .i64 0, .int .i64 4611686018427387906] 65)) := (Below.refl _ _).alloc (Nat.le_refl _) _
  exact ⟨by simp, by simp, by simp, by simp, by simp, by simp, h1.on hb, h2.on hb, hd, fun h => by have := (h1.lt _ h).2; omega, fun h => by have := (h2.lt _ h).2; omega, hB, by omega⟩
theorem NM.farOf_no (v : Nat) : NM.farOf (fun _ => none) v = 4611686018427387906 := rfl
/-- Both sides have come to their first vertices. -/
theorem bs_begin {w A : World} {mq gp N : Nat} {m : GM.M} {s t : Nat} (hs : s < N) (ht : t < N) {z1 z2 : Sid} {F1 F2 : Nat → Prop} (hb : Below w.heap.size w A)
    (h : ME A w.heap.size mq gp N 0 (lessAt (DM.two 0 (NM.farOf (SM.upd (fun _ => none) s (some ((0 : Int), (-1 : Int)))) t)) 4611686018427387906 t 0) (lessOf (DM.two 0 (NM.farOf (SM.upd (fun _ => none) s (some ((0 : Int), (-1 : Int)))) t)) 4611686018427387906) z1 z2 (SM.upd (fun _ => none) s (some (0, -1))) (SM.upd (fun _ => none) t (some (0, -1))) (HM.upd (fun _ => none) s (some 0)) (HM.upd (fun _ => none) t (some 0)) F1 F2) : BS w mq gp N m s t z1 z2 (N + N) A := by
  have hk1 : ∀ v, 0 ≤ NM.farOf (SM.upd (fun _ => none) s (some ((0 : Int), (-1 : Int)))) v ∧ NM.farOf (SM.upd (fun _ => none) s (some ((0 : Int), (-1 : Int)))) v ≤ 4611686018427387906 := fun v => (NM.BY.begin (m := m) (N := N) (s := s)).bd v
  have hn : ∀ v : Nat, (0 : Int) ≤ (fun _ : Nat => (4611686018427387906 : Int)) v ∧ (fun _ : Nat => (4611686018427387906 : Int)) v ≤ 4611686018427387906 := fun v => by
    show (0 : Int) ≤ 4611686018427387906 ∧ (4611686018427387906 : Int) ≤ 4611686018427387906
    decide
  have m1 := ((NM.MT.none N).reach (v := s) (d := 0) hn hn hs (Int.le_refl _) (by show (0 : Int) < 4611686018427387906; decide)).2 (by show ¬ DM.two 0 4611686018427387906 < 4611686018427387906; decide)
  have e1 : NM.farOf (SM.upd (fun _ => none) s (some ((0 : Int), (-1 : Int)))) = NM.updF (fun _ => 4611686018427387906) s 0 := NM.farOf_upd _ _ _ _
  have e2 : NM.farOf (SM.upd (fun _ => none) t (some ((0 : Int), (-1 : Int)))) = NM.updF (fun _ => 4611686018427387906) t 0 := NM.farOf_upd _ _ _ _
  rw [← e1] at m1
  have m2 := m1.swap.reach (v := t) (d := 0) hn hk1 ht (Int.le_refl _) (by show (0 : Int) < 4611686018427387906; decide)
  rw [← e2] at m2
  refine ⟨⟨_, _, _, _, _, _, _, _, fun _ => false, fun _ => false, ⟨h, by rw [e1]; exact NM.DJ.begin hs, NM.BY.begin, by rw [e2]; exact NM.DJ.begin ht, NM.BY.begin, ?_⟩, by have := NM.rest_le N (fun _ => false); omega⟩, hb⟩
  by_cases hlt : DM.two 0 (NM.farOf (SM.upd (fun _ => none) s (some ((0 : Int), (-1 : Int)))) t) < 4611686018427387906
  · rw [lessAt_pos hlt, lessOf_pos hlt]
    exact (m2.1 hlt).swap
  · rw [lessAt_neg (by omega), lessOf_neg (by omega)]
    exact (m2.2 hlt).swap
set_option maxRecDepth 100000 in
set_option maxHeartbeats 1000000 in
theorem bsearch_any {w : World} {gp N most : Nat} {m : GM.M} (hg : GMem w gp N most m) (hgm : GM.Good most m) (hN : N ≤ 24) (hin : WK.Inn N m) (s t : Nat) (hs : s < N) (ht : t < N) :
    Calls Try.prog 25 #[.pointer (some ⟨gp, 0, none⟩), .int .i64 (s : Nat), .int .i64 (t : Nat)] w fun e w' => ∃ mq, e = .returned (.pointer (some ⟨mq, 0, none⟩)) ∧ BF w mq gp N m s t w' := by
  have HG : Hid (∀ W, Below w.heap.size w W → GMem W gp N most m) := fun W hW => hg.on hW
  have hn1 := newSide_any hg hN 0
  have HSTEP : Hid (∀ mq z1 z2 gk A, BS w mq gp N m s t z1 z2 gk A → (∃ at_ x k1 k2 h1 h2 F1 F2 d1 d2, BP A w.heap.size mq gp N m s t at_ x z1 z2 k1 k2 h1 h2 F1 F2 d1 d2 ∧ NM.rest N d1 + NM.rest N d2 ≤ gk ∧ better h1 h2 x = true) →
    0 < gk ∧ Calls Try.prog 53 #[.pointer (some ⟨mq, 0, none⟩), .int .i64 0] A (fun e w' => e = .returned (.tuple #[]) ∧ BS w mq gp N m s t z1 z2 (gk - 1) w') ∧
      Calls Try.prog 53 #[.pointer (some ⟨mq, 0, none⟩), .int .i64 1] A (fun e w' => e = .returned (.tuple #[]) ∧ BS w mq gp N m s t z1 z2 (gk - 1) w')) := fun mq z1 z2 gk A hbs h => hbs.step hg hgm hin hs ht h
  have HWY : Hid (NM.Ways m N (fun v => NM.wayO (NM.opens m (GM.ends m (v : Int) false))) ∧ NM.Ways (NM.rev m) N (fun v => NM.wayI (NM.opens m (GM.ends m (v : Int) true)))) := ⟨NM.ways_fwd hin, NM.ways_back hin⟩
  clear hg
  go_enter Try.func25, Try.ntmps25
  go_wp2_with fail
  refine hn1.mono ?_
  rintro e w1 ⟨z1, rfl, hd1, hb1⟩
  have HD1 : Hid (SD w1 w.heap.size z1 gp 0 N (fun _ => none) (fun _ => none) (fun b => w.heap.size ≤ b ∧ b < w1.heap.size) ∧ Below w.heap.size w w1) := ⟨hd1, hb1⟩
  have hn2 := newSide_any (HG.out _ hb1) hN 1
  clear hn1 hd1 hb1
  go_wp2_with fail
  refine hn2.mono ?_
  rintro e w2 ⟨z2, rfl, hd2, hb2⟩
  have hme : ME (w2.alloc (.cells #[.pointer (some ⟨z1.q, 0, none⟩), .pointer (some ⟨z2.q, 0, none⟩), .int .i64 0, .int .i64 4611686018427387906] 65)) w.heap.size w2.heap.size gp N 0 0 4611686018427387906 z1 z2 (fun _ => none) (fun _ => none) (fun _ => none) (fun _ => none) (fun b => w.heap.size ≤ b ∧ b < w1.heap.size) (fun b => w1.heap.size ≤ b ∧ b < w2.heap.size) := by
    obtain ⟨hd1, hb1⟩ := HD1.out
    have e1 := hb1.size
    have e2 := hb2.size
    exact me_new (by omega) (hd1.on hb2) (hd2.base e1) (fun b h1 h2 => by omega)
  have hb3 : Below w.heap.size w (w2.alloc (.cells #[.pointer (some ⟨z1.q, 0, none⟩), .pointer (some ⟨z2.q, 0, none⟩), .int .i64 0, .int .i64 4611686018427387906] 65)) := (below_on HD1.out.2 hb2).alloc (below_on HD1.out.2 hb2).size _
  have hfn : ∀ v, 0 ≤ NM.farOf (fun _ => none) v ∧ NM.farOf (fun _ => none) v ≤ 4611686018427387906 := fun v => by rw [NM.farOf_no]; decide
  have hr1 := reachO_yes hme hb3.size s hs 0 (-1) (by decide) (hfn s) (hfn s) (by decide) (by rw [NM.farOf_no]; decide) (.inl rfl)
  rw [show DM.two 0 (NM.farOf (fun _ => none) s) = 4611686018427387906 by rw [NM.farOf_no]; decide, lessAt_neg (by decide), lessOf_neg (by decide)] at hr1
  have HB3 : Hid (Below w.heap.size w (w2.alloc (.cells #[.pointer (some ⟨z1.q, 0, none⟩), .pointer (some ⟨z2.q, 0, none⟩), .int .i64 0, .int .i64 4611686018427387906] 65)) ∧ (∀ b, w.heap.size ≤ b ∧ b < w1.heap.size → w.heap.size ≤ b) ∧ w.heap.size ≤ w2.heap.size ∧ w.heap.size ≤ w1.heap.size) := ⟨hb3, fun b h => h.1, (below_on HD1.out.2 hb2).size, HD1.out.2.size⟩
  clear hn2 hd2 hb2 hme HD1 hb3
  go_upto_region 2 with fail
  generalize w2.alloc (.cells #[.pointer (some ⟨z1.q, 0, none⟩), .pointer (some ⟨z2.q, 0, none⟩), .int .i64 0, .int .i64 4611686018427387906] 65) = W3 at *
  generalize hmq : w2.heap.size = mq at *
  clear hmq
  go_wp2_with fail
  refine hr1.mono ?_
  rintro e w4 ⟨rfl, hk4, hme4⟩
  have hb4 : Below w.heap.size w w4 := HB3.out.1.trans (hk4.below (fun b hb => by
    rcases hb with hb | hb
    · exact hb.1
    · rw [hb]; exact HB3.out.2.2.1) HB3.out.1.size)
  have hfk : ∀ v, 0 ≤ NM.farOf (SM.upd (fun _ => none) s (some ((0 : Int), (-1 : Int)))) v ∧ NM.farOf (SM.upd (fun _ => none) s (some ((0 : Int), (-1 : Int)))) v ≤ 4611686018427387906 := fun v => (NM.BY.begin (m := m) (N := N) (s := s)).bd v
  have hr2 := reachI_yes hme4.swap hb4.size t ht 0 (-1) (by decide) (hfn t) (hfk t) (by decide) (by rw [NM.farOf_no]; decide) (.inl rfl)
  have HB4 : Hid (Below w.heap.size w w4 ∧ (∀ b, grow (fun b => w.heap.size ≤ b ∧ b < w1.heap.size) W3 w4 b → w.heap.size ≤ b)) := ⟨hb4, fun b hb => (hme4.s.lt b hb).1⟩
  have HLO : Hid (∀ b, (fun b => w1.heap.size ≤ b ∧ b < mq) b ∨ b = mq → w.heap.size ≤ b) := fun b hb => by
    rcases hb with hb | hb
    · exact (hme4.o.lt b hb).1
    · rw [hb]; exact HB3.out.2.2.1
  clear hr1 hk4 hme4 hb4 HB3
  go_wp2_with fail
  refine hr2.mono ?_
  rintro e w5 ⟨rfl, hk5, hme5⟩
  have HBS : Hid (BS w mq gp N m s t z1 z2 (N + N) w5) := bs_begin hs ht (HB4.out.1.trans (hk5.below HLO.out HB4.out.1.size)) hme5.swap
  clear hr2 hk5 hme5 HB4 HLO hfk hfn
  go_wp2_with fail
  clear HG hN hgm
  refine wp_loop_ghost_k (fun k a wr => ∃ (j : Nat) (u24 u25 u26 u27 u28 u29 u30 : Value), (BS w mq gp N m s t z1 z2 k wr ∧ (j = 0 ∨ j = 1)) ∧ a = { tmps := #[.pointer (some ⟨gp, 0, none⟩), .int .i64 (s : Nat), .int .i64 (t : Nat), undef, undef, undef, .pointer none, .pointer (some ⟨mq, 0, none⟩), .int .i64 (j : Nat), .pointer (some ⟨gp, 0, none⟩), .pointer (some ⟨z1.q, 0, none⟩), .pointer (some ⟨gp, 0, none⟩), .pointer (some ⟨z2.q, 0, none⟩), .agg #[.pointer (some ⟨z1.q, 0, none⟩), .pointer (some ⟨z2.q, 0, none⟩)], .agg #[.pointer (some ⟨z1.q, 0, none⟩), .pointer (some ⟨z2.q, 0, none⟩), .int .i64 0, .int .i64 4611686018427387906], .pointer (some ⟨mq, 0, none⟩), .pointer (some ⟨mq, 0, none⟩), .int .i64 (s : Nat), .agg #[.int .i64 0, .int .i64 (-1)], .tuple #[], .pointer (some ⟨mq, 0, none⟩), .int .i64 (t : Nat), .agg #[.int .i64 0, .int .i64 (-1)], .tuple #[], u24, u25, u26, u27, u28, u29, u30, undef], defers := [] }) (N + N) ?_ ?_
  · refine ⟨0, ?_⟩
    repeat apply Exists.intro
    exact ⟨⟨HBS.out, .inl rfl⟩, rfl⟩
  · intro gk _ wr hinv
    obtain ⟨j, u24, u25, u26, u27, u28, u29, u30, ⟨hbs, hj⟩, ha⟩ := hinv
    subst ha
    try dsimp only
    intro _ _ _ _
    clear HBS
    have HB : Hid (BS w mq gp N m s t z1 z2 gk wr) := hbs
    obtain ⟨⟨at_, x, k1, k2, h1, h2, F1, F2, d1, d2, hbp, hr⟩, hbel⟩ := hbs
    have hcb := canBeBetter_any hbp.me hbp.mt.bd
    cases hbt : better h1 h2 x with
    | false =>
      rw [hbt] at hcb
      have hx := NM.met HWY.out.1 HWY.out.2 hbp.j1 hbp.j2 hs ht hbp.mt (fun v hv => hbp.me.s.out hv) (fun v hv => hbp.me.o.out hv) hbp.me.s.either hbp.me.o.either hbt
      have HF : Hid (∀ A, Below wr.heap.size wr A → BF w mq gp N m s t A) := fun A hA => ⟨⟨at_, z1, z2, k1, k2, h1, h2, F1, F2, d1, d2, by rw [← hx]; exact hbp.me.on hA, hbp.b1, hbp.b2, by rw [← hx]; exact hbp.mt⟩, below_on hbel hA⟩
      clear hbp hr hbel hbt hx HB HSTEP HWY hin
      go_wp2_with fail
      refine hcb.mono ?_
      rintro e w8 ⟨rfl, hb8⟩
      have HE : Hid (BF w mq gp N m s t w8) := HF.out w8 hb8
      clear hcb hb8 HF
      go_wp2_with fail
      go_ret
      exact ⟨mq, rfl, HE.out⟩
    | true =>
      rw [hbt] at hcb
      have HS : Hid (∀ A, Below wr.heap.size wr A → 0 < gk ∧ Calls Try.prog 53 #[.pointer (some ⟨mq, 0, none⟩), .int .i64 0] A (fun e w' => e = .returned (.tuple #[]) ∧ BS w mq gp N m s t z1 z2 (gk - 1) w') ∧
      Calls Try.prog 53 #[.pointer (some ⟨mq, 0, none⟩), .int .i64 1] A (fun e w' => e = .returned (.tuple #[]) ∧ BS w mq gp N m s t z1 z2 (gk - 1) w')) := fun A hA => HSTEP.out mq z1 z2 gk A (HB.out.on hA) ⟨at_, x, k1, k2, h1, h2, F1, F2, d1, d2, ⟨hbp.me.on hA, hbp.j1, hbp.b1, hbp.j2, hbp.b2, hbp.mt⟩, hr, hbt⟩
      clear hbp hr hbel hbt HB HSTEP HWY hin
      go_wp2_with fail
      refine hcb.mono ?_
      rintro e w8 ⟨rfl, hb8⟩
      obtain ⟨hpos, s0, s1⟩ := HS.out w8 hb8
      have HGK : Hid (gk - 1 < gk) := by show _ < _; omega
      clear hcb hb8 HS hpos
      rcases hj with rfl | rfl
      · clear s1
        go_wp2_with fail
        refine s0.mono ?_
        rintro e w9 ⟨rfl, hbs9⟩
        have HO : Hid (BS w mq gp N m s t z1 z2 (gk - 1) w9) := hbs9
        clear s0 hbs9
        go_wp2_with fail
        refine Handed.intro (gk - 1) HGK.out ?_
        go_step
        refine ⟨1, ?_⟩
        repeat apply Exists.intro
        exact ⟨⟨HO.out, .inr rfl⟩, rfl⟩
      · clear s0
        go_wp2_with fail
        refine s1.mono ?_
        rintro e w9 ⟨rfl, hbs9⟩
        have HO : Hid (BS w mq gp N m s t z1 z2 (gk - 1) w9) := hbs9
        clear s1 hbs9
        go_wp2_with fail
        refine Handed.intro (gk - 1) HGK.out ?_
        go_step
        refine ⟨0, ?_⟩
        repeat apply Exists.intro
        exact ⟨⟨HO.out, .inl rfl⟩, rfl⟩
end Go.Proofs.Ytmamligiopbefaa
end
