/-
  The walk of near.tree.
-/
import Derived.Test.YtmamligiopbefaaMmSufs
import Derived.Test.YtmamligiopbefaaMmNearRound
import Derived.Test.YtmamligiopbefaaMmMems
import Derived.Test.YtmamligiopbefaaMmWalkDist
import Derived.Test.YtmamligiopbefaaMmGraphIds
import Derived.Deep.DeepCutAuto
namespace Go.Proofs.Ytmamligiopbefaa
open Go.RowKit Go.Shelf
attribute [local go_sem] Oper.semAt_some

/-- Between the rounds. -/
structure TI (Bs : Nat) (W5 : World) (tb N s : Nat) (m : GM.M) (pre : List (Int × Int)) (X : Nat → Prop) (A : World) : Prop where
  k : Keeps (fun b => b = tb) W5 A
  r : Own .i64 3 A Bs (.slice (some ⟨tb, 0, none⟩) N N) (NM.rowSuf m N s ((GM.ids m 64).drop ((GM.ids m 64).length - pre.length)))
  lo : ∀ b, X b → W5.heap.size ≤ b
theorem TI.apart {Bs : Nat} {W5 : World} {tb N s : Nat} {m : GM.M} (ht : tb < W5.heap.size) : Apart (TI Bs W5 tb N s m) := by
  rintro pre X X' A A' ⟨h1, h2, h3⟩ hk hX
  have hs := h1.size
  refine ⟨h1.trans hk (fun b hb => .inr (h3 b hb)), hk.row h2 (fun g hg hx => ?_), fun b hb => ?_⟩
  · cases hg
    have : W5.heap.size ≤ tb := h3 _ hx
    omega
  · rcases hX b hb with h | h
    · exact h3 b h
    · omega
theorem TI.on {Bs : Nat} {W5 : World} {tb N s : Nat} {m : GM.M} (ht : tb < W5.heap.size) {pre pre' : List (Int × Int)} {X0 : Nat → Prop} {g : Nat} {B W' : World} (h : TI Bs W5 tb N s m pre (fun b => X0 b ∨ (g ≤ b ∧ b < B.heap.size)) B) (hb : Below B.heap.size B W')
    (e : NM.rowSuf m N s ((GM.ids m 64).drop ((GM.ids m 64).length - pre'.length)) = NM.rowSuf m N s ((GM.ids m 64).drop ((GM.ids m 64).length - pre.length))) : Rest X0 B W' ∧ TI Bs W5 tb N s m pre' X0 W' := by
  obtain ⟨h1, h2, h3⟩ := TI.apart ht _ _ X0 _ _ h (Below.keeps hb _) (fun b hb => .inl (.inl hb))
  exact ⟨Rest.of_below hb, h1, by rw [e]; exact h2, h3⟩
theorem TI.put {Bs : Nat} {W5 : World} {tb N s : Nat} {m : GM.M} (ht : tb < W5.heap.size) {pre pre' : List (Int × Int)} {X0 : Nat → Prop} {g : Nat} {B W' : World} (h : TI Bs W5 tb N s m pre (fun b => X0 b ∨ (g ≤ b ∧ b < B.heap.size)) B) (hb : Below B.heap.size B W') {v : Nat} {i : Int}
    (e : NM.rowSuf m N s ((GM.ids m 64).drop ((GM.ids m 64).length - pre'.length)) = (NM.rowSuf m N s ((GM.ids m 64).drop ((GM.ids m 64).length - pre.length))).set v i) : Rest X0 B (W'.setCell ⟨tb, v, none⟩ (.int .i64 i)) ∧ TI Bs W5 tb N s m pre' X0 (W'.setCell ⟨tb, v, none⟩ (.int .i64 i)) := by
  obtain ⟨h1, h2, h3⟩ := TI.apart ht _ _ X0 _ _ h (Below.keeps hb _) (fun b hb => .inl (.inl hb))
  refine ⟨Keeps.setCell (Rest.of_below hb) (.inl (fun hx => by have := h3 _ hx; dsimp only at this; omega)) _, h1.setCell (.inl rfl) _, ?_, h3⟩
  rw [e]
  exact (Own.stored (NM.rowSuf_len _ _ _ _).symm h2 v i).1
set_option maxRecDepth 100000 in
set_option maxHeartbeats 4000000 in
theorem tree_any {w : World} {gp N most : Nat} {m : GM.M} (hg : GMem w gp N most m) (hm : GM.Good most m) (hN : N ≤ 24) (hi : WK.Inn N m) (s : Nat) (hs : s < N) {v : Value} (hrow : Row .i64 w v (NM.rowFrom m N s)) :
    Calls Try.prog 32 #[.pointer (some ⟨gp, 0, none⟩), v] w fun e w' => ∃ tb, e = .returned (.slice (some ⟨tb, 0, none⟩) N N) ∧ Own .i64 3 w' w.heap.size (.slice (some ⟨tb, 0, none⟩) N N) (NM.rowTree m N s) ∧ Below w.heap.size w w' := by
  obtain ⟨ao, cap, rfl, hat⟩ := hrow
  rw [NM.rowFrom_len]
  have HG : Hid (∀ W, Below w.heap.size w W → GMem W gp N most m) := fun W hW => hg.on hW
  obtain ⟨fb, fo, rfl, hc0⟩ := hat.2.2.2 (by rw [NM.rowFrom_len]; omega)
  have HF : Hid (∀ W, Below w.heap.size w W → ∀ k, k < N → W.cell? ⟨fb, fo + k, none⟩ = some (.int .i64 (NM.dist m s k))) := fun W hW k hk => by
    have := hc0 k (by rw [NM.rowFrom_len]; exact hk)
    rw [NM.rowFrom_at m s hk] at this
    exact (hW.cell (p := ⟨fb, fo + k, none⟩) (cell_lt this)).trans this
  clear hc0
  have HVT : Hid (∀ i, GM.is m i = true → ∃ t e : Nat, (GM.arc m i).tail = t ∧ (GM.arc m i).head = e ∧ t < N ∧ e < N) := fun i hi' => by
    obtain ⟨v1, v2⟩ := hi.at hi'
    have v1 := of_decide_eq_true v1
    have v2 := of_decide_eq_true v2
    exact ⟨(GM.arc m i).tail.toNat, (GM.arc m i).head.toNat, by omega, by omega, by omega, by omega⟩
  have hcp : N ≤ cap := by have := hat.1; rwa [NM.rowFrom_len] at this
  obtain ⟨W2, hW2⟩ : ∃ W2, W2 = (w.alloc (.cells #[.pointer (some ⟨gp, 0, none⟩)] 24)).alloc (.cells #[.slice (some ⟨fb, fo, none⟩) N cap] 41) := ⟨_, rfl⟩
  have hb2 : Below w.heap.size w W2 := by rw [hW2]; exact ((Below.refl _ _).alloc (Nat.le_refl _) _).alloc (by simp) _
  have hs2 : W2.heap.size = w.heap.size + 2 := by rw [hW2]; simp
  have bG : Boxed W2 w.heap.size 24 (.pointer (some ⟨gp, 0, none⟩)) := by rw [hW2]; exact (Boxed.new w _ _).alloc _
  have bF : Boxed W2 (w.heap.size + 1) 41 (.slice (some ⟨fb, fo, none⟩) N cap) := by
    have := Boxed.new (w.alloc (.cells #[.pointer (some ⟨gp, 0, none⟩)] 24)) 41 (.slice (some ⟨fb, fo, none⟩) N cap)
    rw [World.size_alloc] at this
    rw [hW2]
    exact this
  have hrep := HN.repeat_of W2.heap.size N (-1) (by omega) (W2.alloc (.cells #[.int .i64 (-1)] 3)) (by simp)
  rw [World.size_alloc] at hrep
  have c2F := (((Below.refl _ W2).alloc (Nat.le_refl _) (.cells #[.int .i64 (-1)] 3)).cell (p := ⟨w.heap.size + 1, 0, none⟩) (cell_lt bF.cell)).trans bF.cell
  have HB2 : Hid (Below w.heap.size w W2 ∧ W2.heap.size = w.heap.size + 2) := ⟨hb2, hs2⟩
  have HBX : Hid (Boxed W2 w.heap.size 24 (.pointer (some ⟨gp, 0, none⟩)) ∧ Boxed W2 (w.heap.size + 1) 41 (.slice (some ⟨fb, fo, none⟩) N cap)) := ⟨bG, bF⟩
  have HW2 : Hid (W2 = (w.alloc (.cells #[.pointer (some ⟨gp, 0, none⟩)] 24)).alloc (.cells #[.slice (some ⟨fb, fo, none⟩) N cap] 41)) := hW2
  clear hg hat hb2 hs2 bG bF hW2 hi
  refine (callsIn_wide (n := 12)).1 ?_
  refine callsIn_of_wp_marks Try.func32 rfl trivial ?_ rfl
  simp only [Try.ntmps32, List.size_toArray, List.length_cons, List.length_nil, Nat.reduceAdd, Nat.reduceSub, Array.replicate_succ, Array.replicate_zero, List.push_toArray, List.append_toArray, List.nil_append, List.cons_append]
  refine wpIn_wide.2 ?_
  go_upto_region 1 with fail
  rw [← HW2.out]
  clear HW2
  go_wp2_with fail
  refine hrep.mono ?_
  rintro e w3 ⟨rfl, ho3, hb3⟩
  have HB3 : Hid (Below w.heap.size w w3) := (HB2.out.1.alloc HB2.out.1.size (.cells #[.int .i64 (-1)] 3)).trans (hb3.mono (by have := HB2.out.2; omega))
  have HO3 : Hid (Own .i64 3 w3 w.heap.size (.slice (some ⟨W2.heap.size + 1, 0, none⟩) N N) (NM.rowSuf m N s [])) := by
    rw [NM.rowSuf_nil]
    unfold Hid Own
    rw [List.length_replicate]
    exact row_base ho3 (by have := HB2.out.2; omega)
  have HX3 : Hid (Boxed w3 w.heap.size 24 (.pointer (some ⟨gp, 0, none⟩)) ∧ Boxed w3 (w.heap.size + 1) 41 (.slice (some ⟨fb, fo, none⟩) N cap)) := by
    have hb : Below W2.heap.size W2 w3 := ((Below.refl _ W2).alloc (Nat.le_refl _) _).trans (hb3.mono (Nat.le_succ _))
    exact ⟨(hb.block _ HBX.out.1.lt).trans HBX.out.1, (hb.block _ HBX.out.2.lt).trans HBX.out.2⟩
  have HT3 : Hid (w.heap.size + 2 ≤ W2.heap.size + 1 ∧ W2.heap.size + 1 < w3.heap.size) := ⟨by have := HB2.out.2; omega, by exact World.ownsRow.lt ho3 _ rfl |>.2⟩
  clear hrep ho3 hb3 c2F HBX HB2
  generalize W2.heap.size + 1 = tb at *
  have bB := Boxed.new w3 41 (.slice (some ⟨tb, 0, none⟩) N N)
  have hb4 : Below w.heap.size w (w3.alloc (.cells #[.slice (some ⟨tb, 0, none⟩) N N] 41)) := HB3.out.alloc HB3.out.size _
  have c4G := (HX3.out.1.alloc (.cells #[.slice (some ⟨tb, 0, none⟩) N N] 41)).cell
  have hids := ids_any (HG.out _ hb4) hm
  have HX4 : Hid (Boxed (w3.alloc (.cells #[.slice (some ⟨tb, 0, none⟩) N N] 41)) w.heap.size 24 (.pointer (some ⟨gp, 0, none⟩)) ∧ Boxed (w3.alloc (.cells #[.slice (some ⟨tb, 0, none⟩) N N] 41)) (w.heap.size + 1) 41 (.slice (some ⟨fb, fo, none⟩) N cap) ∧ Boxed (w3.alloc (.cells #[.slice (some ⟨tb, 0, none⟩) N N] 41)) w3.heap.size 41 (.slice (some ⟨tb, 0, none⟩) N N)) := ⟨HX3.out.1.alloc _, HX3.out.2.alloc _, bB⟩
  have HO4 : Hid (Own .i64 3 (w3.alloc (.cells #[.slice (some ⟨tb, 0, none⟩) N N] 41)) w.heap.size (.slice (some ⟨tb, 0, none⟩) N N) (NM.rowSuf m N s [])) := HO3.out.alloc _
  have HB4 : Hid (Below w.heap.size w (w3.alloc (.cells #[.slice (some ⟨tb, 0, none⟩) N N] 41))) := hb4
  have HT4 : Hid (w.heap.size + 2 ≤ tb ∧ tb < w3.heap.size ∧ (w3.alloc (.cells #[.slice (some ⟨tb, 0, none⟩) N N] 41)).heap.size = w3.heap.size + 1) := ⟨HT3.out.1, HT3.out.2, by simp⟩
  clear HB3 HO3 HX3 HT3 bB hb4
  go_upto_region 2 with fail
  generalize hw4 : w3.alloc (.cells #[.slice (some ⟨tb, 0, none⟩) N N] 41) = w4 at *
  clear hw4
  generalize w3.heap.size = bB at *
  go_wp2_with fail
  refine hids.mono ?_
  rintro e w5 ⟨r, rfl, ho5, hb5⟩
  obtain ⟨ro, rc, hr, hrat⟩ := ho5.row
  have hbk := backward_any ro (GM.iids m 64).length rc w5
  rw [← hr] at hbk
  have HO5 : Hid (Own .i64 3 w5 w4.heap.size r (GM.iids m 64) ∧ Below w4.heap.size w4 w5) := ⟨ho5, hb5⟩
  clear hids ho5 hb5 hr hrat c4G
  go_wp2_with fail
  refine hbk.mono ?_
  rintro e w6 ⟨bs, rfl, hbs, bS, hb6, hs6⟩
  have HB6 : Hid (bs = w5.heap.size ∧ Boxed w6 bs 41 r ∧ Below w5.heap.size w5 w6 ∧ w6.heap.size = bs + 1) := ⟨hbs, bS, hb6, hs6⟩
  clear hbk hbs bS hb6 hs6
  go_wp2_with fail
  have ht6 : tb < w6.heap.size := by
    have e1 := HT4.out
    have e2 := HO5.out.2.size
    have e3 := HB6.out.2.2.1.size
    omega
  have hBel6 : Below w4.heap.size w4 w6 := HO5.out.2.trans (HB6.out.2.2.1.mono HO5.out.2.size)
  have HTI : Hid (TI w.heap.size w6 tb N s m [] (fun _ => False) w6) := by
    refine ⟨Keeps.refl _ _, ?_, fun _ h => h.elim⟩
    rw [List.length_nil, Nat.sub_zero, List.drop_length]
    exact HO4.out.below hBel6
  have HX : Hid (∀ A, Keeps (fun b => b = tb) w6 A → Boxed A w.heap.size 24 (.pointer (some ⟨gp, 0, none⟩)) ∧ Boxed A (w.heap.size + 1) 41 (.slice (some ⟨fb, fo, none⟩) N cap) ∧ Boxed A bB 41 (.slice (some ⟨tb, 0, none⟩) N N) ∧ Below w.heap.size w A ∧ BackR bs r (GM.iids m 64) A) := fun A hk => by
    have e1 := HT4.out
    have e2 := HO5.out.2.size
    have e3 := hBel6.size
    obtain ⟨x1, x2, x3⟩ := HX4.out
    obtain ⟨y1, y2, y3, y4⟩ := HB6.out
    have l2 := x2.lt
    refine ⟨(hk.block _ (by omega) (by show _ ≠ _; omega)).trans ((hBel6.block _ x1.lt).trans x1), (hk.block _ (by omega) (by show _ ≠ _; omega)).trans ((hBel6.block _ x2.lt).trans x2), (hk.block _ (by omega) (by show _ ≠ _; omega)).trans ((hBel6.block _ x3.lt).trans x3), (HB4.out.trans (hBel6.mono HB4.out.size)).trans (hk.below (fun b hb => by rw [hb]; omega) (by omega)), ?_, ?_⟩
    · exact Boxed.cell (show Boxed A bs 41 r from (hk.block _ (by omega) (by show _ ≠ _; omega)).trans y2)
    · exact Own.row (hk.row (HO5.out.1.below y3) (fun g hg hx => by
        have := HO5.out.1.block g hg
        omega))
  clear hBel6 HO4 HB4 HX4 HO5 HB6
  have HT6 : Hid (w.heap.size + 2 ≤ tb ∧ tb < w6.heap.size) := ⟨HT4.out.1, ht6⟩
  clear HT4
  generalize W2.heap.size = q2 at *
  have hseq := backward_goesP 11 (by decide) bs r (GM.iids m 64)
  refine (wpIn_wide (n := 12)).1 ?_
  refine range_goesP (by omega) (gf := 88) (lb := #[.pointer (some ⟨bs, 0, none⟩)]) rfl (enters_of Try.func88 (by kernel_rfl) rfl) hseq (fun _ => rfl)
    (TI w.heap.size w6 tb N s m) (fun _ _ _ _ => False) (TI.apart ht6) (fun _ _ _ _ _ _ h _ _ => h)
    (fun pre X' A h => (HX.out A h.k).2.2.2.2) HTI.out
    (fun x A => { tmps := #[.pointer (some ⟨gp, 0, none⟩), .slice (some ⟨fb, fo, none⟩) N cap, .pointer (some ⟨w.heap.size, 0, none⟩), .pointer (some ⟨w.heap.size + 1, 0, none⟩), .slice none 0 0, .pointer (some ⟨bB, 0, none⟩), undef, .int .i64 x.2, undef, undef, .slice (some ⟨q2, 0, none⟩) 1 1, .slice (some ⟨fb, fo, none⟩) N cap, .int .i64 (N : Nat), .slice (some ⟨tb, 0, none⟩) N N, .pointer (some ⟨gp, 0, none⟩), r, .func (.func 88) #[] #[.pointer (some ⟨bs, 0, none⟩)], .int .i64 x.1, .int .i64 x.2, undef, undef, undef, undef, undef, undef, undef, undef, undef, undef, undef, undef, undef, undef, undef, undef, undef, undef, undef, undef, undef, undef, undef, undef, undef, undef, undef, undef, undef, undef, undef, undef, undef, undef, undef, undef, undef, undef, undef, undef], defers := [] })
    (fun x A => A)
    (fun x W => Below.refl _ _) ?assign ?body ?done ?stop
  case assign =>
    rintro l' ⟨j, id⟩ A K hK
    simp only [twoNum]
    gi_wp2
    exact hK
  case stop =>
    intro c' pre W _ h
    exact h.elim
  case done =>
    rintro A hi hK
    have HO : Hid (Own .i64 3 A w.heap.size (.slice (some ⟨tb, 0, none⟩) N N) (NM.rowTree m N s) ∧ Below w.heap.size w A) := by
      refine ⟨?_, (HX.out A hi.k).2.2.2.1⟩
      have := hi.r
      rw [backL_len, GM.iids_len, Nat.sub_self, List.drop_zero, NM.rowSuf_all] at this
      exact this
    have cB := (HX.out A hi.k).2.2.1.cell
    have HK : Hid (A.heap[w6.heap.size]? = some (.deferred (some []))) := hK
    clear hi hK hseq
    go_wp2_with fail
    refine leaves_marks (fun _ => trivial) [w6.heap.size] A (by simp) (fun D hD => by rw [List.mem_singleton.1 hD]; exact HK.out) (fun W' hk => ?_)
    have e1 := HT6.out
    refine ⟨.slice (some ⟨tb, 0, none⟩) N N, ?_, tb, rfl, hk.row HO.out.1 (fun g hg hx => by cases hg; have : tb = w6.heap.size := List.mem_singleton.1 hx; omega), HO.out.2.trans (hk.below (fun b hb => by have := List.mem_singleton.1 hb; omega) HO.out.2.size)⟩
    simp [results, Try.f32, go_sem]
  case body =>
    rintro l' pre ⟨j, id⟩ X0 A B hi hlt - - hAs hblk hsz hXb
    obtain ⟨i, hid, hi64, his, hdrop⟩ := NM.back_next hlt
    dsimp only at hid
    subst hid
    obtain ⟨t, h, ht, hh, htN, hhN⟩ := HVT.out i his
    obtain ⟨x1, x2, x3, x4, -⟩ := HX.out B hi.k
    have har := arc_any (HG.out B x4) hm (i : Int)
    rw [NM.look_at m hi64] at har
    have c1 := x1.cell
    have hno := fun (q : ¬ NM.does m (NM.dist m s) i) => (by rw [hdrop]; exact NM.rowSuf_no q : NM.rowSuf m N s ((GM.ids m 64).drop ((GM.ids m 64).length - (pre ++ [(j, (i : Int))]).length)) = NM.rowSuf m N s ((GM.ids m 64).drop ((GM.ids m 64).length - pre.length)))
    have hyes := fun (q : NM.does m (NM.dist m s) i) => (by rw [hdrop]; exact NM.rowSuf_yes hm his hh q : NM.rowSuf m N s ((GM.ids m 64).drop ((GM.ids m 64).length - (pre ++ [(j, (i : Int))]).length)) = (NM.rowSuf m N s ((GM.ids m 64).drop ((GM.ids m 64).length - pre.length))).set h i)
    unfold NM.does at hno hyes
    have HI : Hid (TI w.heap.size w6 tb N s m pre (fun b => X0 b ∨ (A.heap.size ≤ b ∧ b < B.heap.size)) B) := hi
    have HBF : Hid (∀ W, Below B.heap.size B W → W.cell? ⟨w.heap.size + 1, 0, none⟩ = some (.slice (some ⟨fb, fo, none⟩) N cap) ∧ W.cell? ⟨bB, 0, none⟩ = some (.slice (some ⟨tb, 0, none⟩) N N) ∧ W.cell? ⟨fb, fo + h, none⟩ = some (.int .i64 (NM.dist m s h)) ∧ W.cell? ⟨fb, fo + t, none⟩ = some (.int .i64 (NM.dist m s t))) := fun W hW => by
      have hwW := x4.trans (hW.mono x4.size)
      exact ⟨(hW.cell (p := ⟨w.heap.size + 1, 0, none⟩) (cell_lt x2.cell)).trans x2.cell, (hW.cell (p := ⟨bB, 0, none⟩) (cell_lt x3.cell)).trans x3.cell, HF.out W hwW h hhN, HF.out W hwW t htN⟩
    have HOW : Hid (∀ W, Below B.heap.size B W → W.cell? ⟨tb, h, none⟩ = some (.int .i64 ((NM.rowSuf m N s ((GM.ids m 64).drop ((GM.ids m 64).length - pre.length)))[h]?.getD 0)) ∧ W.frozen? ⟨tb, h, none⟩ = false) := fun W hW => Own.cell (NM.rowSuf_len _ _ _ _).symm (hi.r.below hW) h hhN
    have bdh := NM.dist_bd m s h
    have bdt := NM.dist_bd m s t
    generalize hA : GM.arc m i = a at *
    obtain ⟨t', h', x, c⟩ := a
    unfold arcV at har
    dsimp only at ht hh hno hyes har
    subst ht hh
    have HNO : Hid (¬ ((c = false ∧ NM.dist m s h ≤ 4611686018427387904) ∧ DM.two (NM.dist m s t) x = NM.dist m s h) → ∀ W, Below B.heap.size B W → Rest X0 B W ∧ TI w.heap.size w6 tb N s m (pre ++ [(j, (i : Int))]) X0 W) := fun q W hW => TI.on ht6 HI.out hW (hno q)
    have HYES : Hid ((c = false ∧ NM.dist m s h ≤ 4611686018427387904) ∧ DM.two (NM.dist m s t) x = NM.dist m s h → ∀ W, Below B.heap.size B W → Rest X0 B (W.setCell ⟨tb, h, none⟩ (.int .i64 (i : Nat))) ∧ TI w.heap.size w6 tb N s m (pre ++ [(j, (i : Int))]) X0 (W.setCell ⟨tb, h, none⟩ (.int .i64 (i : Nat)))) := fun q W hW => TI.put ht6 HI.out hW (hyes q)
    clear hi hlt hAs hblk hsz hXb hdrop x1 x2 x3 x4 hno hyes hA his HI hseq
    generalize NM.dist m s h = dh at *
    generalize NM.dist m s t = dt at *
    generalize (NM.rowSuf m N s ((GM.ids m 64).drop ((GM.ids m 64).length - pre.length)))[h]?.getD 0 = oldv at *
    gi_wp2_with fail
    refine ⟨trivial, (CallsIn.inRound l' (callsIn_wide.2 har)).mono ?_⟩
    rintro e w7 ⟨rfl, hb7⟩
    have hb8 : Below B.heap.size B (w7.alloc (.cells #[.int .i64 t, .int .i64 h, .int .i64 x, .bool c] 33)) := hb7.alloc hb7.size _
    obtain ⟨a0, a1, a2, a3⟩ := arcIn_block (rfl : (w7.alloc (.cells #[.int .i64 t, .int .i64 h, .int .i64 x, .bool c] 33)).heap[w7.heap.size]? = _)
    simp only [Nat.zero_add] at a1 a2 a3
    dsimp only at a0 a1 a2 a3
    have hs8 : (w7.alloc (.cells #[.int .i64 t, .int .i64 h, .int .i64 x, .bool c] 33)).heap.size = w7.heap.size + 1 := by simp
    clear har c1
    gi_wp2_with fail
    generalize w7.alloc (.cells #[.int .i64 t, .int .i64 h, .int .i64 x, .bool c] 33) = W8 at *
    generalize w7.heap.size = aB at *
    have HA : Hid (∀ W, Below W8.heap.size W8 W → W.cell? ⟨aB, 0, none⟩ = some (.int .i64 (t : Nat)) ∧ W.cell? ⟨aB, 1, none⟩ = some (.int .i64 (h : Nat)) ∧ W.cell? ⟨aB, 2, none⟩ = some (.int .i64 x) ∧ W.cell? ⟨aB, 3, none⟩ = some (.bool c)) := fun W hW => ⟨(hW.cell (p := ⟨aB, 0, none⟩) (cell_lt a0)).trans a0, (hW.cell (p := ⟨aB, 1, none⟩) (cell_lt a1)).trans a1, (hW.cell (p := ⟨aB, 2, none⟩) (cell_lt a2)).trans a2, (hW.cell (p := ⟨aB, 3, none⟩) (cell_lt a3)).trans a3⟩
    have HB8 : Hid (Below B.heap.size B W8) := hb8
    have HH : Hid (∀ W, Below W8.heap.size W8 W → (W.cell? ⟨w.heap.size + 1, 0, none⟩ = some (.slice (some ⟨fb, fo, none⟩) N cap) ∧ W.cell? ⟨fb, fo + h, none⟩ = some (.int .i64 dh) ∧ W.cell? ⟨fb, fo + t, none⟩ = some (.int .i64 dt)) ∧ W.cell? ⟨aB, 0, none⟩ = some (.int .i64 (t : Nat)) ∧ W.cell? ⟨aB, 1, none⟩ = some (.int .i64 (h : Nat)) ∧ W.cell? ⟨aB, 2, none⟩ = some (.int .i64 x) ∧ W.cell? ⟨aB, 3, none⟩ = some (.bool c)) := fun W hW => by
      obtain ⟨y1, y2, y3, y4⟩ := HBF.out W (HB8.out.trans (hW.mono HB8.out.size))
      exact ⟨⟨y1, y3, y4⟩, HA.out W hW⟩
    have hS8 := HH.out W8.drew (Below.refl _ _).drew
    clear a0 a1 a2 a3 hb8 hb7 hs8
    refine wpIn_region_held (S := fun W => (W.cell? ⟨w.heap.size + 1, 0, none⟩ = some (.slice (some ⟨fb, fo, none⟩) N cap) ∧ W.cell? ⟨fb, fo + h, none⟩ = some (.int .i64 dh) ∧ W.cell? ⟨fb, fo + t, none⟩ = some (.int .i64 dt)) ∧ W.cell? ⟨aB, 0, none⟩ = some (.int .i64 (t : Nat)) ∧ W.cell? ⟨aB, 1, none⟩ = some (.int .i64 (h : Nat)) ∧ W.cell? ⟨aB, 2, none⟩ = some (.int .i64 x) ∧ W.cell? ⟨aB, 3, none⟩ = some (.bool c)) (by kernel_rfl) (by kernel_rfl) (fun a w h => h) hS8 (fun hHeld => ?_)
    cases c with
    | true =>
      refine wpAnyH_take (i := 0) (oi := { dst := some 25, op := Op.fieldAddr 33 (Operand.tmp 8) 3, type := 0, pos := "near.go:121", after := #[], guard := none }) (v := ?_) rfl (by kernel_rfl) (by kernel_rfl) (by kernel_rfl) (fun _ _ _ h => nomatch h.1) (Or.inl ⟨by rfl, ?_⟩) (by assumption) ?_
      rotate_left
      · intro w0 hSw
        (try dsimp only at hSw)
        go_simp <;> with_reducible rfl
      try simp only [Act.put, List.setIfInBounds_toArray, List.set_cons_zero, List.set_cons_succ]
      refine wpAnyH_take (i := 1) (oi := { dst := some 26, op := Op.load 4 (Operand.tmp 25), type := 4, pos := "near.go:121", after := #[{ on := 0, ground := Ground.data }], guard := none }) (v := ?_) rfl (by kernel_rfl) (by kernel_rfl) (by kernel_rfl) (fun _ _ _ h => nomatch h.1) (Or.inl ⟨by rfl, ?_⟩) (by assumption) ?_
      rotate_left
      · intro w0 hSw
        (try dsimp only at hSw)
        go_simp <;> with_reducible rfl
      try simp only [Act.put, List.setIfInBounds_toArray, List.set_cons_zero, List.set_cons_succ]
      refine wpAnyH_take (i := 2) (oi := { dst := some 27, op := Op.unOp UnOp.not 4 (Operand.tmp 26), type := 4, pos := "near.go:121", after := #[{ on := 1, ground := Ground.data }], guard := none }) (v := ?_) rfl (by kernel_rfl) (by kernel_rfl) (by kernel_rfl) (fun _ _ _ h => nomatch h.1) (Or.inl ⟨by rfl, ?_⟩) (by assumption) ?_
      rotate_left
      · intro w0 hSw
        (try dsimp only at hSw)
        go_simp <;> with_reducible rfl
      try simp only [Act.put, List.setIfInBounds_toArray, List.set_cons_zero, List.set_cons_succ]
      refine wpAnyH_take (i := 3) (oi := { dst := some 28, op := Op.move (Operand.tmp 27), type := 4, pos := "near.go:121", after := #[{ on := 2, ground := Ground.data }], guard := none }) (v := ?_) rfl (by kernel_rfl) (by kernel_rfl) (by kernel_rfl) (fun _ _ _ h => nomatch h.1) (Or.inl ⟨by rfl, ?_⟩) (by assumption) ?_
      rotate_left
      · intro w0 hSw
        (try dsimp only at hSw)
        go_simp <;> with_reducible rfl
      try simp only [Act.put, List.setIfInBounds_toArray, List.set_cons_zero, List.set_cons_succ]
      refine wpAnyH_take (i := 4) (oi := { dst := some 29, op := Op.load 41 (Operand.tmp 3), type := 41, pos := "near.go:121", after := #[{ on := 3, ground := Ground.guard }], guard := some (3, true) }) (v := undef) rfl (by kernel_rfl) (by kernel_rfl) (by kernel_rfl) (fun _ _ _ h => nomatch h.1) (Or.inr ⟨by rfl, rfl⟩) (by assumption) ?_
      try simp only [Act.put, List.setIfInBounds_toArray, List.set_cons_zero, List.set_cons_succ]
      refine wpAnyH_take (i := 5) (oi := { dst := some 30, op := Op.fieldAddr 33 (Operand.tmp 8) 1, type := 0, pos := "near.go:121", after := #[{ on := 3, ground := Ground.guard }], guard := some (3, true) }) (v := undef) rfl (by kernel_rfl) (by kernel_rfl) (by kernel_rfl) (fun _ _ _ h => nomatch h.1) (Or.inr ⟨by rfl, rfl⟩) (by assumption) ?_
      try simp only [Act.put, List.setIfInBounds_toArray, List.set_cons_zero, List.set_cons_succ]
      refine wpAnyH_take (i := 6) (oi := { dst := some 31, op := Op.load 3 (Operand.tmp 30), type := 3, pos := "near.go:121", after := #[{ on := 5, ground := Ground.data }, { on := 3, ground := Ground.guard }], guard := some (3, true) }) (v := undef) rfl (by kernel_rfl) (by kernel_rfl) (by kernel_rfl) (fun _ _ _ h => nomatch h.1) (Or.inr ⟨by rfl, rfl⟩) (by assumption) ?_
      try simp only [Act.put, List.setIfInBounds_toArray, List.set_cons_zero, List.set_cons_succ]
      refine wpAnyH_take (i := 7) (oi := { dst := some 32, op := Op.indexAddr 41 (Operand.tmp 29) (Operand.tmp 31), type := 0, pos := "near.go:121", after := #[{ on := 4, ground := Ground.data }, { on := 6, ground := Ground.data }, { on := 3, ground := Ground.guard }], guard := some (3, true) }) (v := undef) rfl (by kernel_rfl) (by kernel_rfl) (by kernel_rfl) (fun _ _ _ h => nomatch h.1) (Or.inr ⟨by rfl, rfl⟩) (by assumption) ?_
      try simp only [Act.put, List.setIfInBounds_toArray, List.set_cons_zero, List.set_cons_succ]
      refine wpAnyH_take (i := 8) (oi := { dst := some 33, op := Op.load 3 (Operand.tmp 32), type := 3, pos := "near.go:121", after := #[{ on := 7, ground := Ground.data }, { on := 3, ground := Ground.guard }], guard := some (3, true) }) (v := undef) rfl (by kernel_rfl) (by kernel_rfl) (by kernel_rfl) (fun _ _ _ h => nomatch h.1) (Or.inr ⟨by rfl, rfl⟩) (by assumption) ?_
      try simp only [Act.put, List.setIfInBounds_toArray, List.set_cons_zero, List.set_cons_succ]
      refine wpAnyH_take (i := 9) (oi := { dst := some 34, op := Op.call { callee := Callee.value (Operand.func 61), args := #[Operand.tmp 33], argTypes := #[3] }, type := 4, pos := "near.go:121", after := #[{ on := 8, ground := Ground.data }, { on := 3, ground := Ground.chain }, { on := 3, ground := Ground.guard }], guard := some (3, true) }) (v := undef) rfl (by kernel_rfl) (by kernel_rfl) (by kernel_rfl) (fun _ _ _ h => nomatch h.1) (Or.inr ⟨by rfl, rfl⟩) (by assumption) ?_
      try simp only [Act.put, List.setIfInBounds_toArray, List.set_cons_zero, List.set_cons_succ]
      refine wpAnyH_take (i := 10) (oi := { dst := some 35, op := Op.pick (Operand.tmp 28) (Operand.tmp 34) (Operand.const (Value.bool false)), type := 4, pos := "near.go:121", after := #[{ on := 3, ground := Ground.data }, { on := 9, ground := Ground.data }], guard := none }) (v := ?_) rfl (by kernel_rfl) (by kernel_rfl) (by kernel_rfl) (fun _ _ _ h => nomatch h.1) (Or.inl ⟨by rfl, ?_⟩) (by assumption) ?_
      rotate_left
      · intro w0 hSw
        (try dsimp only at hSw)
        go_simp <;> with_reducible rfl
      try simp only [Act.put, List.setIfInBounds_toArray, List.set_cons_zero, List.set_cons_succ]
      refine wpAnyH_take (i := 11) (oi := { dst := some 36, op := Op.move (Operand.tmp 35), type := 4, pos := "near.go:121", after := #[{ on := 10, ground := Ground.data }, { on := 9, ground := Ground.chain }], guard := none }) (v := ?_) rfl (by kernel_rfl) (by kernel_rfl) (by kernel_rfl) (fun _ _ _ h => nomatch h.1) (Or.inl ⟨by rfl, ?_⟩) (by assumption) ?_
      rotate_left
      · intro w0 hSw
        (try dsimp only at hSw)
        go_simp <;> with_reducible rfl
      try simp only [Act.put, List.setIfInBounds_toArray, List.set_cons_zero, List.set_cons_succ]
      refine wpAnyH_take (i := 12) (oi := { dst := some 37, op := Op.load 41 (Operand.tmp 3), type := 41, pos := "near.go:121", after := #[{ on := 11, ground := Ground.guard }], guard := some (11, true) }) (v := undef) rfl (by kernel_rfl) (by kernel_rfl) (by kernel_rfl) (fun _ _ _ h => nomatch h.1) (Or.inr ⟨by rfl, rfl⟩) (by assumption) ?_
      try simp only [Act.put, List.setIfInBounds_toArray, List.set_cons_zero, List.set_cons_succ]
      refine wpAnyH_take (i := 13) (oi := { dst := some 38, op := Op.fieldAddr 33 (Operand.tmp 8) 0, type := 0, pos := "near.go:121", after := #[{ on := 11, ground := Ground.guard }], guard := some (11, true) }) (v := undef) rfl (by kernel_rfl) (by kernel_rfl) (by kernel_rfl) (fun _ _ _ h => nomatch h.1) (Or.inr ⟨by rfl, rfl⟩) (by assumption) ?_
      try simp only [Act.put, List.setIfInBounds_toArray, List.set_cons_zero, List.set_cons_succ]
      refine wpAnyH_take (i := 14) (oi := { dst := some 39, op := Op.load 3 (Operand.tmp 38), type := 3, pos := "near.go:121", after := #[{ on := 13, ground := Ground.data }, { on := 11, ground := Ground.guard }], guard := some (11, true) }) (v := undef) rfl (by kernel_rfl) (by kernel_rfl) (by kernel_rfl) (fun _ _ _ h => nomatch h.1) (Or.inr ⟨by rfl, rfl⟩) (by assumption) ?_
      try simp only [Act.put, List.setIfInBounds_toArray, List.set_cons_zero, List.set_cons_succ]
      refine wpAnyH_take (i := 15) (oi := { dst := some 40, op := Op.indexAddr 41 (Operand.tmp 37) (Operand.tmp 39), type := 0, pos := "near.go:121", after := #[{ on := 12, ground := Ground.data }, { on := 14, ground := Ground.data }, { on := 11, ground := Ground.guard }], guard := some (11, true) }) (v := undef) rfl (by kernel_rfl) (by kernel_rfl) (by kernel_rfl) (fun _ _ _ h => nomatch h.1) (Or.inr ⟨by rfl, rfl⟩) (by assumption) ?_
      try simp only [Act.put, List.setIfInBounds_toArray, List.set_cons_zero, List.set_cons_succ]
      refine wpAnyH_take (i := 16) (oi := { dst := some 41, op := Op.load 3 (Operand.tmp 40), type := 3, pos := "near.go:121", after := #[{ on := 15, ground := Ground.data }, { on := 11, ground := Ground.guard }], guard := some (11, true) }) (v := undef) rfl (by kernel_rfl) (by kernel_rfl) (by kernel_rfl) (fun _ _ _ h => nomatch h.1) (Or.inr ⟨by rfl, rfl⟩) (by assumption) ?_
      try simp only [Act.put, List.setIfInBounds_toArray, List.set_cons_zero, List.set_cons_succ]
      refine wpAnyH_take (i := 17) (oi := { dst := some 42, op := Op.fieldAddr 33 (Operand.tmp 8) 2, type := 0, pos := "near.go:121", after := #[{ on := 11, ground := Ground.guard }], guard := some (11, true) }) (v := undef) rfl (by kernel_rfl) (by kernel_rfl) (by kernel_rfl) (fun _ _ _ h => nomatch h.1) (Or.inr ⟨by rfl, rfl⟩) (by assumption) ?_
      try simp only [Act.put, List.setIfInBounds_toArray, List.set_cons_zero, List.set_cons_succ]
      refine wpAnyH_take (i := 18) (oi := { dst := some 43, op := Op.load 3 (Operand.tmp 42), type := 3, pos := "near.go:121", after := #[{ on := 17, ground := Ground.data }, { on := 11, ground := Ground.guard }], guard := some (11, true) }) (v := undef) rfl (by kernel_rfl) (by kernel_rfl) (by kernel_rfl) (fun _ _ _ h => nomatch h.1) (Or.inr ⟨by rfl, rfl⟩) (by assumption) ?_
      try simp only [Act.put, List.setIfInBounds_toArray, List.set_cons_zero, List.set_cons_succ]
      refine wpAnyH_take (i := 19) (oi := { dst := some 44, op := Op.buildSlice 41 2 #[(0, Operand.tmp 41), (1, Operand.tmp 43)], type := 41, pos := "near.go:121", after := #[{ on := 16, ground := Ground.data }, { on := 18, ground := Ground.data }, { on := 11, ground := Ground.guard }], guard := some (11, true) }) (v := undef) rfl (by kernel_rfl) (by kernel_rfl) (by kernel_rfl) (fun _ _ _ h => nomatch h.1) (Or.inr ⟨by rfl, rfl⟩) (by assumption) ?_
      try simp only [Act.put, List.setIfInBounds_toArray, List.set_cons_zero, List.set_cons_succ]
      refine wpAnyH_take (i := 20) (oi := { dst := some 45, op := Op.call { callee := Callee.value (Operand.func 62), args := #[Operand.tmp 44], argTypes := #[41] }, type := 3, pos := "near.go:121", after := #[{ on := 19, ground := Ground.data }, { on := 11, ground := Ground.chain }, { on := 11, ground := Ground.guard }], guard := some (11, true) }) (v := undef) rfl (by kernel_rfl) (by kernel_rfl) (by kernel_rfl) (fun _ _ _ h => nomatch h.1) (Or.inr ⟨by rfl, rfl⟩) (by assumption) ?_
      try simp only [Act.put, List.setIfInBounds_toArray, List.set_cons_zero, List.set_cons_succ]
      refine wpAnyH_take (i := 21) (oi := { dst := some 46, op := Op.load 41 (Operand.tmp 3), type := 41, pos := "near.go:121", after := #[{ on := 11, ground := Ground.guard }], guard := some (11, true) }) (v := undef) rfl (by kernel_rfl) (by kernel_rfl) (by kernel_rfl) (fun _ _ _ h => nomatch h.1) (Or.inr ⟨by rfl, rfl⟩) (by assumption) ?_
      try simp only [Act.put, List.setIfInBounds_toArray, List.set_cons_zero, List.set_cons_succ]
      refine wpAnyH_take (i := 22) (oi := { dst := some 47, op := Op.fieldAddr 33 (Operand.tmp 8) 1, type := 0, pos := "near.go:121", after := #[{ on := 11, ground := Ground.guard }], guard := some (11, true) }) (v := undef) rfl (by kernel_rfl) (by kernel_rfl) (by kernel_rfl) (fun _ _ _ h => nomatch h.1) (Or.inr ⟨by rfl, rfl⟩) (by assumption) ?_
      try simp only [Act.put, List.setIfInBounds_toArray, List.set_cons_zero, List.set_cons_succ]
      refine wpAnyH_take (i := 23) (oi := { dst := some 48, op := Op.load 3 (Operand.tmp 47), type := 3, pos := "near.go:121", after := #[{ on := 22, ground := Ground.data }, { on := 11, ground := Ground.guard }], guard := some (11, true) }) (v := undef) rfl (by kernel_rfl) (by kernel_rfl) (by kernel_rfl) (fun _ _ _ h => nomatch h.1) (Or.inr ⟨by rfl, rfl⟩) (by assumption) ?_
      try simp only [Act.put, List.setIfInBounds_toArray, List.set_cons_zero, List.set_cons_succ]
      refine wpAnyH_take (i := 24) (oi := { dst := some 49, op := Op.indexAddr 41 (Operand.tmp 46) (Operand.tmp 48), type := 0, pos := "near.go:121", after := #[{ on := 21, ground := Ground.data }, { on := 23, ground := Ground.data }, { on := 11, ground := Ground.guard }], guard := some (11, true) }) (v := undef) rfl (by kernel_rfl) (by kernel_rfl) (by kernel_rfl) (fun _ _ _ h => nomatch h.1) (Or.inr ⟨by rfl, rfl⟩) (by assumption) ?_
      try simp only [Act.put, List.setIfInBounds_toArray, List.set_cons_zero, List.set_cons_succ]
      refine wpAnyH_take (i := 25) (oi := { dst := some 50, op := Op.load 3 (Operand.tmp 49), type := 3, pos := "near.go:121", after := #[{ on := 24, ground := Ground.data }, { on := 11, ground := Ground.guard }], guard := some (11, true) }) (v := undef) rfl (by kernel_rfl) (by kernel_rfl) (by kernel_rfl) (fun _ _ _ h => nomatch h.1) (Or.inr ⟨by rfl, rfl⟩) (by assumption) ?_
      try simp only [Act.put, List.setIfInBounds_toArray, List.set_cons_zero, List.set_cons_succ]
      refine wpAnyH_take (i := 26) (oi := { dst := some 51, op := Op.binOp BinOp.eql 3 (Operand.tmp 45) (Operand.tmp 50) 3, type := 4, pos := "near.go:121", after := #[{ on := 20, ground := Ground.data }, { on := 25, ground := Ground.data }, { on := 11, ground := Ground.guard }], guard := some (11, true) }) (v := undef) rfl (by kernel_rfl) (by kernel_rfl) (by kernel_rfl) (fun _ _ _ h => nomatch h.1) (Or.inr ⟨by rfl, rfl⟩) (by assumption) ?_
      try simp only [Act.put, List.setIfInBounds_toArray, List.set_cons_zero, List.set_cons_succ]
      refine wpAnyH_take (i := 27) (oi := { dst := some 52, op := Op.pick (Operand.tmp 36) (Operand.tmp 51) (Operand.const (Value.bool false)), type := 4, pos := "near.go:121", after := #[{ on := 11, ground := Ground.data }, { on := 26, ground := Ground.data }], guard := none }) (v := ?_) rfl (by kernel_rfl) (by kernel_rfl) (by kernel_rfl) (fun _ _ _ h => nomatch h.1) (Or.inl ⟨by rfl, ?_⟩) (by assumption) ?_
      rotate_left
      · intro w0 hSw
        (try dsimp only at hSw)
        go_simp <;> with_reducible rfl
      try simp only [Act.put, List.setIfInBounds_toArray, List.set_cons_zero, List.set_cons_succ]
      refine wpAnyH_done (by kernel_rfl) ?_ _
      refine ⟨rfl, ?_⟩
      have HO := HNO.out (fun q => by cases q.1.1) W8.drew HB8.out.drew
      have HO' : Hid (Rest X0 B W8.drew ∧ TI w.heap.size w6 tb N s m (pre ++ [(j, (i : Int))]) X0 W8.drew) := HO
      clear HO HNO HYES hS8 hHeld
      gi_wp2_with fail
      exact HO'.out
    | false =>
      have htold := told_any dh W8.drew
      have e1 : DM.told dh = decide (dh ≤ 4611686018427387904) := by
        unfold DM.told DM.norm
        congr 1
        apply propext
        repeat' split
        all_goals omega
      rw [e1] at htold
      clear e1
      have HTO : Hid (Calls Try.prog 61 #[.int .i64 dh] W8.drew fun e w' => e = .returned (.bool (decide (dh ≤ 4611686018427387904))) ∧ w' = W8.drew) := htold
      clear htold
      by_cases hd : dh ≤ 4611686018427387904
      · rw [decide_eq_true hd] at HTO
        have hadd := add_row (.slice (some ⟨W8.heap.size, 0, none⟩) 2 2) [dt, x] (W8.alloc (.cells #[.int .i64 dt, .int .i64 x] 3)).drew (by
          have h1 := (Own.lit .i64 3 W8 W8.heap.size (Nat.le_refl _) [dt, x] #[.int .i64 dt, .int .i64 x] 2 rfl rfl (by unfold maxLen; decide)).row
          exact h1.drew)
        rw [WK.two_norm] at hadd
        have hb9 : Below W8.heap.size W8 (W8.alloc (.cells #[.int .i64 dt, .int .i64 x] 3)).drew := ((Below.refl _ W8).alloc (Nat.le_refl _) _).drew
        have HB9 : Hid (Below W8.heap.size W8 (W8.alloc (.cells #[.int .i64 dt, .int .i64 x] 3)).drew) := hb9
        clear hb9
        have HADD : Hid (Calls Try.prog 62 #[.slice (some ⟨W8.heap.size, 0, none⟩) 2 2] (W8.alloc (.cells #[.int .i64 dt, .int .i64 x] 3)).drew fun e w' => e = .returned (.int .i64 (DM.two dt x)) ∧ w' = (W8.alloc (.cells #[.int .i64 dt, .int .i64 x] 3)).drew) := hadd
        clear hadd
        generalize DM.two dt x = d2 at *
        refine wpAnyH_take (i := 0) (oi := { dst := some 25, op := Op.fieldAddr 33 (Operand.tmp 8) 3, type := 0, pos := "near.go:121", after := #[], guard := none }) (v := ?_) rfl (by kernel_rfl) (by kernel_rfl) (by kernel_rfl) (fun _ _ _ h => nomatch h.1) (Or.inl ⟨by rfl, ?_⟩) (by assumption) ?_
        rotate_left
        · intro w0 hSw
          (try dsimp only at hSw)
          go_simp <;> with_reducible rfl
        try simp only [Act.put, List.setIfInBounds_toArray, List.set_cons_zero, List.set_cons_succ]
        refine wpAnyH_take (i := 1) (oi := { dst := some 26, op := Op.load 4 (Operand.tmp 25), type := 4, pos := "near.go:121", after := #[{ on := 0, ground := Ground.data }], guard := none }) (v := ?_) rfl (by kernel_rfl) (by kernel_rfl) (by kernel_rfl) (fun _ _ _ h => nomatch h.1) (Or.inl ⟨by rfl, ?_⟩) (by assumption) ?_
        rotate_left
        · intro w0 hSw
          (try dsimp only at hSw)
          go_simp <;> with_reducible rfl
        try simp only [Act.put, List.setIfInBounds_toArray, List.set_cons_zero, List.set_cons_succ]
        refine wpAnyH_take (i := 2) (oi := { dst := some 27, op := Op.unOp UnOp.not 4 (Operand.tmp 26), type := 4, pos := "near.go:121", after := #[{ on := 1, ground := Ground.data }], guard := none }) (v := ?_) rfl (by kernel_rfl) (by kernel_rfl) (by kernel_rfl) (fun _ _ _ h => nomatch h.1) (Or.inl ⟨by rfl, ?_⟩) (by assumption) ?_
        rotate_left
        · intro w0 hSw
          (try dsimp only at hSw)
          go_simp <;> with_reducible rfl
        try simp only [Act.put, List.setIfInBounds_toArray, List.set_cons_zero, List.set_cons_succ]
        refine wpAnyH_take (i := 3) (oi := { dst := some 28, op := Op.move (Operand.tmp 27), type := 4, pos := "near.go:121", after := #[{ on := 2, ground := Ground.data }], guard := none }) (v := ?_) rfl (by kernel_rfl) (by kernel_rfl) (by kernel_rfl) (fun _ _ _ h => nomatch h.1) (Or.inl ⟨by rfl, ?_⟩) (by assumption) ?_
        rotate_left
        · intro w0 hSw
          (try dsimp only at hSw)
          go_simp <;> with_reducible rfl
        try simp only [Act.put, List.setIfInBounds_toArray, List.set_cons_zero, List.set_cons_succ]
        refine wpAnyH_take (i := 4) (oi := { dst := some 29, op := Op.load 41 (Operand.tmp 3), type := 41, pos := "near.go:121", after := #[{ on := 3, ground := Ground.guard }], guard := some (3, true) }) (v := ?_) rfl (by kernel_rfl) (by kernel_rfl) (by kernel_rfl) (fun _ _ _ h => nomatch h.1) (Or.inl ⟨by rfl, ?_⟩) (by assumption) ?_
        rotate_left
        · intro w0 hSw
          (try dsimp only at hSw)
          go_simp <;> with_reducible rfl
        try simp only [Act.put, List.setIfInBounds_toArray, List.set_cons_zero, List.set_cons_succ]
        refine wpAnyH_take (i := 5) (oi := { dst := some 30, op := Op.fieldAddr 33 (Operand.tmp 8) 1, type := 0, pos := "near.go:121", after := #[{ on := 3, ground := Ground.guard }], guard := some (3, true) }) (v := ?_) rfl (by kernel_rfl) (by kernel_rfl) (by kernel_rfl) (fun _ _ _ h => nomatch h.1) (Or.inl ⟨by rfl, ?_⟩) (by assumption) ?_
        rotate_left
        · intro w0 hSw
          (try dsimp only at hSw)
          go_simp <;> with_reducible rfl
        try simp only [Act.put, List.setIfInBounds_toArray, List.set_cons_zero, List.set_cons_succ]
        refine wpAnyH_take (i := 6) (oi := { dst := some 31, op := Op.load 3 (Operand.tmp 30), type := 3, pos := "near.go:121", after := #[{ on := 5, ground := Ground.data }, { on := 3, ground := Ground.guard }], guard := some (3, true) }) (v := ?_) rfl (by kernel_rfl) (by kernel_rfl) (by kernel_rfl) (fun _ _ _ h => nomatch h.1) (Or.inl ⟨by rfl, ?_⟩) (by assumption) ?_
        rotate_left
        · intro w0 hSw
          (try dsimp only at hSw)
          go_simp <;> with_reducible rfl
        try simp only [Act.put, List.setIfInBounds_toArray, List.set_cons_zero, List.set_cons_succ]
        refine wpAnyH_take (i := 7) (oi := { dst := some 32, op := Op.indexAddr 41 (Operand.tmp 29) (Operand.tmp 31), type := 0, pos := "near.go:121", after := #[{ on := 4, ground := Ground.data }, { on := 6, ground := Ground.data }, { on := 3, ground := Ground.guard }], guard := some (3, true) }) (v := ?_) rfl (by kernel_rfl) (by kernel_rfl) (by kernel_rfl) (fun _ _ _ h => nomatch h.1) (Or.inl ⟨by rfl, ?_⟩) (by assumption) ?_
        rotate_left
        · intro w0 hSw
          (try dsimp only at hSw)
          go_simp <;> with_reducible rfl
        try simp only [Act.put, List.setIfInBounds_toArray, List.set_cons_zero, List.set_cons_succ]
        refine wpAnyH_take (i := 8) (oi := { dst := some 33, op := Op.load 3 (Operand.tmp 32), type := 3, pos := "near.go:121", after := #[{ on := 7, ground := Ground.data }, { on := 3, ground := Ground.guard }], guard := some (3, true) }) (v := ?_) rfl (by kernel_rfl) (by kernel_rfl) (by kernel_rfl) (fun _ _ _ h => nomatch h.1) (Or.inl ⟨by rfl, ?_⟩) (by assumption) ?_
        rotate_left
        · intro w0 hSw
          (try dsimp only at hSw)
          go_simp <;> with_reducible rfl
        try simp only [Act.put, List.setIfInBounds_toArray, List.set_cons_zero, List.set_cons_succ]
        refine wpAnyH_ready (rs := [9]) (by kernel_rfl) (by simp) ?_
        refine AllReadyH.cons (o := { dst := some 34, op := Op.call { callee := Callee.value (Operand.func 61), args := #[Operand.tmp 33], argTypes := #[3] }, type := 4, pos := "near.go:121", after := #[{ on := 8, ground := Ground.data }, { on := 3, ground := Ground.chain }, { on := 3, ground := Ground.guard }], guard := some (3, true) }) rfl (fun K hK => ?_) AllReadyH.nil
        go_simp
        refine HTO.out.mono ?_
        rintro e w9 ⟨rfl, hw9⟩
        rw [hw9]
        clear hw9 w9
        go_wp2_with fail
        refine hK.out _ _ hS8 (fun hHeld => ?_)
        clear hK K
        try simp only [Act.put, List.setIfInBounds_toArray, List.set_cons_zero, List.set_cons_succ]
        refine wpAnyH_take (i := 10) (oi := { dst := some 35, op := Op.pick (Operand.tmp 28) (Operand.tmp 34) (Operand.const (Value.bool false)), type := 4, pos := "near.go:121", after := #[{ on := 3, ground := Ground.data }, { on := 9, ground := Ground.data }], guard := none }) (v := ?_) rfl (by kernel_rfl) (by kernel_rfl) (by kernel_rfl) (fun _ _ _ h => nomatch h.1) (Or.inl ⟨by rfl, ?_⟩) (by assumption) ?_
        rotate_left
        · intro w0 hSw
          (try dsimp only at hSw)
          go_simp <;> with_reducible rfl
        try simp only [Act.put, List.setIfInBounds_toArray, List.set_cons_zero, List.set_cons_succ]
        refine wpAnyH_take (i := 11) (oi := { dst := some 36, op := Op.move (Operand.tmp 35), type := 4, pos := "near.go:121", after := #[{ on := 10, ground := Ground.data }, { on := 9, ground := Ground.chain }], guard := none }) (v := ?_) rfl (by kernel_rfl) (by kernel_rfl) (by kernel_rfl) (fun _ _ _ h => nomatch h.1) (Or.inl ⟨by rfl, ?_⟩) (by assumption) ?_
        rotate_left
        · intro w0 hSw
          (try dsimp only at hSw)
          go_simp <;> with_reducible rfl
        try simp only [Act.put, List.setIfInBounds_toArray, List.set_cons_zero, List.set_cons_succ]
        refine wpAnyH_take (i := 12) (oi := { dst := some 37, op := Op.load 41 (Operand.tmp 3), type := 41, pos := "near.go:121", after := #[{ on := 11, ground := Ground.guard }], guard := some (11, true) }) (v := ?_) rfl (by kernel_rfl) (by kernel_rfl) (by kernel_rfl) (fun _ _ _ h => nomatch h.1) (Or.inl ⟨by rfl, ?_⟩) (by assumption) ?_
        rotate_left
        · intro w0 hSw
          (try dsimp only at hSw)
          go_simp <;> with_reducible rfl
        try simp only [Act.put, List.setIfInBounds_toArray, List.set_cons_zero, List.set_cons_succ]
        refine wpAnyH_take (i := 13) (oi := { dst := some 38, op := Op.fieldAddr 33 (Operand.tmp 8) 0, type := 0, pos := "near.go:121", after := #[{ on := 11, ground := Ground.guard }], guard := some (11, true) }) (v := ?_) rfl (by kernel_rfl) (by kernel_rfl) (by kernel_rfl) (fun _ _ _ h => nomatch h.1) (Or.inl ⟨by rfl, ?_⟩) (by assumption) ?_
        rotate_left
        · intro w0 hSw
          (try dsimp only at hSw)
          go_simp <;> with_reducible rfl
        try simp only [Act.put, List.setIfInBounds_toArray, List.set_cons_zero, List.set_cons_succ]
        refine wpAnyH_take (i := 14) (oi := { dst := some 39, op := Op.load 3 (Operand.tmp 38), type := 3, pos := "near.go:121", after := #[{ on := 13, ground := Ground.data }, { on := 11, ground := Ground.guard }], guard := some (11, true) }) (v := ?_) rfl (by kernel_rfl) (by kernel_rfl) (by kernel_rfl) (fun _ _ _ h => nomatch h.1) (Or.inl ⟨by rfl, ?_⟩) (by assumption) ?_
        rotate_left
        · intro w0 hSw
          (try dsimp only at hSw)
          go_simp <;> with_reducible rfl
        try simp only [Act.put, List.setIfInBounds_toArray, List.set_cons_zero, List.set_cons_succ]
        refine wpAnyH_take (i := 15) (oi := { dst := some 40, op := Op.indexAddr 41 (Operand.tmp 37) (Operand.tmp 39), type := 0, pos := "near.go:121", after := #[{ on := 12, ground := Ground.data }, { on := 14, ground := Ground.data }, { on := 11, ground := Ground.guard }], guard := some (11, true) }) (v := ?_) rfl (by kernel_rfl) (by kernel_rfl) (by kernel_rfl) (fun _ _ _ h => nomatch h.1) (Or.inl ⟨by rfl, ?_⟩) (by assumption) ?_
        rotate_left
        · intro w0 hSw
          (try dsimp only at hSw)
          go_simp <;> with_reducible rfl
        try simp only [Act.put, List.setIfInBounds_toArray, List.set_cons_zero, List.set_cons_succ]
        refine wpAnyH_take (i := 16) (oi := { dst := some 41, op := Op.load 3 (Operand.tmp 40), type := 3, pos := "near.go:121", after := #[{ on := 15, ground := Ground.data }, { on := 11, ground := Ground.guard }], guard := some (11, true) }) (v := ?_) rfl (by kernel_rfl) (by kernel_rfl) (by kernel_rfl) (fun _ _ _ h => nomatch h.1) (Or.inl ⟨by rfl, ?_⟩) (by assumption) ?_
        rotate_left
        · intro w0 hSw
          (try dsimp only at hSw)
          go_simp <;> with_reducible rfl
        try simp only [Act.put, List.setIfInBounds_toArray, List.set_cons_zero, List.set_cons_succ]
        refine wpAnyH_take (i := 17) (oi := { dst := some 42, op := Op.fieldAddr 33 (Operand.tmp 8) 2, type := 0, pos := "near.go:121", after := #[{ on := 11, ground := Ground.guard }], guard := some (11, true) }) (v := ?_) rfl (by kernel_rfl) (by kernel_rfl) (by kernel_rfl) (fun _ _ _ h => nomatch h.1) (Or.inl ⟨by rfl, ?_⟩) (by assumption) ?_
        rotate_left
        · intro w0 hSw
          (try dsimp only at hSw)
          go_simp <;> with_reducible rfl
        try simp only [Act.put, List.setIfInBounds_toArray, List.set_cons_zero, List.set_cons_succ]
        refine wpAnyH_take (i := 18) (oi := { dst := some 43, op := Op.load 3 (Operand.tmp 42), type := 3, pos := "near.go:121", after := #[{ on := 17, ground := Ground.data }, { on := 11, ground := Ground.guard }], guard := some (11, true) }) (v := ?_) rfl (by kernel_rfl) (by kernel_rfl) (by kernel_rfl) (fun _ _ _ h => nomatch h.1) (Or.inl ⟨by rfl, ?_⟩) (by assumption) ?_
        rotate_left
        · intro w0 hSw
          (try dsimp only at hSw)
          go_simp <;> with_reducible rfl
        try simp only [Act.put, List.setIfInBounds_toArray, List.set_cons_zero, List.set_cons_succ]
        refine wpAnyH_take (i := 21) (oi := { dst := some 46, op := Op.load 41 (Operand.tmp 3), type := 41, pos := "near.go:121", after := #[{ on := 11, ground := Ground.guard }], guard := some (11, true) }) (v := ?_) rfl (by kernel_rfl) (by kernel_rfl) (by kernel_rfl) (fun _ _ _ h => nomatch h.1) (Or.inl ⟨by rfl, ?_⟩) (by assumption) ?_
        rotate_left
        · intro w0 hSw
          (try dsimp only at hSw)
          go_simp <;> with_reducible rfl
        try simp only [Act.put, List.setIfInBounds_toArray, List.set_cons_zero, List.set_cons_succ]
        refine wpAnyH_take (i := 22) (oi := { dst := some 47, op := Op.fieldAddr 33 (Operand.tmp 8) 1, type := 0, pos := "near.go:121", after := #[{ on := 11, ground := Ground.guard }], guard := some (11, true) }) (v := ?_) rfl (by kernel_rfl) (by kernel_rfl) (by kernel_rfl) (fun _ _ _ h => nomatch h.1) (Or.inl ⟨by rfl, ?_⟩) (by assumption) ?_
        rotate_left
        · intro w0 hSw
          (try dsimp only at hSw)
          go_simp <;> with_reducible rfl
        try simp only [Act.put, List.setIfInBounds_toArray, List.set_cons_zero, List.set_cons_succ]
        refine wpAnyH_take (i := 23) (oi := { dst := some 48, op := Op.load 3 (Operand.tmp 47), type := 3, pos := "near.go:121", after := #[{ on := 22, ground := Ground.data }, { on := 11, ground := Ground.guard }], guard := some (11, true) }) (v := ?_) rfl (by kernel_rfl) (by kernel_rfl) (by kernel_rfl) (fun _ _ _ h => nomatch h.1) (Or.inl ⟨by rfl, ?_⟩) (by assumption) ?_
        rotate_left
        · intro w0 hSw
          (try dsimp only at hSw)
          go_simp <;> with_reducible rfl
        try simp only [Act.put, List.setIfInBounds_toArray, List.set_cons_zero, List.set_cons_succ]
        refine wpAnyH_take (i := 24) (oi := { dst := some 49, op := Op.indexAddr 41 (Operand.tmp 46) (Operand.tmp 48), type := 0, pos := "near.go:121", after := #[{ on := 21, ground := Ground.data }, { on := 23, ground := Ground.data }, { on := 11, ground := Ground.guard }], guard := some (11, true) }) (v := ?_) rfl (by kernel_rfl) (by kernel_rfl) (by kernel_rfl) (fun _ _ _ h => nomatch h.1) (Or.inl ⟨by rfl, ?_⟩) (by assumption) ?_
        rotate_left
        · intro w0 hSw
          (try dsimp only at hSw)
          go_simp <;> with_reducible rfl
        try simp only [Act.put, List.setIfInBounds_toArray, List.set_cons_zero, List.set_cons_succ]
        refine wpAnyH_take (i := 25) (oi := { dst := some 50, op := Op.load 3 (Operand.tmp 49), type := 3, pos := "near.go:121", after := #[{ on := 24, ground := Ground.data }, { on := 11, ground := Ground.guard }], guard := some (11, true) }) (v := ?_) rfl (by kernel_rfl) (by kernel_rfl) (by kernel_rfl) (fun _ _ _ h => nomatch h.1) (Or.inl ⟨by rfl, ?_⟩) (by assumption) ?_
        rotate_left
        · intro w0 hSw
          (try dsimp only at hSw)
          go_simp <;> with_reducible rfl
        try simp only [Act.put, List.setIfInBounds_toArray, List.set_cons_zero, List.set_cons_succ]
        refine wpAnyH_ready (rs := [19]) (by kernel_rfl) (by simp) ?_
        refine AllReadyH.cons (o := { dst := some 44, op := Op.buildSlice 41 2 #[(0, Operand.tmp 41), (1, Operand.tmp 43)], type := 41, pos := "near.go:121", after := #[{ on := 16, ground := Ground.data }, { on := 18, ground := Ground.data }, { on := 11, ground := Ground.guard }], guard := some (11, true) }) rfl (fun K hK => ?_) AllReadyH.nil
        go_simp
        refine hK.out _ _ (HH.out _ HB9.out) (fun hHeld => ?_)
        clear hK K
        try simp only [Act.put, List.setIfInBounds_toArray, List.set_cons_zero, List.set_cons_succ]
        refine wpAnyH_ready (rs := [20]) (by kernel_rfl) (by simp) ?_
        refine AllReadyH.cons (o := { dst := some 45, op := Op.call { callee := Callee.value (Operand.func 62), args := #[Operand.tmp 44], argTypes := #[41] }, type := 3, pos := "near.go:121", after := #[{ on := 19, ground := Ground.data }, { on := 11, ground := Ground.chain }, { on := 11, ground := Ground.guard }], guard := some (11, true) }) rfl (fun K hK => ?_) AllReadyH.nil
        go_simp
        refine HADD.out.mono ?_
        rintro e w9 ⟨rfl, hw9⟩
        rw [hw9]
        clear hw9 w9
        go_wp2_with fail
        refine hK.out _ _ (HH.out _ HB9.out) (fun hHeld => ?_)
        clear hK K
        try simp only [Act.put, List.setIfInBounds_toArray, List.set_cons_zero, List.set_cons_succ]
        refine wpAnyH_take (i := 26) (oi := { dst := some 51, op := Op.binOp BinOp.eql 3 (Operand.tmp 45) (Operand.tmp 50) 3, type := 4, pos := "near.go:121", after := #[{ on := 20, ground := Ground.data }, { on := 25, ground := Ground.data }, { on := 11, ground := Ground.guard }], guard := some (11, true) }) (v := ?_) rfl (by kernel_rfl) (by kernel_rfl) (by kernel_rfl) (fun _ _ _ h => nomatch h.1) (Or.inl ⟨by rfl, ?_⟩) (by assumption) ?_
        rotate_left
        · intro w0 hSw
          (try dsimp only at hSw)
          go_simp <;> with_reducible rfl
        try simp only [Act.put, List.setIfInBounds_toArray, List.set_cons_zero, List.set_cons_succ]
        refine wpAnyH_take (i := 27) (oi := { dst := some 52, op := Op.pick (Operand.tmp 36) (Operand.tmp 51) (Operand.const (Value.bool false)), type := 4, pos := "near.go:121", after := #[{ on := 11, ground := Ground.data }, { on := 26, ground := Ground.data }], guard := none }) (v := ?_) rfl (by kernel_rfl) (by kernel_rfl) (by kernel_rfl) (fun _ _ _ h => nomatch h.1) (Or.inl ⟨by rfl, ?_⟩) (by assumption) ?_
        rotate_left
        · intro w0 hSw
          (try dsimp only at hSw)
          go_simp <;> with_reducible rfl
        try simp only [Act.put, List.setIfInBounds_toArray, List.set_cons_zero, List.set_cons_succ]
        refine wpAnyH_done (by kernel_rfl) ?_ _
        refine ⟨rfl, ?_⟩
        by_cases he : d2 = dh
        · subst he
          have HO : Hid (Rest X0 B ((W8.alloc (.cells #[.int .i64 dt, .int .i64 x] 3)).drew.setCell ⟨tb, h, none⟩ (.int .i64 (i : Nat))) ∧ TI w.heap.size w6 tb N s m (pre ++ [(j, (i : Int))]) X0 ((W8.alloc (.cells #[.int .i64 dt, .int .i64 x] 3)).drew.setCell ⟨tb, h, none⟩ (.int .i64 (i : Nat)))) := HYES.out ⟨⟨trivial, hd⟩, rfl⟩ _ (HB8.out.trans (HB9.out.mono HB8.out.size))
          obtain ⟨y1, y2, y3, y4⟩ := HBF.out _ (HB8.out.trans (HB9.out.mono HB8.out.size))
          obtain ⟨z1, z2⟩ := HOW.out _ (HB8.out.trans (HB9.out.mono HB8.out.size))
          have z3 := (HA.out _ HB9.out).2.1
          clear HNO HYES hS8 hHeld y1 y3 y4
          gi_wp2_with fail
          exact HO.out
        · have HO : Hid (Rest X0 B (W8.alloc (.cells #[.int .i64 dt, .int .i64 x] 3)).drew ∧ TI w.heap.size w6 tb N s m (pre ++ [(j, (i : Int))]) X0 (W8.alloc (.cells #[.int .i64 dt, .int .i64 x] 3)).drew) := HNO.out (fun q => he q.2) _ (HB8.out.trans (HB9.out.mono HB8.out.size))
          clear HNO HYES hS8 hHeld
          gi_wp2_with fail
          exact HO.out
      · rw [decide_eq_false hd] at HTO
        refine wpAnyH_take (i := 0) (oi := { dst := some 25, op := Op.fieldAddr 33 (Operand.tmp 8) 3, type := 0, pos := "near.go:121", after := #[], guard := none }) (v := ?_) rfl (by kernel_rfl) (by kernel_rfl) (by kernel_rfl) (fun _ _ _ h => nomatch h.1) (Or.inl ⟨by rfl, ?_⟩) (by assumption) ?_
        rotate_left
        · intro w0 hSw
          (try dsimp only at hSw)
          go_simp <;> with_reducible rfl
        try simp only [Act.put, List.setIfInBounds_toArray, List.set_cons_zero, List.set_cons_succ]
        refine wpAnyH_take (i := 1) (oi := { dst := some 26, op := Op.load 4 (Operand.tmp 25), type := 4, pos := "near.go:121", after := #[{ on := 0, ground := Ground.data }], guard := none }) (v := ?_) rfl (by kernel_rfl) (by kernel_rfl) (by kernel_rfl) (fun _ _ _ h => nomatch h.1) (Or.inl ⟨by rfl, ?_⟩) (by assumption) ?_
        rotate_left
        · intro w0 hSw
          (try dsimp only at hSw)
          go_simp <;> with_reducible rfl
        try simp only [Act.put, List.setIfInBounds_toArray, List.set_cons_zero, List.set_cons_succ]
        refine wpAnyH_take (i := 2) (oi := { dst := some 27, op := Op.unOp UnOp.not 4 (Operand.tmp 26), type := 4, pos := "near.go:121", after := #[{ on := 1, ground := Ground.data }], guard := none }) (v := ?_) rfl (by kernel_rfl) (by kernel_rfl) (by kernel_rfl) (fun _ _ _ h => nomatch h.1) (Or.inl ⟨by rfl, ?_⟩) (by assumption) ?_
        rotate_left
        · intro w0 hSw
          (try dsimp only at hSw)
          go_simp <;> with_reducible rfl
        try simp only [Act.put, List.setIfInBounds_toArray, List.set_cons_zero, List.set_cons_succ]
        refine wpAnyH_take (i := 3) (oi := { dst := some 28, op := Op.move (Operand.tmp 27), type := 4, pos := "near.go:121", after := #[{ on := 2, ground := Ground.data }], guard := none }) (v := ?_) rfl (by kernel_rfl) (by kernel_rfl) (by kernel_rfl) (fun _ _ _ h => nomatch h.1) (Or.inl ⟨by rfl, ?_⟩) (by assumption) ?_
        rotate_left
        · intro w0 hSw
          (try dsimp only at hSw)
          go_simp <;> with_reducible rfl
        try simp only [Act.put, List.setIfInBounds_toArray, List.set_cons_zero, List.set_cons_succ]
        refine wpAnyH_take (i := 4) (oi := { dst := some 29, op := Op.load 41 (Operand.tmp 3), type := 41, pos := "near.go:121", after := #[{ on := 3, ground := Ground.guard }], guard := some (3, true) }) (v := ?_) rfl (by kernel_rfl) (by kernel_rfl) (by kernel_rfl) (fun _ _ _ h => nomatch h.1) (Or.inl ⟨by rfl, ?_⟩) (by assumption) ?_
        rotate_left
        · intro w0 hSw
          (try dsimp only at hSw)
          go_simp <;> with_reducible rfl
        try simp only [Act.put, List.setIfInBounds_toArray, List.set_cons_zero, List.set_cons_succ]
        refine wpAnyH_take (i := 5) (oi := { dst := some 30, op := Op.fieldAddr 33 (Operand.tmp 8) 1, type := 0, pos := "near.go:121", after := #[{ on := 3, ground := Ground.guard }], guard := some (3, true) }) (v := ?_) rfl (by kernel_rfl) (by kernel_rfl) (by kernel_rfl) (fun _ _ _ h => nomatch h.1) (Or.inl ⟨by rfl, ?_⟩) (by assumption) ?_
        rotate_left
        · intro w0 hSw
          (try dsimp only at hSw)
          go_simp <;> with_reducible rfl
        try simp only [Act.put, List.setIfInBounds_toArray, List.set_cons_zero, List.set_cons_succ]
        refine wpAnyH_take (i := 6) (oi := { dst := some 31, op := Op.load 3 (Operand.tmp 30), type := 3, pos := "near.go:121", after := #[{ on := 5, ground := Ground.data }, { on := 3, ground := Ground.guard }], guard := some (3, true) }) (v := ?_) rfl (by kernel_rfl) (by kernel_rfl) (by kernel_rfl) (fun _ _ _ h => nomatch h.1) (Or.inl ⟨by rfl, ?_⟩) (by assumption) ?_
        rotate_left
        · intro w0 hSw
          (try dsimp only at hSw)
          go_simp <;> with_reducible rfl
        try simp only [Act.put, List.setIfInBounds_toArray, List.set_cons_zero, List.set_cons_succ]
        refine wpAnyH_take (i := 7) (oi := { dst := some 32, op := Op.indexAddr 41 (Operand.tmp 29) (Operand.tmp 31), type := 0, pos := "near.go:121", after := #[{ on := 4, ground := Ground.data }, { on := 6, ground := Ground.data }, { on := 3, ground := Ground.guard }], guard := some (3, true) }) (v := ?_) rfl (by kernel_rfl) (by kernel_rfl) (by kernel_rfl) (fun _ _ _ h => nomatch h.1) (Or.inl ⟨by rfl, ?_⟩) (by assumption) ?_
        rotate_left
        · intro w0 hSw
          (try dsimp only at hSw)
          go_simp <;> with_reducible rfl
        try simp only [Act.put, List.setIfInBounds_toArray, List.set_cons_zero, List.set_cons_succ]
        refine wpAnyH_take (i := 8) (oi := { dst := some 33, op := Op.load 3 (Operand.tmp 32), type := 3, pos := "near.go:121", after := #[{ on := 7, ground := Ground.data }, { on := 3, ground := Ground.guard }], guard := some (3, true) }) (v := ?_) rfl (by kernel_rfl) (by kernel_rfl) (by kernel_rfl) (fun _ _ _ h => nomatch h.1) (Or.inl ⟨by rfl, ?_⟩) (by assumption) ?_
        rotate_left
        · intro w0 hSw
          (try dsimp only at hSw)
          go_simp <;> with_reducible rfl
        try simp only [Act.put, List.setIfInBounds_toArray, List.set_cons_zero, List.set_cons_succ]
        refine wpAnyH_ready (rs := [9]) (by kernel_rfl) (by simp) ?_
        refine AllReadyH.cons (o := { dst := some 34, op := Op.call { callee := Callee.value (Operand.func 61), args := #[Operand.tmp 33], argTypes := #[3] }, type := 4, pos := "near.go:121", after := #[{ on := 8, ground := Ground.data }, { on := 3, ground := Ground.chain }, { on := 3, ground := Ground.guard }], guard := some (3, true) }) rfl (fun K hK => ?_) AllReadyH.nil
        go_simp
        refine HTO.out.mono ?_
        rintro e w9 ⟨rfl, hw9⟩
        rw [hw9]
        clear hw9 w9
        go_wp2_with fail
        refine hK.out _ _ hS8 (fun hHeld => ?_)
        clear hK K
        try simp only [Act.put, List.setIfInBounds_toArray, List.set_cons_zero, List.set_cons_succ]
        refine wpAnyH_take (i := 10) (oi := { dst := some 35, op := Op.pick (Operand.tmp 28) (Operand.tmp 34) (Operand.const (Value.bool false)), type := 4, pos := "near.go:121", after := #[{ on := 3, ground := Ground.data }, { on := 9, ground := Ground.data }], guard := none }) (v := ?_) rfl (by kernel_rfl) (by kernel_rfl) (by kernel_rfl) (fun _ _ _ h => nomatch h.1) (Or.inl ⟨by rfl, ?_⟩) (by assumption) ?_
        rotate_left
        · intro w0 hSw
          (try dsimp only at hSw)
          go_simp <;> with_reducible rfl
        try simp only [Act.put, List.setIfInBounds_toArray, List.set_cons_zero, List.set_cons_succ]
        refine wpAnyH_take (i := 11) (oi := { dst := some 36, op := Op.move (Operand.tmp 35), type := 4, pos := "near.go:121", after := #[{ on := 10, ground := Ground.data }, { on := 9, ground := Ground.chain }], guard := none }) (v := ?_) rfl (by kernel_rfl) (by kernel_rfl) (by kernel_rfl) (fun _ _ _ h => nomatch h.1) (Or.inl ⟨by rfl, ?_⟩) (by assumption) ?_
        rotate_left
        · intro w0 hSw
          (try dsimp only at hSw)
          go_simp <;> with_reducible rfl
        try simp only [Act.put, List.setIfInBounds_toArray, List.set_cons_zero, List.set_cons_succ]
        refine wpAnyH_take (i := 12) (oi := { dst := some 37, op := Op.load 41 (Operand.tmp 3), type := 41, pos := "near.go:121", after := #[{ on := 11, ground := Ground.guard }], guard := some (11, true) }) (v := undef) rfl (by kernel_rfl) (by kernel_rfl) (by kernel_rfl) (fun _ _ _ h => nomatch h.1) (Or.inr ⟨by rfl, rfl⟩) (by assumption) ?_
        try simp only [Act.put, List.setIfInBounds_toArray, List.set_cons_zero, List.set_cons_succ]
        refine wpAnyH_take (i := 13) (oi := { dst := some 38, op := Op.fieldAddr 33 (Operand.tmp 8) 0, type := 0, pos := "near.go:121", after := #[{ on := 11, ground := Ground.guard }], guard := some (11, true) }) (v := undef) rfl (by kernel_rfl) (by kernel_rfl) (by kernel_rfl) (fun _ _ _ h => nomatch h.1) (Or.inr ⟨by rfl, rfl⟩) (by assumption) ?_
        try simp only [Act.put, List.setIfInBounds_toArray, List.set_cons_zero, List.set_cons_succ]
        refine wpAnyH_take (i := 14) (oi := { dst := some 39, op := Op.load 3 (Operand.tmp 38), type := 3, pos := "near.go:121", after := #[{ on := 13, ground := Ground.data }, { on := 11, ground := Ground.guard }], guard := some (11, true) }) (v := undef) rfl (by kernel_rfl) (by kernel_rfl) (by kernel_rfl) (fun _ _ _ h => nomatch h.1) (Or.inr ⟨by rfl, rfl⟩) (by assumption) ?_
        try simp only [Act.put, List.setIfInBounds_toArray, List.set_cons_zero, List.set_cons_succ]
        refine wpAnyH_take (i := 15) (oi := { dst := some 40, op := Op.indexAddr 41 (Operand.tmp 37) (Operand.tmp 39), type := 0, pos := "near.go:121", after := #[{ on := 12, ground := Ground.data }, { on := 14, ground := Ground.data }, { on := 11, ground := Ground.guard }], guard := some (11, true) }) (v := undef) rfl (by kernel_rfl) (by kernel_rfl) (by kernel_rfl) (fun _ _ _ h => nomatch h.1) (Or.inr ⟨by rfl, rfl⟩) (by assumption) ?_
        try simp only [Act.put, List.setIfInBounds_toArray, List.set_cons_zero, List.set_cons_succ]
        refine wpAnyH_take (i := 16) (oi := { dst := some 41, op := Op.load 3 (Operand.tmp 40), type := 3, pos := "near.go:121", after := #[{ on := 15, ground := Ground.data }, { on := 11, ground := Ground.guard }], guard := some (11, true) }) (v := undef) rfl (by kernel_rfl) (by kernel_rfl) (by kernel_rfl) (fun _ _ _ h => nomatch h.1) (Or.inr ⟨by rfl, rfl⟩) (by assumption) ?_
        try simp only [Act.put, List.setIfInBounds_toArray, List.set_cons_zero, List.set_cons_succ]
        refine wpAnyH_take (i := 17) (oi := { dst := some 42, op := Op.fieldAddr 33 (Operand.tmp 8) 2, type := 0, pos := "near.go:121", after := #[{ on := 11, ground := Ground.guard }], guard := some (11, true) }) (v := undef) rfl (by kernel_rfl) (by kernel_rfl) (by kernel_rfl) (fun _ _ _ h => nomatch h.1) (Or.inr ⟨by rfl, rfl⟩) (by assumption) ?_
        try simp only [Act.put, List.setIfInBounds_toArray, List.set_cons_zero, List.set_cons_succ]
        refine wpAnyH_take (i := 18) (oi := { dst := some 43, op := Op.load 3 (Operand.tmp 42), type := 3, pos := "near.go:121", after := #[{ on := 17, ground := Ground.data }, { on := 11, ground := Ground.guard }], guard := some (11, true) }) (v := undef) rfl (by kernel_rfl) (by kernel_rfl) (by kernel_rfl) (fun _ _ _ h => nomatch h.1) (Or.inr ⟨by rfl, rfl⟩) (by assumption) ?_
        try simp only [Act.put, List.setIfInBounds_toArray, List.set_cons_zero, List.set_cons_succ]
        refine wpAnyH_take (i := 19) (oi := { dst := some 44, op := Op.buildSlice 41 2 #[(0, Operand.tmp 41), (1, Operand.tmp 43)], type := 41, pos := "near.go:121", after := #[{ on := 16, ground := Ground.data }, { on := 18, ground := Ground.data }, { on := 11, ground := Ground.guard }], guard := some (11, true) }) (v := undef) rfl (by kernel_rfl) (by kernel_rfl) (by kernel_rfl) (fun _ _ _ h => nomatch h.1) (Or.inr ⟨by rfl, rfl⟩) (by assumption) ?_
        try simp only [Act.put, List.setIfInBounds_toArray, List.set_cons_zero, List.set_cons_succ]
        refine wpAnyH_take (i := 20) (oi := { dst := some 45, op := Op.call { callee := Callee.value (Operand.func 62), args := #[Operand.tmp 44], argTypes := #[41] }, type := 3, pos := "near.go:121", after := #[{ on := 19, ground := Ground.data }, { on := 11, ground := Ground.chain }, { on := 11, ground := Ground.guard }], guard := some (11, true) }) (v := undef) rfl (by kernel_rfl) (by kernel_rfl) (by kernel_rfl) (fun _ _ _ h => nomatch h.1) (Or.inr ⟨by rfl, rfl⟩) (by assumption) ?_
        try simp only [Act.put, List.setIfInBounds_toArray, List.set_cons_zero, List.set_cons_succ]
        refine wpAnyH_take (i := 21) (oi := { dst := some 46, op := Op.load 41 (Operand.tmp 3), type := 41, pos := "near.go:121", after := #[{ on := 11, ground := Ground.guard }], guard := some (11, true) }) (v := undef) rfl (by kernel_rfl) (by kernel_rfl) (by kernel_rfl) (fun _ _ _ h => nomatch h.1) (Or.inr ⟨by rfl, rfl⟩) (by assumption) ?_
        try simp only [Act.put, List.setIfInBounds_toArray, List.set_cons_zero, List.set_cons_succ]
        refine wpAnyH_take (i := 22) (oi := { dst := some 47, op := Op.fieldAddr 33 (Operand.tmp 8) 1, type := 0, pos := "near.go:121", after := #[{ on := 11, ground := Ground.guard }], guard := some (11, true) }) (v := undef) rfl (by kernel_rfl) (by kernel_rfl) (by kernel_rfl) (fun _ _ _ h => nomatch h.1) (Or.inr ⟨by rfl, rfl⟩) (by assumption) ?_
        try simp only [Act.put, List.setIfInBounds_toArray, List.set_cons_zero, List.set_cons_succ]
        refine wpAnyH_take (i := 23) (oi := { dst := some 48, op := Op.load 3 (Operand.tmp 47), type := 3, pos := "near.go:121", after := #[{ on := 22, ground := Ground.data }, { on := 11, ground := Ground.guard }], guard := some (11, true) }) (v := undef) rfl (by kernel_rfl) (by kernel_rfl) (by kernel_rfl) (fun _ _ _ h => nomatch h.1) (Or.inr ⟨by rfl, rfl⟩) (by assumption) ?_
        try simp only [Act.put, List.setIfInBounds_toArray, List.set_cons_zero, List.set_cons_succ]
        refine wpAnyH_take (i := 24) (oi := { dst := some 49, op := Op.indexAddr 41 (Operand.tmp 46) (Operand.tmp 48), type := 0, pos := "near.go:121", after := #[{ on := 21, ground := Ground.data }, { on := 23, ground := Ground.data }, { on := 11, ground := Ground.guard }], guard := some (11, true) }) (v := undef) rfl (by kernel_rfl) (by kernel_rfl) (by kernel_rfl) (fun _ _ _ h => nomatch h.1) (Or.inr ⟨by rfl, rfl⟩) (by assumption) ?_
        try simp only [Act.put, List.setIfInBounds_toArray, List.set_cons_zero, List.set_cons_succ]
        refine wpAnyH_take (i := 25) (oi := { dst := some 50, op := Op.load 3 (Operand.tmp 49), type := 3, pos := "near.go:121", after := #[{ on := 24, ground := Ground.data }, { on := 11, ground := Ground.guard }], guard := some (11, true) }) (v := undef) rfl (by kernel_rfl) (by kernel_rfl) (by kernel_rfl) (fun _ _ _ h => nomatch h.1) (Or.inr ⟨by rfl, rfl⟩) (by assumption) ?_
        try simp only [Act.put, List.setIfInBounds_toArray, List.set_cons_zero, List.set_cons_succ]
        refine wpAnyH_take (i := 26) (oi := { dst := some 51, op := Op.binOp BinOp.eql 3 (Operand.tmp 45) (Operand.tmp 50) 3, type := 4, pos := "near.go:121", after := #[{ on := 20, ground := Ground.data }, { on := 25, ground := Ground.data }, { on := 11, ground := Ground.guard }], guard := some (11, true) }) (v := undef) rfl (by kernel_rfl) (by kernel_rfl) (by kernel_rfl) (fun _ _ _ h => nomatch h.1) (Or.inr ⟨by rfl, rfl⟩) (by assumption) ?_
        try simp only [Act.put, List.setIfInBounds_toArray, List.set_cons_zero, List.set_cons_succ]
        refine wpAnyH_take (i := 27) (oi := { dst := some 52, op := Op.pick (Operand.tmp 36) (Operand.tmp 51) (Operand.const (Value.bool false)), type := 4, pos := "near.go:121", after := #[{ on := 11, ground := Ground.data }, { on := 26, ground := Ground.data }], guard := none }) (v := ?_) rfl (by kernel_rfl) (by kernel_rfl) (by kernel_rfl) (fun _ _ _ h => nomatch h.1) (Or.inl ⟨by rfl, ?_⟩) (by assumption) ?_
        rotate_left
        · intro w0 hSw
          (try dsimp only at hSw)
          go_simp <;> with_reducible rfl
        try simp only [Act.put, List.setIfInBounds_toArray, List.set_cons_zero, List.set_cons_succ]
        refine wpAnyH_done (by kernel_rfl) ?_ _
        refine ⟨rfl, ?_⟩
        have HO : Hid (Rest X0 B W8.drew ∧ TI w.heap.size w6 tb N s m (pre ++ [(j, (i : Int))]) X0 W8.drew) := HNO.out (fun q => absurd q.1.2 (by omega)) W8.drew HB8.out.drew
        clear HNO HYES hS8 hHeld
        gi_wp2_with fail
        exact HO.out
end Go.Proofs.Ytmamligiopbefaa
