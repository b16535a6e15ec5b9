/-
  Two searches that meet: how far it is, where both have come far enough. A walk that is as long as it is far is simple. Nothing of the program.
-/
import Derived.Test.YtmamligiopbefaaMmHeaps0
import Derived.Test.YtmamligiopbefaaMmSufs
namespace Go.Proofs.Ytmamligiopbefaa
namespace NM
section
variable {m : GM.M} {L : Nat → List (Int × Int)} {N s : Nat} {far : Nat → Int} {hm : Nat → Option Int} {dn : Nat → Bool}
/-- A walk on from a settled vertex: its end is settled, or it comes to one that isn't, which is told to be no farther than by it. -/
theorem DJ.edge (hW : Ways m N L) (h : DJ m L N s N [] far hm dn) : ∀ (ids : List Int) (y : Nat) (b : Int), y < N → dn y = true → Wk m y b ids → (∃ k : Nat, b = k ∧ k < N ∧ dn k = true) ∨ ∃ (p q : List Int) (x : Nat), ids = p ++ q ∧ x < N ∧ dn x = false ∧ Wk m y x p ∧ Wk m x b q ∧ far x ≤ DM.two (far y) (csum m p)
  | [], y, b, hy, hd, hw => by
    have := wk_nil_iff.1 hw
    exact .inl ⟨y, this.symm, hy, hd⟩
  | z :: ids, y, b, hy, hd, hw => by
    obtain ⟨h1, h2⟩ := wk_cons.1 hw
    obtain ⟨k, hk, hkN⟩ := vert_nat (hW.inn _ _ h1)
    have hr := h.rel y hy hd (NM.hd m z, wt m z) (by
      rw [if_neg (by omega)]
      exact hW.all y hy z h1)
    have hr' : far k ≤ DM.two (far y) (wt m z) := by
      dsimp only at hr
      rw [hk, Int.toNat_natCast] at hr
      exact hr
    rw [hk] at h2
    cases hdk : dn k with
    | false =>
      refine .inr ⟨[z], ids, k, rfl, hkN, hdk, wk_cons.2 ⟨h1, by rw [hk]; exact wk_nil _ _⟩, h2, ?_⟩
      rw [csum_cons, csum_nil, ← two_assoc, two_zero (DM.two_bd _ _).1 (DM.two_bd _ _).2]
      exact hr'
    | true =>
      rcases DJ.edge hW h ids k b hkN hdk h2 with h3 | ⟨p, q, x, e1, e2, e3, e4, e5, e6⟩
      · exact .inl h3
      · refine .inr ⟨z :: p, q, x, by rw [e1]; rfl, e2, e3, wk_cons.2 ⟨h1, by rw [hk]; exact e4⟩, e5, ?_⟩
        have bk := h.bd k hkN
        have bc := csum_bd m p
        have b2 := DM.two_bd (far y) (wt m z)
        rw [csum_cons, ← two_assoc]
        exact Int.le_trans e6 (two_mono bk.1 hr' b2.2 bc.1 (Int.le_refl _) bc.2)
/-- The same from the first vertex on. -/
theorem DJ.edge0 (hW : Ways m N L) (h : DJ m L N s N [] far hm dn) (hs : s < N) {ids : List Int} {b : Int} (hw : Wk m s b ids) : (∃ k : Nat, b = k ∧ k < N ∧ dn k = true) ∨ ∃ (p q : List Int) (x : Nat), ids = p ++ q ∧ x < N ∧ dn x = false ∧ Wk m s x p ∧ Wk m x b q ∧ far x ≤ csum m p := by
  cases hd : dn s with
  | false =>
    refine .inr ⟨[], ids, s, rfl, hs, hd, wk_nil _ _, hw, ?_⟩
    rw [h.s0, csum_nil]
    exact Int.le_refl _
  | true =>
    rcases h.edge hW ids s b hs hd hw with h1 | ⟨p, q, x, e1, e2, e3, e4, e5, e6⟩
    · exact .inl h1
    · have bc := csum_bd m p
      rw [h.s0, zero_two bc.1 bc.2] at e6
      exact .inr ⟨p, q, x, e1, e2, e3, e4, e5, e6⟩
end
/-- Both sides have come far enough: what is the least so far is how far it is. -/
theorem meet {m : GM.M} {L1 L2 : Nat → List (Int × Int)} {N s t : Nat} {F B : Nat → Int} {h1 h2 : Nat → Option Int} {d1 d2 : Nat → Bool} (w1 : Ways m N L1) (w2 : Ways (rev m) N L2) (k1 : DJ m L1 N s N [] F h1 d1) (k2 : DJ (rev m) L2 N t N [] B h2 d2) (hs : s < N) (ht : t < N)
    {r1 r2 x : Int} (hr1 : 0 ≤ r1) (hr2 : 0 ≤ r2) (hf1 : ∀ v, v < N → d1 v = false → r1 ≤ F v) (hf2 : ∀ v, v < N → d2 v = false → r2 ≤ B v)
    (x0 : 0 ≤ x) (xN : x ≤ 4611686018427387906) (hx : ∀ v, v < N → (d1 v = true ∨ d2 v = true) → x ≤ DM.two (F v) (B v)) (hstop : x ≤ DM.two r1 r2) (hat : x = 4611686018427387906 ∨ ∃ ids, Wk m s t ids ∧ csum m ids = x) : Dst m s t x := by
  refine ⟨x0, xN, fun ids hw => ?_, hat⟩
  have bi := csum_bd m ids
  rcases k1.edge0 w1 hs hw with ⟨k, e, hk, hd⟩ | ⟨p, q, y, e1, e2, e3, e4, e5, e6⟩
  · obtain rfl : t = k := by omega
    have h3 := hx t ht (.inl hd)
    have bF := k1.bd t ht
    rw [k2.s0, two_zero bF.1 bF.2] at h3
    exact Int.le_trans h3 ((k1.dst t ht hd).le ids hw)
  · have bp := csum_bd m p
    have bq := csum_bd m q
    have hsum : csum m ids = DM.two (csum m p) (csum m q) := by rw [e1, csum_append]
    have hq := wk_rev e5
    have hqs := csum_rev m q
    have bF := k1.bd y e2
    have bB := k2.bd y e2
    have hr := hf1 y e2 e3
    rw [hsum]
    rcases k2.edge0 w2 ht hq with ⟨k, e, hk, hd⟩ | ⟨p', q', v, f1, f2, f3, f4, f5, f6⟩
    · obtain rfl : y = k := by omega
      have h3 := hx y e2 (.inr hd)
      have h4 := (k2.dst y e2 hd).le _ hq
      rw [hqs] at h4
      exact Int.le_trans h3 (two_mono bF.1 e6 bp.2 bB.1 h4 bq.2)
    · have h4 := hf2 v f2 f3
      have h5 : csum (rev m) p' ≤ csum m q := by
        rw [← hqs, f1, csum_append]
        have b1 := csum_bd (rev m) p'
        have b2 := csum_bd (rev m) q'
        rcases two_cases b1.1 b1.2 b2.1 b2.2 with c | c | c <;> omega
      exact Int.le_trans hstop (two_mono hr1 (Int.le_trans hr e6) bp.2 hr2 (Int.le_trans h4 (Int.le_trans f6 h5)) bq.2)
/-- Along a walk that is as long as it is far it comes nearer and nearer. -/
theorem nearer {m : GM.M} (hok : ∀ i, GM.is m i = true → GM.okW (GM.arc m i).weight = true) {t : Int} : ∀ (ids : List Int) (u : Int), Wk m u t ids → csum m ids = dist m u t → csum m ids ≤ 4611686018427387904 → ((u :: ids.map (hd m)).map (fun x => dist m x t)).Pairwise (· > ·)
  | [], u, _, _, _ => by simp
  | z :: ids, u, hw, he, hle => by
    obtain ⟨h1, h2⟩ := wk_cons.1 hw
    obtain ⟨i, rfl, hi⟩ := opn_place h1
    have hwt := of_decide_eq_true (hok i ((opn_at hi).1 h1).1)
    rw [← wt_at m hi] at hwt
    have bc := csum_bd m ids
    have hd1 := (dist_dst m (hd m (i : Int)) t)
    have hl := hd1.le ids h2
    have hsum : csum m ((i : Int) :: ids) = wt m i + csum m ids ∧ csum m ids ≤ 4611686018427387904 := by
      rw [csum_cons] at hle ⊢
      rcases two_cases (show 0 ≤ wt m i by omega) (show wt m i ≤ 4611686018427387906 by omega) bc.1 bc.2 with c | c | c <;> omega
    have heq : csum m ids = dist m (hd m (i : Int)) t := by
      rcases hd1.is with e | ⟨js, j1, j2⟩
      · omega
      · have h3 := (dist_dst m u t).le ((i : Int) :: js) (wk_cons.2 ⟨h1, j1⟩)
        rw [csum_cons, j2] at h3
        have bd := hd1.lo
        rcases two_cases (show 0 ≤ wt m i by omega) (show wt m i ≤ 4611686018427387906 by omega) bd hd1.hi with c | c | c <;> omega
    have ih := nearer hok ids _ h2 heq hsum.2
    have e1 : dist m u t > dist m (hd m (i : Int)) t := by
      rw [← he, ← heq, hsum.1]
      omega
    rw [List.map_cons, List.map_cons, List.pairwise_cons]
    refine ⟨fun x hx => ?_, ih⟩
    rw [List.map_cons] at hx ih
    rcases List.mem_cons.1 hx with e | e
    · rw [e]; exact e1
    · have := (List.pairwise_cons.1 ih).1 x e
      omega
/-- It is simple then. -/
theorem least_simple {m : GM.M} (hok : ∀ i, GM.is m i = true → GM.okW (GM.arc m i).weight = true) {u t : Int} {ids : List Int} (hw : Wk m u t ids) (he : csum m ids = dist m u t) (hle : csum m ids ≤ 4611686018427387904) : (u :: WK.heads (WK.list m ids)).Nodup := by
  have hh : WK.heads (WK.list m ids) = ids.map (hd m) := by
    unfold WK.heads WK.list hd
    rw [List.map_map]
    rfl
  have hp := nearer hok ids u hw he hle
  rw [hh]
  rw [List.pairwise_map] at hp
  exact hp.imp (fun {a b} hab e => by rw [e] at hab; omega)
end NM
end Go.Proofs.Ytmamligiopbefaa
