/-
  What the laws of layer 9 lean on: walks joined, cut, broken. Nothing of the program.
-/
import Derived.Test.YtjnihkfnnokmdaaWalkInn
import Derived.Test.YtjnihkfnnokmdaaWalkRef2
namespace Go.Proofs.Ytjnihkfnnokmdaa
namespace WK

/-! Sums. -/
theorem two_assoc (a b c : Int) : DM.two (DM.two a b) c = DM.two a (DM.two b c) := by
  have := DM.ring2 a b c
  rw [two_norm, two_norm, two_norm, two_norm] at this
  exact this.symm
theorem two_zero {s : Int} (h0 : 0 ≤ s) (h1 : s ≤ 4611686018427387906) : DM.two s 0 = s := by
  rw [DM.two_plus, DM.norm_of h0 h1, DM.norm_of (by decide) (by decide), DM.plus_comm, DM.plus_zero h0 h1]
theorem fold_two : ∀ (l : List Int) (s : Int), 0 ≤ s → s ≤ 4611686018427387906 → l.foldl DM.two s = DM.two s (l.foldl DM.two 0)
  | [], s, h0, h1 => (two_zero h0 h1).symm
  | a :: l, s, h0, h1 => by
    have b1 := DM.two_bd s a
    have b2 := DM.two_bd 0 a
    rw [List.foldl_cons, List.foldl_cons, fold_two l _ b1.1 b1.2, fold_two l _ b2.1 b2.2, two_assoc, two_assoc 0 a]
    have b3 := DM.two_bd a (l.foldl DM.two 0)
    rw [DM.addl1, DM.norm_of b3.1 b3.2]
theorem tsum_append (xs ys : List (Arc × Int)) : tsum (xs ++ ys) = DM.two (tsum xs) (tsum ys) := by
  unfold tsum
  rw [List.map_append, List.foldl_append]
  have b := tsum_bd xs
  unfold tsum at b
  exact fold_two _ _ b.1 b.2
theorem ends_gone : ∀ {xs : List (Arc × Int)} {u b : Int}, ends u xs = some b → gone xs = false
  | [], _, _, _ => rfl
  | x :: xs, u, b, h => by
    rw [ends] at h
    split at h
    · rename_i h0
      have h1 := ends_gone h
      have h2 := (codeAt_zero.1 h0).1
      unfold gone at h1 ⊢
      rw [List.any_cons, h1, h2]
      rfl
    · cases h
theorem wsum_walk {xs : List (Arc × Int)} {u b : Int} (h : ends u xs = some b) : wsum xs = tsum xs := wsum_all (ends_gone h)
theorem list_append (m : GM.M) (xs ys : List Int) : list m (xs ++ ys) = list m xs ++ list m ys := by simp [list]
/-- Two walks, one behind the other. -/
theorem joins {m : GM.M} {xs ys : List Int} {u b c : Int} (h1 : ends u (list m xs) = some b) (h2 : ends b (list m ys) = some c) : ends u (list m (xs ++ ys)) = some c ∧ wsum (list m (xs ++ ys)) = DM.two (wsum (list m xs)) (wsum (list m ys)) := by
  have h3 : ends u (list m (xs ++ ys)) = some c := by rw [list_append, ends_append h1, h2]
  refine ⟨h3, ?_⟩
  rw [wsum_walk h3, wsum_walk h1, wsum_walk h2, list_append, tsum_append]

/-! What is told of a walk. -/
theorem vcode_walk {N : Nat} {xs : List (Arc × Int)} {u b : Int} (hu : GM.vert N u = true) (h : ends u xs = some b) : vcode N u xs = 0 ∧ last u xs = b ∧ vlist N u xs = u :: heads xs := by
  obtain ⟨h1, h2⟩ := ends_last h
  have h3 : vcode N u xs = 0 := by unfold vcode; rw [hu, if_pos rfl, h2]
  exact ⟨h3, h1, vlist_ok h3⟩
theorem ccode_walk {N : Nat} {xs : List (Arc × Int)} {u b : Int} (hu : GM.vert N u = true) (hb : GM.vert N b = true) (h : ends u xs = some b) : ccode N u b xs = 0 := by
  obtain ⟨h1, h2, -⟩ := vcode_walk hu h
  unfold ccode
  rw [hb, if_pos rfl, if_pos h1, if_pos h2]
theorem ccode_other {N : Nat} {xs : List (Arc × Int)} {u b c : Int} (hu : GM.vert N u = true) (hc : GM.vert N c = true) (h : ends u xs = some b) (hne : c ≠ b) : ccode N u c xs = 8 := by
  obtain ⟨h1, h2, -⟩ := vcode_walk hu h
  unfold ccode
  rw [hc, if_pos rfl, if_pos h1, h2, if_neg (Ne.symm hne)]
/-- Each first part of a walk is one. -/
theorem ends_pre : ∀ {xs ys : List (Arc × Int)} {u b : Int}, ends u (xs ++ ys) = some b → ∃ c, ends u xs = some c
  | [], _, u, _, _ => ⟨u, rfl⟩
  | x :: xs, ys, u, b, h => by
    rw [List.cons_append, ends] at h
    split at h
    · rename_i h0
      obtain ⟨c, hc⟩ := ends_pre h
      exact ⟨c, by rw [ends, if_pos h0, hc]⟩
    · cases h
theorem cuts {N : Nat} {m : GM.M} {zs : List Int} {u b : Int} (hin : Inn N m) (hu : GM.vert N u = true) (h : ends u (list m zs) = some b) {k : Nat} (hk : k ≤ zs.length) :
    vcode N u (list m (zs.take k)) = 0 ∧ vlist N u (list m (zs.take k)) = (vlist N u (list m zs)).take (k + 1) ∧ ∃ c, (vlist N u (list m zs))[k]?.getD 0 = c ∧ GM.vert N c = true ∧ ccode N u c (list m (zs.take k)) = 0 ∧ ∀ o, GM.vert N o = true → o ≠ c → ccode N u o (list m (zs.take k)) = 8 := by
  have hsp : list m zs = list m (zs.take k) ++ list m (zs.drop k) := by rw [← list_append, List.take_append_drop]
  obtain ⟨c, hc⟩ := ends_pre (show ends u (list m (zs.take k) ++ list m (zs.drop k)) = some b from by rw [← hsp]; exact h)
  obtain ⟨v1, v2, v3⟩ := vcode_walk hu hc
  obtain ⟨-, -, w3⟩ := vcode_walk hu h
  have hl : (list m (zs.take k)).length = k := by rw [list_len, List.length_take]; omega
  have hvc := hin.ends hu hc
  have hh : heads (list m (zs.take k)) = (heads (list m zs)).take k := by
    rw [list_take]
    unfold heads
    rw [List.map_take]
  refine ⟨v1, ?_, c, ?_, hvc, ccode_walk hu hvc hc, fun o ho hne => ccode_other hu ho hc hne⟩
  · rw [v3, w3, List.take_succ_cons, hh]
  · have e : (u :: heads (list m zs))[k]? = (u :: heads (list m (zs.take k)))[k]? := by
      rw [hh, ← List.take_succ_cons, List.getElem?_take_of_lt (by omega)]
    rw [w3, e, here_at u _ hl, v2]

/-! A walk of which an arc is turned. -/
theorem breaks {m m' : GM.M} {id c : Int} (hsame : ∀ z, z ≠ id → GM.look m' z = GM.look m z) (hc : code1 (GM.look m' id) = c) (hc0 : c ≠ 0) : ∀ {zs : List Int} {u b : Int}, ends u (list m zs) = some b → id ∈ zs → tcode u (list m' zs) = c
  | [], _, _, _, h => by simp at h
  | z :: zs, u, b, h, hm => by
    have e0 : list m (z :: zs) = arcOf m z :: list m zs := rfl
    have e1 : list m' (z :: zs) = arcOf m' z :: list m' zs := rfl
    rw [e0, ends] at h
    rw [e1, tcode]
    by_cases hz : z = id
    · subst hz
      have h2 : codeAt u (arcOf m' z) = c := by
        unfold codeAt arcOf
        dsimp only
        rw [hc, if_neg (fun h => hc0 h.1)]
      rw [if_neg (by rw [h2]; exact hc0), h2]
    · have h2 : arcOf m' z = arcOf m z := by unfold arcOf; rw [hsame z hz]
      rw [h2]
      split at h
      · rename_i h0
        rw [if_pos h0]
        refine breaks hsame hc hc0 h ?_
        rcases List.mem_cons.1 hm with e | e
        · exact absurd e.symm hz
        · exact e
      · cases h
theorem look_upd (m : GM.M) (i : Nat) (x : Option Arc) (z : Int) (hz : z ≠ (i : Int)) : GM.look (GM.upd m i x) z = GM.look m z := by
  unfold GM.look
  split
  · rename_i hp
    have := of_decide_eq_true hp
    have hne : z.toNat ≠ i := by omega
    have e : GM.upd m i x z.toNat = m z.toNat := by unfold GM.upd; rw [if_neg hne]
    unfold GM.arc GM.is
    rw [e]
  · rfl
theorem look_at (m : GM.M) {i : Nat} (hi : i < 64) : GM.look m (i : Int) = (GM.arc m i, GM.is m i) := by
  unfold GM.look
  rw [if_pos (show GM.place (i : Int) = true from decide_eq_true (by omega)), Int.toNat_natCast]
/-- An arc of a walk is there, and open. -/
theorem ends_at {m : GM.M} : ∀ {zs : List Int} {u b : Int}, ends u (list m zs) = some b → ∀ z ∈ zs, ∃ i : Nat, z = i ∧ i < 64 ∧ GM.is m i = true ∧ (GM.arc m i).closed = false
  | [], _, _, _, z, hz => by simp at hz
  | y :: ys, u, b, h, z, hz => by
    have e0 : list m (y :: ys) = arcOf m y :: list m ys := rfl
    rw [e0, ends] at h
    split at h
    · rename_i h0
      rcases List.mem_cons.1 hz with e | e
      · subst e
        have h1 := (codeAt_zero.1 h0).1
        unfold arcOf code1 at h1
        dsimp only at h1
        by_cases hp : GM.place z = true
        · obtain ⟨i, rfl, hi⟩ := GM.place_nat hp
          rw [look_at m hi] at h1
          dsimp only at h1
          refine ⟨i, rfl, hi, ?_⟩
          cases h2 : GM.is m i with
          | false => rw [h2] at h1; cases h1
          | true =>
            refine ⟨rfl, ?_⟩
            rw [h2] at h1
            cases h3 : (GM.arc m i).closed with
            | false => rfl
            | true => rw [h3] at h1; cases h1
        · have e2 : GM.look m z = (noArc, false) := by unfold GM.look; rw [if_neg hp]
          rw [e2] at h1
          cases h1
      · exact ends_at h z e
    · cases h
/-- What is told of a walk of which an arc is deleted. -/
theorem deleted {N : Nat} {m : GM.M} {zs : List Int} {u b : Int} (hb : GM.vert N b = true) (hu : GM.vert N u = true) (h : ends u (list m zs) = some b) {z : Int} (hz : z ∈ zs) :
    GM.atCode m z = 0 ∧ ccode N u b (list (GM.del m z) zs) = 3 ∧ wsum (list (GM.del m z) zs) = 4611686018427387906 := by
  obtain ⟨i, rfl, hi, h1, h2⟩ := ends_at h z hz
  have hc : GM.atCode m (i : Int) = 0 := by
    unfold GM.atCode
    rw [if_pos (show GM.place (i : Int) = true from decide_eq_true (by omega)), Int.toNat_natCast, h1]
    rfl
  have hd : GM.del m (i : Int) = GM.upd m i none := by unfold GM.del; rw [if_pos hc, Int.toNat_natCast]
  have hl : code1 (GM.look (GM.upd m i none) (i : Int)) = 3 := by
    rw [look_at _ hi]
    simp [code1, GM.is, GM.upd]
  refine ⟨hc, ?_, ?_⟩
  · have ht := breaks (m' := GM.upd m i none) (fun z hz => look_upd m i none z hz) hl (by decide) h hz
    rw [hd]
    unfold ccode vcode
    rw [hb, hu, if_pos rfl, if_pos rfl, ht, if_neg (by decide)]
  · refine wsum_gone List.prefix_rfl ?_
    rw [hd]
    unfold gone
    rw [List.any_eq_true]
    exact ⟨arcOf (GM.upd m i none) (i : Int), List.mem_map.2 ⟨_, hz, rfl⟩, decide_eq_true hl⟩
/-- What is told of a walk of which an arc is closed. -/
theorem closed {N : Nat} {m : GM.M} {zs : List Int} {u b : Int} (hb : GM.vert N b = true) (hu : GM.vert N u = true) (h : ends u (list m zs) = some b) {z : Int} (hz : z ∈ zs) :
    GM.turnCode m z true = 0 ∧ ccode N u b (list (GM.turn m z true) zs) = 5 ∧ wsum (list (GM.turn m z true) zs) = wsum (list m zs) ∧ simple N u (list (GM.turn m z true) zs) = false := by
  obtain ⟨i, rfl, hi, h1, h2⟩ := ends_at h z hz
  have hc0 : GM.atCode m (i : Int) = 0 := by
    unfold GM.atCode
    rw [if_pos (show GM.place (i : Int) = true from decide_eq_true (by omega)), Int.toNat_natCast, h1]
    rfl
  have hc : GM.turnCode m (i : Int) true = 0 := by
    unfold GM.turnCode
    rw [if_pos hc0, Int.toNat_natCast, h2]
    rfl
  have hd : GM.turn m (i : Int) true = GM.upd m i (some { GM.arc m i with closed := true }) := by unfold GM.turn; rw [if_pos hc, Int.toNat_natCast]
  have hlk : GM.look (GM.upd m i (some { GM.arc m i with closed := true })) (i : Int) = ({ GM.arc m i with closed := true }, true) := by
    rw [look_at _ hi]
    simp [GM.arc, GM.is, GM.upd]
  have hl : code1 (GM.look (GM.upd m i (some { GM.arc m i with closed := true })) (i : Int)) = 5 := by
    rw [hlk]
    simp [code1]
  have ht := breaks (m' := GM.upd m i (some { GM.arc m i with closed := true })) (fun z hz => look_upd m i _ z hz) hl (by decide) h hz
  have hv : vcode N u (list (GM.upd m i (some { GM.arc m i with closed := true })) zs) = 5 := by
    unfold vcode
    rw [hu, if_pos rfl, ht]
  rw [hd]
  refine ⟨hc, ?_, ?_, simple_bad (by rw [hv]; decide)⟩
  · unfold ccode
    rw [hb, if_pos rfl, hv, if_neg (by decide)]
  · have hw : ∀ y, (arcOf (GM.upd m i (some { GM.arc m i with closed := true })) y).1.weight = (arcOf m y).1.weight := fun y => by
      by_cases e : y = (i : Int)
      · subst e
        unfold arcOf
        rw [hlk, look_at m hi]
      · unfold arcOf
        rw [look_upd m i _ y e]
    have hg : gone (list (GM.upd m i (some { GM.arc m i with closed := true })) zs) = false := by
      unfold gone
      rw [List.any_eq_false]
      rintro x hx
      obtain ⟨y, hy, rfl⟩ := List.mem_map.1 hx
      obtain ⟨j, rfl, hj, g1, g2⟩ := ends_at h y hy
      by_cases e : (j : Int) = (i : Int)
      · rw [e]
        show ¬ decide (code1 (GM.look (GM.upd m i (some { GM.arc m i with closed := true })) (i : Int)) = 3) = true
        rw [hl]
        decide
      · unfold arcOf
        rw [look_upd m i _ _ e, look_at m hj, g1]
        simp [code1, g2]
    rw [wsum_all hg, wsum_walk h]
    unfold tsum list
    rw [List.map_map, List.map_map]
    congr 1
    exact List.map_congr_left (fun y _ => hw y)
end WK
end Go.Proofs.Ytjnihkfnnokmdaa
