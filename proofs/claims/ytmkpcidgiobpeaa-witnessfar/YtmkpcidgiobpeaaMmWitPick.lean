/-
  How layer 13's document finds what is settled next: one vertex behind the other; what it keeps in memory meanwhile.
-/
import Derived.Test.YtmkpcidgiobpeaaMmWitSum
import Derived.Maps.AppendAt
namespace Go.Proofs.Ytmkpcidgiobpeaa
open Go.RowKit
namespace WM
/-- Of the vertices below k, the one that would be settled next (-1: none), and how far it is. -/
structure Pick (N : Nat) (D : Nat → Nat → Int) (s : Nat) (W : Nat → Bool) (L : List (Nat × Int)) (k : Nat) (x d : Int) : Prop where
  hi : 0 ≤ d ∧ d ≤ 4611686018427387906
  le : ∀ w, w < k → Free N W L w → d ≤ key D s L w
  is : (x = -1 ∧ d = 4611686018427387906) ∨ ∃ v : Nat, x = v ∧ v < k ∧ Free N W L v ∧ key D s L v = d ∧ d < 4611686018427387906 ∧ ∀ w, w < k → Free N W L w → key D s L w = d → v ≤ w
section
variable {N : Nat} {D : Nat → Nat → Int} {s : Nat} {W : Nat → Bool} {L : List (Nat × Int)} {k : Nat} {x d : Int}
theorem Pick.zero (N : Nat) (D : Nat → Nat → Int) (s : Nat) (W : Nat → Bool) (L : List (Nat × Int)) : Pick N D s W L 0 (-1) 4611686018427387906 :=
  ⟨by decide, fun w h => absurd h (by omega), .inl ⟨rfl, rfl⟩⟩
theorem Pick.skip (h : Pick N D s W L k x d) (hf : ¬ Free N W L k) : Pick N D s W L (k + 1) x d := by
  refine ⟨h.hi, fun w hw hfw => ?_, ?_⟩
  · by_cases e : w = k
    · rw [e] at hfw; exact absurd hfw hf
    · exact h.le w (by omega) hfw
  · rcases h.is with e | ⟨v, h1, h2, h3, h4, h5, h6⟩
    · exact .inl e
    · refine .inr ⟨v, h1, by omega, h3, h4, h5, fun w hw hfw he => ?_⟩
      by_cases e : w = k
      · rw [e] at hfw; exact absurd hfw hf
      · exact h6 w (by omega) hfw he
theorem Pick.take (h : Pick N D s W L k x d) (hf : Free N W L k) (hl : key D s L k < d) : Pick N D s W L (k + 1) (k : Nat) (key D s L k) := by
  have hb := key_bd D s L k
  have hh := h.hi
  refine ⟨hb, fun w hw hfw => ?_, .inr ⟨k, rfl, by omega, hf, rfl, by omega, fun w hw hfw he => ?_⟩⟩
  · by_cases e : w = k
    · rw [e]; exact Int.le_refl _
    · have := h.le w (by omega) hfw
      omega
  · by_cases e : w = k
    · omega
    · have := h.le w (by omega) hfw
      omega
theorem Pick.pass (h : Pick N D s W L k x d) (hl : ¬ key D s L k < d) : Pick N D s W L (k + 1) x d := by
  refine ⟨h.hi, fun w hw hfw => ?_, ?_⟩
  · by_cases e : w = k
    · rw [e]; omega
    · exact h.le w (by omega) hfw
  · rcases h.is with e | ⟨v, h1, h2, h3, h4, h5, h6⟩
    · exact .inl e
    · refine .inr ⟨v, h1, by omega, h3, h4, h5, fun w hw hfw he => ?_⟩
      by_cases e : w = k
      · omega
      · exact h6 w (by omega) hfw he
theorem Pick.none (h : Pick N D s W L N x d) (hx : x < 0) (X : Int) : Stuck N D s W X L := by
  intro v e hn
  have h1 := hn.lt
  have h2 := h.le v hn.free.1 hn.free
  rw [hn.is] at h2
  rcases h.is with ⟨-, e1⟩ | ⟨v, h1, -⟩
  · omega
  · omega
theorem Pick.next (h : Pick N D s W L N x d) (hx : ¬ x < 0) : ∃ v : Nat, x = v ∧ v < N ∧ Next N D s W L v d := by
  rcases h.is with ⟨e1, -⟩ | ⟨v, h1, h2, h3, h4, h5, h6⟩
  · omega
  · exact ⟨v, h1, h2, h3, h4, h5, fun w hw => h.le w hw.1 hw, fun w hw => h6 w hw.1 hw⟩
theorem Pick.far (h : Pick N D s W L N x d) (hx : ¬ x < 0) {X : Int} (hd : X < d) : Stuck N D s W X L := by
  obtain ⟨v, -, -, hn⟩ := h.next hx
  intro u e hu
  obtain ⟨-, rfl⟩ := hn.one hu
  omega
/-- Is it free: as the document asks it. -/
theorem free_iff (hk : k < N) : Free N W L k ↔ has L k = false ∧ W k = false := ⟨fun h => ⟨h.2.2, h.2.1⟩, fun h => ⟨hk, h.2, h.1⟩⟩
end
end WM
/-- 'append' onto a row of the call's own, with where the new one lies. -/
theorem wpList_append_at {P : Program} (w : World) {ops : Array Oper} {rest : List Oper} {o : Oper} {a : Act} {Q : Exit → Act → World → Prop} (hgd : o.guard = none) (s x : Operand) (t : TypeId)
    (ho : o.op = .call { callee := .builtin .append, args := #[s, x], argTypes := #[t, t] })
    (k : IntKind) (base : Nat) (e : TypeId) (i : TypeInfo) (bytes : Nat) (ht : P.underlying t = some (.slice e)) (hi : P.info? e = some i) (hz : i.zero = some (.int k 0)) (hsize : i.size = 1) (hby : i.bytes = bytes)
    (v : Value) (xs : List Int) (hs : a.eval s = v) (hown : Own k e w base v xs) (ad : Addr) (y : Int) (c : Nat) (hx : a.eval x = .slice (some ad) 1 c) (hc : w.cell? ad = some (.int k y))
    (h63 : xs.length + 1 ≤ maxLen) (hbytes : (xs.length + 1) * bytes ≤ 140737488355328) (hbase : base ≤ w.heap.size)
    (h : ∀ v' w', Own k e w' base v' (xs ++ [y]) → w.grownBy w' v.ownBlock → (v'.ownBlock = v.ownBlock ∨ v'.ownBlock = some w.heap.size) → wpList P ops Q rest (a.put o.dst v') w') : wpList P ops Q (o :: rest) a w := by
  refine wpList_plain hgd fun K hK => ?_
  obtain ⟨v', w', hrun, r1, r2, _, r3⟩ := run_append_own_at (P := P) w base t o.type e i (.int k 0) 1 bytes ht hi hz hsize hby rfl (by decide) v xs.length (xs.map (Value.int k)) hown ad 1 c [.int k y] (by simp) (fun j u hj => by
    match j, hj with
    | 0, hj =>
      simp at hj
      subst hj
      simpa [Addr.add] using hc) (fun u hu => by simp at hu; subst hu; rfl) h63 hbytes hbase
  unfold Oper.wp
  simp [execOp, ho, resolve, invoke, builtin, hs, hx, hrun, Result.andThen]
  refine hK _ _ (h v' w' ?_ r2 r3)
  unfold Own
  rw [List.length_append, List.map_append]
  exact r1
end Go.Proofs.Ytmkpcidgiobpeaa
