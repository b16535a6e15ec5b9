/-
  WitFindM, WitFind, WitFindN.
-/
import Derived.Test.YtmkpcidgiobpeaaMmWitIter
import Derived.Maps.AppendAt
section
/-
  What Search has while its search is gone through (layer 13): its answer's cells, the search, Found with two rows of the call's own.
-/
namespace Go.Proofs.Ytmkpcidgiobpeaa
open Go.RowKit Go.Shelf

/-- append onto an own row, with where the new one lies. -/
theorem wpListIn_append_atW {F : Fence} {n : Nat} {P : Program} (w : World) {ops : Array Oper} {rest : List Oper} {o : Oper} {a : Act} {Q : Exit → Act → World → Prop}
    (hg : o.guard = none) (s x : Operand) (t : TypeId) (hop : o.op = Op.call { callee := Callee.builtin Builtin.append, args := #[s, x], argTypes := #[t, t] })
    (base : Nat) (e : TypeId) (i : TypeInfo) (z : Value) (size bytes : Nat) (h1 : P.underlying t = some (.slice e)) (h2 : P.info? e = some i) (h3 : i.zero = some z) (h4 : i.size = size) (h5 : i.bytes = bytes) (h6 : z.cells.size = size) (h7 : 0 < size)
    (v : Value) (k : Nat) (xs : List Value) (hs : a.eval s = v) (hown : w.ownsRow base e size v k xs) (ad : Addr) (m c : Nat) (news : List Value) (hx : a.eval x = .slice (some ad) m c) (hn : news.length = m * size)
    (hc : ∀ j u, news[j]? = some u → w.cell? (ad.add j) = some u) (h1c : ∀ u ∈ news, u.oneCell' = true) (b1 : k + m ≤ maxLen) (b2 : (k + m) * bytes ≤ 140737488355328) (b3 : base ≤ w.heap.size)
    (hK : ∀ v' w', w'.ownsRow base e size v' (k + m) (xs ++ news) → w.grownBy w' v.ownBlock → (v'.ownBlock = v.ownBlock ∨ v'.ownBlock = some w.heap.size) → wpListIn F n P ops Q rest (a.put o.dst v') w') :
    wpListIn F n P ops Q (o :: rest) a w := by
  refine wpListIn_plain hg fun K hK' => ?_
  obtain ⟨v', w', hrun, r1, r2, _, r3⟩ := run_append_own_at (P := P) w base t o.type e i z size bytes h1 h2 h3 h4 h5 h6 h7 v k xs hown ad m c news hn hc h1c b1 b2 b3
  unfold Oper.wpIn
  refine ⟨?_, ?_⟩
  · simp [Oper.about, hop, resolve, Target.leads, Sem.run_pure]
  · rw [Oper.semAt_plain F _ _ (by rw [hop]; intro c hc'; cases hc')]
    simp [execOp, hop, resolve, invoke, builtin, hs, hx, hrun, Result.andThen]
    exact hK' _ _ (hK v' w' r1 r2 r3)

theorem infoFP : (Try.prog.info? 32).map (·.size) = some 3 := by kernel_rfl
theorem load_foundP {W : World} {B : Nat} {x y z : Value} (h0 : W.cell? ⟨B, 0, none⟩ = some x) (h1 : W.cell? ⟨B, 1, none⟩ = some y) (h2 : W.cell? ⟨B, 2, none⟩ = some z) : (loadVar 32 ⟨B, 0, none⟩).run Try.prog W = .ok (.agg #[x, y, z]) W := by
  have hl : (loadCells ⟨B, 0, none⟩ [x, y, z].length).run Try.prog W = .ok [x, y, z].toArray W := run_loadCells_list (P := Try.prog) W ⟨B, 0, none⟩ [x, y, z] (fun j v hj => by
    match j, hj with
    | 0, hj => simp at hj; subst hj; simpa [Addr.add] using h0
    | 1, hj => simp at hj; subst hj; simpa [Addr.add] using h1
    | 2, hj => simp at hj; subst hj; simpa [Addr.add] using h2)
  have hi := infoFP
  cases hq : Try.prog.info? 32 with
  | none => simp [hq] at hi
  | some i =>
    have hs : i.size = [x, y, z].length := by simpa [hq] using hi
    have hagg : (isAgg 32).run Try.prog W = .ok true W := by
      unfold isAgg
      rw [Sem.run_bind, run_underlying Try.underlying32 W]
      rfl
    simp [loadVar, Sem.run_bind, hagg, sizeOf, typeInfo, hq, hs]
    have hl2 : (loadCells ⟨B, 0, none⟩ 3).run Try.prog W = .ok #[x, y, z] W := hl
    rw [hl2]
    rfl
/-- Its variables: the answer's cells at w's end, the search's pointer at bs, Found at bs + 1. -/
structure SVC (w : World) (mp N : Nat) (D : Nat → Nat → Int) (z : Wid) (bs : Nat) (sv dv : Value) (A : World) : Prop where
  r : A.heap[w.heap.size]? = some (.cells #[.slice none 0 0, .slice none 0 0, .int .u64 0] 32 (0, 0))
  s : Boxed A bs 68 (.pointer (some ⟨z.q, 0, none⟩))
  f0 : A.cell? ⟨bs + 1, 0, none⟩ = some sv
  f1 : A.cell? ⟨bs + 1, 1, none⟩ = some dv
  f2 : A.cell? ⟨bs + 1, 2, none⟩ = some (.int .u64 0)
  fz : ∀ j, A.frozen? ⟨bs + 1, j, none⟩ = false
  x : XMem A mp N D
  bel : Below w.heap.size w A
structure SV (w : World) (mp N : Nat) (D : Nat → Nat → Int) (z : Wid) (bs : Nat) (sv dv : Value) (vs ds : List Int) (X : Nat → Prop) (A : World) : Prop where
  c : SVC w mp N D z bs sv dv A
  os : Own .i64 3 A (bs + 6) sv vs
  od : Own .i64 3 A (bs + 6) dv ds
  ne : ∀ g, sv.ownBlock = some g → dv.ownBlock ≠ some g
  nx : ∀ b, b = w.heap.size ∨ b = bs ∨ b = bs + 1 ∨ b = mp → ¬ X b
  ns : ∀ g, sv.ownBlock = some g → ¬ X g
  nd : ∀ g, dv.ownBlock = some g → ¬ X g
  lo : ∀ b, X b → w.heap.size ≤ b
  sz : bs + 6 ≤ A.heap.size
section
variable {w A A' : World} {mp N : Nat} {D : Nat → Nat → Int} {z : Wid} {bs : Nat} {sv dv : Value} {vs ds : List Int} {X X' : Nat → Prop}
theorem SVC.fl (h : SVC w mp N D z bs sv dv A) : bs + 1 < A.heap.size := cell_lt h.f0
theorem SVC.kept {G : Nat → Prop} (h : SVC w mp N D z bs sv dv A) (hk : Keeps G A A') (hn : ∀ b, b = w.heap.size ∨ b = bs ∨ b = bs + 1 ∨ b = mp → ¬ G b) (hlo : ∀ b, G b → w.heap.size ≤ b) : SVC w mp N D z bs sv dv A' := by
  have h1 := hn (bs + 1) (.inr (.inr (.inl rfl)))
  refine ⟨(hk.block _ (heap_lt h.r) (hn _ (.inl rfl))).trans h.r, (hk.block _ h.s.lt (hn _ (.inr (.inl rfl)))).trans h.s, hk.cell h.f0 h1, hk.cell h.f1 h1, hk.cell h.f2 h1, fun j => (hk.frozen (p := ⟨bs + 1, j, none⟩) h.fl h1).trans (h.fz j), h.x.kept hk (hn _ (.inr (.inr (.inr rfl)))), h.bel.trans (hk.below hlo ?_)⟩
  exact h.bel.size
theorem SV.on (h : SV w mp N D z bs sv dv vs ds X A) (hk : Keeps X A A') (hX' : ∀ b, X' b → X b ∨ A.heap.size ≤ b) (hbs : w.heap.size ≤ bs) (hmp : mp < w.heap.size) : SV w mp N D z bs sv dv vs ds X' A' := by
  have hs := h.sz
  refine ⟨h.c.kept hk h.nx h.lo, hk.row h.os h.ns, hk.row h.od h.nd, h.ne, fun b hb hx => ?_, fun g hg hx => ?_, fun g hg hx => ?_, fun b hx => ?_, Nat.le_trans hs hk.size⟩
  · rcases hX' b hx with h1 | h1
    · exact h.nx b hb h1
    · omega
  · rcases hX' g hx with h1 | h1
    · exact h.ns g hg h1
    · have := (World.ownsRow.lt h.os g hg).2
      omega
  · rcases hX' g hx with h1 | h1
    · exact h.nd g hg h1
    · have := (World.ownsRow.lt h.od g hg).2
      omega
  · rcases hX' b hx with h1 | h1
    · exact h.lo b h1
    · omega
theorem SV.below (h : SV w mp N D z bs sv dv vs ds X A) (hb : Below A.heap.size A A') (hbs : w.heap.size ≤ bs) (hmp : mp < w.heap.size) : SV w mp N D z bs sv dv vs ds X A' := h.on (Below.keeps hb _) (fun _ h => .inl h) hbs hmp
/-- One more in the first list. -/
theorem SV.app1 (h : SV w mp N D z bs sv dv vs ds X A) (hXb : ∀ b, X b → b < A.heap.size) (hbs : w.heap.size ≤ bs) (hmp : mp < w.heap.size) {o : Obj} {W2 : World} {sv' : Value} {vs' : List Int} (hg : (A.alloc o).grownBy W2 sv.ownBlock) (ho : Own .i64 3 W2 (bs + 6) sv' vs') (hv : sv'.ownBlock = sv.ownBlock ∨ sv'.ownBlock = some (A.heap.size + 1)) :
    W2.cell? ⟨bs + 1, 0, none⟩ = some sv ∧ W2.frozen? ⟨bs + 1, 0, none⟩ = false ∧ SV w mp N D z bs sv' dv vs' ds X (W2.setCell ⟨bs + 1, 0, none⟩ sv') ∧ Rest X A (W2.setCell ⟨bs + 1, 0, none⟩ sv') := by
  have hk1 : Keeps (fun b => sv.ownBlock = some b) A W2 := ((Keeps.refl _ A).alloc o).grown hg (fun k hk => .inl hk)
  have hsz := h.sz
  have hlo : ∀ b, sv.ownBlock = some b → bs + 6 ≤ b := fun b hb => h.os.block b hb
  have c2 : SVC w mp N D z bs sv dv W2 := h.c.kept hk1 (fun b hb e => by have := hlo b e; omega) (fun b e => by have := hlo b e; omega)
  have hod : Own .i64 3 W2 (bs + 6) dv ds := hk1.row h.od (fun g hg e => h.ne g e hg)
  have ks : Keeps (fun b => b = bs + 1) W2 (W2.setCell ⟨bs + 1, 0, none⟩ sv') := keeps_set _ _ _ _
  have oth : ∀ i, i ≠ 0 → (W2.setCell ⟨bs + 1, 0, none⟩ sv').cell? ⟨bs + 1, i, none⟩ = W2.cell? ⟨bs + 1, i, none⟩ := fun i hi => World.cell?_setCell_other _ _ _ _ (by intro e; injection e with _ e; omega)
  refine ⟨c2.f0, c2.fz 0, ⟨⟨(ks.block _ (heap_lt c2.r) (by omega)).trans c2.r, (ks.block _ c2.s.lt (by omega)).trans c2.s, World.cell?_setCell_same _ _ _ c2.f0, (oth 1 (by decide)).trans c2.f1, (oth 2 (by decide)).trans c2.f2, fun j => by rw [World.frozen?_setCell]; exact c2.fz j, c2.x.kept ks (by omega), c2.bel.trans (ks.below (fun b hb => by omega) c2.bel.size)⟩, ks.row ho (fun g hg e => by have := ho.block g hg; omega), ks.row hod (fun g hg e => by have := hod.block g hg; omega), fun g hg e => ?_, h.nx, fun g hg hx => ?_, h.nd, h.lo, Nat.le_trans hsz (Nat.le_trans hk1.size ks.size)⟩, (Rest.trans (b := W2) (Keeps.mono hk1 (fun b hb hx => h.ns b hb hx)) (ks.mono (fun b hb hx => h.nx b (.inr (.inr (.inl hb))) hx)))⟩
  · rcases hv with e2 | e2
    · rw [e2] at hg
      exact h.ne g hg e
    · rw [e2] at hg
      have := (World.ownsRow.lt h.od g e).2
      have := Option.some.inj hg
      omega
  · rcases hv with e2 | e2
    · rw [e2] at hg
      exact h.ns g hg hx
    · rw [e2] at hg
      have := Option.some.inj hg
      have := hXb g hx
      omega
/-- One more in the second list. -/
theorem SV.app2 (h : SV w mp N D z bs sv dv vs ds X A) (hXb : ∀ b, X b → b < A.heap.size) (hbs : w.heap.size ≤ bs) (hmp : mp < w.heap.size) {o : Obj} {W2 : World} {dv' : Value} {ds' : List Int} (hg : (A.alloc o).grownBy W2 dv.ownBlock) (ho : Own .i64 3 W2 (bs + 6) dv' ds') (hv : dv'.ownBlock = dv.ownBlock ∨ dv'.ownBlock = some (A.heap.size + 1)) :
    W2.cell? ⟨bs + 1, 1, none⟩ = some dv ∧ W2.frozen? ⟨bs + 1, 1, none⟩ = false ∧ SV w mp N D z bs sv dv' vs ds' X (W2.setCell ⟨bs + 1, 1, none⟩ dv') ∧ Rest X A (W2.setCell ⟨bs + 1, 1, none⟩ dv') := by
  have hk1 : Keeps (fun b => dv.ownBlock = some b) A W2 := ((Keeps.refl _ A).alloc o).grown hg (fun k hk => .inl hk)
  have hsz := h.sz
  have hlo : ∀ b, dv.ownBlock = some b → bs + 6 ≤ b := fun b hb => h.od.block b hb
  have c2 : SVC w mp N D z bs sv dv W2 := h.c.kept hk1 (fun b hb e => by have := hlo b e; omega) (fun b e => by have := hlo b e; omega)
  have hos : Own .i64 3 W2 (bs + 6) sv vs := hk1.row h.os (fun g hg e => h.ne g hg e)
  have ks : Keeps (fun b => b = bs + 1) W2 (W2.setCell ⟨bs + 1, 1, none⟩ dv') := keeps_set _ _ _ _
  have oth : ∀ i, i ≠ 1 → (W2.setCell ⟨bs + 1, 1, none⟩ dv').cell? ⟨bs + 1, i, none⟩ = W2.cell? ⟨bs + 1, i, none⟩ := fun i hi => World.cell?_setCell_other _ _ _ _ (by intro e; injection e with _ e; omega)
  refine ⟨c2.f1, c2.fz 1, ⟨⟨(ks.block _ (heap_lt c2.r) (by omega)).trans c2.r, (ks.block _ c2.s.lt (by omega)).trans c2.s, (oth 0 (by decide)).trans c2.f0, World.cell?_setCell_same _ _ _ c2.f1, (oth 2 (by decide)).trans c2.f2, fun j => by rw [World.frozen?_setCell]; exact c2.fz j, c2.x.kept ks (by omega), c2.bel.trans (ks.below (fun b hb => by omega) c2.bel.size)⟩, ks.row hos (fun g hg e => by have := hos.block g hg; omega), ks.row ho (fun g hg e => by have := ho.block g hg; omega), fun g hg e => ?_, h.nx, h.ns, fun g hg hx => ?_, h.lo, Nat.le_trans hsz (Nat.le_trans hk1.size ks.size)⟩, (Rest.trans (b := W2) (Keeps.mono hk1 (fun b hb hx => h.nd b hb hx)) (ks.mono (fun b hb hx => h.nx b (.inr (.inr (.inl hb))) hx)))⟩
  · rcases hv with e2 | e2
    · rw [e2] at e
      exact h.ne g hg e
    · rw [e2] at e
      have := (World.ownsRow.lt h.os g hg).2
      have := Option.some.inj e
      omega
  · rcases hv with e2 | e2
    · rw [e2] at hg
      exact h.nd g hg hx
    · rw [e2] at hg
      have := Option.some.inj hg
      have := hXb g hx
      omega
/-- Found is laid into the answer's cells. -/
theorem SV.answer (h : SV w mp N D z bs sv dv vs ds X A) (hbs : w.heap.size < bs) (T : Nat) :
    ∃ W', W' = (((A.setCell ⟨bs + 1, 2, none⟩ (.int .u64 (T : Nat))).setCell ⟨w.heap.size, 0, none⟩ sv).setCell ⟨w.heap.size, 1, none⟩ dv).setCell ⟨w.heap.size, 2, none⟩ (.int .u64 (T : Nat)) ∧ (W'.cell? ⟨w.heap.size, 0, none⟩ = some sv ∧ W'.cell? ⟨w.heap.size, 1, none⟩ = some dv ∧ W'.cell? ⟨w.heap.size, 2, none⟩ = some (.int .u64 (T : Nat))) ∧ Own .i64 3 W' (bs + 6) sv vs ∧ Own .i64 3 W' (bs + 6) dv ds ∧ Below w.heap.size w W' ∧ (∀ b, b ≠ w.heap.size → b ≠ bs + 1 → W'.heap[b]? = A.heap[b]?) := by
  have k0 : Keeps (fun b => b = bs + 1) A (A.setCell ⟨bs + 1, 2, none⟩ (.int .u64 (T : Nat))) := keeps_set _ _ _ _
  have hr : (A.setCell ⟨bs + 1, 2, none⟩ (.int .u64 (T : Nat))).heap[w.heap.size]? = some (.cells #[.slice none 0 0, .slice none 0 0, .int .u64 0] 32 (0, 0)) := (k0.block _ (heap_lt h.c.r) (by omega)).trans h.c.r
  have hos := k0.row h.os (fun g hg e => by have := h.os.block g hg; omega)
  have hod := k0.row h.od (fun g hg e => by have := h.od.block g hg; omega)
  have hb0 : Below w.heap.size w (A.setCell ⟨bs + 1, 2, none⟩ (.int .u64 (T : Nat))) := h.c.bel.trans (k0.below (fun b hb => by omega) h.c.bel.size)
  have hbl : ∀ b, b ≠ bs + 1 → (A.setCell ⟨bs + 1, 2, none⟩ (.int .u64 (T : Nat))).heap[b]? = A.heap[b]? := fun b hb => Below.heap_setCell _ _ _ _ hb
  generalize A.setCell ⟨bs + 1, 2, none⟩ (.int .u64 (T : Nat)) = W at *
  have e0 : W.cell? ⟨w.heap.size, 0, none⟩ = some (.slice none 0 0) := by unfold World.cell?; rw [hr]; rfl
  have e1 : W.cell? ⟨w.heap.size, 1, none⟩ = some (.slice none 0 0) := by unfold World.cell?; rw [hr]; rfl
  have e2 : W.cell? ⟨w.heap.size, 2, none⟩ = some (.int .u64 0) := by unfold World.cell?; rw [hr]; rfl
  have k1 : Keeps (fun b => b = w.heap.size) W (((W.setCell ⟨w.heap.size, 0, none⟩ sv).setCell ⟨w.heap.size, 1, none⟩ dv).setCell ⟨w.heap.size, 2, none⟩ (.int .u64 (T : Nat))) := ((keeps_set W w.heap.size 0 sv).trans (keeps_set _ w.heap.size 1 dv) (fun _ h => .inl h)).trans (keeps_set _ w.heap.size 2 _) (fun _ h => .inl h)
  have c0 := World.cell?_setCell_same W ⟨w.heap.size, 0, none⟩ sv e0
  have c1 : (W.setCell ⟨w.heap.size, 0, none⟩ sv).cell? ⟨w.heap.size, 1, none⟩ = some (.slice none 0 0) := by rw [World.cell?_setCell_other _ _ _ _ (by simp)]; exact e1
  have c2 : (W.setCell ⟨w.heap.size, 0, none⟩ sv).cell? ⟨w.heap.size, 2, none⟩ = some (.int .u64 0) := by rw [World.cell?_setCell_other _ _ _ _ (by simp)]; exact e2
  have b0 : ((W.setCell ⟨w.heap.size, 0, none⟩ sv).setCell ⟨w.heap.size, 1, none⟩ dv).cell? ⟨w.heap.size, 0, none⟩ = some sv := by rw [World.cell?_setCell_other _ _ _ _ (by simp)]; exact c0
  have b1 := World.cell?_setCell_same _ ⟨w.heap.size, 1, none⟩ dv c1
  have b2 : ((W.setCell ⟨w.heap.size, 0, none⟩ sv).setCell ⟨w.heap.size, 1, none⟩ dv).cell? ⟨w.heap.size, 2, none⟩ = some (.int .u64 0) := by rw [World.cell?_setCell_other _ _ _ _ (by simp)]; exact c2
  refine ⟨_, rfl, ⟨by rw [World.cell?_setCell_other _ _ _ _ (by simp)]; exact b0, by rw [World.cell?_setCell_other _ _ _ _ (by simp)]; exact b1, World.cell?_setCell_same _ _ _ b2⟩, ?_, ?_, hb0.trans (k1.below (fun b hb => by omega) hb0.size), fun b h1 h2 => ?_⟩
  · exact k1.row hos (fun g hg e => by have := Own.block hos g hg; omega)
  · exact k1.row hod (fun g hg e => by have := Own.block hod g hg; omega)
  · rw [Below.heap_setCell _ _ _ _ h1, Below.heap_setCell _ _ _ _ h1, Below.heap_setCell _ _ _ _ h1]
    exact hbl b h2
end
/-- As the search begins to be gone through. -/
theorem find_new {w W1 w2 : World} {mp N O s : Nat} {D : Nat → Nat → Int} {z : Wid} (hx : ∀ W, Below w.heap.size w W → XMem W mp N D) (hmp : mp < w.heap.size) (hb1 : Below w.heap.size w W1) (hs1 : W1.heap.size = w.heap.size + 1) (hr1 : W1.heap[w.heap.size]? = some (.cells #[.slice none 0 0, .slice none 0 0, .int .u64 0] 32 (0, 0)))
    (hwd : WD w2 W1.heap.size z mp N O (fun _ => none) (fun _ => none) 0 (fun b => W1.heap.size ≤ b ∧ b < w2.heap.size)) (hb2 : Below W1.heap.size W1 w2) (most settles : Int) :
    ∃ W3, W3 = (w2.alloc (.cells #[.pointer (some ⟨z.q, 0, none⟩)] 68)).alloc (.cells #[.slice none 0 0, .slice none 0 0, .int .u64 0] 32) ∧ W3.heap.size = w2.heap.size + 2 ∧ W3.cell? ⟨w2.heap.size, 0, none⟩ = some (.pointer (some ⟨z.q, 0, none⟩)) ∧ (setW z.q s most settles W3).heap.size = w2.heap.size + 6 ∧
      SV w mp N D z w2.heap.size (.slice none 0 0) (.slice none 0 0) [] [] (fun b => (w.heap.size + 1 ≤ b ∧ b < w2.heap.size) ∨ (w2.heap.size + 2 ≤ b ∧ b < w2.heap.size + 6)) (setW z.q s most settles W3) ∧
      Z0 (w.heap.size + 1) z mp N O s most settles (w2.heap.size + 2) (fun b => (w.heap.size + 1 ≤ b ∧ b < w2.heap.size) ∨ (w2.heap.size + 2 ≤ b ∧ b < w2.heap.size + 6)) (setW z.q s most settles W3) := by
  have e2 := hb2.size
  rw [hs1] at hwd hb2
  refine ⟨_, rfl, by simp, ?_, ?_⟩
  · rw [World.cell?_alloc_some _ _ _ (by simp)]
    simp
  have s3 := World.size_alloc w2 (.cells #[.pointer (some ⟨z.q, 0, none⟩)] 68)
  have b3 : Below w2.heap.size w2 (w2.alloc (.cells #[.pointer (some ⟨z.q, 0, none⟩)] 68)) := (Below.refl _ _).alloc (Nat.le_refl _) _
  have k3 := Boxed.new w2 68 (.pointer (some ⟨z.q, 0, none⟩))
  generalize w2.alloc (.cells #[.pointer (some ⟨z.q, 0, none⟩)] 68) = w3 at *
  have s4 := World.size_alloc w3 (.cells #[.slice none 0 0, .slice none 0 0, .int .u64 0] 32)
  have b4 : Below w2.heap.size w2 (w3.alloc (.cells #[.slice none 0 0, .slice none 0 0, .int .u64 0] 32)) := b3.alloc (by omega) _
  have k4 := k3.alloc (.cells #[.slice none 0 0, .slice none 0 0, .int .u64 0] 32)
  have n4 := World.alloc_heap_new w3 (.cells #[.slice none 0 0, .slice none 0 0, .int .u64 0] 32)
  rw [s3] at n4 s4
  generalize w3.alloc (.cells #[.slice none 0 0, .slice none 0 0, .int .u64 0] 32) = w4 at *
  obtain ⟨ib, b5, s5⟩ := setW_ib z s most settles w4
  rw [s4] at ib
  generalize setW z.q s most settles w4 = w5 at *
  have hbw : Below w.heap.size w w5 := ((hb1.trans (hb2.mono (by omega))).trans (b4.mono (by omega))).trans (b5.mono (by omega))
  have n5 : w5.heap[w2.heap.size + 1]? = some (.cells #[.slice none 0 0, .slice none 0 0, .int .u64 0] 32 (0, 0)) := (b5.block _ (by omega)).trans n4
  have k5 : Boxed w5 w2.heap.size 68 (.pointer (some ⟨z.q, 0, none⟩)) := (b5.block _ (by omega)).trans k4
  have r5 : w5.heap[w.heap.size]? = some (.cells #[.slice none 0 0, .slice none 0 0, .int .u64 0] 32 (0, 0)) := (b5.block _ (by omega)).trans ((b4.block _ (by omega)).trans ((hb2.block _ (by omega)).trans hr1))
  refine ⟨by omega, ⟨⟨r5, k5, ?_, ?_, ?_, fun j => ?_, hx _ hbw, hbw⟩, Own.nil _ _ _ _, Own.nil _ _ _ _, (fun g h => (by cases h)), (fun b hb hx => (by omega)), (fun g h => (by cases h)), (fun g h => (by cases h)), (fun b hb => (by omega)), (by omega)⟩, ⟨_, hwd.on (b4.trans (b5.mono (by omega))), ib, fun b hb => ⟨.inl ⟨by omega, hb.2⟩, by omega⟩, fun b h1 h2 => .inr ⟨h1, by omega⟩⟩⟩
  · unfold World.cell?; rw [n5]; rfl
  · unfold World.cell?; rw [n5]; rfl
  · unfold World.cell?; rw [n5]; rfl
  · unfold World.frozen?; rw [n5]; simp
end Go.Proofs.Ytmkpcidgiobpeaa
end

section
/-
  The walk of the program's Search (layer 13).
-/
namespace Go.Proofs.Ytmkpcidgiobpeaa
open Go.RowKit Go.Shelf
attribute [local go_sem] Oper.semAt_some

/-- What is answered. -/
theorem find_out {n bs N s K O T : Nat} {D : Nat → Nat → Int} {Y : Int} {L : List (Nat × Int)} {w W : World} {sv dv : Value} {t : Array Value} {E : Nat} (ht : t[10]?.getD undef = .pointer (some ⟨w.heap.size, 0, none⟩)) (ht' : t[11]?.getD undef = .int .i64 0)
    (h : (W.cell? ⟨w.heap.size, 0, none⟩ = some sv ∧ W.cell? ⟨w.heap.size, 1, none⟩ = some dv ∧ W.cell? ⟨w.heap.size, 2, none⟩ = some (.int .u64 (T : Nat))) ∧ Own .i64 3 W (bs + 6) sv (WM.vsL L) ∧ Own .i64 3 W (bs + 6) dv (WM.dsL L) ∧ Below w.heap.size w W ∧ W.heap[E]? = some (.deferred (some [])) ∧ w.heap.size < E) (hg : WM.Got N D s (WM.outOf O) Y K L ∧ WM.TT N D (WM.outOf O) L T) (hbs : w.heap.size ≤ bs + 6) :
    bodyPostM Fence.wide n Try.prog Try.f10 (fun e w' => ∃ sv dv T, e = .returned (.tuple #[.agg #[sv, dv, .int .u64 (T : Nat)], .int .i64 0]) ∧ ∃ L, WM.Got N D s (WM.outOf O) Y K L ∧ WM.TT N D (WM.outOf O) L T ∧ Own .i64 3 w' w.heap.size sv (WM.vsL L) ∧ Own .i64 3 w' w.heap.size dv (WM.dsL L) ∧ Below w.heap.size w w') Exit.ret { tmps := t, defers := [{ target := .collected E, args := #[] }] } W := by
  obtain ⟨⟨c0, c1, c2⟩, hos, hod, hb, hK, hE⟩ := h
  refine ⟨by simp, .inl ⟨_, _, rfl, run_takeDeferred hK, ?_⟩⟩
  have k0 := cell_kept c0 (grownBy_putObj' _ E (.deferred none)) (fun r e => by cases e; exact ⟨_, hK, rfl⟩)
  have k1 := cell_kept c1 (grownBy_putObj' _ E (.deferred none)) (fun r e => by cases e; exact ⟨_, hK, rfl⟩)
  have k2 := cell_kept c2 (grownBy_putObj' _ E (.deferred none)) (fun r e => by cases e; exact ⟨_, hK, rfl⟩)
  refine ⟨.tuple #[.agg #[sv, dv, .int .u64 (T : Nat)], .int .i64 0], ?_, sv, dv, T, rfl, L, hg.1, hg.2, ?_, ?_, hb.trans (belowK_b (w := w) (Nat.le_refl _) _ E _ _ (by omega) hK rfl rfl)⟩
  · simp [results, Try.f10, go_sem, ht, ht', k0, k1, k2]
  · exact row_base (ownsRow_putObj hos _ hK rfl) hbs
  · exact row_base (ownsRow_putObj hod _ hK rfl) hbs
set_option maxRecDepth 100000 in
set_option maxHeartbeats 2000000 in
/-- From a vertex that is there, and isn't left out. -/
theorem find_ok {w : World} {mp N O s : Nat} {D : Nat → Nat → Int} (hx : XMem w mp N D) (hmm : XM.Mesh N D) (hN : N ≤ 24) (hs : s < N) (hO : O < 18446744073709551616) (hOs : BM.has O (s : Int) = false) (most settles : Int) :
    Calls Try.prog 10 #[.pointer (some ⟨mp, 0, none⟩), .int .i64 (s : Nat), .int .u64 (O : Nat), .int .i64 most, .int .i64 settles] w fun e w' => ∃ sv dv T, e = .returned (.tuple #[.agg #[sv, dv, .int .u64 (T : Nat)], .int .i64 0]) ∧ ∃ L, WM.Got N D s (WM.outOf O) (DM.norm most) settles.toNat L ∧
      WM.TT N D (WM.outOf O) L T ∧ Own .i64 3 w' w.heap.size sv (WM.vsL L) ∧ Own .i64 3 w' w.heap.size dv (WM.dsL L) ∧ Below w.heap.size w w' := by
  obtain ⟨i0, hi, hz0, hz1, hz2⟩ := info_parts infoIW
  have HX : Hid (∀ W, Below w.heap.size w W → XMem W mp N D) := fun W hW => hx.on hW
  have hmp := hx.lt
  obtain ⟨W1, hW1⟩ : ∃ W1, W1 = w.alloc (.cells #[.slice none 0 0, .slice none 0 0, .int .u64 0] 32) := ⟨_, rfl⟩
  have hb1 : Below w.heap.size w W1 := by rw [hW1]; exact (Below.refl _ _).alloc (Nat.le_refl _) _
  have hs1 : W1.heap.size = w.heap.size + 1 := by rw [hW1]; simp
  have hr1 : W1.heap[w.heap.size]? = some (.cells #[.slice none 0 0, .slice none 0 0, .int .u64 0] 32 (0, 0)) := by rw [hW1]; exact World.alloc_heap_new w _
  have hver := wvertex_any (HX.out W1 hb1) (s : Int)
  rw [show GM.vert N (s : Int) = true from by unfold GM.vert; simp [hs]] at hver
  have hhas := has_any O (s : Int) hO W1
  rw [hOs] at hhas
  have hnew := newSearch_any (HX.out W1 hb1) hN O
  have HB1 : Hid (Below w.heap.size w W1 ∧ W1.heap.size = w.heap.size + 1 ∧ W1.heap[w.heap.size]? = some (.cells #[.slice none 0 0, .slice none 0 0, .int .u64 0] 32 (0, 0))) := ⟨hb1, hs1, hr1⟩
  clear hx hb1 hs1 hr1
  refine (callsIn_wide (n := 14)).1 ?_
  refine callsIn_of_wp_marks Try.func10 rfl trivial ?_ rfl
  simp only [Try.ntmps10, List.size_toArray, List.length_cons, List.length_nil, Nat.reduceAdd, Nat.reduceSub, Array.replicate_succ, Array.replicate_zero, List.push_toArray, List.append_toArray, List.nil_append, List.cons_append]
  refine wpIn_wide.2 ?_
  go_upto_region 1 with fail
  rw [← hW1]
  clear hW1
  go_wp2_with fail
  refine hver.mono ?_
  rintro e w2 ⟨rfl, hw2⟩
  rw [hw2]
  clear hver hw2 w2
  go_wp2_with fail
  refine hhas.mono ?_
  rintro e w2 ⟨rfl, hw2⟩
  rw [hw2]
  clear hhas hw2 w2
  go_wp2_with fail
  refine hnew.mono ?_
  rintro e w2 ⟨z, rfl, hwd, hb2⟩
  have HW2 : Hid (WD w2 W1.heap.size z mp N O (fun _ => none) (fun _ => none) 0 (fun b => W1.heap.size ≤ b ∧ b < w2.heap.size) ∧ Below W1.heap.size W1 w2) := ⟨hwd, hb2⟩
  clear hnew hwd hb2
  go_upto_region 5 with fail
  obtain ⟨W3, hW3, hs3, c3, hs4, hsv, hz0'⟩ := find_new (s := s) HX.out hmp HB1.out.1 HB1.out.2.1 HB1.out.2.2 HW2.out.1 HW2.out.2 most settles
  have hbs : w.heap.size < w2.heap.size := by have h1 := HB1.out.2.1; have h2 := HW2.out.2.size; omega
  have hset := settled_any z.q s most settles W3
  rw [hs3] at hset
  have HSV : Hid (SV w mp N D z w2.heap.size (.slice none 0 0) (.slice none 0 0) [] [] (fun b => (w.heap.size + 1 ≤ b ∧ b < w2.heap.size) ∨ (w2.heap.size + 2 ≤ b ∧ b < w2.heap.size + 6)) (setW z.q s most settles W3) ∧ Z0 (w.heap.size + 1) z mp N O s most settles (w2.heap.size + 2) (fun b => (w.heap.size + 1 ≤ b ∧ b < w2.heap.size) ∨ (w2.heap.size + 2 ≤ b ∧ b < w2.heap.size + 6)) (setW z.q s most settles W3) ∧ (setW z.q s most settles W3).heap.size = w2.heap.size + 6) := ⟨hsv, hz0', hs4⟩
  rw [← hW3]
  clear hW3 hs3 hs4 hsv hz0' HB1 HW2 HX
  generalize w2.heap.size = bs at *
  go_wp2_with fail
  refine hset.mono ?_
  rintro e w4 ⟨rfl, hw4⟩
  rw [hw4]
  clear hw4 w4 hset c3
  generalize setW z.q s most settles W3 = W4 at *
  unfold setF
  go_wp2_with fail
  have hgo := settled_goes 13 (by decide) (w.heap.size + 1) z mp N O D s most settles (bs + 2) (by omega) (by omega) hmm hO hs hOs
  refine (wpIn_wide (n := 14)).1 (range_goesS (by decide) (gf := 45) (lb := #[.pointer (some ⟨bs + 2, 0, none⟩), .pointer (some ⟨bs + 2 + 1, 0, none⟩), .pointer (some ⟨bs + 2 + 1 + 1 + 1, 0, none⟩), .pointer (some ⟨bs + 2 + 1 + 1, 0, none⟩)]) rfl (enters_of Try.func45 (by kernel_rfl) rfl) hgo (fun _ => rfl)
    (fun X A A' h hr => h.rest hr) (fun L X A A' h hr => h.rest hr)
    (fun pre X A => ∃ sv dv, SV w mp N D z bs sv dv (WM.vsL pre) (WM.dsL pre) X A)
    (fun _ _ _ _ => False)
    (fun pre X X' A A' h hk hX => by
      obtain ⟨sv, dv, h1⟩ := h
      exact ⟨sv, dv, h1.on hk hX (by omega) hmp⟩)
    (fun _ _ _ _ _ _ h _ _ => h)
    (fun pre X A h => by
      obtain ⟨sv, dv, h1⟩ := h
      exact h1.c.x)
    (fun b => (w.heap.size + 1 ≤ b ∧ b < bs) ∨ (bs + 2 ≤ b ∧ b < bs + 6)) (fun b hb => by have := HSV.out.2.2; omega) ⟨_, _, HSV.out.1⟩ HSV.out.2.1
    (fun x => { tmps := #[.pointer (some ⟨mp, 0, none⟩), .int .i64 (s : Nat), .int .u64 (O : Nat), .int .i64 most, .int .i64 settles, undef, undef, undef, undef, undef, .pointer (some ⟨w.heap.size, 0, none⟩), .int .i64 0, .pointer (some ⟨bs, 0, none⟩), .pointer (some ⟨bs + 1, 0, none⟩), .int .i64 (x.1 : Nat), undef, undef, .pointer (some ⟨mp, 0, none⟩), .int .i64 (s : Nat), .bool true, .bool false, .bool false, .int .u64 (O : Nat), .int .i64 (s : Nat), .bool false, .bool false, undef, .pointer (some ⟨mp, 0, none⟩), .int .u64 (O : Nat), .pointer (some ⟨z.q, 0, none⟩), .pointer (some ⟨z.q, 0, none⟩), .int .i64 (s : Nat), .int .i64 most, .int .i64 settles, .func (.func 45) #[] #[.pointer (some ⟨bs + 2, 0, none⟩), .pointer (some ⟨bs + 2 + 1, 0, none⟩), .pointer (some ⟨bs + 2 + 1 + 1 + 1, 0, none⟩), .pointer (some ⟨bs + 2 + 1 + 1, 0, none⟩)], .int .i64 (x.1 : Nat), undef, undef, undef, undef, undef, undef, undef, undef, undef, undef, undef, undef, undef, undef, undef, undef, undef, undef, undef, undef, undef, undef, undef, undef, undef, undef, undef], defers := [] })
    ?assign ?body ?done ?stop)
  case assign =>
    rintro l ⟨v, d⟩ W K hK
    simp only [setV]
    gi_wp2
    exact hK
  case body =>
    rintro l pre ⟨v, d⟩ X W ⟨sv, dv, hSV⟩ hZ hA hXb hn0 hn1
    obtain ⟨k, hm, T, F, hwd, hnt, htt, hsq, hlen, hF⟩ := hZ
    have hget := hwd.get v
    rw [hnt.1 (v, d) (by simp)] at hget
    simp only [getT] at hget
    have c3 := hwd.c3
    have hpl : pre.length < 24 := by
      have h1 := hsq.len hs hOs
      rw [List.length_append, List.length_singleton] at h1
      have := hwd.few
      omega
    have cs := hSV.c.s.cell
    have hXb2 : ∀ b, (X b ∨ b = W4.heap.size ∨ b = W4.heap.size + 1) → b < W.heap.size := fun b hb => by
      rcases hb with hb | hb | hb
      · exact hXb b hb
      · omega
      · omega
    have HSV2 : Hid (SV w mp N D z bs sv dv (WM.vsL pre) (WM.dsL pre) (fun b => X b ∨ b = W4.heap.size ∨ b = W4.heap.size + 1) W ∧ ∀ b, (X b ∨ b = W4.heap.size ∨ b = W4.heap.size + 1) → b < W.heap.size) := ⟨hSV, hXb2⟩
    clear HSV hgo hSV hwd hnt htt hsq hlen hF hXb hXb2 hn0 hn1 hA hmm hs hOs hO
    gi_wp2_with fail
    refine ⟨trivial, (CallsIn.inRound l (callsIn_wide.2 hget)).mono ?_⟩
    rintro e w5 ⟨rfl, hb5⟩
    obtain ⟨Y, hY⟩ : ∃ Y : Nat → Prop, Y = fun b => X b ∨ b = W4.heap.size ∨ b = W4.heap.size + 1 := ⟨_, rfl⟩
    have HY : Hid ((fun b => X b ∨ b = W4.heap.size ∨ b = W4.heap.size + 1) = Y) := hY.symm
    have HV5 : Hid (Rest Y W w5 ∧ SV w mp N D z bs sv dv (WM.vsL pre) (WM.dsL pre) Y w5 ∧ ∀ b, Y b → b < w5.heap.size) := by
      rw [hY]
      refine ⟨Rest.of_below hb5, HSV2.out.1.below hb5 (by omega) hmp, fun b hb => ?_⟩
      have := HSV2.out.2 b hb
      have := hb5.size
      omega
    have HMV : Hid (WM.vsL (pre ++ [(v, d)]) = WM.vsL pre ++ [(v : Int)]) := WM.vsL_snoc _ _
    have HMD : Hid (WM.dsL (pre ++ [(v, d)]) = WM.dsL pre ++ [d]) := WM.dsL_snoc _ _
    have hlv : (WM.vsL pre).length < 24 := by rw [WM.vsL_len]; exact hpl
    have hld : (WM.dsL pre).length < 24 := by rw [WM.dsL_len]; exact hpl
    have k0 := HV5.out.2.1.c.f0
    have hsz5 := HV5.out.2.1.sz
    clear hget c3 cs hb5 hpl HSV2 hY
    generalize WM.vsL pre = ls at *
    generalize WM.dsL pre = ld at *
    gi_wp2_with (gi_at_builtin; refine wpListIn_append_atW _ rfl _ _ 29 rfl (bs + 6) 3 i0 (.int .i64 0) 1 8 Try.underlying29 hi hz0 hz1 hz2 rfl (by decide) sv ls.length (ls.map (Value.int .i64)) rfl (HV5.out.2.1.os.alloc _) ⟨w5.heap.size, 0, none⟩ 1 1 [.int .i64 (v : Nat)] rfl rfl (cell_one_new _ _ _) (by simp [Value.oneCell']) (by unfold maxLen; omega) (by omega) (by simp; omega) ?_)
    intro v2 w6 hown2 hgrow2 hat2
    have ho2 : Own .i64 3 w6 (bs + 6) v2 (ls ++ [(v : Int)]) := by
      unfold Own
      rw [List.length_append, List.map_append]
      exact hown2
    obtain ⟨b2, f2, hG2, hB2⟩ := HV5.out.2.1.app1 HV5.out.2.2 (by omega) hmp hgrow2 ho2 hat2
    obtain ⟨g2, cp2, rfl⟩ := ownsRow_succ hown2
    have HV6 : Hid (Rest Y W (w6.setCell ⟨bs + 1, 0, none⟩ (.slice (some ⟨g2, 0, none⟩) (ls.length + 1) cp2)) ∧ SV w mp N D z bs (.slice (some ⟨g2, 0, none⟩) (ls.length + 1) cp2) dv (ls ++ [(v : Int)]) ld Y (w6.setCell ⟨bs + 1, 0, none⟩ (.slice (some ⟨g2, 0, none⟩) (ls.length + 1) cp2)) ∧ ∀ b, Y b → b < (w6.setCell ⟨bs + 1, 0, none⟩ (.slice (some ⟨g2, 0, none⟩) (ls.length + 1) cp2)).heap.size) := ⟨HV5.out.1.trans hB2, hG2, fun b hb => by have := HV5.out.2.2 b hb; have := hB2.size; omega⟩
    have k1 := hG2.c.f1
    have c0 := b2
    have f0 := f2
    have hsz6 := hG2.sz
    have HCN : Hid (∀ j u, [Value.int .i64 d][j]? = some u → ((w6.setCell ⟨bs + 1, 0, none⟩ (.slice (some ⟨g2, 0, none⟩) (ls.length + 1) cp2)).alloc (.cells #[.int .i64 d] 3)).cell? ((⟨w6.heap.size, 0, none⟩ : Addr).add j) = some u) := by
      have := cell_one_new (w6.setCell ⟨bs + 1, 0, none⟩ (.slice (some ⟨g2, 0, none⟩) (ls.length + 1) cp2)) (.int .i64 d) 3
      rwa [setCell_size] at this
    have HSZ6 : Hid (bs + 6 ≤ ((w6.setCell ⟨bs + 1, 0, none⟩ (.slice (some ⟨g2, 0, none⟩) (ls.length + 1) cp2)).alloc (.cells #[.int .i64 d] 3)).heap.size) := by
      show bs + 6 ≤ _
      rw [World.size_alloc]
      omega
    clear HV5 hG2 hB2 ho2 hown2 hgrow2 hat2 k0 b2 f2 hsz5 hsz6
    gi_wp2_with (gi_at_builtin; refine wpListIn_append_atW _ rfl _ _ 29 rfl (bs + 6) 3 i0 (.int .i64 0) 1 8 Try.underlying29 hi hz0 hz1 hz2 rfl (by decide) dv ld.length (ld.map (Value.int .i64)) rfl (HV6.out.2.1.od.alloc _) ⟨w6.heap.size, 0, none⟩ 1 1 [.int .i64 d] rfl rfl HCN.out (by simp [Value.oneCell']) (by unfold maxLen; omega) (by omega) HSZ6.out ?_)
    intro v3 w7 hown3 hgrow3 hat3
    have ho3 : Own .i64 3 w7 (bs + 6) v3 (ld ++ [d]) := by
      unfold Own
      rw [List.length_append, List.map_append]
      exact hown3
    obtain ⟨b3, f3, hG3, hB3⟩ := HV6.out.2.1.app2 HV6.out.2.2 (by omega) hmp hgrow3 ho3 (by rw [setCell_size]; exact hat3)
    obtain ⟨g3, cp3, rfl⟩ := ownsRow_succ hown3
    have HE : Hid (Rest Y W (w7.setCell ⟨bs + 1, 1, none⟩ (.slice (some ⟨g3, 0, none⟩) (ld.length + 1) cp3)) ∧ ∃ sv dv, SV w mp N D z bs sv dv (WM.vsL (pre ++ [(v, d)])) (WM.dsL (pre ++ [(v, d)])) Y (w7.setCell ⟨bs + 1, 1, none⟩ (.slice (some ⟨g3, 0, none⟩) (ld.length + 1) cp3))) := by
      show _ ∧ _
      rw [HMV.out, HMD.out]
      exact ⟨HV6.out.1.trans hB3, _, _, hG3⟩
    have c1 := b3
    have f1 := f3
    clear HV6 hG3 hB3 ho3 hown3 hgrow3 hat3 k1 c0 f0 b3 f3 HMV HMD HCN HSZ6
    gi_wp2_with fail
    rw [HY.out]
    exact HE.out
  case done =>
    rintro L X W hgot ⟨sv, dv, hSV⟩ hZ hK
    obtain ⟨k, hm, T, F, hwd, hnt, htt, hsq, hlen, hF⟩ := hZ
    obtain ⟨ao1, c1, hv1, -⟩ := hSV.os.at
    obtain ⟨ao2, c2, hv2, -⟩ := hSV.od.at
    have HGT : Hid (WM.Got N D s (WM.outOf O) (DM.norm most) settles.toNat L ∧ WM.TT N D (WM.outOf O) L T) := ⟨hgot, htt⟩
    obtain ⟨W', hW', hcs, hos, hod, hbw, hbl⟩ := hSV.answer hbs T
    have hK' : W'.heap[W4.heap.size]? = some (.deferred (some [])) := (hbl _ (by have := HSV.out.2.2; omega) (by have := HSV.out.2.2; omega)).trans hK
    have HF : Hid ((W'.cell? ⟨w.heap.size, 0, none⟩ = some sv ∧ W'.cell? ⟨w.heap.size, 1, none⟩ = some dv ∧ W'.cell? ⟨w.heap.size, 2, none⟩ = some (.int .u64 (T : Nat))) ∧ Own .i64 3 W' (bs + 6) sv (WM.vsL L) ∧ Own .i64 3 W' (bs + 6) dv (WM.dsL L) ∧ Below w.heap.size w W' ∧ W'.heap[W4.heap.size]? = some (.deferred (some [])) ∧ w.heap.size < W4.heap.size) := ⟨hcs, hos, hod, hbw, hK', by have := HSV.out.2.2; omega⟩
    have d0 := hSV.c.s.cell
    have d4 := hwd.c4
    have e0 := hSV.c.f0
    have e1 := hSV.c.f1
    have e2 := hSV.c.f2
    have e3 := hSV.c.fz 2
    have r0 : W.cell? ⟨w.heap.size, 0, none⟩ = some (.slice none 0 0) := by unfold World.cell?; rw [hSV.c.r]; rfl
    have r1 : W.cell? ⟨w.heap.size, 1, none⟩ = some (.slice none 0 0) := by unfold World.cell?; rw [hSV.c.r]; rfl
    have r2 : W.cell? ⟨w.heap.size, 2, none⟩ = some (.int .u64 0) := by unfold World.cell?; rw [hSV.c.r]; rfl
    have rz : ∀ j, W.frozen? ⟨w.heap.size, j, none⟩ = false := fun j => by unfold World.frozen?; rw [hSV.c.r]; simp
    have rz0 := rz 0
    have rz1 := rz 1
    have rz2 := rz 2
    have hqb : ¬ z.q = bs + 1 := fun e => hSV.nx (bs + 1) (.inr (.inr (.inl rfl))) (.inl (hF _ (hwd.f _ (.inl e.symm))))
    clear hgot htt hwd hnt hsq hlen hF hSV hgo HSV hcs hos hod hbw hbl hK' hK rz hmm hs hOs hO
    generalize (WM.vsL L).length = n1 at hv1
    generalize (WM.dsL L).length = n2 at hv2
    subst hv1
    subst hv2
    go_wp2_with fail
    rw [← hW']
    exact find_out rfl rfl HF.out HGT.out (by omega)
  case stop =>
    intro c' pre X W h
    exact h.elim
end Go.Proofs.Ytmkpcidgiobpeaa
end

section
/-
  The walk of the program's Search from a vertex that isn't there, or is left out (layer 13).
-/
namespace Go.Proofs.Ytmkpcidgiobpeaa
open Go.RowKit Go.Shelf

theorem set_three {W : World} {b : Nat} {a0 a1 a2 x y z : Value} (r0 : W.cell? ⟨b, 0, none⟩ = some a0) (r1 : W.cell? ⟨b, 1, none⟩ = some a1) (r2 : W.cell? ⟨b, 2, none⟩ = some a2) :
    (((W.setCell ⟨b, 0, none⟩ x).setCell ⟨b, 1, none⟩ y).setCell ⟨b, 2, none⟩ z).cell? ⟨b, 0, none⟩ = some x ∧ (((W.setCell ⟨b, 0, none⟩ x).setCell ⟨b, 1, none⟩ y).setCell ⟨b, 2, none⟩ z).cell? ⟨b, 1, none⟩ = some y ∧ (((W.setCell ⟨b, 0, none⟩ x).setCell ⟨b, 1, none⟩ y).setCell ⟨b, 2, none⟩ z).cell? ⟨b, 2, none⟩ = some z := by
  have c0 := World.cell?_setCell_same W ⟨b, 0, none⟩ x r0
  have c1 : (W.setCell ⟨b, 0, none⟩ x).cell? ⟨b, 1, none⟩ = some a1 := by rw [World.cell?_setCell_other _ _ _ _ (by simp)]; exact r1
  have c2 : (W.setCell ⟨b, 0, none⟩ x).cell? ⟨b, 2, none⟩ = some a2 := by rw [World.cell?_setCell_other _ _ _ _ (by simp)]; exact r2
  have b0 : ((W.setCell ⟨b, 0, none⟩ x).setCell ⟨b, 1, none⟩ y).cell? ⟨b, 0, none⟩ = some x := by rw [World.cell?_setCell_other _ _ _ _ (by simp)]; exact c0
  have b1 := World.cell?_setCell_same _ ⟨b, 1, none⟩ y c1
  have b2 : ((W.setCell ⟨b, 0, none⟩ x).setCell ⟨b, 1, none⟩ y).cell? ⟨b, 2, none⟩ = some a2 := by rw [World.cell?_setCell_other _ _ _ _ (by simp)]; exact c2
  exact ⟨by rw [World.cell?_setCell_other _ _ _ _ (by simp)]; exact b0, by rw [World.cell?_setCell_other _ _ _ _ (by simp)]; exact b1, World.cell?_setCell_same _ _ _ b2⟩
set_option maxRecDepth 100000 in
set_option maxHeartbeats 1000000 in
theorem find_no {w : World} {mp N O : Nat} {D : Nat → Nat → Int} (hx : XMem w mp N D) (hO : O < 18446744073709551616) (s : Int) (hbad : GM.vert N s = false ∨ BM.has O s = true) (most settles : Int) :
    Calls Try.prog 10 #[.pointer (some ⟨mp, 0, none⟩), .int .i64 s, .int .u64 (O : Nat), .int .i64 most, .int .i64 settles] w fun e w' => e = .returned (.tuple #[.agg #[.slice none 0 0, .slice none 0 0, .int .u64 0], .int .i64 1]) ∧ Below w.heap.size w w' := by
  obtain ⟨W1, hW1⟩ : ∃ W1, W1 = w.alloc (.cells #[.slice none 0 0, .slice none 0 0, .int .u64 0] 32) := ⟨_, rfl⟩
  have hb1 : Below w.heap.size w W1 := by rw [hW1]; exact (Below.refl _ _).alloc (Nat.le_refl _) _
  have hr1 : W1.heap[w.heap.size]? = some (.cells #[.slice none 0 0, .slice none 0 0, .int .u64 0] 32 (0, 0)) := by rw [hW1]; exact World.alloc_heap_new w _
  have r0 : W1.cell? ⟨w.heap.size, 0, none⟩ = some (.slice none 0 0) := by unfold World.cell?; rw [hr1]; rfl
  have r1 : W1.cell? ⟨w.heap.size, 1, none⟩ = some (.slice none 0 0) := by unfold World.cell?; rw [hr1]; rfl
  have r2 : W1.cell? ⟨w.heap.size, 2, none⟩ = some (.int .u64 0) := by unfold World.cell?; rw [hr1]; rfl
  have rz : ∀ j, W1.frozen? ⟨w.heap.size, j, none⟩ = false := fun j => by unfold World.frozen?; rw [hr1]; simp
  have rz0 := rz 0
  have rz1 := rz 1
  have rz2 := rz 2
  have hver := wvertex_any (hx.on hb1) s
  have hhas := has_any O s hO W1
  have HE : Hid (Below w.heap.size w (((W1.setCell ⟨w.heap.size, 0, none⟩ (.slice none 0 0)).setCell ⟨w.heap.size, 1, none⟩ (.slice none 0 0)).setCell ⟨w.heap.size, 2, none⟩ (.int .u64 0))) := ((hb1.setCell (p := ⟨w.heap.size, 0, none⟩) (Nat.le_refl _) _).setCell (p := ⟨w.heap.size, 1, none⟩) (Nat.le_refl _) _).setCell (p := ⟨w.heap.size, 2, none⟩) (Nat.le_refl _) _
  have HS3 := set_three (x := .slice none 0 0) (y := .slice none 0 0) (z := .int .u64 0) r0 r1 r2
  have HS3 : Hid _ := HS3
  clear hx hb1 hr1 rz
  cases hv : GM.vert N s with
  | false =>
    rw [hv] at hver
    clear hhas hbad hv
    go_enter Try.func10, Try.ntmps10
    go_upto_region 1 with fail
    rw [← hW1]
    clear hW1
    go_wp2_with fail
    refine hver.mono ?_
    rintro e w2 ⟨rfl, hw2⟩
    rw [hw2]
    clear hver hw2 w2
    go_wp2_with fail
    obtain ⟨k0, k1, k2⟩ := HS3.out
    (try simp only [Exit.inBlock, Exit.then]); refine bodyPost_ret (v := .tuple #[.agg #[.slice none 0 0, .slice none 0 0, .int .u64 0], .int .i64 1]) ?_ rfl ⟨rfl, HE.out⟩
    simp [results, Try.f10, go_sem, k0, k1, k2]
  | true =>
    rw [hv] at hver
    rw [hbad.resolve_left (by rw [hv]; decide)] at hhas
    clear hbad hv
    go_enter Try.func10, Try.ntmps10
    go_upto_region 1 with fail
    rw [← hW1]
    clear hW1
    go_wp2_with fail
    refine hver.mono ?_
    rintro e w2 ⟨rfl, hw2⟩
    rw [hw2]
    clear hver hw2 w2
    go_wp2_with fail
    refine hhas.mono ?_
    rintro e w2 ⟨rfl, hw2⟩
    rw [hw2]
    clear hhas hw2 w2
    go_wp2_with fail
    obtain ⟨k0, k1, k2⟩ := HS3.out
    (try simp only [Exit.inBlock, Exit.then]); refine bodyPost_ret (v := .tuple #[.agg #[.slice none 0 0, .slice none 0 0, .int .u64 0], .int .i64 1]) ?_ rfl ⟨rfl, HE.out⟩
    simp [results, Try.f10, go_sem, k0, k1, k2]
end Go.Proofs.Ytmkpcidgiobpeaa
end
