/-
  The walk of package walk's Visits: a range over stops that appends to a list of its own.
-/
import Derived.Maps.AppendAt
import Derived.Test.YtjnihkfnnokmdaaWalkCheck
import Derived.Test.YtjnihkfnnokmdaaGraphIds
namespace Go.Proofs.Ytjnihkfnnokmdaa
open Go.RowKit Go.Shelf
attribute [local go_sem] Oper.semAt_some

/-- append onto an own row, with where the new one lies. -/
theorem wpListIn_append_at {F : Fence} {n : Nat} {P : Program} (w : World) {ops : Array Oper} {rest : List Oper} {o : Oper} {a : Act} {Q : Exit → Act → World → Prop}
    (hg : o.guard = none) (s x : Operand) (t : TypeId) (hop : o.op = Op.call { callee := Callee.builtin Builtin.append, args := #[s, x], argTypes := #[t, t] })
    (base : Nat) (e : TypeId) (i : TypeInfo) (z : Value) (size bytes : Nat) (h1 : P.underlying t = some (.slice e)) (h2 : P.info? e = some i) (h3 : i.zero = some z) (h4 : i.size = size) (h5 : i.bytes = bytes) (h6 : z.cells.size = size) (h7 : 0 < size)
    (v : Value) (k : Nat) (xs : List Value) (hs : a.eval s = v) (hown : w.ownsRow base e size v k xs) (ad : Addr) (m c : Nat) (news : List Value) (hx : a.eval x = .slice (some ad) m c) (hn : news.length = m * size)
    (hc : ∀ j u, news[j]? = some u → w.cell? (ad.add j) = some u) (h1c : ∀ u ∈ news, u.oneCell' = true) (b1 : k + m ≤ maxLen) (b2 : (k + m) * bytes ≤ 140737488355328) (b3 : base ≤ w.heap.size)
    (hK : ∀ v' w', w'.ownsRow base e size v' (k + m) (xs ++ news) → w.grownBy w' v.ownBlock → (v'.ownBlock = v.ownBlock ∨ v'.ownBlock = some w.heap.size) → wpListIn F n P ops Q rest (a.put o.dst v') w') :
    wpListIn F n P ops Q (o :: rest) a w := by
  refine wpListIn_plain hg fun K hK' => ?_
  obtain ⟨v', w', hrun, r1, r2, _, r3⟩ := run_append_own_at (P := P) w base t o.type e i z size bytes h1 h2 h3 h4 h5 h6 h7 v k xs hown ad m c news hn hc h1c b1 b2 b3
  unfold Oper.wpIn
  refine ⟨?_, ?_⟩
  · simp [Oper.about, hop, resolve, Target.leads, Sem.run_pure]
  · rw [Oper.semAt_plain F _ _ (by rw [hop]; intro c hc'; cases hc')]
    simp [execOp, hop, resolve, invoke, builtin, hs, hx, hrun, Result.andThen]
    exact hK' _ _ (hK v' w' r1 r2 r3)

/-- What lies in Visits' cells. -/
structure VisC (w : World) (p : Nat) (u : Int) (v r0 : Value) (c : Int) (va : Value) (W : World) : Prop where
  r0 : Boxed W w.heap.size 23 r0
  r1 : Boxed W (w.heap.size + 1) 29 (.int .i64 c)
  vs : Boxed W (w.heap.size + 1 + 1) 23 va
  bg : Boxed W (w.heap.size + 1 + 1 + 1) 25 (.pointer (some ⟨p, 0, none⟩))
  bf : Boxed W (w.heap.size + 1 + 1 + 1 + 1) 3 (.int .i64 u)
  bi : Boxed W (w.heap.size + 1 + 1 + 1 + 1 + 1) 23 v
  bel : Below w.heap.size w W
section
variable {w W W' : World} {p : Nat} {u : Int} {v r0 : Value} {c : Int} {va : Value}
theorem VisC.sz (h : VisC w p u v r0 c va W) : w.heap.size + 6 ≤ W.heap.size := by have := h.bi.lt; omega
theorem VisC.below (h : VisC w p u v r0 c va W) (hb : Below (w.heap.size + 6) W W') : VisC w p u v r0 c va W' :=
  ⟨(hb.block _ (by omega)).trans h.r0, (hb.block _ (by omega)).trans h.r1, (hb.block _ (by omega)).trans h.vs, (hb.block _ (by omega)).trans h.bg, (hb.block _ (by omega)).trans h.bf, (hb.block _ (by omega)).trans h.bi, h.bel.trans (hb.mono (by omega))⟩
theorem VisC.put (h : VisC w p u v r0 c va W) (x : Value) : VisC w p u v r0 c x (W.setCell ⟨w.heap.size + 1 + 1, 0, none⟩ x) :=
  ⟨h.r0.other (by omega) _, h.r1.other (by omega) _, h.vs.set _, h.bg.other (by omega) _, h.bf.other (by omega) _, h.bi.other (by omega) _, h.bel.setCell (p := ⟨w.heap.size + 1 + 1, 0, none⟩) (by show w.heap.size ≤ w.heap.size + 1 + 1; omega) _⟩
theorem VisC.ret (h : VisC w p u v r0 c va W) (x : Value) (k : Int) : VisC w p u v x k va ((W.setCell ⟨w.heap.size, 0, none⟩ x).setCell ⟨w.heap.size + 1, 0, none⟩ (.int .i64 k)) :=
  ⟨(h.r0.set _).other (by omega) _, (h.r1.other (by omega) _).set _, (h.vs.other (by omega) _).other (by omega) _, (h.bg.other (by omega) _).other (by omega) _, (h.bf.other (by omega) _).other (by omega) _, (h.bi.other (by omega) _).other (by omega) _, (h.bel.setCell (p := ⟨w.heap.size, 0, none⟩) (Nat.le_refl _) _).setCell (p := ⟨w.heap.size + 1, 0, none⟩) (by show w.heap.size ≤ w.heap.size + 1; omega) _⟩
end
theorem visC_new (w : World) (p : Nat) (u : Int) (v : Value) : VisC w p u v (.slice none 0 0) 0 (.slice none 0 0) ((((((w.alloc (.cells #[.slice none 0 0] 23)).alloc (.cells #[.int .i64 0] 29)).alloc (.cells #[.slice none 0 0] 23)).alloc (.cells #[.pointer (some ⟨p, 0, none⟩)] 25)).alloc (.cells #[.int .i64 u] 3)).alloc (.cells #[v] 23)) := by
  have s1 : (w.alloc (.cells #[.slice none 0 0] 23)).heap.size = w.heap.size + 1 := by simp
  have b1 := Boxed.new w 23 (.slice none 0 0)
  have l1 : Below w.heap.size w (w.alloc (.cells #[.slice none 0 0] 23)) := (Below.refl _ _).alloc (Nat.le_refl _) _
  generalize w.alloc (.cells #[.slice none 0 0] 23) = w1 at *
  have s2 : (w1.alloc (.cells #[.int .i64 0] 29)).heap.size = w.heap.size + 1 + 1 := by simp [s1]
  have b2 := Boxed.new w1 29 (.int .i64 0)
  rw [s1] at b2
  replace b1 := b1.alloc (.cells #[.int .i64 0] 29)
  replace l1 := l1.alloc (by omega) (.cells #[.int .i64 0] 29)
  generalize w1.alloc (.cells #[.int .i64 0] 29) = w2 at *
  have s3 : (w2.alloc (.cells #[.slice none 0 0] 23)).heap.size = w.heap.size + 1 + 1 + 1 := by simp [s2]
  have b3 := Boxed.new w2 23 (.slice none 0 0)
  rw [s2] at b3
  replace b1 := b1.alloc (.cells #[.slice none 0 0] 23)
  replace b2 := b2.alloc (.cells #[.slice none 0 0] 23)
  replace l1 := l1.alloc (by omega) (.cells #[.slice none 0 0] 23)
  generalize w2.alloc (.cells #[.slice none 0 0] 23) = w3 at *
  have s4 : (w3.alloc (.cells #[.pointer (some ⟨p, 0, none⟩)] 25)).heap.size = w.heap.size + 1 + 1 + 1 + 1 := by simp [s3]
  have b4 := Boxed.new w3 25 (.pointer (some ⟨p, 0, none⟩))
  rw [s3] at b4
  replace b1 := b1.alloc (.cells #[.pointer (some ⟨p, 0, none⟩)] 25)
  replace b2 := b2.alloc (.cells #[.pointer (some ⟨p, 0, none⟩)] 25)
  replace b3 := b3.alloc (.cells #[.pointer (some ⟨p, 0, none⟩)] 25)
  replace l1 := l1.alloc (by omega) (.cells #[.pointer (some ⟨p, 0, none⟩)] 25)
  generalize w3.alloc (.cells #[.pointer (some ⟨p, 0, none⟩)] 25) = w4 at *
  have s5 : (w4.alloc (.cells #[.int .i64 u] 3)).heap.size = w.heap.size + 1 + 1 + 1 + 1 + 1 := by simp [s4]
  have b5 := Boxed.new w4 3 (.int .i64 u)
  rw [s4] at b5
  replace b1 := b1.alloc (.cells #[.int .i64 u] 3)
  replace b2 := b2.alloc (.cells #[.int .i64 u] 3)
  replace b3 := b3.alloc (.cells #[.int .i64 u] 3)
  replace b4 := b4.alloc (.cells #[.int .i64 u] 3)
  replace l1 := l1.alloc (by omega) (.cells #[.int .i64 u] 3)
  generalize w4.alloc (.cells #[.int .i64 u] 3) = w5 at *
  have b6 := Boxed.new w5 23 v
  rw [s5] at b6
  exact ⟨b1.alloc _, b2.alloc _, b3.alloc _, b4.alloc _, b5.alloc _, b6, l1.alloc (by omega) _⟩

/-- Between the rounds. -/
structure Vis (w : World) (p : Nat) (u : Int) (v : Value) (va : Value) (zs : List Int) (X : Nat → Prop) (W : World) : Prop where
  c : VisC w p u v (.slice none 0 0) 0 va W
  own : Own .i64 3 W (w.heap.size + 6) va zs
  nx : ∀ b, b < w.heap.size + 6 → ¬ X b
  nv : ∀ g, va.ownBlock = some g → ¬ X g
section
variable {w W W' : World} {p : Nat} {u : Int} {v va : Value} {zs : List Int} {X X' : Nat → Prop}
theorem low_on {B : Nat} (hX : ∀ b, b < B → ¬ X b) (hB : B ≤ W.heap.size) (hk : Keeps X W W') (hX' : ∀ b, X' b → X b ∨ W.heap.size ≤ b) : Below B W W' ∧ ∀ b, b < B → ¬ X' b := by
  refine ⟨Keeps.below hk (fun b hb => ?_) hB, fun b hb hx => ?_⟩
  · rcases Nat.lt_or_ge b B with h | h
    · exact absurd hb (hX b h)
    · exact h
  · rcases hX' b hx with h | h
    · exact hX b hb h
    · omega
theorem Vis.on (h : Vis w p u v va zs X W) (hk : Keeps X W W') (hX' : ∀ b, X' b → X b ∨ W.heap.size ≤ b) : Vis w p u v va zs X' W' := by
  obtain ⟨h1, h2⟩ := low_on h.nx h.c.sz hk hX'
  refine ⟨h.c.below h1, hk.row h.own h.nv, h2, fun g hg hx => ?_⟩
  rcases hX' g hx with h' | h'
  · exact h.nv g hg h'
  · have := (World.ownsRow.lt h.own g hg).2
    omega
/-- One more in the list. -/
theorem Vis.app {o : Go.Obj} {W2 : World} {v' : Value} {zs' : List Int} (h : Vis w p u v va zs X W) (hXb : ∀ b, X b → b < W.heap.size) (hg : (W.alloc o).grownBy W2 va.ownBlock) (ho : Own .i64 3 W2 (w.heap.size + 6) v' zs') (hv : v'.ownBlock = va.ownBlock ∨ v'.ownBlock = some (W.heap.size + 1)) :
    Boxed W2 (w.heap.size + 1 + 1) 23 va ∧ Vis w p u v v' zs' X (W2.setCell ⟨w.heap.size + 1 + 1, 0, none⟩ v') ∧ Rest X W (W2.setCell ⟨w.heap.size + 1 + 1, 0, none⟩ v') := by
  have hb1 : Below W.heap.size W (W.alloc o) := (Below.refl _ _).alloc (Nat.le_refl _) _
  have hsz := h.c.sz
  have hk1 : Rest X W (W.alloc o) := Rest.of_below hb1
  have hk2 : Rest X (W.alloc o) W2 := (Keeps.refl _ _).grown hg (fun k hk => .inl (h.nv k hk))
  have hbl : Below (w.heap.size + 6) (W.alloc o) W2 := Keeps.below (F := fun b => va.ownBlock = some b) ((Keeps.refl _ _).grown hg (fun k hk => .inl hk)) (fun b hb => h.own.block b hb) (by simp; omega)
  have c2 : VisC w p u v (.slice none 0 0) 0 va W2 := (h.c.below (hb1.mono hsz)).below hbl
  have hk3 : Keeps (fun b => b = w.heap.size + 1 + 1) W2 (W2.setCell ⟨w.heap.size + 1 + 1, 0, none⟩ v') := keeps_set _ _ _ _
  refine ⟨c2.vs, ⟨c2.put v', hk3.row ho (fun g hg e => by have := ho.block g hg; omega), h.nx, fun g hg hx => ?_⟩, (hk1.trans hk2).trans (hk3.mono (fun b hb hx => h.nx b (by omega) hx))⟩
  rcases hv with e | e
  · rw [e] at hg
    exact h.nv g hg hx
  · rw [e] at hg
    injection hg with hg
    have := hXb g hx
    omega
end
set_option maxRecDepth 100000 in
theorem visits_out {n : Nat} {w W : World} {p : Nat} {u c : Int} {v r0 va : Value} {l : List Int} {t : Array Value} {D : Nat} (ht : t[6]?.getD undef = .pointer (some ⟨w.heap.size, 0, none⟩)) (ht' : t[7]?.getD undef = .pointer (some ⟨w.heap.size + 1, 0, none⟩)) (hB : VisC w p u v r0 c va W) (ho : Own .i64 3 W (w.heap.size + 6) r0 l)
    (hK : W.heap[D]? = some (.deferred (some []))) (hD : w.heap.size + 6 ≤ D) :
    bodyPostM Fence.wide n Try.prog Try.f14 (fun e w' => ∃ r, e = .returned (.tuple #[r, .int .i64 c]) ∧ Own .i64 3 w' w.heap.size r l ∧ Below w.heap.size w w') Exit.ret { tmps := t, defers := [{ target := .collected D, args := #[] }] } W := by
  refine ⟨by simp, .inl ⟨_, _, rfl, run_takeDeferred hK, ?_⟩⟩
  have hc6 := cell_kept hB.r0.cell (grownBy_putObj' _ D (.deferred none)) (fun r e => by cases e; exact ⟨_, hK, rfl⟩)
  have hc7 := cell_kept hB.r1.cell (grownBy_putObj' _ D (.deferred none)) (fun r e => by cases e; exact ⟨_, hK, rfl⟩)
  refine ⟨.tuple #[r0, .int .i64 c], ?_, r0, rfl, ?_, hB.bel.trans (belowK_b (w := w) (Nat.le_refl _) _ D _ _ (by omega) hK rfl rfl)⟩
  · simp [results, Try.f14, go_sem, hc6, hc7, ht, ht']
  · have ho2 := ho.base_le (base' := w.heap.size) (by omega)
    unfold Own at ho2 ⊢
    exact ownsRow_putObj ho2 _ hK rfl

set_option maxRecDepth 100000 in
set_option maxHeartbeats 2000000 in
theorem visits_in {w : World} {p N most : Nat} {m : GM.M} (hg : GMem w p N most m) (hm : GM.Good most m) (u : Int) {v : Value} {zs : List Int} (hrow : Row .i64 w v zs) (hzs : zs.length ≤ 1000) :
    CallsIn Fence.wide 5 Try.prog 14 #[.pointer (some ⟨p, 0, none⟩), .int .i64 u, v] w fun e w' => ∃ r, e = .returned (.tuple #[r, .int .i64 (WK.vcode N u (WK.list m zs))]) ∧ Own .i64 3 w' w.heap.size r (WK.vlist N u (WK.list m zs)) ∧ Below w.heap.size w w' := by
  obtain ⟨i0, hi, hz0, hz1, hz2⟩ := info_parts info3
  have HG : Hid (∀ W, Below w.heap.size w W → GMem W p N most m) := fun W hW => hg.on hW
  have HR : Hid (∀ W, Below w.heap.size w W → Row .i64 W v zs) := fun W hW => hrow.below hW
  obtain ⟨ao, cap, rfl, -⟩ := hrow
  have hgo := stops_goes 4 (by decide) (w.heap.size + 1 + 1 + 1) (w.heap.size + 1 + 1 + 1 + 1) (w.heap.size + 1 + 1 + 1 + 1 + 1) u (.slice ao zs.length cap) zs p N most m hm
  have hsa := stops_any p u ao zs.length cap (((w.alloc (.cells #[.slice none 0 0] 23)).alloc (.cells #[.int .i64 0] 29)).alloc (.cells #[.slice none 0 0] 23))
  have HC1 : Hid ((∀ y ∈ WK.stops N u (WK.list m zs), y.2 = 0) → WK.vcode N u (WK.list m zs) = 0 ∧ WK.vlist N u (WK.list m zs) = (WK.stops N u (WK.list m zs)).map Prod.fst) := fun h => by
    have h0 : WK.vcode N u (WK.list m zs) = 0 := by rw [← WK.first_stops]; exact WK.first_ok h
    refine ⟨h0, ?_⟩
    unfold WK.vlist
    rw [if_pos h0, WK.stops_heads h0]
  have HC2 : Hid (∀ q y, (∀ z ∈ q, z.2 = 0) → q ++ [y] <+: WK.stops N u (WK.list m zs) → y.2 ≠ 0 → WK.vcode N u (WK.list m zs) = y.2 ∧ WK.vlist N u (WK.list m zs) = []) := fun q y h1 h2 h3 => by
    have h0 : WK.vcode N u (WK.list m zs) = y.2 := by rw [← WK.first_stops]; exact WK.first_bad h1 h3 h2
    refine ⟨h0, ?_⟩
    unfold WK.vlist
    rw [if_neg (by rw [h0]; exact h3)]
  clear hg hm
  generalize WK.vcode N u (WK.list m zs) = C at *
  generalize WK.vlist N u (WK.list m zs) = L at *
  refine callsIn_of_wp_marks Try.func14 rfl trivial ?_ rfl
  simp only [Try.ntmps14, List.size_toArray, List.length_cons, List.length_nil, Nat.reduceAdd, Nat.reduceSub, Array.replicate_succ, Array.replicate_zero, List.push_toArray, List.append_toArray, List.nil_append, List.cons_append]
  refine wpIn_wide.2 ?_
  go_wp2_with fail
  refine hsa.mono ?_
  rintro e w9 ⟨rfl, hw9⟩
  rw [hw9]
  clear hw9 w9 hsa
  simp only [World.size_alloc]
  have hB0 := visC_new w p u (.slice ao zs.length cap)
  have hS : ((((((w.alloc (.cells #[.slice none 0 0] 23)).alloc (.cells #[.int .i64 0] 29)).alloc (.cells #[.slice none 0 0] 23)).alloc (.cells #[.pointer (some ⟨p, 0, none⟩)] 25)).alloc (.cells #[.int .i64 u] 3)).alloc (.cells #[.slice ao zs.length cap] 23)).heap.size = w.heap.size + 6 := by simp
  generalize (((((w.alloc (.cells #[.slice none 0 0] 23)).alloc (.cells #[.int .i64 0] 29)).alloc (.cells #[.slice none 0 0] 23)).alloc (.cells #[.pointer (some ⟨p, 0, none⟩)] 25)).alloc (.cells #[.int .i64 u] 3)).alloc (.cells #[.slice ao zs.length cap] 23) = W0 at *
  go_wp2_with fail
  refine (wpIn_wide (n := 5)).1 (range_goesK (by decide) (gf := 54) (lb := #[.pointer (some ⟨w.heap.size + 1 + 1 + 1, 0, none⟩), .pointer (some ⟨w.heap.size + 1 + 1 + 1 + 1, 0, none⟩), .pointer (some ⟨w.heap.size + 1 + 1 + 1 + 1 + 1, 0, none⟩)]) rfl (enters_of Try.func54 (by kernel_rfl) rfl) hgo (fun _ => rfl)
    (fun pre X W => ∃ va, Vis w p u (.slice ao zs.length cap) va (pre.map Prod.fst) X W ∧ ∀ y ∈ pre, y.2 = 0)
    (fun c pre X W => c = .ret ∧ ∃ q y va, pre = q ++ [y] ∧ (∀ z ∈ q, z.2 = 0) ∧ y.2 ≠ 0 ∧ VisC w p u (.slice ao zs.length cap) (.slice none 0 0) y.2 va W ∧ ∀ b, b < w.heap.size + 6 → ¬ X b)
    (fun s X X' A A' h hk hX => by
      obtain ⟨va, h1, h2⟩ := h
      exact ⟨va, h1.on hk hX, h2⟩)
    (fun c s X X' A A' h hk hX => by
      obtain ⟨h1, q, y, va, h2, h3, h4, h5, h6⟩ := h
      obtain ⟨k1, k2⟩ := low_on h6 h5.sz hk hX
      exact ⟨h1, q, y, va, h2, h3, h4, h5.below k1, k2⟩)
    (fun s X A h => by
      obtain ⟨va, h1, h2⟩ := h
      exact ⟨h1.c.bg.cell, h1.c.bf.cell, h1.c.bi.cell, HR.out A h1.c.bel, HG.out A h1.c.bel⟩)
    ⟨.slice none 0 0, ⟨hB0, Own.nil _ _ _ _, fun _ _ h => h, fun _ _ h => h⟩, by simp⟩
    (fun x A => { tmps := #[.pointer (some ⟨p, 0, none⟩), .int .i64 u, .slice ao zs.length cap, undef, undef, undef, .pointer (some ⟨w.heap.size, 0, none⟩), .pointer (some ⟨w.heap.size + 1, 0, none⟩), .pointer (some ⟨w.heap.size + 1 + 1, 0, none⟩), .int .i64 x.1, .int .i64 x.2, .pointer (some ⟨p, 0, none⟩), .int .i64 u, .slice ao zs.length cap, .func (.func 54) #[] #[.pointer (some ⟨w.heap.size + 1 + 1 + 1, 0, none⟩), .pointer (some ⟨w.heap.size + 1 + 1 + 1 + 1, 0, none⟩), .pointer (some ⟨w.heap.size + 1 + 1 + 1 + 1 + 1, 0, none⟩)], .int .i64 x.1, .int .i64 x.2, undef, undef, undef, undef, undef, undef, undef, undef], defers := [] })
    (fun x A => A)
    (fun x W => Below.refl _ W) ?assign ?body ?done ?stop)
  case assign =>
    rintro l ⟨x, cd⟩ W K hK
    simp only [stopV]
    gi_wp2
    exact hK
  case body =>
    rintro l pre ⟨x, cd⟩ X A W ⟨va, hV, hz⟩ hlt hX0 hX1 hA hblk hsz hXb
    have hV2 : Vis w p u (.slice ao zs.length cap) va (pre.map Prod.fst) X W := hV.on (Keeps.refl _ _) (fun b hb => .inl (.inl hb))
    have hXW : ∀ b, X b → b < W.heap.size := fun b hb => by rw [hsz]; exact hXb b hb
    have k0 := hV2.c.r0.cell
    have f0 := hV2.c.r0.frozen
    have k1 := hV2.c.r1.cell
    have f1 := hV2.c.r1.frozen
    have k2 := hV2.c.vs.cell
    have HV : Hid (Vis w p u (.slice ao zs.length cap) va (pre.map Prod.fst) X W) := hV2
    have HZ : Hid (∀ y ∈ pre, y.2 = 0) := hz
    have HXW : Hid (∀ b, X b → b < W.heap.size) := hXW
    have hs6 := hV2.c.sz
    have hpl : (pre.map Prod.fst).length < 1001 := by rw [List.length_map]; omega
    clear hV hV2 hz hblk hgo hB0 hXW hXb hX0 hX1 hA hsz hS hlt
    by_cases hcd : cd = 0
    · have HM : Hid ((pre ++ [(x, cd)]).map Prod.fst = pre.map Prod.fst ++ [x]) := by
        show _ = _
        rw [List.map_append]
        rfl
      have HZ2 : Hid (∀ y ∈ pre ++ [(x, cd)], y.2 = 0) := fun y hy => by
        rcases List.mem_append.1 hy with h | h
        · exact HZ.out y h
        · rw [List.mem_singleton.1 h]
          exact hcd
      generalize pre.map Prod.fst = ls at *
      subst hcd
      gi_wp2_with (gi_at_builtin; refine wpListIn_append_at _ rfl _ _ 23 rfl (w.heap.size + 6) 3 i0 (.int .i64 0) 1 8 Try.underlying23 hi hz0 hz1 hz2 rfl (by decide) va ls.length (ls.map (Value.int .i64)) rfl (HV.out.own.alloc _) ⟨W.heap.size, 0, none⟩ 1 1 [.int .i64 x] rfl rfl (cell_one_new _ _ _) (by simp [Value.oneCell']) (by unfold maxLen; omega) (by omega) (by simp; omega) ?_)
      intro v2 w2 hown2 hgrow2 hat2
      have ho2 : Own .i64 3 w2 (w.heap.size + 6) v2 (ls ++ [x]) := by
        unfold Own
        rw [List.length_append, List.map_append]
        exact hown2
      obtain ⟨b2, hG2, hB2⟩ := HV.out.app HXW.out hgrow2 ho2 hat2
      obtain ⟨g2, cp2, rfl⟩ := ownsRow_succ hown2
      have HN : Hid (∃ va, Vis w p u (.slice ao zs.length cap) va ((pre ++ [(x, 0)]).map Prod.fst) X (w2.setCell ⟨w.heap.size + 1 + 1, 0, none⟩ (.slice (some ⟨g2, 0, none⟩) (ls.length + 1) cp2)) ∧ ∀ y ∈ pre ++ [(x, (0 : Int))], y.2 = 0) := by
        show ∃ _, _
        rw [HM.out]
        exact ⟨_, hG2, HZ2.out⟩
      have HB2 : Hid (Rest X W (w2.setCell ⟨w.heap.size + 1 + 1, 0, none⟩ (.slice (some ⟨g2, 0, none⟩) (ls.length + 1) cp2))) := hB2
      have c2 := b2.cell
      have f2 := b2.frozen
      clear b2 hG2 hB2 ho2 hown2 hgrow2 hat2 k0 f0 k1 f1 k2 HM
      gi_wp2_with fail
      exact ⟨HB2.out, HN.out⟩
    · have hcd2 : (cd != 0) = true := by simpa using hcd
      have HN : Hid (∃ q y va, pre ++ [(x, cd)] = q ++ [y] ∧ (∀ z ∈ q, z.2 = 0) ∧ y.2 ≠ 0 ∧ VisC w p u (.slice ao zs.length cap) (.slice none 0 0) y.2 va ((W.setCell ⟨w.heap.size, 0, none⟩ (.slice none 0 0)).setCell ⟨w.heap.size + 1, 0, none⟩ (.int .i64 cd)) ∧ ∀ b, b < w.heap.size + 6 → ¬ X b) := ⟨pre, (x, cd), va, rfl, HZ.out, hcd, HV.out.c.ret _ _, HV.out.nx⟩
      have HA : Hid (Rest X W ((W.setCell ⟨w.heap.size, 0, none⟩ (.slice none 0 0)).setCell ⟨w.heap.size + 1, 0, none⟩ (.int .i64 cd))) := ((Keeps.refl _ W).setCell (p := ⟨w.heap.size, 0, none⟩) (.inl (fun h => HV.out.nx w.heap.size (by omega) h)) _).setCell (p := ⟨w.heap.size + 1, 0, none⟩) (.inl (fun h => HV.out.nx (w.heap.size + 1) (by omega) h)) _
      gi_wp2_with fail
      exact ⟨HA.out, rfl, HN.out⟩
  case done =>
    rintro ys W rfl ⟨va, hV, hz⟩ hK
    obtain ⟨rfl, rfl⟩ := HC1.out hz
    obtain ⟨ao2, cap2, hva, -⟩ := hV.own.at
    generalize ((WK.stops N u (WK.list m zs)).map Prod.fst).length = n2 at hva
    subst hva
    have k0 := hV.c.r0.cell
    have f0 := hV.c.r0.frozen
    have k1 := hV.c.r1.cell
    have f1 := hV.c.r1.frozen
    have k2 := hV.c.vs.cell
    have HV : Hid (VisC w p u (.slice ao zs.length cap) (.slice ao2 n2 cap2) 0 (.slice ao2 n2 cap2) ((W.setCell ⟨w.heap.size, 0, none⟩ (.slice ao2 n2 cap2)).setCell ⟨w.heap.size + 1, 0, none⟩ (.int .i64 0))) := hV.c.ret (.slice ao2 n2 cap2) 0
    have HO : Hid (Own .i64 3 ((W.setCell ⟨w.heap.size, 0, none⟩ (.slice ao2 n2 cap2)).setCell ⟨w.heap.size + 1, 0, none⟩ (.int .i64 0)) (w.heap.size + 6) (.slice ao2 n2 cap2) ((WK.stops N u (WK.list m zs)).map Prod.fst)) := by
      have h1 := (keeps_set W w.heap.size 0 (.slice ao2 n2 cap2)).row hV.own (fun g hg e => by have := hV.own.block g hg; omega)
      exact (keeps_set _ (w.heap.size + 1) 0 (.int .i64 0)).row h1 (fun g hg e => by have := hV.own.block g hg; omega)
    have HK : Hid (((W.setCell ⟨w.heap.size, 0, none⟩ (.slice ao2 n2 cap2)).setCell ⟨w.heap.size + 1, 0, none⟩ (.int .i64 0)).heap[W0.heap.size]? = some (.deferred (some []))) := by
      show _ = _
      rw [Below.heap_setCell _ _ _ _ (by show W0.heap.size ≠ w.heap.size + 1; omega), Below.heap_setCell _ _ _ _ (by show W0.heap.size ≠ w.heap.size; omega)]
      exact hK
    clear hV hz hgo hB0 hK
    rw [hS] at HK
    go_wp2_with fail
    exact visits_out rfl rfl HV.out HO.out HK.out (by omega)
  case stop =>
    rintro c pre W hpre ⟨rfl, q, y, va, rfl, hq, hy, hc, -⟩ hK
    obtain ⟨rfl, rfl⟩ := HC2.out _ _ hq hpre hy
    clear hgo hB0
    rw [hS] at hK
    gi_wp2
    exact visits_out rfl rfl hc (Own.nil _ _ _ _) hK (by omega)
/-- Visits: the document's answer. -/
theorem visits_any {w : World} {p N most : Nat} {m : GM.M} (hg : GMem w p N most m) (hm : GM.Good most m) (u : Int) {v : Value} {zs : List Int} (hrow : Row .i64 w v zs) (hzs : zs.length ≤ 1000) :
    Calls Try.prog 14 #[.pointer (some ⟨p, 0, none⟩), .int .i64 u, v] w fun e w' => ∃ r, e = .returned (.tuple #[r, .int .i64 (WK.vcode N u (WK.list m zs))]) ∧ Own .i64 3 w' w.heap.size r (WK.vlist N u (WK.list m zs)) ∧ Below w.heap.size w w' := callsIn_wide.1 (visits_in hg hm u hrow hzs)
end Go.Proofs.Ytjnihkfnnokmdaa
