/-
  WitPick, WitMem, WitOut.
-/
import Derived.Test.YtkcfepppnclniaaGreatDoorMmMeshCon
import Derived.Maps.AppendAt
import Derived.Laws.CopyOwn
import Derived.Deep.CutBlock
import Derived.Deep.RegionHeld3
import Derived.Deep.OwnRows
section
/-
  How layer 13's document finds what is settled next: one vertex behind the other; what it keeps in memory meanwhile.
-/
namespace Go.Proofs.YtkcfepppnclniaaGreatDoor
open Go.RowKit
namespace WM
/-- Of the vertices below k, the one that would be settled next (-1: none), and how far it is. -/
structure Pick (N : Nat) (D : Nat → Nat → Int) (s : Nat) (W : Nat → Bool) (L : List (Nat × Int)) (k : Nat) (x d : Int) : Prop where
  hi : 0 ≤ d ∧ d ≤ 4611686018427387906
  le : ∀ w, w < k → Free N W L w → d ≤ key D s L w
  is : (x = -1 ∧ d = 4611686018427387906) ∨ ∃ v : Nat, x = v ∧ v < k ∧ Free N W L v ∧ key D s L v = d ∧ d < 4611686018427387906 ∧ ∀ w, w < k → Free N W L w → key D s L w = d → v ≤ w
section
variable {N : Nat} {D : Nat → Nat → Int} {s : Nat} {W : Nat → Bool} {L : List (Nat × Int)} {k : Nat} {x d : Int}
theorem Pick.zero (N : Nat) (D : Nat → Nat → Int) (s : Nat) (W : Nat → Bool) (L : List (Nat × Int)) : Pick N D s W L 0 (-1) 4611686018427387906 :=
  ⟨by decide, fun w h => absurd h (by omega), .inl ⟨rfl, rfl⟩⟩
theorem Pick.skip (h : Pick N D s W L k x d) (hf : ¬ Free N W L k) : Pick N D s W L (k + 1) x d := by
  refine ⟨h.hi, fun w hw hfw => ?_, ?_⟩
  · by_cases e : w = k
    · rw [e] at hfw; exact absurd hfw hf
    · exact h.le w (by omega) hfw
  · rcases h.is with e | ⟨v, h1, h2, h3, h4, h5, h6⟩
    · exact .inl e
    · refine .inr ⟨v, h1, by omega, h3, h4, h5, fun w hw hfw he => ?_⟩
      by_cases e : w = k
      · rw [e] at hfw; exact absurd hfw hf
      · exact h6 w (by omega) hfw he
theorem Pick.take (h : Pick N D s W L k x d) (hf : Free N W L k) (hl : key D s L k < d) : Pick N D s W L (k + 1) (k : Nat) (key D s L k) := by
  have hb := key_bd D s L k
  have hh := h.hi
  refine ⟨hb, fun w hw hfw => ?_, .inr ⟨k, rfl, by omega, hf, rfl, by omega, fun w hw hfw he => ?_⟩⟩
  · by_cases e : w = k
    · rw [e]; exact Int.le_refl _
    · have := h.le w (by omega) hfw
      omega
  · by_cases e : w = k
    · omega
    · have := h.le w (by omega) hfw
      omega
theorem Pick.pass (h : Pick N D s W L k x d) (hl : ¬ key D s L k < d) : Pick N D s W L (k + 1) x d := by
  refine ⟨h.hi, fun w hw hfw => ?_, ?_⟩
  · by_cases e : w = k
    · rw [e]; omega
    · exact h.le w (by omega) hfw
  · rcases h.is with e | ⟨v, h1, h2, h3, h4, h5, h6⟩
    · exact .inl e
    · refine .inr ⟨v, h1, by omega, h3, h4, h5, fun w hw hfw he => ?_⟩
      by_cases e : w = k
      · omega
      · exact h6 w (by omega) hfw he
theorem Pick.none (h : Pick N D s W L N x d) (hx : x < 0) (X : Int) : Stuck N D s W X L := by
  intro v e hn
  have h1 := hn.lt
  have h2 := h.le v hn.free.1 hn.free
  rw [hn.is] at h2
  rcases h.is with ⟨-, e1⟩ | ⟨v, h1, -⟩
  · omega
  · omega
theorem Pick.next (h : Pick N D s W L N x d) (hx : ¬ x < 0) : ∃ v : Nat, x = v ∧ v < N ∧ Next N D s W L v d := by
  rcases h.is with ⟨e1, -⟩ | ⟨v, h1, h2, h3, h4, h5, h6⟩
  · omega
  · exact ⟨v, h1, h2, h3, h4, h5, fun w hw => h.le w hw.1 hw, fun w hw => h6 w hw.1 hw⟩
theorem Pick.far (h : Pick N D s W L N x d) (hx : ¬ x < 0) {X : Int} (hd : X < d) : Stuck N D s W X L := by
  obtain ⟨v, -, -, hn⟩ := h.next hx
  intro u e hu
  obtain ⟨-, rfl⟩ := hn.one hu
  omega
/-- Is it free: as the document asks it. -/
theorem free_iff (hk : k < N) : Free N W L k ↔ has L k = false ∧ W k = false := ⟨fun h => ⟨h.2.2, h.2.1⟩, fun h => ⟨hk, h.2, h.1⟩⟩
end
end WM
/-- 'append' onto a row of the call's own, with where the new one lies. -/
theorem wpList_append_at {P : Program} (w : World) {ops : Array Oper} {rest : List Oper} {o : Oper} {a : Act} {Q : Exit → Act → World → Prop} (hgd : o.guard = none) (s x : Operand) (t : TypeId)
    (ho : o.op = .call { callee := .builtin .append, args := #[s, x], argTypes := #[t, t] })
    (k : IntKind) (base : Nat) (e : TypeId) (i : TypeInfo) (bytes : Nat) (ht : P.underlying t = some (.slice e)) (hi : P.info? e = some i) (hz : i.zero = some (.int k 0)) (hsize : i.size = 1) (hby : i.bytes = bytes)
    (v : Value) (xs : List Int) (hs : a.eval s = v) (hown : Own k e w base v xs) (ad : Addr) (y : Int) (c : Nat) (hx : a.eval x = .slice (some ad) 1 c) (hc : w.cell? ad = some (.int k y))
    (h63 : xs.length + 1 ≤ maxLen) (hbytes : (xs.length + 1) * bytes ≤ 140737488355328) (hbase : base ≤ w.heap.size)
    (h : ∀ v' w', Own k e w' base v' (xs ++ [y]) → w.grownBy w' v.ownBlock → (v'.ownBlock = v.ownBlock ∨ v'.ownBlock = some w.heap.size) → wpList P ops Q rest (a.put o.dst v') w') : wpList P ops Q (o :: rest) a w := by
  refine wpList_plain hgd fun K hK => ?_
  obtain ⟨v', w', hrun, r1, r2, _, r3⟩ := run_append_own_at (P := P) w base t o.type e i (.int k 0) 1 bytes ht hi hz hsize hby rfl (by decide) v xs.length (xs.map (Value.int k)) hown ad 1 c [.int k y] (by simp) (fun j u hj => by
    match j, hj with
    | 0, hj =>
      simp at hj
      subst hj
      simpa [Addr.add] using hc) (fun u hu => by simp at hu; subst hu; rfl) h63 hbytes hbase
  unfold Oper.wp
  simp [execOp, ho, resolve, invoke, builtin, hs, hx, hrun, Result.andThen]
  refine hK _ _ (h v' w' ?_ r2 r3)
  unfold Own
  rw [List.length_append, List.map_append]
  exact r1
end Go.Proofs.YtkcfepppnclniaaGreatDoor
end

section
/-
  The document's Found in memory while it is filled (layer 13): its answer's cells at B, its row of truth values at B + 1, itself at B + 2; two rows of the call's own.
-/
namespace Go.Proofs.YtkcfepppnclniaaGreatDoor
open Go.RowKit
theorem infoBW : (Tryz.prog.info? 4).map (fun i => (i.zero, i.size, i.bytes)) = some (some (.bool false), 1, 1) := by kernel_rfl
structure RF (w : World) (B N : Nat) (sv dv : Value) (zs ds : List Int) (bs : List Bool) (W : World) : Prop where
  r0 : W.heap[B]? = some (.cells #[.slice none 0 0, .slice none 0 0, .slice none 0 0] 139 (0, 0))
  c0 : W.cell? ⟨B + 2, 0, none⟩ = some sv
  c1 : W.cell? ⟨B + 2, 1, none⟩ = some dv
  c2 : W.cell? ⟨B + 2, 2, none⟩ = some (.slice (some ⟨B + 1, 0, none⟩) N N)
  fz : ∀ j, W.frozen? ⟨B + 2, j, none⟩ = false
  os : Own .i64 3 W (B + 3) sv zs
  od : Own .i64 3 W (B + 3) dv ds
  tb : W.ownsRow (B + 1) 4 1 (.slice (some ⟨B + 1, 0, none⟩) N N) N (bs.map Value.bool)
  ne : ∀ g, sv.ownBlock = some g → dv.ownBlock ≠ some g
  bel : Below B w W
  sz : B + 3 ≤ W.heap.size
section
variable {w W W' : World} {B N : Nat} {sv dv : Value} {zs ds : List Int} {bs : List Bool}
theorem heap_lt {o : Obj} {b : Nat} (h : W.heap[b]? = some o) : b < W.heap.size := (Array.getElem?_eq_some_iff.1 h).1
theorem RF.kept {F : Nat → Prop} (h : RF w B N sv dv zs ds bs W) (hk : Keeps F W W') (h0 : ¬ F B) (h1 : ¬ F (B + 1)) (h2 : ¬ F (B + 2)) (hs : ∀ g, sv.ownBlock = some g → ¬ F g) (hd : ∀ g, dv.ownBlock = some g → ¬ F g) (hF : ∀ b, F b → B ≤ b) (_hB : B ≤ w.heap.size) : RF w B N sv dv zs ds bs W' :=
  ⟨(hk.block _ (heap_lt h.r0) h0).trans h.r0, hk.cell h.c0 h2, hk.cell h.c1 h2, hk.cell h.c2 h2, fun j => (hk.frozen (p := ⟨B + 2, j, none⟩) (by have := h.sz; show B + 2 < _; omega) h2).trans (h.fz j), hk.row h.os hs, hk.row h.od hd, hk.row h.tb (fun g hg e => by
    have : B + 1 = g := by simpa [Value.ownBlock] using hg
    rw [← this] at e
    exact h1 e), h.ne, h.bel.trans (hk.below hF (by have := h.sz; omega)), Nat.le_trans h.sz hk.size⟩
theorem RF.on (h : RF w B N sv dv zs ds bs W) (hb : Below W.heap.size W W') (hB : B ≤ w.heap.size) : RF w B N sv dv zs ds bs W' :=
  h.kept (Below.keeps hb (fun _ => False)) id id id (fun _ _ => id) (fun _ _ => id) (fun _ h => absurd h id) hB
theorem RF.lit (h : RF w B N sv dv zs ds bs W) (_hB : B ≤ w.heap.size) {o : Obj} {W2 : World} {row : Option Nat} (hg : (W.alloc o).grownBy W2 row) (hr : ∀ g, row = some g → B + 3 ≤ g) : Keeps (fun b => row = some b) W W2 ∧ Below B w W2 ∧ B + 3 ≤ W2.heap.size ∧ ∀ b, b < B + 3 → ¬ row = some b := by
  have hk : Keeps (fun b => row = some b) W W2 := ((Keeps.refl _ _).alloc o).grown hg (fun k hk => .inl hk)
  refine ⟨hk, h.bel.trans (hk.below (fun b hb => by have := hr b hb; omega) (by have := h.sz; omega)), Nat.le_trans h.sz hk.size, fun b hb e => by have := hr b e; omega⟩
/-- A number more in the first list. -/
theorem RF.app1 (h : RF w B N sv dv zs ds bs W) (hB : B ≤ w.heap.size) {o : Obj} {W2 : World} (hg : (W.alloc o).grownBy W2 sv.ownBlock) {sv' : Value} {zs' : List Int} (ho : Own .i64 3 W2 (B + 3) sv' zs') (h3 : sv'.ownBlock = sv.ownBlock ∨ sv'.ownBlock = some (W.alloc o).heap.size) :
    W2.cell? ⟨B + 2, 0, none⟩ = some sv ∧ W2.frozen? ⟨B + 2, 0, none⟩ = false ∧ RF w B N sv' dv zs' ds bs (W2.setCell ⟨B + 2, 0, none⟩ sv') := by
  obtain ⟨hk, hb, hsz, no⟩ := h.lit hB hg (fun g e => h.os.block g e)
  have ks : Keeps (fun b => b = B + 2) W2 (W2.setCell ⟨B + 2, 0, none⟩ sv') := keeps_set _ _ _ _
  have k0 : W2.cell? ⟨B + 2, 0, none⟩ = some sv := hk.cell h.c0 (no _ (by show B + 2 < _; omega))
  have kf : ∀ j, W2.frozen? ⟨B + 2, j, none⟩ = false := fun j => (hk.frozen (p := ⟨B + 2, j, none⟩) (by have := h.sz; show B + 2 < _; omega) (no _ (by show B + 2 < _; omega))).trans (h.fz j)
  have hod : Own .i64 3 W2 (B + 3) dv ds := hk.row h.od (fun g hg e => h.ne g e hg)
  have htb : W2.ownsRow (B + 1) 4 1 (.slice (some ⟨B + 1, 0, none⟩) N N) N (bs.map Value.bool) := hk.row h.tb (fun g hg e => by
    have : B + 1 = g := by simpa [Value.ownBlock] using hg
    rw [← this] at e
    exact no _ (by omega) e)
  refine ⟨k0, kf 0, ⟨(ks.block _ (by omega) (by omega)).trans ((hk.block _ (heap_lt h.r0) (no _ (by omega))).trans h.r0), ?_, ?_, ?_, fun j => ?_, ks.row ho (fun g hg e => by have := ho.block g hg; omega), ks.row hod (fun g hg e => by have := hod.block g hg; omega), ks.row htb (fun g hg e => by
    have : B + 1 = g := by simpa [Value.ownBlock] using hg
    omega), fun g hg e => ?_, hb.setCell (p := ⟨B + 2, 0, none⟩) (by show B ≤ B + 2; omega) _, by rw [setCell_size]; exact hsz⟩⟩
  · exact World.cell?_setCell_same _ _ _ k0
  · rw [World.cell?_setCell_other _ _ _ _ (by simp)]; exact hk.cell h.c1 (no _ (by show B + 2 < _; omega))
  · rw [World.cell?_setCell_other _ _ _ _ (by simp)]; exact hk.cell h.c2 (no _ (by show B + 2 < _; omega))
  · rw [World.frozen?_setCell]; exact kf j
  · rcases h3 with e2 | e2
    · rw [e2] at hg
      exact h.ne g hg e
    · rw [e2] at hg
      have h4 := (World.ownsRow.lt h.od g e).2
      have : (W.alloc o).heap.size = g := Option.some.inj hg
      rw [World.size_alloc] at this
      omega
/-- A number more in the second list. -/
theorem RF.app2 (h : RF w B N sv dv zs ds bs W) (hB : B ≤ w.heap.size) {o : Obj} {W2 : World} (hg : (W.alloc o).grownBy W2 dv.ownBlock) {dv' : Value} {ds' : List Int} (ho : Own .i64 3 W2 (B + 3) dv' ds') (h3 : dv'.ownBlock = dv.ownBlock ∨ dv'.ownBlock = some (W.alloc o).heap.size) :
    W2.cell? ⟨B + 2, 1, none⟩ = some dv ∧ W2.frozen? ⟨B + 2, 1, none⟩ = false ∧ RF w B N sv dv' zs ds' bs (W2.setCell ⟨B + 2, 1, none⟩ dv') := by
  obtain ⟨hk, hb, hsz, no⟩ := h.lit hB hg (fun g e => h.od.block g e)
  have ks : Keeps (fun b => b = B + 2) W2 (W2.setCell ⟨B + 2, 1, none⟩ dv') := keeps_set _ _ _ _
  have k0 : W2.cell? ⟨B + 2, 1, none⟩ = some dv := hk.cell h.c1 (no _ (by show B + 2 < _; omega))
  have kf : ∀ j, W2.frozen? ⟨B + 2, j, none⟩ = false := fun j => (hk.frozen (p := ⟨B + 2, j, none⟩) (by have := h.sz; show B + 2 < _; omega) (no _ (by show B + 2 < _; omega))).trans (h.fz j)
  have hos : Own .i64 3 W2 (B + 3) sv zs := hk.row h.os (fun g hg e => h.ne g hg e)
  have htb : W2.ownsRow (B + 1) 4 1 (.slice (some ⟨B + 1, 0, none⟩) N N) N (bs.map Value.bool) := hk.row h.tb (fun g hg e => by
    have : B + 1 = g := by simpa [Value.ownBlock] using hg
    rw [← this] at e
    exact no _ (by omega) e)
  refine ⟨k0, kf 1, ⟨(ks.block _ (by omega) (by omega)).trans ((hk.block _ (heap_lt h.r0) (no _ (by omega))).trans h.r0), ?_, ?_, ?_, fun j => ?_, ks.row hos (fun g hg e => by have := hos.block g hg; omega), ks.row ho (fun g hg e => by have := ho.block g hg; omega), ks.row htb (fun g hg e => by
    have : B + 1 = g := by simpa [Value.ownBlock] using hg
    omega), fun g hg e => ?_, hb.setCell (p := ⟨B + 2, 1, none⟩) (by show B ≤ B + 2; omega) _, by rw [setCell_size]; exact hsz⟩⟩
  · rw [World.cell?_setCell_other _ _ _ _ (by simp)]; exact hk.cell h.c0 (no _ (by show B + 2 < _; omega))
  · exact World.cell?_setCell_same _ _ _ k0
  · rw [World.cell?_setCell_other _ _ _ _ (by simp)]; exact hk.cell h.c2 (no _ (by show B + 2 < _; omega))
  · rw [World.frozen?_setCell]; exact kf j
  · rcases h3 with e2 | e2
    · rw [e2] at e
      exact h.ne g hg e
    · rw [e2] at e
      have h4 := (World.ownsRow.lt h.os g hg).2
      have : (W.alloc o).heap.size = g := Option.some.inj e
      rw [World.size_alloc] at this
      omega
/-- A truth value is laid. -/
theorem RF.mark (h : RF w B N sv dv zs ds bs W) (_hB : B ≤ w.heap.size) (j : Nat) (b : Bool) : RF w B N sv dv zs ds (bs.set j b) (W.setCell ⟨B + 1, j, none⟩ (.bool b)) := by
  have ks : Keeps (fun x => x = B + 1) W (W.setCell ⟨B + 1, j, none⟩ (.bool b)) := keeps_set _ _ _ _
  have ht := (World.ownsRow.stored h.tb j (.bool b)).1
  refine ⟨(ks.block _ (heap_lt h.r0) (by omega)).trans h.r0, ks.cell h.c0 (by show ¬ B + 2 = _; omega), ks.cell h.c1 (by show ¬ B + 2 = _; omega), ks.cell h.c2 (by show ¬ B + 2 = _; omega), fun i => ?_, ks.row h.os (fun g hg e => by have := h.os.block g hg; omega), ks.row h.od (fun g hg e => by have := h.od.block g hg; omega), ?_, h.ne, h.bel.setCell (p := ⟨B + 1, j, none⟩) (by show B ≤ B + 1; omega) _, by rw [setCell_size]; exact h.sz⟩
  · rw [World.frozen?_setCell]; exact h.fz i
  · rw [List.map_set]
    exact ht
/-- How many are settled, as memory tells it. -/
def lenAt (w : World) (b : Nat) : Nat := match w.cell? ⟨b, 0, none⟩ with
  | some (.slice _ n _) => n
  | _ => 0
theorem RF.lenAt (h : RF w B N sv dv zs ds bs W) : lenAt W (B + 2) = zs.length := by
  obtain ⟨a, cap, rfl, -⟩ := h.os.row
  unfold Go.Proofs.YtkcfepppnclniaaGreatDoor.lenAt
  rw [h.c0]
end
end Go.Proofs.YtkcfepppnclniaaGreatDoor
end

section
/-
  What the walk of the document's Search leans on (layer 13): its memory as it begins and as it ends, what is touched.
-/
namespace Go.Proofs.YtkcfepppnclniaaGreatDoor
open Go.RowKit
theorem rf_new (w : World) (N : Nat) (hN : N ≤ 24) : ∃ w3, w3 = ((w.alloc (.cells #[.slice none 0 0, .slice none 0 0, .slice none 0 0] 139)).alloc (.cells (madeCells #[.bool false] N) 4)).alloc (.cells #[.slice none 0 0, .slice none 0 0, .slice (some ⟨w.heap.size + 1, 0, none⟩) N N] 139) ∧
    RF w w.heap.size N (.slice none 0 0) (.slice none 0 0) [] [] (List.replicate N false) w3 := by
  refine ⟨_, rfl, ?_⟩
  have s1 := World.size_alloc w (.cells #[.slice none 0 0, .slice none 0 0, .slice none 0 0] 139)
  have b1 : Below w.heap.size w (w.alloc (.cells #[.slice none 0 0, .slice none 0 0, .slice none 0 0] 139)) := (Below.refl _ _).alloc (Nat.le_refl _) _
  have n1 := heap_alloc_new w (.cells #[.slice none 0 0, .slice none 0 0, .slice none 0 0] 139)
  generalize w.alloc (.cells #[.slice none 0 0, .slice none 0 0, .slice none 0 0] 139) = w1 at *
  have h2 := World.ownsRow_lit (base := w.heap.size + 1) (e := 4) (size := 1) w1 (madeCells #[.bool false] N) N (by omega) (by unfold maxLen; omega) (by rw [size_madeCells]; omega)
  rw [toList_madeCells_one, s1] at h2
  have h2 : (w1.alloc (.cells (madeCells #[.bool false] N) 4)).ownsRow (w.heap.size + 1) 4 1 (.slice (some ⟨w.heap.size + 1, 0, none⟩) N N) N ((List.replicate N false).map Value.bool) := by simpa using h2
  have s2 := World.size_alloc w1 (.cells (madeCells #[.bool false] N) 4)
  have b2 : Below w.heap.size w (w1.alloc (.cells (madeCells #[.bool false] N) 4)) := b1.alloc (by omega) _
  have n2 : (w1.alloc (.cells (madeCells #[.bool false] N) 4)).heap[w.heap.size]? = w1.heap[w.heap.size]? := Below.heap_alloc _ _ _ (by omega)
  rw [n1] at n2
  generalize w1.alloc (.cells (madeCells #[.bool false] N) 4) = w2 at *
  have n3 : (w2.alloc (.cells #[.slice none 0 0, .slice none 0 0, .slice (some ⟨w.heap.size + 1, 0, none⟩) N N] 139)).heap[w.heap.size]? = w2.heap[w.heap.size]? := Below.heap_alloc _ _ _ (by omega)
  rw [n2] at n3
  have e2 : w.heap.size + 2 = w2.heap.size := by omega
  have n4 := heap_alloc_new w2 (.cells #[.slice none 0 0, .slice none 0 0, .slice (some ⟨w.heap.size + 1, 0, none⟩) N N] 139)
  rw [← e2] at n4
  refine ⟨n3, ?_, ?_, ?_, fun j => ?_, Own.nil _ _ _ _, Own.nil _ _ _ _, h2.alloc _, fun g hg => by simp [Value.ownBlock] at hg, b2.alloc (by omega) _, by simp; omega⟩
  · unfold World.cell?; rw [n4]; rfl
  · unfold World.cell?; rw [n4]; rfl
  · unfold World.cell?; rw [n4]; rfl
  · unfold World.frozen?; rw [n4]; simp
theorem infoIW : (Tryz.prog.info? 3).map (fun i => (i.zero, i.size, i.bytes)) = some (some (.int .i64 0), 1, 8) := by kernel_rfl
/-- The vertices of a set. -/
def WM.outOf (O : Nat) : Nat → Bool := fun v => BM.has O ((v : Nat) : Int)
/-- What a vertex is held against: 0 to the first, the least sum to the others. -/
theorem key_if (D : Nat → Nat → Int) (s : Nat) (L : List (Nat × Int)) (n i : Nat) (hn : n = L.length) : WM.key D s L i = if n = 0 ∧ i = s then 0 else WM.sum D L i := by
  unfold WM.key
  by_cases h : n = 0
  · have e : L = [] := List.eq_nil_of_length_eq_zero (by omega)
    simp [h, e]
  · have e : L ≠ [] := fun e => h (by rw [hn, e]; rfl)
    simp [h, e]
theorem results_cellW {P : Program} {fn : Func} {tmps : Array Value} {w : World} {a : Nat} {t : TypeId} {ad : Addr} {v : Value} (hr : fn.results = #[.cell a t]) (ht : tmps[a]?.getD undef = .pointer (some ad)) (hl : (loadVar t ad).run P w = .ok v w) : (results fn tmps).run P w = .ok v w := by
  unfold results
  rw [hr]
  simp [ht, asAddr, hl]
theorem infoFW : (Tryz.prog.info? 139).map (·.size) = some 3 := by kernel_rfl
theorem load_found {W : World} {B : Nat} {x y z : Value} (h0 : W.cell? ⟨B, 0, none⟩ = some x) (h1 : W.cell? ⟨B, 1, none⟩ = some y) (h2 : W.cell? ⟨B, 2, none⟩ = some z) : (loadVar 139 ⟨B, 0, none⟩).run Tryz.prog W = .ok (.agg #[x, y, z]) W := by
  have hl : (loadCells ⟨B, 0, none⟩ [x, y, z].length).run Tryz.prog W = .ok [x, y, z].toArray W := run_loadCells_list (P := Tryz.prog) W ⟨B, 0, none⟩ [x, y, z] (fun j v hj => by
    match j, hj with
    | 0, hj => simp at hj; subst hj; simpa [Addr.add] using h0
    | 1, hj => simp at hj; subst hj; simpa [Addr.add] using h1
    | 2, hj => simp at hj; subst hj; simpa [Addr.add] using h2)
  have hi := infoFW
  cases hq : Tryz.prog.info? 139 with
  | none => simp [hq] at hi
  | some i =>
    have hs : i.size = [x, y, z].length := by simpa [hq] using hi
    have hagg : (isAgg 139).run Tryz.prog W = .ok true W := by
      unfold isAgg
      rw [Sem.run_bind, run_underlying Tryz.underlying139 W]
      rfl
    simp [loadVar, Sem.run_bind, hagg, sizeOf, typeInfo, hq, hs]
    have hl2 : (loadCells ⟨B, 0, none⟩ 3).run Tryz.prog W = .ok #[x, y, z] W := hl
    rw [hl2]
    rfl
/-- Found is laid into the answer's cells. -/
theorem RF.answer {w W : World} {B N : Nat} {sv dv : Value} {zs ds : List Int} {bs : List Bool} (h : RF w B N sv dv zs ds bs W) (_hB : B ≤ w.heap.size) :
    ∃ W', W' = ((W.setCell ⟨B, 0, none⟩ sv).setCell ⟨B, 1, none⟩ dv).setCell ⟨B, 2, none⟩ (.slice (some ⟨B + 1, 0, none⟩) N N) ∧ (loadVar 139 ⟨B, 0, none⟩).run Tryz.prog W' = .ok (.agg #[sv, dv, .slice (some ⟨B + 1, 0, none⟩) N N]) W' ∧ Row .i64 W' sv zs ∧ Row .i64 W' dv ds ∧
      W'.ownsRow (B + 1) 4 1 (.slice (some ⟨B + 1, 0, none⟩) N N) N (bs.map Value.bool) ∧ Below B w W' := by
  have e0 : W.cell? ⟨B, 0, none⟩ = some (.slice none 0 0) := by unfold World.cell?; rw [h.r0]; rfl
  have e1 : W.cell? ⟨B, 1, none⟩ = some (.slice none 0 0) := by unfold World.cell?; rw [h.r0]; rfl
  have e2 : W.cell? ⟨B, 2, none⟩ = some (.slice none 0 0) := by unfold World.cell?; rw [h.r0]; rfl
  have k1 : Keeps (fun b => b = B) W (((W.setCell ⟨B, 0, none⟩ sv).setCell ⟨B, 1, none⟩ dv).setCell ⟨B, 2, none⟩ (.slice (some ⟨B + 1, 0, none⟩) N N)) := ((keeps_set W B 0 sv).trans (keeps_set _ B 1 dv) (fun _ h => .inl h)).trans (keeps_set _ B 2 _) (fun _ h => .inl h)
  have c0 := World.cell?_setCell_same W ⟨B, 0, none⟩ sv e0
  have c1 : (W.setCell ⟨B, 0, none⟩ sv).cell? ⟨B, 1, none⟩ = some (.slice none 0 0) := by rw [World.cell?_setCell_other _ _ _ _ (by simp)]; exact e1
  have c2 : (W.setCell ⟨B, 0, none⟩ sv).cell? ⟨B, 2, none⟩ = some (.slice none 0 0) := by rw [World.cell?_setCell_other _ _ _ _ (by simp)]; exact e2
  have b0 : ((W.setCell ⟨B, 0, none⟩ sv).setCell ⟨B, 1, none⟩ dv).cell? ⟨B, 0, none⟩ = some sv := by rw [World.cell?_setCell_other _ _ _ _ (by simp)]; exact c0
  have b1 := World.cell?_setCell_same _ ⟨B, 1, none⟩ dv c1
  have b2 : ((W.setCell ⟨B, 0, none⟩ sv).setCell ⟨B, 1, none⟩ dv).cell? ⟨B, 2, none⟩ = some (.slice none 0 0) := by rw [World.cell?_setCell_other _ _ _ _ (by simp)]; exact c2
  refine ⟨_, rfl, load_found (by rw [World.cell?_setCell_other _ _ _ _ (by simp)]; exact b0) (by rw [World.cell?_setCell_other _ _ _ _ (by simp)]; exact b1) (World.cell?_setCell_same _ _ _ b2), ?_, ?_, ?_, h.bel.trans (k1.below (fun b hb => by omega) (by have := h.sz; omega))⟩
  · exact Own.row (k1.row h.os (fun g hg e => by have := h.os.block g hg; omega))
  · exact Own.row (k1.row h.od (fun g hg e => by have := h.od.block g hg; omega))
  · exact k1.row h.tb (fun g hg e => by
      have : B + 1 = g := by simpa [Value.ownBlock] using hg
      omega)
/-- Is a vertex touched, as far as the first t of what is settled tell. -/
def WM.tchB (D : Nat → Nat → Int) (W : Nat → Bool) (L : List (Nat × Int)) (v t : Nat) : Bool := WM.has L v || (!W v && (L.take t).any (fun x => decide (D x.1 v < 4611686018427387906)))
theorem WM.tchB_zero {D : Nat → Nat → Int} {W : Nat → Bool} {L : List (Nat × Int)} {v : Nat} : WM.tchB D W L v 0 = WM.has L v := by simp [WM.tchB]
theorem WM.tchB_step {D : Nat → Nat → Int} {W : Nat → Bool} {L : List (Nat × Int)} {v t : Nat} (ht : t < L.length) : ∃ u : Nat, (WM.vsL L)[t]?.getD 0 = (u : Int) ∧ WM.tchB D W L v (t + 1) = (WM.tchB D W L v t || (!W v && decide (D u v < 4611686018427387906))) := by
  refine ⟨L[t].1, ?_, ?_⟩
  · unfold WM.vsL
    rw [List.getElem?_map, List.getElem?_eq_getElem ht]
    rfl
  · unfold WM.tchB
    rw [List.take_succ_eq_append_getElem ht, List.any_append]
    simp only [List.any_cons, List.any_nil, Bool.or_false]
    cases WM.has L v <;> cases W v <;> simp
theorem WM.tchB_iff {N : Nat} {D : Nat → Nat → Int} {W : Nat → Bool} {L : List (Nat × Int)} {v : Nat} (hv : v < N) : WM.tchB D W L v L.length = true ↔ WM.Tch N D W L v := by
  unfold WM.tchB WM.Tch
  rw [List.take_length, Bool.or_eq_true, Bool.and_eq_true, List.any_eq_true]
  simp only [decide_eq_true_eq, Bool.not_eq_true', hv, true_and]
end Go.Proofs.YtkcfepppnclniaaGreatDoor
end
