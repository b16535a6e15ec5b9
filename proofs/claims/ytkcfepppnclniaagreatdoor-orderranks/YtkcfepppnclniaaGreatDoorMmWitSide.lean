/-
  WitSide, RangeS.
-/
import Derived.Test.YtkcfepppnclniaaGreatDoorMmNHeapEI
import Derived.Test.YtkcfepppnclniaaGreatDoorMmNHeapCI
import Derived.Test.YtkcfepppnclniaaGreatDoorMmStampMath
import Derived.Test.YtkcfepppnclniaaGreatDoorMmWitWait
import Derived.Test.YtkcfepppnclniaaGreatDoorMmMeshMem
import Derived.Test.YtkcfepppnclniaaGreatDoorMmGraphA
import Derived.Test.YtkcfepppnclniaaGreatDoorMmWitMath
import Derived.Test.YtkcfepppnclniaaGreatDoorMmRange
import Derived.Deep.RegionHeld3
import Derived.BigQuiet
import Derived.Deep.QuietTactic
section
/-
  A search of the program's in memory: its struct, its heap, its row; what each call of the heap and of the row does.
-/
namespace Go.Proofs.YtkcfepppnclniaaGreatDoor
open Go.RowKit

/-- A search's blocks that never change: its struct, its heap's, its row's three. -/
structure Wid where
  q : Nat
  p : Nat
  r : Nat
  t : Nat
  s : Nat
/-- A search in memory, of which F has all blocks. -/
structure WD (A : World) (B : Nat) (z : Wid) (mp N O : Nat) (k : Nat → Option Int) (hm : Nat → Option Int) (T : Nat) (F : Nat → Prop) : Prop where
  c0 : A.cell? ⟨z.q, 0, none⟩ = some (.pointer (some ⟨mp, 0, none⟩))
  c1 : A.cell? ⟨z.q, 1, none⟩ = some (.int .u64 (O : Nat))
  c2 : A.cell? ⟨z.q, 2, none⟩ = some (.pointer (some ⟨z.p, 0, none⟩))
  c3 : A.cell? ⟨z.q, 3, none⟩ = some (.pointer (some ⟨z.r, 0, none⟩))
  c4 : A.cell? ⟨z.q, 4, none⟩ = some (.int .u64 (T : Nat))
  f4 : A.frozen? ⟨z.q, 4, none⟩ = false
  h : ∃ bp bc lv line place come, HMem (Value.int .i64) 3 A B z.p bp bc lv line place come ∧ HM.Rep HM.TI 0 N hm line place come ∧ (∀ b, foot z.p bp bc lv b → F b ∧ b ≠ z.q ∧ ¬ sfoot z.r z.t z.s b)
  r : ∃ xs st now, SMem 3 1 A B z.r z.t z.s N xs st now ∧ SM.Rep RI.At N k xs st now
  f : ∀ b, b = z.q ∨ sfoot z.r z.t z.s b → F b
  n : ¬ sfoot z.r z.t z.s z.q
  lt : ∀ b, F b → B ≤ b ∧ b < A.heap.size
  few : N ≤ 24
/-- F with what was laid meanwhile. -/
def grow (F : Nat → Prop) (A A' : World) (b : Nat) : Prop := F b ∨ (A.heap.size ≤ b ∧ b < A'.heap.size)
section
variable {A A' : World} {B : Nat} {z : Wid} {mp N O T : Nat} {k : Nat → Option Int} {hm : Nat → Option Int} {F F' G : Nat → Prop}
theorem WD.ql (h : WD A B z mp N O k hm T F) : z.q < A.heap.size := cell_lt h.c0
theorem WD.kept (h : WD A B z mp N O k hm T F) (hk : Keeps G A A') (hG : ∀ b, F b → ¬ G b) : WD A' B z mp N O k hm T F := by
  have hl := h.ql
  obtain ⟨c0, c1, c2, c3, c4, f4, ⟨bp, bc, lv, line, place, come, h1, h2, h3⟩, ⟨xs, st, now, r1, r2⟩, f, n, lt, few⟩ := h
  have hq : ¬ G z.q := hG _ (f _ (.inl rfl))
  exact ⟨hk.cell c0 hq, hk.cell c1 hq, hk.cell c2 hq, hk.cell c3 hq, hk.cell c4 hq, (hk.frozen (p := ⟨z.q, 4, none⟩) hl hq).trans f4, ⟨bp, bc, lv, line, place, come, h1.kept hk (fun b hb => hG b (h3 b hb).1), h2, h3⟩, ⟨xs, st, now, r1.kept hk (fun b hb => hG b (f b (.inr hb))), r2⟩, f, n, fun b hb => ⟨(lt b hb).1, Nat.lt_of_lt_of_le (lt b hb).2 hk.size⟩, few⟩
theorem WD.on (h : WD A B z mp N O k hm T F) (hb : Below A.heap.size A A') : WD A' B z mp N O k hm T F := h.kept (Below.keeps hb (fun _ => False)) (fun _ _ h => h)
theorem WD.wide (h : WD A B z mp N O k hm T F) (hF : ∀ b, F b → F' b) (lt : ∀ b, F' b → B ≤ b ∧ b < A.heap.size) : WD A B z mp N O k hm T F' := by
  obtain ⟨c0, c1, c2, c3, c4, f4, ⟨bp, bc, lv, line, place, come, h1, h2, h3⟩, r, f, n, -, few⟩ := h
  exact ⟨c0, c1, c2, c3, c4, f4, ⟨bp, bc, lv, line, place, come, h1, h2, fun b hb => ⟨hF b (h3 b hb).1, (h3 b hb).2⟩⟩, r, fun b hb => hF b (f b hb), n, lt, few⟩
theorem WD.lt_grow (h : WD A B z mp N O k hm T F) (hs : A.heap.size ≤ A'.heap.size) (hB : B ≤ A.heap.size) : ∀ b, grow F A A' b → B ≤ b ∧ b < A'.heap.size := fun b hb => by
  rcases hb with hb | hb
  · have := h.lt b hb
    omega
  · omega
/-- The first one comes out, if any waits. -/
theorem WD.pop (h : WD A B z mp N O k hm T F) :
    Calls Tryz.prog 102 #[.pointer (some ⟨z.p, 0, none⟩)] A fun e A' => e = .returned (peekT (Value.int .i64) 0 (HM.firstOf HM.TI hm)) ∧ Keeps F A A' ∧ WD A' B z mp N O k (HM.popped HM.TI hm) T F := by
  have hl := h.ql
  obtain ⟨c0, c1, c2, c3, c4, f4, ⟨bp, bc, lv, line, place, come, h1, h2, h3⟩, ⟨xs, st, now, r1, r2⟩, f, n, lt, few⟩ := h
  refine (HI.pop_any h1 h2 (by omega)).mono ?_
  rintro e A' ⟨rfl, lv', line', place', come', m1, m2, m3, m4⟩
  have hq : ¬ foot z.p bp bc lv z.q := fun hb => (h3 _ hb).2.1 rfl
  refine ⟨rfl, m3.mono (fun b hb => (h3 b hb).1), m3.cell c0 hq, m3.cell c1 hq, m3.cell c2 hq, m3.cell c3 hq, m3.cell c4 hq, (m3.frozen (p := ⟨z.q, 4, none⟩) hl hq).trans f4, ⟨bp, bc, lv', line', place', come', m1, m2, fun b hb => h3 b (m4 b hb)⟩, ⟨xs, st, now, r1.kept m3 (fun b hb hc => (h3 b hc).2.2 hb), r2⟩, f, n, fun b hb => ⟨(lt b hb).1, Nat.lt_of_lt_of_le (lt b hb).2 m3.size⟩, few⟩
/-- A vertex is put into the heap. -/
theorem WD.put (h : WD A B z mp N O k hm T F) (hB : B ≤ A.heap.size) (v : Nat) (d : Int) :
    Calls Tryz.prog 101 #[.pointer (some ⟨z.p, 0, none⟩), .int .i64 (v : Nat), .int .i64 d] A fun e A' => e = .returned (.int .i64 (HM.code HM.TI N hm (v : Nat) d)) ∧ Keeps F A A' ∧ WD A' B z mp N O k (HM.put HM.TI N hm (v : Nat) d) T (grow F A A') := by
  have hlt := fun A' hs => WD.lt_grow (A' := A') h hs hB
  have hl := h.ql
  obtain ⟨c0, c1, c2, c3, c4, f4, ⟨bp, bc, lv, line, place, come, h1, h2, h3⟩, ⟨xs, st, now, r1, r2⟩, f, n, lt, few⟩ := h
  refine (HI.put_any h1 h2 (by omega) v d).mono ?_
  rintro e A' ⟨rfl, lv', line', place', come', m1, m2, m3, m4⟩
  have hq : ¬ foot z.p bp bc lv z.q := fun hb => (h3 _ hb).2.1 rfl
  have hs := m3.size
  refine ⟨rfl, m3.mono (fun b hb => (h3 b hb).1), m3.cell c0 hq, m3.cell c1 hq, m3.cell c2 hq, m3.cell c3 hq, m3.cell c4 hq, (m3.frozen (p := ⟨z.q, 4, none⟩) hl hq).trans f4, ⟨bp, bc, lv', line', place', come', m1, m2, fun b hb => ?_⟩, ⟨xs, st, now, r1.kept m3 (fun b hb hc => (h3 b hc).2.2 hb), r2⟩, fun b hb => .inl (f b hb), n, hlt A' hs, few⟩
  rcases m4 b hb with h5 | h5
  · exact ⟨.inl (h3 b h5).1, (h3 b h5).2⟩
  · have l1 := (m1.lt b hb).2
    refine ⟨.inr ⟨h5, l1⟩, by omega, fun hx => ?_⟩
    have := (r1.lt b hx).2
    omega
/-- A vertex is noted. -/
theorem WD.mark (h : WD A B z mp N O k hm T F) (v : Nat) (hv : v < N) (d : Int) :
    Calls Tryz.prog 115 #[.pointer (some ⟨z.r, 0, none⟩), .int .i64 (v : Nat), .int .i64 d] A fun e A' => e = .returned (.int .i64 0) ∧ Keeps F A A' ∧ WD A' B z mp N O (SM.upd k v (some d)) hm T F := by
  have hl := h.ql
  obtain ⟨c0, c1, c2, c3, c4, f4, ⟨bp, bc, lv, line, place, come, h1, h2, h3⟩, ⟨xs, st, now, r1, r2⟩, f, n, lt, few⟩ := h
  have hs := RI.set_any r1 r2 (by omega) (v : Int) d
  unfold SM.code SM.put at hs
  rw [if_pos (by omega), if_pos (by omega), Int.toNat_natCast] at hs
  refine hs.mono ?_
  rintro e A' ⟨rfl, xs', st', m1, m2, m3⟩
  refine ⟨rfl, m3.mono (fun b hb => f b (.inr hb)), m3.cell c0 n, m3.cell c1 n, m3.cell c2 n, m3.cell c3 n, m3.cell c4 n, (m3.frozen (p := ⟨z.q, 4, none⟩) hl n).trans f4, ⟨bp, bc, lv, line, place, come, h1.kept m3 (fun b hb => (h3 b hb).2.2), h2, h3⟩, ⟨xs', st', now, m1, m2⟩, f, n, fun b hb => ⟨(lt b hb).1, Nat.lt_of_lt_of_le (lt b hb).2 m3.size⟩, few⟩
theorem WD.get (h : WD A B z mp N O k hm T F) (v : Nat) :
    Calls Tryz.prog 117 #[.pointer (some ⟨z.r, 0, none⟩), .int .i64 (v : Nat)] A fun e A' => e = .returned (getT (Value.int .i64) (0 : Int) (k v)) ∧ Below A.heap.size A A' := by
  obtain ⟨-, -, -, -, -, -, -, ⟨xs, st, now, r1, r2⟩, -, -, -, -⟩ := h
  have hg := RI.get_any r1 r2 (v : Int)
  unfold SM.look at hg
  rwa [if_pos (by omega), Int.toNat_natCast] at hg
/-- What is touched is turned. -/
theorem WD.touch (h : WD A B z mp N O k hm T F) (T' : Nat) : WD (A.setCell ⟨z.q, 4, none⟩ (.int .u64 (T' : Nat))) B z mp N O k hm T' F ∧ Keeps F A (A.setCell ⟨z.q, 4, none⟩ (.int .u64 (T' : Nat))) := by
  have hk := keeps_set A z.q 4 (.int .u64 (T' : Nat))
  have hkF : Keeps F A (A.setCell ⟨z.q, 4, none⟩ (.int .u64 (T' : Nat))) := hk.mono (fun b hb => hb ▸ h.f _ (.inl rfl))
  obtain ⟨c0, c1, c2, c3, c4, f4, ⟨bp, bc, lv, line, place, come, h1, h2, h3⟩, ⟨xs, st, now, r1, r2⟩, f, n, lt, few⟩ := h
  have oth : ∀ i, i ≠ 4 → (A.setCell ⟨z.q, 4, none⟩ (.int .u64 (T' : Nat))).cell? ⟨z.q, i, none⟩ = A.cell? ⟨z.q, i, none⟩ := fun i hi => World.cell?_setCell_other _ _ _ _ (by intro e; injection e with _ e; omega)
  exact ⟨⟨(oth 0 (by decide)).trans c0, (oth 1 (by decide)).trans c1, (oth 2 (by decide)).trans c2, (oth 3 (by decide)).trans c3, World.cell?_setCell_same _ _ _ c4, by simp [f4], ⟨bp, bc, lv, line, place, come, h1.kept hk (fun b hb e => (h3 b hb).2.1 e), h2, h3⟩, ⟨xs, st, now, r1.kept hk (fun b hb e => n (e ▸ hb)), r2⟩, f, n, fun b hb => ⟨(lt b hb).1, Nat.lt_of_lt_of_le (lt b hb).2 hk.size⟩, few⟩, hkF⟩
end
theorem wadd_cells {W : World} {n : Nat} {a b : Int} (h0 : W.cell? ⟨n, 0, none⟩ = some (.int .i64 a)) (h1 : W.cell? ⟨n, 1, none⟩ = some (.int .i64 b)) :
    Calls Tryz.prog 74 #[.slice (some ⟨n, 0, none⟩) 2 2] W fun e w' => e = .returned (.int .i64 (DM.two a b)) ∧ w' = W := by
  have := add_row (.slice (some ⟨n, 0, none⟩) 2 2) [a, b] W ⟨some ⟨n, 0, none⟩, 2, rfl, Nat.le_refl _, by unfold maxLen; decide, fun h => (by cases h), fun _ => ⟨n, 0, rfl, fun i hi => by
    match i, hi with
    | 0, _ => simpa using h0
    | 1, _ => simpa using h1⟩⟩
  rwa [WK.two_norm] at this
theorem smem_base {e : TypeId} {sz : Nat} {w : World} {B B' p bt bs n : Nat} {xs : List Value} {st : List Nat} {now : Nat} (h : SMem e sz w B p bt bs n xs st now) (hb : B' ≤ B) : SMem e sz w B' p bt bs n xs st now :=
  ⟨h.c0, h.c1, h.c2, h.fz, row_base h.th hb, row_base h.sp hb, Nat.le_trans hb h.lo, h.n1, h.n2, h.n3⟩
set_option maxHeartbeats 400000 in
theorem wvertex_any {w : World} {p N : Nat} {D : Nat → Nat → Int} (hg : XMem w p N D) (v : Int) :
    Calls Tryz.prog 75 #[.pointer (some ⟨p, 0, none⟩), .int .i64 v] w fun e w' => e = .returned (.bool (GM.vert N v)) ∧ w' = w := by
  have hv := xvertices_any hg
  clear hg
  by_cases h : 0 ≤ v
  · go_enter Tryz.func75, Tryz.ntmps75
    go_wp2_with fail
    refine hv.mono ?_
    rintro e w' ⟨rfl, rfl⟩
    go_wp2
    all_goals go_ret
    all_goals refine ⟨ret_bool ?_, rfl⟩
    all_goals unfold GM.vert
    all_goals simp
    all_goals omega
  · go_enter Tryz.func75, Tryz.ntmps75
    go_wp2_with fail
    all_goals go_ret
    all_goals refine ⟨ret_bool ?_, rfl⟩
    all_goals unfold GM.vert
    all_goals simp
    all_goals omega
set_option maxHeartbeats 1000000 in
theorem newSearch_any {w : World} {mp N : Nat} {D : Nat → Nat → Int} (hg : XMem w mp N D) (hN : N ≤ 24) (O : Nat) :
    Calls Tryz.prog 76 #[.pointer (some ⟨mp, 0, none⟩), .int .u64 (O : Nat)] w fun e w' => ∃ z : Wid, e = .returned (.pointer (some ⟨z.q, 0, none⟩)) ∧
      WD w' w.heap.size z mp N O (fun _ => none) (fun _ => none) 0 (fun b => w.heap.size ≤ b ∧ b < w'.heap.size) ∧ Below w.heap.size w w' := by
  have HG : Hid (∀ W, Below w.heap.size w W → XMem W mp N D) := fun W hW => hg.on hW
  have hv := xvertices_any hg
  have hnew := HI.new_any N (by omega) w
  clear hg
  go_enter Tryz.func76, Tryz.ntmps76
  go_wp2_with fail
  refine hv.mono ?_
  rintro e w2 ⟨rfl, hw2⟩
  rw [hw2]
  clear hv hw2 w2
  go_wp2_with fail
  refine hnew.mono ?_
  rintro e w1 ⟨p, bp, bc, rfl, hM, hb1⟩
  have hv1 := xvertices_any (HG.out _ hb1)
  have hst := RI.new_any N (by omega) w1
  have HM1 : Hid (HMem (Value.int .i64) 3 w1 w.heap.size p bp bc (.slice none 0 0) [] (List.replicate N (-1)) (List.replicate N (0 : Int)) ∧ Below w.heap.size w w1) := ⟨hM, hb1⟩
  clear hnew hM hb1
  go_wp2_with fail
  refine hv1.mono ?_
  rintro e w2 ⟨rfl, hw2⟩
  rw [hw2]
  clear hv1 hw2 w2
  go_wp2_with fail
  refine hst.mono ?_
  rintro e w3 ⟨r, t, s, xs, st, now, rfl, hS, hR, hb3⟩
  have HS : Hid (SMem 3 1 w3 w1.heap.size r t s N xs st now ∧ SM.Rep RI.At N (fun _ => none) xs st now ∧ Below w1.heap.size w1 w3) := ⟨hS, hR, hb3⟩
  clear hst hS hR hb3
  go_wp2_with fail
  go_ret
  obtain ⟨hM, hb1⟩ := HM1.out
  obtain ⟨hS, hR, hb3⟩ := HS.out
  have ha : Below w3.heap.size w3 (w3.alloc (.cells #[.pointer (some ⟨mp, 0, none⟩), .int .u64 (O : Nat), .pointer (some ⟨p, 0, none⟩), .pointer (some ⟨r, 0, none⟩), .int .u64 0] 131)) := (Below.refl _ _).alloc (Nat.le_refl _) _
  have e1 := hb1.size
  have e3 := hb3.size
  have lM := hM.lt
  have lS := hS.lt
  have hsz : (w3.alloc (.cells #[.pointer (some ⟨mp, 0, none⟩), .int .u64 (O : Nat), .pointer (some ⟨p, 0, none⟩), .pointer (some ⟨r, 0, none⟩), .int .u64 0] 131)).heap.size = w3.heap.size + 1 := by simp
  refine ⟨⟨w3.heap.size, p, r, t, s⟩, rfl, ⟨by simp, by simp, by simp, by simp, by simp, by simp, ⟨bp, bc, _, _, _, _, hM.below (below_on hb3 ha), HI.rep_new N, fun b hb => ?_⟩, ⟨xs, st, now, (smem_base hS e1).below ha, hR⟩, fun b hb => ?_, fun hb => ?_, fun b hb => ⟨hb.1, hb.2⟩, hN⟩, below_on hb1 (below_on hb3 ha)⟩
  · have := lM b hb
    dsimp only
    refine ⟨⟨by omega, by omega⟩, by omega, fun hx => ?_⟩
    have := lS b hx
    omega
  · dsimp only at hb
    rcases hb with hb | hb
    · rw [hb, hsz]
      exact ⟨by omega, by omega⟩
    · have := lS b hb
      exact ⟨by omega, by omega⟩
  · have := (lS w3.heap.size hb).2
    omega
end Go.Proofs.YtkcfepppnclniaaGreatDoor
end

section
/-
  A range over a function that turns memory laid ahead of the loop, which the rounds may read (a search's state): what the function has is a set of blocks (X) that grows with new memory alone; Z tells what lies there between rounds.
-/
namespace Go.Proofs.YtkcfepppnclniaaGreatDoor
open Go.RowKit Go.Shelf

/-- What the function that is ranged over owes: it starts where Z0 holds, hands on x where Z says so, and ends where S says that all is done. -/
def GoesS {α : Type} (n : Nat) (P : Program) (g : Nat) (lb : Array Value) (encs : α → Array Value) (Z0 : (Nat → Prop) → World → Prop) (Z : List α → (Nat → Prop) → World → Prop) (S : List α → Prop) (R : World → Prop) : Prop :=
  ∀ (l : Nat) (J Jx : List α → (Nat → Prop) → World → Prop) (X : Nat → Prop) (W : World),
    (∀ s X A, J s X A → R A) → Apart J → Apart Jx →
    (∀ pre x X W1, J pre X W1 → Z (pre ++ [x]) X W1 → (∀ b, X b → b < W1.heap.size) → YieldAt Fence.wide (n - 1) P l (encs x) W1 fun e W' =>
      (e = .returned (.bool true) ∧ J (pre ++ [x]) X W' ∧ Rest X W1 W') ∨ (e = .returned (.bool false) ∧ Jx (pre ++ [x]) X W' ∧ Rest X W1 W')) →
    J [] X W → Z0 X W → (∀ b, X b → b < W.heap.size) →
    CallsIn Fence.wide n P g (#[.func (.yield l) #[] #[]] ++ lb) W fun e W' => (∃ v, e = .returned v) ∧ ((∃ xs, S xs ∧ ∃ X, J xs X W' ∧ Z xs X W') ∨ (∃ pre X, Jx pre X W' ∧ Z pre X W'))

theorem range_goesS {α : Type} {P : Program} {n : Nat} (h1 : 1 ≤ n) {g : Operand} {ps : Array Tmp} {assign body : Code} {Q : Exit → Act → World → Prop} {a : Act} {w : World}
    {gf : Nat} {lb : Array Value} (hg : a.eval g = .func (.func gf) #[] lb) (eg : ∀ args w, (callFunc gf args).run P w = .ok (.enter gf args) w)
    {encs : α → Array Value} {Z0 : (Nat → Prop) → World → Prop} {Z : List α → (Nat → Prop) → World → Prop} {S : List α → Prop} {R : World → Prop} (hseq : GoesS (n - 1) P gf lb encs Z0 Z S R) (hps : ∀ x, (encs x).size = ps.size)
    (hZ0 : ∀ X A A', Z0 X A → Rest X A A' → Z0 X A') (hZ : ∀ s X A A', Z s X A → Rest X A A' → Z s X A')
    (I : List α → (Nat → Prop) → World → Prop) (Ix : Code → List α → (Nat → Prop) → World → Prop) (hI : Apart I) (hIx : ∀ c, Apart (Ix c)) (hR : ∀ s X A, I s X A → R A) (X0 : Nat → Prop) (hX0 : ∀ b, X0 b → b < w.heap.size) (h0 : I [] X0 w) (hz : Z0 X0 w) (a₁ : α → Act)
    (hassign : ∀ (l : Nat) (x : α) (W : World) (K : Act → World → Prop), K (a₁ x) W →
      assign.wpIn (Fence.wide.inRound l) (n - 1 - 1) P (Exit.then K (fun _ _ _ => False)) { tmps := (ps.zip (encs x)).foldl (fun t (p, v) => t.setIfInBounds p v) a.tmps, defers := [] } W)
    (hbody : ∀ (l : Nat) (pre : List α) (x : α) (X : Nat → Prop) (W : World), I pre (fun b => X b ∨ b = w.heap.size ∨ b = w.heap.size + 1) W → Z (pre ++ [x]) X W → w.heap.size + 1 < W.heap.size → (∀ b, X b → b < W.heap.size) → ¬ X w.heap.size → ¬ X (w.heap.size + 1) → body.wpIn (Fence.wide.inRound l) (n - 1 - 1) P (leftK (fun b => X b ∨ b = w.heap.size ∨ b = w.heap.size + 1) I Ix (pre ++ [x]) W) (a₁ x) W)
    (hdone : ∀ (xs : List α) (X : Nat → Prop) (W : World), S xs → I xs (fun b => X b ∨ b = w.heap.size) W → Z xs X W → W.heap[w.heap.size]? = some (.deferred (some [])) → Q .normal { a with defers := { target := .collected w.heap.size, args := #[] } :: a.defers } W)
    (hstop : ∀ (c : Code) (pre : List α) (X : Nat → Prop) (W : World), Ix c pre (fun b => X b ∨ b = w.heap.size) W → Z pre X W → W.heap[w.heap.size]? = some (.deferred (some [])) → c.wpIn Fence.wide n P Q { a with defers := { target := .collected w.heap.size, args := #[] } :: a.defers } W) :
    (Code.rangeFunc g ps assign body).wpIn Fence.wide n P Q a w := by
  refine wpIn_rangeFunc fun fn _ => ?_
  have hs : ((w.alloc (.deferred (some []))).alloc (.loop (recd fn a.tmps ps assign body w.heap.size .ready none))).heap.size = w.heap.size + 1 + 1 := by simp
  have hb1 : Below w.heap.size w ((w.alloc (.deferred (some []))).alloc (.loop (recd fn a.tmps ps assign body w.heap.size .ready none))) := ((Below.refl _ w).alloc (Nat.le_refl _) _).alloc (by simp) _
  have hbk : Book ((w.alloc (.deferred (some []))).alloc (.loop (recd fn a.tmps ps assign body w.heap.size .ready none))) w.heap.size (recd fn a.tmps ps assign body w.heap.size .ready none) := by
    constructor
    · have := World.alloc_heap_new (w.alloc (.deferred (some []))) (.loop (recd fn a.tmps ps assign body w.heap.size .ready none))
      rwa [World.size_alloc] at this
    · exact (Below.heap_alloc _ _ _ (by simp)).trans (World.alloc_heap_new w _)
  have hen : (Instr.enterLoop fn a.tmps ps assign body none).run P w = .ok (w.heap.size + 1, [{ target := .collected w.heap.size, args := #[] }]) ((w.alloc (.deferred (some []))).alloc (.loop (recd fn a.tmps ps assign body w.heap.size .ready none))) := run_enterLoop_outer _ _ _ _ _
  generalize (w.alloc (.deferred (some []))).alloc (.loop (recd fn a.tmps ps assign body w.heap.size .ready none)) = W1 at *
  refine ⟨w.heap.size + 1, [{ target := .collected w.heap.size, args := #[] }], W1, { target := .fn (.func gf) lb, args := #[.func (.yield (w.heap.size + 1)) #[] #[]] }, W1, gf, #[.func (.yield (w.heap.size + 1)) #[] #[]] ++ lb, W1, hen, ?_, fun _ _ => trivial, ?_, fun _ => h1, ?_⟩
  · simp only [resolve, hg]
    simp [go_sem]
  · simp [invoke, go_sem, eg]
  have ap : ∀ (r : Loop) (K : List α → (Nat → Prop) → World → Prop), Apart K → Apart (fun pre X W => K pre (fun b => X b ∨ b = w.heap.size ∨ b = w.heap.size + 1) W ∧ Book W w.heap.size r ∧ ¬ X w.heap.size ∧ ¬ X (w.heap.size + 1)) := by
    rintro r K hK s X X' A A' ⟨k1, k2, k3, k4⟩ hk hX
    have hl := k2.lt
    refine ⟨hK _ _ _ _ _ k1 (hk.mono (fun b hb => .inl hb)) (fun b hb => ?_), k2.keeps hk k3 k4, fun h => ?_, fun h => ?_⟩
    · rcases hb with hb | hb
      · rcases hX b hb with h | h
        · exact .inl (.inl h)
        · exact .inr h
      · exact .inl (.inr hb)
    · rcases hX _ h with h | h
      · exact k3 h
      · omega
    · rcases hX _ h with h | h
      · exact k4 h
      · omega
  refine (hseq (w.heap.size + 1) (fun pre X W => I pre (fun b => X b ∨ b = w.heap.size ∨ b = w.heap.size + 1) W ∧ Book W w.heap.size (recd fn a.tmps ps assign body w.heap.size .ready none) ∧ ¬ X w.heap.size ∧ ¬ X (w.heap.size + 1))
    (fun pre X W => ∃ c, Ix c pre (fun b => X b ∨ b = w.heap.size ∨ b = w.heap.size + 1) W ∧ Book W w.heap.size (recd fn a.tmps ps assign body w.heap.size .done (some c)) ∧ ¬ X w.heap.size ∧ ¬ X (w.heap.size + 1)) X0 W1 (fun s X A h => hR s _ A h.1)
    (ap _ I hI) (fun s X X' A A' h hk hX => by
      obtain ⟨c, h⟩ := h
      exact ⟨c, ap _ (Ix c) (hIx c) s X X' A A' h hk hX⟩) ?_ ⟨hI _ _ _ _ _ h0 (Below.keeps hb1 _) (fun b hb => ?_), hbk, (fun h => Nat.lt_irrefl _ (hX0 _ h)), (fun h => by have := hX0 _ h; omega)⟩ (hZ0 _ _ _ hz (Rest.of_below hb1)) (fun b h => by have := hX0 b h; omega)).mono ?_
  · -- one round
    rintro pre x X W ⟨hi, hb, x0, x1⟩ hzz hXW
    have hy := run_yield (P := P) (args := encs x) hb.keep (hps x)
    have hlW := hb.lt
    refine ⟨_, _, _, _, hy, roundIn_of_wpIn trivial (hassign _ x W _ ⟨_, run_beginRound hb.keep rfl, ?_⟩)⟩
    have hb2 : Book (W.putObj (w.heap.size + 1) (.loop (recd fn a.tmps ps assign body w.heap.size .busy none))) w.heap.size (recd fn a.tmps ps assign body w.heap.size .busy none) := hb.put _
    have put : ∀ (A : World) (o : Obj), Keeps (fun b => X b ∨ b = w.heap.size ∨ b = w.heap.size + 1) A (A.putObj (w.heap.size + 1) o) := fun A o => (keeps_putK A _ o).mono (fun b hb => .inr (.inr hb))
    have rput : ∀ (A : World) (o : Obj), Rest X A (A.putObj (w.heap.size + 1) o) := fun A o => Keeps.mono (keeps_putK A _ o) (fun b hb hxb => x1 (hb ▸ hxb))
    have hi2 : I pre (fun b => X b ∨ b = w.heap.size ∨ b = w.heap.size + 1) (W.putObj (w.heap.size + 1) (.loop (recd fn a.tmps ps assign body w.heap.size .busy none))) := hI _ _ _ _ _ hi (put _ _) (fun b hb => .inl hb)
    have hr2 : Rest X W (W.putObj (w.heap.size + 1) (.loop (recd fn a.tmps ps assign body w.heap.size .busy none))) := rput _ _
    have ends : ∀ (j : Option Code) (W3 : World), Rest (fun b => X b ∨ b = w.heap.size ∨ b = w.heap.size + 1) (W.putObj (w.heap.size + 1) (.loop (recd fn a.tmps ps assign body w.heap.size .busy none))) W3 →
        (Instr.endRound (w.heap.size + 1) j).run P W3 = .ok (.bool j.isNone) (W3.putObj (w.heap.size + 1) (.loop (recd fn a.tmps ps assign body w.heap.size (if j.isNone then .ready else .done) j))) ∧
        Book (W3.putObj (w.heap.size + 1) (.loop (recd fn a.tmps ps assign body w.heap.size (if j.isNone then .ready else .done) j))) w.heap.size (recd fn a.tmps ps assign body w.heap.size (if j.isNone then .ready else .done) j) ∧
        Rest X W (W3.putObj (w.heap.size + 1) (.loop (recd fn a.tmps ps assign body w.heap.size (if j.isNone then .ready else .done) j))) := fun j W3 ha => by
      have hb3 := hb2.keeps ha (fun h => h (.inr (.inl rfl))) (fun h => h (.inr (.inr rfl)))
      exact ⟨run_endRound j hb3.keep, hb3.put _, (hr2.trans (Keeps.mono ha (fun b hb hxb => hb (.inl hxb)))).trans (rput _ _)⟩
    refine wpIn_mono (hbody _ pre x X _ hi2 (hZ _ _ _ _ hzz hr2) (by simpa using hlW) (fun b hb => by simpa using hXW b hb) x0 x1) ?_
    rintro e a3 W3 hp
    cases e with
    | normal =>
      obtain ⟨r1, r2, r3⟩ := ends none W3 hp.1
      exact ⟨_, _, r1, .inl ⟨rfl, ⟨hI _ _ _ _ _ hp.2 (put _ _) (fun b hb => .inl hb), r2, x0, x1⟩, r3⟩⟩
    | ret =>
      obtain ⟨r1, r2, r3⟩ := ends (some .ret) W3 hp.1
      exact ⟨_, _, r1, .inr ⟨rfl, ⟨_, hIx _ _ _ _ _ _ hp.2 (put _ _) (fun b hb => .inl hb), r2, x0, x1⟩, r3⟩⟩
    | exit id =>
      obtain ⟨r1, r2, r3⟩ := ends (some (.exit id)) W3 hp.1
      exact ⟨_, _, r1, .inr ⟨rfl, ⟨_, hIx _ _ _ _ _ _ hp.2 (put _ _) (fun b hb => .inl hb), r2, x0, x1⟩, r3⟩⟩
    | goto t =>
      obtain ⟨r1, r2, r3⟩ := ends (some (.goto t)) W3 hp.1
      exact ⟨_, _, r1, .inr ⟨rfl, ⟨_, hIx _ _ _ _ _ _ hp.2 (put _ _) (fun b hb => .inl hb), r2, x0, x1⟩, r3⟩⟩
    | panic ch => exact hp.elim
    | outgrown => exact hp.elim
  · rcases hb with hb | rfl | rfl
    · exact .inl hb
    · exact .inr (Nat.le_refl _)
    · exact .inr (by omega)
  · -- behind it
    rintro e W2 ⟨⟨v, rfl⟩, (⟨xs, hS, X, ⟨hi, hb, x0, x1⟩, hzz⟩ | ⟨pre, X, ⟨c, hi, hb, x0, x1⟩, hzz⟩)⟩
    · exact ⟨none, _, run_endLoop hb.keep (by intro h; cases h), hdone xs X _ hS (hI _ _ _ _ _ hi ((keeps_putK _ _ _).mono (fun b hb => .inr (.inr hb))) (fun b hb => .inl (hb.imp id .inl))) (hZ _ _ _ _ hzz (Keeps.mono (keeps_putK _ _ _) (fun b hb hxb => x1 (hb ▸ hxb)))) (hb.put _).dfr⟩
    · exact ⟨some c, _, run_endLoop hb.keep (by intro h; cases h), hstop c pre X _ (hIx _ _ _ _ _ _ hi ((keeps_putK _ _ _).mono (fun b hb => .inr (.inr hb))) (fun b hb => .inl (hb.imp id .inl))) (hZ _ _ _ _ hzz (Keeps.mono (keeps_putK _ _ _) (fun b hb hxb => x1 (hb ▸ hxb)))) (hb.put _).dfr⟩
end Go.Proofs.YtkcfepppnclniaaGreatDoor
end
