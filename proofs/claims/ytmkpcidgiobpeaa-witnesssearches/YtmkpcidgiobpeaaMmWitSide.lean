/-
  A search of the program's in memory: its struct, its heap, its row; what each call of the heap and of the row does.
-/
import Derived.Test.YtmkpcidgiobpeaaMmNHeapEI
import Derived.Test.YtmkpcidgiobpeaaMmNHeapD
import Derived.Test.YtmkpcidgiobpeaaMmNHeapCI
import Derived.Test.YtmkpcidgiobpeaaMmStamps
import Derived.Test.YtmkpcidgiobpeaaMmWitTouch
import Derived.Test.YtmkpcidgiobpeaaMmMeshA
import Derived.Test.YtmkpcidgiobpeaaMmGraphA
import Derived.Test.YtmkpcidgiobpeaaMmInts
import Derived.Deep.RegionHeld3
import Derived.BigQuiet
import Derived.Deep.QuietTactic
namespace Go.Proofs.Ytmkpcidgiobpeaa
open Go.RowKit

/-- A search's blocks that never change: its struct, its heap's, its row's three. -/
structure Wid where
  q : Nat
  p : Nat
  r : Nat
  t : Nat
  s : Nat
/-- A search in memory, of which F has all blocks. -/
structure WD (A : World) (B : Nat) (z : Wid) (mp N O : Nat) (k : Nat → Option Int) (hm : Nat → Option Int) (T : Nat) (F : Nat → Prop) : Prop where
  c0 : A.cell? ⟨z.q, 0, none⟩ = some (.pointer (some ⟨mp, 0, none⟩))
  c1 : A.cell? ⟨z.q, 1, none⟩ = some (.int .u64 (O : Nat))
  c2 : A.cell? ⟨z.q, 2, none⟩ = some (.pointer (some ⟨z.p, 0, none⟩))
  c3 : A.cell? ⟨z.q, 3, none⟩ = some (.pointer (some ⟨z.r, 0, none⟩))
  c4 : A.cell? ⟨z.q, 4, none⟩ = some (.int .u64 (T : Nat))
  f4 : A.frozen? ⟨z.q, 4, none⟩ = false
  h : ∃ bp bc lv line place come, HMem (Value.int .i64) 3 A B z.p bp bc lv line place come ∧ HM.Rep HM.TI 0 N hm line place come ∧ (∀ b, foot z.p bp bc lv b → F b ∧ b ≠ z.q ∧ ¬ sfoot z.r z.t z.s b)
  r : ∃ xs st now, SMem 3 1 A B z.r z.t z.s N xs st now ∧ SM.Rep RI.At N k xs st now
  f : ∀ b, b = z.q ∨ sfoot z.r z.t z.s b → F b
  n : ¬ sfoot z.r z.t z.s z.q
  lt : ∀ b, F b → B ≤ b ∧ b < A.heap.size
  few : N ≤ 24
/-- F with what was laid meanwhile. -/
def grow (F : Nat → Prop) (A A' : World) (b : Nat) : Prop := F b ∨ (A.heap.size ≤ b ∧ b < A'.heap.size)
section
variable {A A' : World} {B : Nat} {z : Wid} {mp N O T : Nat} {k : Nat → Option Int} {hm : Nat → Option Int} {F F' G : Nat → Prop}
theorem WD.ql (h : WD A B z mp N O k hm T F) : z.q < A.heap.size := cell_lt h.c0
theorem WD.kept (h : WD A B z mp N O k hm T F) (hk : Keeps G A A') (hG : ∀ b, F b → ¬ G b) : WD A' B z mp N O k hm T F := by
  have hl := h.ql
  obtain ⟨c0, c1, c2, c3, c4, f4, ⟨bp, bc, lv, line, place, come, h1, h2, h3⟩, ⟨xs, st, now, r1, r2⟩, f, n, lt, few⟩ := h
  have hq : ¬ G z.q := hG _ (f _ (.inl rfl))
  exact ⟨hk.cell c0 hq, hk.cell c1 hq, hk.cell c2 hq, hk.cell c3 hq, hk.cell c4 hq, (hk.frozen (p := ⟨z.q, 4, none⟩) hl hq).trans f4, ⟨bp, bc, lv, line, place, come, h1.kept hk (fun b hb => hG b (h3 b hb).1), h2, h3⟩, ⟨xs, st, now, r1.kept hk (fun b hb => hG b (f b (.inr hb))), r2⟩, f, n, fun b hb => ⟨(lt b hb).1, Nat.lt_of_lt_of_le (lt b hb).2 hk.size⟩, few⟩
theorem WD.on (h : WD A B z mp N O k hm T F) (hb : Below A.heap.size A A') : WD A' B z mp N O k hm T F := h.kept (Below.keeps hb (fun _ => False)) (fun _ _ h => h)
theorem WD.wide (h : WD A B z mp N O k hm T F) (hF : ∀ b, F b → F' b) (lt : ∀ b, F' b → B ≤ b ∧ b < A.heap.size) : WD A B z mp N O k hm T F' := by
  obtain ⟨c0, c1, c2, c3, c4, f4, ⟨bp, bc, lv, line, place, come, h1, h2, h3⟩, r, f, n, -, few⟩ := h
  exact ⟨c0, c1, c2, c3, c4, f4, ⟨bp, bc, lv, line, place, come, h1, h2, fun b hb => ⟨hF b (h3 b hb).1, (h3 b hb).2⟩⟩, r, fun b hb => hF b (f b hb), n, lt, few⟩
theorem WD.lt_grow (h : WD A B z mp N O k hm T F) (hs : A.heap.size ≤ A'.heap.size) (hB : B ≤ A.heap.size) : ∀ b, grow F A A' b → B ≤ b ∧ b < A'.heap.size := fun b hb => by
  rcases hb with hb | hb
  · have := h.lt b hb
    omega
  · omega
/-- The first one comes out, if any waits. -/
theorem WD.pop (h : WD A B z mp N O k hm T F) :
    Calls Try.prog 47 #[.pointer (some ⟨z.p, 0, none⟩)] A fun e A' => e = .returned (peekT (Value.int .i64) 0 (HM.firstOf HM.TI hm)) ∧ Keeps F A A' ∧ WD A' B z mp N O k (HM.popped HM.TI hm) T F := by
  have hl := h.ql
  obtain ⟨c0, c1, c2, c3, c4, f4, ⟨bp, bc, lv, line, place, come, h1, h2, h3⟩, ⟨xs, st, now, r1, r2⟩, f, n, lt, few⟩ := h
  refine (HI.pop_any h1 h2 (by omega)).mono ?_
  rintro e A' ⟨rfl, lv', line', place', come', m1, m2, m3, m4⟩
  have hq : ¬ foot z.p bp bc lv z.q := fun hb => (h3 _ hb).2.1 rfl
  refine ⟨rfl, m3.mono (fun b hb => (h3 b hb).1), m3.cell c0 hq, m3.cell c1 hq, m3.cell c2 hq, m3.cell c3 hq, m3.cell c4 hq, (m3.frozen (p := ⟨z.q, 4, none⟩) hl hq).trans f4, ⟨bp, bc, lv', line', place', come', m1, m2, fun b hb => h3 b (m4 b hb)⟩, ⟨xs, st, now, r1.kept m3 (fun b hb hc => (h3 b hc).2.2 hb), r2⟩, f, n, fun b hb => ⟨(lt b hb).1, Nat.lt_of_lt_of_le (lt b hb).2 m3.size⟩, few⟩
/-- A vertex is put into the heap. -/
theorem WD.put (h : WD A B z mp N O k hm T F) (hB : B ≤ A.heap.size) (v : Nat) (d : Int) :
    Calls Try.prog 46 #[.pointer (some ⟨z.p, 0, none⟩), .int .i64 (v : Nat), .int .i64 d] A fun e A' => e = .returned (.int .i64 (HM.code HM.TI N hm (v : Nat) d)) ∧ Keeps F A A' ∧ WD A' B z mp N O k (HM.put HM.TI N hm (v : Nat) d) T (grow F A A') := by
  have hlt := fun A' hs => WD.lt_grow (A' := A') h hs hB
  have hl := h.ql
  obtain ⟨c0, c1, c2, c3, c4, f4, ⟨bp, bc, lv, line, place, come, h1, h2, h3⟩, ⟨xs, st, now, r1, r2⟩, f, n, lt, few⟩ := h
  refine (HI.put_any h1 h2 (by omega) v d).mono ?_
  rintro e A' ⟨rfl, lv', line', place', come', m1, m2, m3, m4⟩
  have hq : ¬ foot z.p bp bc lv z.q := fun hb => (h3 _ hb).2.1 rfl
  have hs := m3.size
  refine ⟨rfl, m3.mono (fun b hb => (h3 b hb).1), m3.cell c0 hq, m3.cell c1 hq, m3.cell c2 hq, m3.cell c3 hq, m3.cell c4 hq, (m3.frozen (p := ⟨z.q, 4, none⟩) hl hq).trans f4, ⟨bp, bc, lv', line', place', come', m1, m2, fun b hb => ?_⟩, ⟨xs, st, now, r1.kept m3 (fun b hb hc => (h3 b hc).2.2 hb), r2⟩, fun b hb => .inl (f b hb), n, hlt A' hs, few⟩
  rcases m4 b hb with h5 | h5
  · exact ⟨.inl (h3 b h5).1, (h3 b h5).2⟩
  · have l1 := (m1.lt b hb).2
    refine ⟨.inr ⟨h5, l1⟩, by omega, fun hx => ?_⟩
    have := (r1.lt b hx).2
    omega
/-- A vertex is noted. -/
theorem WD.mark (h : WD A B z mp N O k hm T F) (v : Nat) (hv : v < N) (d : Int) :
    Calls Try.prog 62 #[.pointer (some ⟨z.r, 0, none⟩), .int .i64 (v : Nat), .int .i64 d] A fun e A' => e = .returned (.int .i64 0) ∧ Keeps F A A' ∧ WD A' B z mp N O (SM.upd k v (some d)) hm T F := by
  have hl := h.ql
  obtain ⟨c0, c1, c2, c3, c4, f4, ⟨bp, bc, lv, line, place, come, h1, h2, h3⟩, ⟨xs, st, now, r1, r2⟩, f, n, lt, few⟩ := h
  have hs := RI.set_any r1 r2 (by omega) (v : Int) d
  unfold SM.code SM.put at hs
  rw [if_pos (by omega), if_pos (by omega), Int.toNat_natCast] at hs
  refine hs.mono ?_
  rintro e A' ⟨rfl, xs', st', m1, m2, m3⟩
  refine ⟨rfl, m3.mono (fun b hb => f b (.inr hb)), m3.cell c0 n, m3.cell c1 n, m3.cell c2 n, m3.cell c3 n, m3.cell c4 n, (m3.frozen (p := ⟨z.q, 4, none⟩) hl n).trans f4, ⟨bp, bc, lv, line, place, come, h1.kept m3 (fun b hb => (h3 b hb).2.2), h2, h3⟩, ⟨xs', st', now, m1, m2⟩, f, n, fun b hb => ⟨(lt b hb).1, Nat.lt_of_lt_of_le (lt b hb).2 m3.size⟩, few⟩
theorem WD.get (h : WD A B z mp N O k hm T F) (v : Nat) :
    Calls Try.prog 30 #[.pointer (some ⟨z.r, 0, none⟩), .int .i64 (v : Nat)] A fun e A' => e = .returned (getT (Value.int .i64) (0 : Int) (k v)) ∧ Below A.heap.size A A' := by
  obtain ⟨-, -, -, -, -, -, -, ⟨xs, st, now, r1, r2⟩, -, -, -, -⟩ := h
  have hg := RI.get_any r1 r2 (v : Int)
  unfold SM.look at hg
  rwa [if_pos (by omega), Int.toNat_natCast] at hg
/-- What is touched is turned. -/
theorem WD.touch (h : WD A B z mp N O k hm T F) (T' : Nat) : WD (A.setCell ⟨z.q, 4, none⟩ (.int .u64 (T' : Nat))) B z mp N O k hm T' F ∧ Keeps F A (A.setCell ⟨z.q, 4, none⟩ (.int .u64 (T' : Nat))) := by
  have hk := keeps_set A z.q 4 (.int .u64 (T' : Nat))
  have hkF : Keeps F A (A.setCell ⟨z.q, 4, none⟩ (.int .u64 (T' : Nat))) := hk.mono (fun b hb => hb ▸ h.f _ (.inl rfl))
  obtain ⟨c0, c1, c2, c3, c4, f4, ⟨bp, bc, lv, line, place, come, h1, h2, h3⟩, ⟨xs, st, now, r1, r2⟩, f, n, lt, few⟩ := h
  have oth : ∀ i, i ≠ 4 → (A.setCell ⟨z.q, 4, none⟩ (.int .u64 (T' : Nat))).cell? ⟨z.q, i, none⟩ = A.cell? ⟨z.q, i, none⟩ := fun i hi => World.cell?_setCell_other _ _ _ _ (by intro e; injection e with _ e; omega)
  exact ⟨⟨(oth 0 (by decide)).trans c0, (oth 1 (by decide)).trans c1, (oth 2 (by decide)).trans c2, (oth 3 (by decide)).trans c3, World.cell?_setCell_same _ _ _ c4, by simp [f4], ⟨bp, bc, lv, line, place, come, h1.kept hk (fun b hb e => (h3 b hb).2.1 e), h2, h3⟩, ⟨xs, st, now, r1.kept hk (fun b hb e => n (e ▸ hb)), r2⟩, f, n, fun b hb => ⟨(lt b hb).1, Nat.lt_of_lt_of_le (lt b hb).2 hk.size⟩, few⟩, hkF⟩
end
theorem wadd_cells {W : World} {n : Nat} {a b : Int} (h0 : W.cell? ⟨n, 0, none⟩ = some (.int .i64 a)) (h1 : W.cell? ⟨n, 1, none⟩ = some (.int .i64 b)) :
    Calls Try.prog 35 #[.slice (some ⟨n, 0, none⟩) 2 2] W fun e w' => e = .returned (.int .i64 (DM.two a b)) ∧ w' = W := by
  have := add_row (.slice (some ⟨n, 0, none⟩) 2 2) [a, b] W ⟨some ⟨n, 0, none⟩, 2, rfl, Nat.le_refl _, by unfold maxLen; decide, fun h => (by cases h), fun _ => ⟨n, 0, rfl, fun i hi => by
    match i, hi with
    | 0, _ => simpa using h0
    | 1, _ => simpa using h1⟩⟩
  rwa [WK.two_norm] at this
theorem smem_base {e : TypeId} {sz : Nat} {w : World} {B B' p bt bs n : Nat} {xs : List Value} {st : List Nat} {now : Nat} (h : SMem e sz w B p bt bs n xs st now) (hb : B' ≤ B) : SMem e sz w B' p bt bs n xs st now :=
  ⟨h.c0, h.c1, h.c2, h.fz, row_base h.th hb, row_base h.sp hb, Nat.le_trans hb h.lo, h.n1, h.n2, h.n3⟩
set_option maxHeartbeats 400000 in
theorem wvertex_any {w : World} {p N : Nat} {D : Nat → Nat → Int} (hg : XMem w p N D) (v : Int) :
    Calls Try.prog 27 #[.pointer (some ⟨p, 0, none⟩), .int .i64 v] w fun e w' => e = .returned (.bool (GM.vert N v)) ∧ w' = w := by
  have hv := xvertices_any hg
  clear hg
  by_cases h : 0 ≤ v
  · go_enter Try.func27, Try.ntmps27
    go_wp2_with fail
    refine hv.mono ?_
    rintro e w' ⟨rfl, rfl⟩
    go_wp2
    all_goals go_ret
    all_goals refine ⟨ret_bool ?_, rfl⟩
    all_goals unfold GM.vert
    all_goals simp
    all_goals omega
  · go_enter Try.func27, Try.ntmps27
    go_wp2_with fail
    all_goals go_ret
    all_goals refine ⟨ret_bool ?_, rfl⟩
    all_goals unfold GM.vert
    all_goals simp
    all_goals omega
set_option maxHeartbeats 1000000 in
theorem newSearch_any {w : World} {mp N : Nat} {D : Nat → Nat → Int} (hg : XMem w mp N D) (hN : N ≤ 24) (O : Nat) :
    Calls Try.prog 28 #[.pointer (some ⟨mp, 0, none⟩), .int .u64 (O : Nat)] w fun e w' => ∃ z : Wid, e = .returned (.pointer (some ⟨z.q, 0, none⟩)) ∧
      WD w' w.heap.size z mp N O (fun _ => none) (fun _ => none) 0 (fun b => w.heap.size ≤ b ∧ b < w'.heap.size) ∧ Below w.heap.size w w' := by
  have HG : Hid (∀ W, Below w.heap.size w W → XMem W mp N D) := fun W hW => hg.on hW
  have hv := xvertices_any hg
  have hnew := HI.new_any N (by omega) w
  clear hg
  go_enter Try.func28, Try.ntmps28
  go_wp2_with fail
  refine hv.mono ?_
  rintro e w2 ⟨rfl, hw2⟩
  rw [hw2]
  clear hv hw2 w2
  go_wp2_with fail
  refine hnew.mono ?_
  rintro e w1 ⟨p, bp, bc, rfl, hM, hb1⟩
  have hv1 := xvertices_any (HG.out _ hb1)
  have hst := RI.new_any N (by omega) w1
  have HM1 : Hid (HMem (Value.int .i64) 3 w1 w.heap.size p bp bc (.slice none 0 0) [] (List.replicate N (-1)) (List.replicate N (0 : Int)) ∧ Below w.heap.size w w1) := ⟨hM, hb1⟩
  clear hnew hM hb1
  go_wp2_with fail
  refine hv1.mono ?_
  rintro e w2 ⟨rfl, hw2⟩
  rw [hw2]
  clear hv1 hw2 w2
  go_wp2_with fail
  refine hst.mono ?_
  rintro e w3 ⟨r, t, s, xs, st, now, rfl, hS, hR, hb3⟩
  have HS : Hid (SMem 3 1 w3 w1.heap.size r t s N xs st now ∧ SM.Rep RI.At N (fun _ => none) xs st now ∧ Below w1.heap.size w1 w3) := ⟨hS, hR, hb3⟩
  clear hst hS hR hb3
  go_wp2_with fail
  go_ret
  obtain ⟨hM, hb1⟩ := HM1.out
  obtain ⟨hS, hR, hb3⟩ := HS.out
  have ha : Below w3.heap.size w3 (w3.alloc (.cells #[.pointer (some ⟨mp, 0, none⟩), .int .u64 (O : Nat), .pointer (some ⟨p, 0, none⟩), .pointer (some ⟨r, 0, none⟩), .int .u64 0] 77)) := (Below.refl _ _).alloc (Nat.le_refl _) _
  have e1 := hb1.size
  have e3 := hb3.size
  have lM := hM.lt
  have lS := hS.lt
  have hsz : (w3.alloc (.cells #[.pointer (some ⟨mp, 0, none⟩), .int .u64 (O : Nat), .pointer (some ⟨p, 0, none⟩), .pointer (some ⟨r, 0, none⟩), .int .u64 0] 77)).heap.size = w3.heap.size + 1 := by simp
  refine ⟨⟨w3.heap.size, p, r, t, s⟩, rfl, ⟨by simp, by simp, by simp, by simp, by simp, by simp, ⟨bp, bc, _, _, _, _, hM.below (below_on hb3 ha), HI.rep_new N, fun b hb => ?_⟩, ⟨xs, st, now, (smem_base hS e1).below ha, hR⟩, fun b hb => ?_, fun hb => ?_, fun b hb => ⟨hb.1, hb.2⟩, hN⟩, below_on hb1 (below_on hb3 ha)⟩
  · have := lM b hb
    dsimp only
    refine ⟨⟨by omega, by omega⟩, by omega, fun hx => ?_⟩
    have := lS b hx
    omega
  · dsimp only at hb
    rcases hb with hb | hb
    · rw [hb, hsz]
      exact ⟨by omega, by omega⟩
    · have := lS b hb
      exact ⟨by omega, by omega⟩
  · have := (lS w3.heap.size hb).2
    omega
end Go.Proofs.Ytmkpcidgiobpeaa
