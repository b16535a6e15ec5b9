/-
  The walk of the law BitsGoes.
-/
import Derived.Test.YtnfhjdealagckaaDoorBitsAwake
namespace Go.Proofs.YtnfhjdealagckaaDoor
open Go.RowKit Go.Shelf
attribute [local go_sem] Oper.semAt_some

theorem prefix_snoc {pre zs : List Int} {x : Int} (h : pre <+: zs) (hlt : pre.length < zs.length) : pre ++ [x] <+: zs ↔ zs[pre.length] = x := by
  obtain ⟨r, rfl⟩ := h
  cases r with
  | nil => simp at hlt
  | cons y r =>
    constructor
    · rintro ⟨q, hq⟩
      simp at hq
      simp [hq.1]
    · intro e
      simp at e
      subst e
      exact ⟨r, by simp⟩

set_option maxRecDepth 100000 in
/-- The way out: the answer lies in its cell; nothing is deferred. -/
theorem goes_out {n : Nat} {w W : World} {t : Array Value} {D : Nat} {b : Bool} (hb : b = true) (ht : t[4]?.getD undef = .pointer (some ⟨w.heap.size + 1, 0, none⟩)) (hcr : W.cell? ⟨w.heap.size + 1, 0, none⟩ = some (.bool false))
    (hK : W.heap[D]? = some (.deferred (some []))) (hB : Below w.heap.size w W) (hD : w.heap.size ≤ D) :
    bodyPostM Fence.wide n Tryd.prog Tryd.f5 (fun e w' => e = .returned (.bool true) ∧ Below w.heap.size w w') Exit.ret { tmps := t, defers := [{ target := .collected D, args := #[] }] } (W.setCell ⟨w.heap.size + 1, 0, none⟩ (.bool b)) := by
  subst hb
  have hK' := (KeepsOthers.setCell W ⟨w.heap.size + 1, 0, none⟩ (.bool true)).same D _ hK rfl
  refine ⟨by simp, .inl ⟨_, _, rfl, run_takeDeferred hK', ?_⟩⟩
  have hc5 := cell_kept (World.cell?_setCell_same' W ⟨w.heap.size + 1, 0, none⟩ (.bool true) (by rw [hcr]; rfl)) (grownBy_putObj' _ D (.deferred none)) (fun r e => by cases e; exact ⟨_, hK', rfl⟩)
  refine ⟨.bool true, ?_, rfl, (hB.setCell (p := ⟨w.heap.size + 1, 0, none⟩) (by simp) _).trans (belowK_b (w := w) (Nat.le_refl _) _ D _ _ hD hK' rfl rfl)⟩
  simp [results, Tryd.f5, go_sem, hc5, ht]

set_option maxRecDepth 100000 in
set_option maxHeartbeats 2000000 in
theorem goes_in (n : Nat) (hn : 5 ≤ n) (s : Nat) (hs : s < 18446744073709551616) (m : Int) (hm0 : 0 ≤ m) (hm1 : m ≤ 255) (w : World) (hR : Ready w) :
    CallsIn Fence.wide n Tryd.prog 5 #[.int .u64 s, .int .u8 m] w fun e w' => e = .returned (.bool true) ∧ Below w.heap.size w w' := by
  have h1 : 1 ≤ n := by omega
  have hle := ilst_le s
  have hpos := hR.1
  refine callsIn_of_wp_marks Tryd.func5 rfl trivial ?_ rfl
  simp only [Tryd.ntmps5, List.size_toArray, List.length_cons, List.length_nil, Nat.reduceAdd, Nat.reduceSub, Array.replicate_succ, Array.replicate_zero, List.push_toArray, List.append_toArray, List.nil_append, List.cons_append]
  gi_wp2_with fail
  have bM := Boxed.new w 5 (.int .u8 m)
  have bR := Boxed.new (w.alloc (.cells #[.int .u8 m] 5)) 4 (.bool false)
  rw [World.size_alloc] at bR
  have bM0 := bM.alloc (.cells #[.bool false] 4)
  have hB0 : Below w.heap.size w ((w.alloc (.cells #[.int .u8 m] 5)).alloc (.cells #[.bool false] 4)) := ((Below.refl _ _).alloc (Nat.le_refl _) _).alloc (by simp) _
  have hS0 : ((w.alloc (.cells #[.int .u8 m] 5)).alloc (.cells #[.bool false] 4)).heap.size = w.heap.size + 1 + 1 := by simp
  generalize (w.alloc (.cells #[.int .u8 m] 5)).alloc (.cells #[.bool false] 4) = w0 at *
  have hR0 := hR.below hpos hB0
  refine ⟨trivial, (callsIn_wide.2 (awake_any w0 hR0)).mono ?_⟩
  rintro e w1 ⟨rfl, hb1⟩
  gi_wp2_with fail
  refine ⟨trivial, (callsIn_wide.2 (rlist_any s hs w1)).mono ?_⟩
  rintro e w2 ⟨r2, rfl, ho2, hb2⟩
  have hb02 : Below w0.heap.size w0 w2 := hb1.trans (hb2.mono hb1.size)
  have hB2 : Below w.heap.size w w2 := hB0.trans (hb02.mono (by omega))
  obtain ⟨a2, cp2, rfl, hat2⟩ := ho2.at
  have bM2 : Boxed w2 w.heap.size 5 (.int .u8 m) := (hb02.block _ (by omega)).trans bM0
  have bR2 : Boxed w2 (w.heap.size + 1) 4 (.bool false) := (hb02.block _ (by omega)).trans bR
  have hS2 := hb02.size
  clear ho2 hb1 hb2
  gi_wp2_with fail
  refine ⟨trivial, (all_in _ s _).mono ?_⟩
  rintro e w3 ⟨rfl, rfl⟩
  gi_wp2_with fail
  have bL := ((Boxed.new w2 25 (.slice a2 (BM.ilst s).length cp2)).alloc (.cells #[.int .i64 0] 3)).alloc (.cells #[.int .u64 s] 24)
  have bN := (Boxed.new (w2.alloc (.cells #[.slice a2 (BM.ilst s).length cp2] 25)) 3 (.int .i64 0)).alloc (.cells #[.int .u64 s] 24)
  have bS := Boxed.new ((w2.alloc (.cells #[.slice a2 (BM.ilst s).length cp2] 25)).alloc (.cells #[.int .i64 0] 3)) 24 (.int .u64 s)
  simp only [World.size_alloc] at bN bS
  have hB3 : Below w2.heap.size w2 (((w2.alloc (.cells #[.slice a2 (BM.ilst s).length cp2] 25)).alloc (.cells #[.int .i64 0] 3)).alloc (.cells #[.int .u64 s] 24)) := (((Below.refl _ _).alloc (Nat.le_refl _) _).alloc (by simp) _).alloc (by simp; omega) _
  have hS3 : (((w2.alloc (.cells #[.slice a2 (BM.ilst s).length cp2] 25)).alloc (.cells #[.int .i64 0] 3)).alloc (.cells #[.int .u64 s] 24)).heap.size = w2.heap.size + 1 + 1 + 1 := by simp
  generalize ((w2.alloc (.cells #[.slice a2 (BM.ilst s).length cp2] 25)).alloc (.cells #[.int .i64 0] 3)).alloc (.cells #[.int .u64 s] 24) = W0 at *
  have hB03 : Below w.heap.size w W0 := hB2.trans (hB3.mono (by omega))
  have HA2 : Hid (∀ W, Below (w2.heap.size + 1) W0 W → RowAt .i64 W a2 cp2 (BM.ilst s)) := fun W hB => hat2.below (hB3.trans (hB.mono (by omega)))
  have bM3 : Boxed W0 w.heap.size 5 (.int .u8 m) := (hB3.block _ (by omega)).trans bM2
  have bR3 : Boxed W0 (w.heap.size + 1) 4 (.bool false) := (hB3.block _ (by omega)).trans bR2
  clear bM2 bR2 bM0 bR bM hat2 hB3 hB2 hb02 hB0
  generalize hzs : BM.ilst s = zs at *
  refine wpIn_rangeFunc_ownG rfl h1 (gf := 25) (lb := #[.pointer (some ⟨w2.heap.size + 1 + 1, 0, none⟩)]) rfl trivial (enters_of Tryd.func25 (by kernel_rfl) rfl)
    (all_stops (n - 1) (by omega) (w2.heap.size + 1 + 1) (w2.heap.size + 1) (by omega) s hs _ (by omega) (by omega) bS.cell (hR.below hpos hB03)) belowK_t (belowK_b (by omega)) (Below.refl _ _) (fun _ => rfl)
    (fun pre W => (pre <+: zs ∧ (pre = [] ∨ (pre.length : Int) < m)) ∧ Boxed W (w2.heap.size + 1) 3 (.int .i64 (pre.length : Nat)) ∧ Below (w2.heap.size + 1) W0 W)
    (fun c pre W => (c = .ret ∧ ¬ pre <+: zs) ∨ ((c = .exit 0 ∧ pre <+: zs ∧ (pre.length : Int) = max m 1) ∧ Boxed W (w2.heap.size + 1) 3 (.int .i64 (pre.length : Nat)) ∧ Below (w2.heap.size + 1) W0 W))
    (OwnFrom.and (ownFrom_pure _ _) (OwnFrom.and (Go.Own.from (boxed_own _ _ (fun pre : List Int => Value.int .i64 (pre.length : Nat))) _) (ownFrom_below (by omega) (by omega))))
    (fun c t A B row ht hg hr => ht.imp id (fun h => ⟨h.1, (Go.Own.from (boxed_own (w2.heap.size + 1) 3 (fun pre : List Int => Value.int .i64 (pre.length : Nat))) _) t A B row h.2.1 hg hr, (ownFrom_below (β := List Int) (by omega) (by omega)) t A B row h.2.2 hg hr⟩))
    ⟨⟨List.nil_prefix, .inl rfl⟩, bN, Below.refl _ _⟩
    (fun x => { tmps := #[.int .u64 s, .int .u8 m, undef, .pointer (some ⟨w.heap.size, 0, none⟩), .pointer (some ⟨w.heap.size + 1, 0, none⟩), .pointer (some ⟨w2.heap.size, 0, none⟩), .pointer (some ⟨w2.heap.size + 1, 0, none⟩), .int .i64 x, .bool true, .bool false, .int .u64 s, .slice a2 zs.length cp2, .int .u64 s, .func (.func 25) #[] #[.pointer (some ⟨w2.heap.size + 1 + 1, 0, none⟩)], .int .i64 x,
      undef, undef, undef, undef, undef, undef, undef, undef, undef, undef, undef, undef, undef, undef, undef, undef, undef, undef, undef, undef, undef, undef, undef, undef, undef, undef, undef, undef, undef, undef, undef, undef, undef, undef, undef], defers := [] }) ?assign ?body ?done ?stop
  case assign =>
    intro l x W K hK
    gi_wp2
    exact hK
  case body =>
    rintro l pre x W ⟨⟨hpre, hmost⟩, hbn, hB⟩ hlt
    rw [hzs] at hlt
    have hcn := hbn.cell
    have hfn := hbn.frozen
    have hcl : W.cell? ⟨w2.heap.size, 0, none⟩ = some (.slice a2 zs.length cp2) := (hB.cell (by exact Nat.lt_succ_self _)).trans bL.cell
    have hcm : W.cell? ⟨w.heap.size, 0, none⟩ = some (.int .u8 m) := (hB.cell (by show w.heap.size < _; omega)).trans bM3.cell
    have hcr : W.cell? ⟨w.heap.size + 1, 0, none⟩ = some (.bool false) := (hB.cell (by show w.heap.size + 1 < _; omega)).trans bR3.cell
    have hfr : W.frozen? ⟨w.heap.size + 1, 0, none⟩ = false := by
      have : Boxed W (w.heap.size + 1) 4 (.bool false) := (hB.block _ (by omega)).trans bR3
      exact this.frozen
    obtain ⟨bb, oo, rfl, hc⟩ := (HA2.out W hB).2.2.2 (by omega)
    have hck := hc pre.length hlt
    rw [List.getElem?_eq_getElem hlt, Option.getD_some] at hck
    have hpx : pre ++ [x] <+: zs ↔ zs[pre.length] = x := prefix_snoc hpre hlt
    have HPX : Hid (pre ++ [x] <+: zs ↔ zs[pre.length] = x) := hpx
    generalize zs[pre.length] = z at *
    clear hc hpx hzs
    have hKO := KeepsOthers.setCell W ⟨w2.heap.size + 1, 0, none⟩ (.int .i64 ((pre.length : Int) + 1))
    have hBs : Below (w2.heap.size + 1) W (W.setCell ⟨w2.heap.size + 1, 0, none⟩ (.int .i64 ((pre.length : Int) + 1))) := (Below.refl _ W).setCell (p := ⟨w2.heap.size + 1, 0, none⟩) (Nat.le_refl _) _
    have hbs := hbn.set (.int .i64 ((pre.length : Int) + 1))
    have el : ((pre ++ [x]).length : Int) = (pre.length : Int) + 1 := by simp
    have HBX : Hid (Boxed (W.setCell ⟨w2.heap.size + 1, 0, none⟩ (.int .i64 ((pre.length : Int) + 1))) (w2.heap.size + 1) 3 (.int .i64 ((pre ++ [x]).length : Nat))) := by
      show Boxed _ _ _ _
      rw [el]; exact hbs
    have HKO : Hid (KeepsOthers W (W.setCell ⟨w2.heap.size + 1, 0, none⟩ (.int .i64 ((pre.length : Int) + 1)))) := hKO
    have hpl : pre = [] → pre.length = 0 := fun h => by rw [h]; rfl
    clear hbs el hKO
    by_cases hzx : z = x
    · subst hzx
      have hq : (z == z) = true := by simp
      have HP2 : Hid (pre ++ [z] <+: zs) := HPX.out.2 rfl
      clear HPX
      by_cases hmp : m ≤ (pre.length : Int) + 1
      · have HMX : Hid (((pre ++ [z]).length : Int) = max m 1) := by
          show _ = _
          simp
          rcases hmost with h | h
          · have := hpl h; omega
          · omega
        clear hpl hmost
        gi_wp2
        exact ⟨HKO.out.from _, .inr ⟨⟨rfl, HP2.out, HMX.out⟩, HBX.out, hB.trans hBs⟩⟩
      · have HMX : Hid (((pre ++ [z]).length : Int) < m) := by
          show _ < _
          simp
          omega
        clear hpl hmost
        gi_wp2
        exact ⟨HKO.out.from _, hBs, ⟨HP2.out, .inr HMX.out⟩, HBX.out, hB.trans hBs⟩
    · have hq : (z == x) = false := by simp [hzx]
      have hq2 : (z != x) = true := by simp [hzx]
      have HP2 : Hid (¬ pre ++ [x] <+: zs) := fun h => hzx (HPX.out.1 h)
      clear hpl hmost HPX
      gi_wp2
      exact ⟨(KeepsOthers.setCell _ _ _).from _, .inl ⟨rfl, HP2.out⟩⟩
  case done =>
    rintro D ys W hD rfl ⟨⟨hpre, hmost⟩, hbn, hB⟩ hK
    rw [hzs] at hpre hmost hbn
    have hcn := hbn.cell
    have hcl : W.cell? ⟨w2.heap.size, 0, none⟩ = some (.slice a2 zs.length cp2) := (hB.cell (by exact Nat.lt_succ_self _)).trans bL.cell
    have hcm : W.cell? ⟨w.heap.size, 0, none⟩ = some (.int .u8 m) := (hB.cell (by show w.heap.size < _; omega)).trans bM3.cell
    have hbr : Boxed W (w.heap.size + 1) 4 (.bool false) := (hB.block _ (by omega)).trans bR3
    have hcr := hbr.cell
    have hfr := hbr.frozen
    have hBW : Below w.heap.size w W := hB03.trans (hB.mono (by omega))
    have HM : Hid ((zs.length : Int) = 0 ∨ (zs.length : Int) < m) := hmost.imp (fun h => by rw [h]; rfl) id
    have hDw : w.heap.size ≤ D := by omega
    clear hmost hpre hle
    gi_wp2
    all_goals (refine goes_out ?_ rfl hcr hK hBW hDw)
    all_goals (have hm := HM.out)
    all_goals first
      | rfl
      | (simp; omega)
      | omega
  case stop =>
    rintro D c pre W hD hpre (⟨rfl, h⟩ | ⟨⟨rfl, hp, hmx⟩, hbn, hB⟩) hK
    · rw [hzs] at hpre
      exact absurd hpre h
    · have hcn := hbn.cell
      have hcl : W.cell? ⟨w2.heap.size, 0, none⟩ = some (.slice a2 zs.length cp2) := (hB.cell (by exact Nat.lt_succ_self _)).trans bL.cell
      have hcm : W.cell? ⟨w.heap.size, 0, none⟩ = some (.int .u8 m) := (hB.cell (by show w.heap.size < _; omega)).trans bM3.cell
      have hbr : Boxed W (w.heap.size + 1) 4 (.bool false) := (hB.block _ (by omega)).trans bR3
      have hcr := hbr.cell
      have hfr := hbr.frozen
      have hBW : Below w.heap.size w W := hB03.trans (hB.mono (by omega))
      have HM : Hid ((pre.length : Int) = max m 1 ∧ pre.length ≤ zs.length) := ⟨hmx, hp.length_le⟩
      have hDw : w.heap.size ≤ D := by omega
      clear hmx hp hpre hle hzs
      generalize pre.length = L at *
      gi_wp2
      all_goals (refine goes_out ?_ rfl hcr hK hBW hDw)
      all_goals (have hm := HM.out)
      all_goals first
        | rfl
        | (simp; omega)
        | omega

theorem goes_walk (a m : Int) (w : World) (hR : Ready w) (h0 : 0 ≤ a) (h1 : a ≤ 18446744073709551615) (hm0 : 0 ≤ m) (hm1 : m ≤ 255) :
    Calls Tryd.prog 5 #[.int .u64 a, .int .u8 m] w fun e w' => e = .returned (.bool true) ∧ Below w.heap.size w w' := by
  obtain ⟨s, rfl⟩ : ∃ s : Nat, a = s := ⟨a.toNat, by omega⟩
  exact (callsIn_wide (n := 5)).1 (goes_in 5 (by omega) s (by omega) m hm0 hm1 w hR)
end Go.Proofs.YtnfhjdealagckaaDoor
