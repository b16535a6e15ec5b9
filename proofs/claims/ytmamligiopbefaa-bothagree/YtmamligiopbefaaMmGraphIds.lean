/-
  The walk of graph's Ids: a range over all, in whose rounds a list is appended to.
-/
import Derived.Test.YtmamligiopbefaaMmRange2
import Derived.Test.YtmamligiopbefaaMmGraphSeq
import Derived.Maps.AppendAt
namespace Go.Proofs.Ytmamligiopbefaa
open Go.RowKit Go.Shelf
attribute [local go_sem] Oper.semAt_some

theorem info3 : (Try.prog.info? 3).map (fun i => (i.zero, i.size, i.bytes)) = some (some (.int .i64 0), 1, 8) := by kernel_rfl
theorem info_parts {P : Program} {t : TypeId} {z : Value} {s b : Nat} (h : (P.info? t).map (fun i => (i.zero, i.size, i.bytes)) = some (some z, s, b)) : ∃ i, P.info? t = some i ∧ i.zero = some z ∧ i.size = s ∧ i.bytes = b := by
  obtain ⟨i, hi, hzz⟩ := Option.map_eq_some_iff.1 h
  simp only [Prod.mk.injEq] at hzz
  exact ⟨i, hi, hzz.1, hzz.2.1, hzz.2.2⟩
theorem keeps_put (W : World) (k : Nat) (o : Obj) : Keeps (fun b => b = k) W (W.putObj k o) := ⟨rfl, rfl, rfl, by simp, fun _ _ hn => World.putObj_heap_other (by omega)⟩
set_option maxRecDepth 100000 in
set_option maxHeartbeats 2000000 in
theorem all_goesX (n : Nat) (_hn : 1 ≤ n) (Bn p N most : Nat) (m : GM.M) (hm : GM.Good most m) :
    GoesX n Try.prog 100 #[.pointer (some ⟨Bn, 0, none⟩)] numArc (fun ys => ys = GM.arcs m 64) 64
      (fun A => A.cell? ⟨Bn, 0, none⟩ = some (.pointer (some ⟨p, 0, none⟩)) ∧ GMem A p N most m) := by
  intro l J W hR hJ hY h0
  have HJ : Hid (∀ s A A', J s A → Below A.heap.size A A' → J s A') := hJ
  have HR : Hid (∀ s A, J s A → A.cell? ⟨Bn, 0, none⟩ = some (.pointer (some ⟨p, 0, none⟩)) ∧ GMem A p N most m) := hR
  have HY : Hid (∀ pre x W1, J pre W1 → pre.length < 64 → YieldAt Fence.wide (n - 1) Try.prog l (numArc x) W1 fun e W' => e = .returned (.bool true) ∧ J (pre ++ [x]) W') := hY
  have H0 : Hid (J [] W) := h0
  clear hJ hR hY h0
  refine callsIn_of_wp Try.func100 rfl trivial ?_ rfl
  simp only [Try.ntmps100, List.size_toArray, List.length_cons, List.length_nil, Nat.reduceAdd, Nat.reduceSub, Array.replicate_succ, Array.replicate_zero, List.push_toArray, List.append_toArray, List.nil_append, List.cons_append]
  gi_wp2_with fail
  gi_loopw [6] (fun iv wr => ∃ k : Nat, k ≤ 64 ∧ iv = .int .i64 k ∧ J (GM.arcs m k) wr) (fun iv _ => 64 - (intOf iv).toNat)
  case atStart => exact ⟨0, Nat.zero_le _, rfl, H0.out⟩
  case round =>
    obtain ⟨k, hk, rfl, hJs⟩ := hrel
    by_cases hlt : k < 64
    · obtain ⟨hcb, hkm⟩ := HR.out _ _ hJs
      have har := arc_in hkm hm k hlt
      have HJS : Hid (J (GM.arcs m k) wr) := hJs
      have HLEN : Hid ((GM.arcs m k).length < 64) := by
        have := GM.ids_le m k
        show _ < _
        rw [GM.arcs_len]
        omega
      have k64 : (k : Int) < 64 := by omega
      clear hkm hJs
      cases hsk : GM.is m k with
      | false =>
        rw [hsk] at har
        have HA : Hid (GM.arcs m (k + 1) = GM.arcs m k) := GM.arcs_skip hsk
        unfold arcV at har
        generalize GM.arc m k = a at *
        obtain ⟨t, h, x, c⟩ := a
        dsimp only at har
        clear hsk
        gi_wp2_with fail
        refine ⟨trivial, (callsIn_wide.2 har).mono ?_⟩
        rintro e w2 ⟨rfl, hb2⟩
        have HJ2 : Hid (J (GM.arcs m (k + 1)) (w2.alloc (.cells #[.int .i64 t, .int .i64 h, .int .i64 x, .bool c] 33))) := by
          show J _ _
          rw [HA.out]
          exact HJ.out _ _ _ HJS.out (hb2.alloc hb2.size _)
        clear har hb2 hcb
        gi_wp2_with fail
        refine ⟨(fun _ h => by cases h), ?_⟩
        gi_wp2_with fail
        go_roundw
        case rel => exact ⟨k + 1, by omega, by go_num, HJ2.out⟩
        case measure => simp [intOf]; omega
      | true =>
        rw [hsk] at har
        have HA : Hid (GM.arcs m (k + 1) = GM.arcs m k ++ [(k, GM.arc m k)]) := GM.arcs_take hsk
        unfold arcV at har
        generalize GM.arc m k = a at *
        obtain ⟨t, h, x, c⟩ := a
        dsimp only at har
        have HYX : Hid (∀ W1, J (GM.arcs m k) W1 → YieldAt Fence.wide (n - 1) Try.prog l #[.int .i64 (k : Nat), .agg #[.int .i64 t, .int .i64 h, .int .i64 x, .bool c]] W1 fun e W' => e = .returned (.bool true) ∧ J (GM.arcs m (k + 1)) W') := fun W1 h1 => by
          rw [HA.out]
          exact HY.out _ (k, ⟨t, h, x, c⟩) W1 h1 HLEN.out
        clear hsk
        gi_wp2_with fail
        refine ⟨trivial, (callsIn_wide.2 har).mono ?_⟩
        rintro e w2 ⟨rfl, hb2⟩
        have hJ2 : J (GM.arcs m k) (w2.alloc (.cells #[.int .i64 t, .int .i64 h, .int .i64 x, .bool c] 33)) := HJ.out _ _ _ HJS.out (hb2.alloc hb2.size _)
        obtain ⟨fn, tmps, assign, body, hy, hRd⟩ := HYX.out _ hJ2
        clear har hb2 hcb hJ2
        gi_wp2_with fail
        refine hRd.mono ?_
        rintro e W4 ⟨rfl, hJ4⟩
        have HJ4 : Hid (J (GM.arcs m (k + 1)) W4) := hJ4
        clear hJ4 hy hRd
        gi_wp2_with fail
        go_roundw
        case rel => exact ⟨k + 1, by omega, by go_num, HJ4.out⟩
        case measure => simp [intOf]; omega
    · obtain rfl : k = 64 := by omega
      have HJS : Hid (J (GM.arcs m 64) wr) := hJs
      clear hJs hlt hk
      gi_wp2_with fail
      go_end0
      exact ⟨⟨_, rfl⟩, _, rfl, HJS.out⟩

/-- A list of numbers whose slice lies in block ga, behind base; p's pointer in the next block. -/
structure Gath (w : World) (p : Nat) (W : World) (va : Value) (zs : List Int) : Prop where
  box : Boxed W w.heap.size 41 va
  own : Own .i64 3 W (w.heap.size + 4) va zs
  ptr : Boxed W (w.heap.size + 1) 24 (.pointer (some ⟨p, 0, none⟩))
  bel : Below w.heap.size w W
section
variable {w W W' : World} {p : Nat} {va : Value} {zs : List Int}
theorem Gath.on (h : Gath w p W va zs) (hb : Below W.heap.size W W') : Gath w p W' va zs :=
  ⟨(hb.block _ h.box.lt).trans h.box, h.own.below hb, (hb.block _ h.ptr.lt).trans h.ptr, h.bel.trans (hb.mono h.bel.size)⟩
theorem Gath.kept {F : Nat → Prop} (h : Gath w p W va zs) (hk : Keeps F W W') (hF : ∀ b, F b → b = w.heap.size + 3) : Gath w p W' va zs where
  box := (hk.block _ h.box.lt (fun hf => by have := hF _ hf; omega)).trans h.box
  own := hk.row h.own (fun g hg hf => by
    have := hF _ hf
    have := h.own.block g hg
    omega)
  ptr := (hk.block _ h.ptr.lt (fun hf => by have := hF _ hf; omega)).trans h.ptr
  bel := h.bel.trans (hk.below (fun b hb => by have := hF _ hb; omega) h.bel.size)
theorem Gath.app (h : Gath w p W va zs) {o : Go.Obj} {W2 : World} (hg : (W.alloc o).grownBy W2 va.ownBlock) {v' : Value} {zs' : List Int} (ho : Own .i64 3 W2 (w.heap.size + 4) v' zs') :
    Boxed W2 w.heap.size 41 va ∧ Gath w p (W2.setCell ⟨w.heap.size, 0, none⟩ v') v' zs' ∧ ∀ b, b < w.heap.size + 4 → b ≠ w.heap.size → b < W.heap.size → (W2.setCell ⟨w.heap.size, 0, none⟩ v').heap[b]? = W.heap[b]? := by
  have hb1 : Below W.heap.size W (W.alloc o) := (Below.refl _ _).alloc (Nat.le_refl _) _
  have h1 := h.on hb1
  have hk : Keeps (fun b => w.heap.size + 4 ≤ b) (W.alloc o) W2 := (Keeps.refl _ _).grown hg (fun k hk => .inl (h.own.block k hk))
  have hb2 : Boxed W2 w.heap.size 41 va := (hk.block _ h1.box.lt (by omega)).trans h1.box
  have hp2 : Boxed W2 (w.heap.size + 1) 24 (.pointer (some ⟨p, 0, none⟩)) := (hk.block _ h1.ptr.lt (by omega)).trans h1.ptr
  have hk2 : Keeps (fun b => b = w.heap.size) W2 (W2.setCell ⟨w.heap.size, 0, none⟩ v') := keeps_set _ _ _ _
  refine ⟨hb2, ⟨hb2.set v', hk2.row ho (fun g hg e => by have := ho.block g hg; omega), hp2.other (by omega) _, (h1.bel.trans (hk.below (fun b hb => by omega) h1.bel.size)).setCell (p := ⟨w.heap.size, 0, none⟩) (Nat.le_refl _) _⟩, fun b hb hne hlt => ?_⟩
  have e1 : (W.alloc o).heap[b]? = W.heap[b]? := hb1.block b hlt
  have e2 : W2.heap[b]? = (W.alloc o).heap[b]? := hk.block b (by simp; omega) (by omega)
  rw [hk2.block b (Nat.lt_of_lt_of_le (by simp; omega) hk.size) hne, e2, e1]
end

def nums (l : List (Nat × Arc)) : List Int := l.map (fun x => ((x.1 : Nat) : Int))
theorem nums_len (l : List (Nat × Arc)) : (nums l).length = l.length := by simp [nums]
theorem nums_snoc (l : List (Nat × Arc)) (x : Nat × Arc) : nums (l ++ [x]) = nums l ++ [((x.1 : Nat) : Int)] := by simp [nums]
theorem nums_all (m : GM.M) (k : Nat) : nums (GM.arcs m k) = GM.iids m k := by simp [nums, GM.arcs, GM.iids]

set_option maxRecDepth 100000 in
set_option maxHeartbeats 2000000 in
theorem ids_in {w : World} {p N most : Nat} {m : GM.M} (hg : GMem w p N most m) (hm : GM.Good most m) :
    CallsIn Fence.wide 5 Try.prog 60 #[.pointer (some ⟨p, 0, none⟩)] w fun e w' => ∃ r, e = .returned r ∧ Own .i64 3 w' w.heap.size r (GM.iids m 64) ∧ Below w.heap.size w w' := by
  obtain ⟨i0, hi, hz0, hz1, hz2⟩ := info_parts info3
  have hal := all_any p (w.alloc (.cells #[.slice none 0 0] 41))
  have hG0 : Gath w p ((w.alloc (.cells #[.slice none 0 0] 41)).alloc (.cells #[.pointer (some ⟨p, 0, none⟩)] 24)) (.slice none 0 0) (nums []) := by
    refine ⟨(Boxed.new w 41 (.slice none 0 0)).alloc _, Own.nil _ _ _ _, ?_, ((Below.refl _ _).alloc (Nat.le_refl _) _).alloc (by simp) _⟩
    have := Boxed.new (w.alloc (.cells #[.slice none 0 0] 41)) 24 (.pointer (some ⟨p, 0, none⟩))
    rwa [World.size_alloc] at this
  have hS : ((w.alloc (.cells #[.slice none 0 0] 41)).alloc (.cells #[.pointer (some ⟨p, 0, none⟩)] 24)).heap.size = w.heap.size + 1 + 1 := by simp
  have hgo := all_goesX 4 (by decide) (w.heap.size + 1) p N most m hm
  have HG : Hid (∀ W, Below w.heap.size w W → GMem W p N most m) := fun W hW => hg.on hW
  have HC : Hid (nums (GM.arcs m 64) = GM.iids m 64) := nums_all m 64
  clear hg hm
  generalize GM.iids m 64 = Z at *
  generalize GM.arcs m 64 = L at *
  refine callsIn_of_wp_marks Try.func60 rfl trivial ?_ rfl
  simp only [Try.ntmps60, List.size_toArray, List.length_cons, List.length_nil, Nat.reduceAdd, Nat.reduceSub, Array.replicate_succ, Array.replicate_zero, List.push_toArray, List.append_toArray, List.nil_append, List.cons_append]
  refine wpIn_wide.2 ?_
  go_wp2_with fail
  refine hal.mono ?_
  rintro e w9 ⟨rfl, hw9⟩
  rw [hw9]
  clear hw9 w9 hal
  simp only [World.size_alloc]
  generalize (w.alloc (.cells #[.slice none 0 0] 41)).alloc (.cells #[.pointer (some ⟨p, 0, none⟩)] 24) = W0 at *
  go_wp2_with fail
  refine (wpIn_wide (n := 5)).1 (range_goesX (by decide) (gf := 100) (lb := #[.pointer (some ⟨w.heap.size + 1, 0, none⟩)]) rfl (enters_of Try.func100 (by kernel_rfl) rfl) hgo (fun _ => rfl)
    (fun pre W => ∃ va, Gath w p W va (nums pre))
    (fun pre A A' h hb => by
      obtain ⟨va, h⟩ := h
      exact ⟨va, h.on hb⟩)
    (fun pre A o h _ => by
      obtain ⟨va, h⟩ := h
      exact ⟨va, h.kept (keeps_put _ _ _) (fun b hb => by omega)⟩)
    (fun pre A h => by
      obtain ⟨va, h⟩ := h
      exact ⟨h.ptr.cell, HG.out A h.bel⟩)
    ⟨_, hG0⟩
    (fun x => { tmps := #[.pointer (some ⟨p, 0, none⟩), undef, .slice none 0 0, .pointer (some ⟨w.heap.size, 0, none⟩), .int .i64 (x.1 : Nat), .pointer (some ⟨p, 0, none⟩), .func (.func 100) #[] #[.pointer (some ⟨w.heap.size + 1, 0, none⟩)], .int .i64 (x.1 : Nat), .agg #[.int .i64 x.2.tail, .int .i64 x.2.head, .int .i64 x.2.weight, .bool x.2.closed], undef, undef, undef, undef, undef], defers := [] }) ?assign ?body ?done)
  case assign =>
    intro l x W K hK
    simp only [numArc]
    gi_wp2
    simpa using hK
  case body =>
    rintro l pre ⟨i, t, h, x, c⟩ W ⟨va, hG⟩ hlt hsz
    have c1 := hG.box.cell
    have HG1 : Hid (Gath w p W va (nums pre)) := hG
    have HN : Hid (nums (pre ++ [(i, (⟨t, h, x, c⟩ : Arc))]) = nums pre ++ [(i : Int)]) := nums_snoc _ _
    have hnl : (nums pre).length < 64 := by rw [nums_len]; exact hlt
    have hs4 : w.heap.size + 4 ≤ W.heap.size := by omega
    clear hG hgo hG0 hlt
    generalize nums pre = zs at *
    gi_wp2_with (gi_at_builtin; refine wpListIn_append_own _ rfl _ _ 41 rfl (w.heap.size + 4) 3 i0 (.int .i64 0) 1 8 Try.underlying41 hi hz0 hz1 hz2 rfl (by decide) va zs.length (zs.map (Value.int .i64)) rfl (HG1.out.own.alloc _) ⟨W.heap.size, 0, none⟩ 1 1 [.int .i64 (i : Nat)] rfl rfl (cell_one_new _ _ _) (by simp [Value.oneCell']) (by unfold maxLen; omega) (by omega) (by simp; omega) ?_)
    intro v2 w2 hown2 hgrow2 _
    have ho2 : Own .i64 3 w2 (w.heap.size + 4) v2 (zs ++ [(i : Int)]) := by
      unfold Own
      rw [List.length_append, List.map_append]
      exact hown2
    obtain ⟨b2, hG2, hB2⟩ := HG1.out.app hgrow2 ho2
    obtain ⟨g2, cp2, rfl⟩ := ownsRow_succ hown2
    have HG2 : Hid (∃ va, Gath w p (w2.setCell ⟨w.heap.size, 0, none⟩ (.slice (some ⟨g2, 0, none⟩) (zs.length + 1) cp2)) va (nums (pre ++ [(i, (⟨t, h, x, c⟩ : Arc))]))) := by
      show ∃ _, _
      rw [HN.out]
      exact ⟨_, hG2⟩
    have HB2 : Hid ((w2.setCell ⟨w.heap.size, 0, none⟩ (.slice (some ⟨g2, 0, none⟩) (zs.length + 1) cp2)).heap[W0.heap.size]? = W.heap[W0.heap.size]? ∧ (w2.setCell ⟨w.heap.size, 0, none⟩ (.slice (some ⟨g2, 0, none⟩) (zs.length + 1) cp2)).heap[W0.heap.size + 1]? = W.heap[W0.heap.size + 1]?) := ⟨hB2 _ (by omega) (by omega) (by omega), hB2 _ (by omega) (by omega) (by omega)⟩
    have c2 := b2.cell
    have f2 := b2.frozen
    clear b2 hG2 hB2 ho2 hown2 hgrow2 c1 HN
    gi_wp2_with fail
    exact ⟨HB2.out, HG2.out⟩
  case done =>
    rintro ys W rfl ⟨va, hG⟩ hK
    have c1 := hG.box.cell
    rw [HC.out] at hG
    have HG1 : Hid (Gath w p W va Z) := hG
    clear hG hgo hG0
    go_wp2_with fail
    refine ⟨by simp, .inl ⟨_, _, rfl, run_takeDeferred hK, ?_⟩⟩
    refine ⟨_, results_tmp rfl _ _ _, _, rfl, ?_, HG1.out.bel.trans (belowK_b (w := w) (Nat.le_refl _) W _ _ _ (by omega) hK rfl rfl)⟩
    have ho := HG1.out.own.base_le (base' := w.heap.size) (by omega)
    unfold Own at ho ⊢
    exact ownsRow_putObj ho _ hK rfl
/-- Their numbers. -/
theorem ids_any {w : World} {p N most : Nat} {m : GM.M} (hg : GMem w p N most m) (hm : GM.Good most m) :
    Calls Try.prog 60 #[.pointer (some ⟨p, 0, none⟩)] w fun e w' => ∃ r, e = .returned r ∧ Own .i64 3 w' w.heap.size r (GM.iids m 64) ∧ Below w.heap.size w w' := callsIn_wide.1 (ids_in hg hm)
end Go.Proofs.Ytmamligiopbefaa
