/-
  The walk of layer 13's law's same, where what was found is what the document says.
-/
import Derived.Test.YtmkpcidgiobpeaaMmWitOut
namespace Go.Proofs.Ytmkpcidgiobpeaa
open Go.RowKit
theorem same_new (w : World) (x0 x1 x2 y0 y1 y2 : Value) (t u : TypeId) : ∃ w2, w2 = (w.alloc (.cells #[x0, x1, x2] t)).alloc (.cells #[y0, y1, y2] u) ∧ Below w.heap.size w w2 ∧ w2.heap.size = w.heap.size + 2 ∧ w2.cell? ⟨w.heap.size, 0, none⟩ = some x0 ∧ w2.cell? ⟨w.heap.size, 1, none⟩ = some x1 ∧ w2.cell? ⟨w.heap.size, 2, none⟩ = some x2 ∧
    w2.cell? ⟨w.heap.size + 1, 0, none⟩ = some y0 ∧ w2.cell? ⟨w.heap.size + 1, 1, none⟩ = some y1 ∧ w2.cell? ⟨w.heap.size + 1, 2, none⟩ = some y2 := by
  refine ⟨_, rfl, ((Below.refl _ _).alloc (Nat.le_refl _) _).alloc (by simp) _, by simp, ?_⟩
  have n1 := heap_alloc_new w (.cells #[x0, x1, x2] t)
  have s1 := World.size_alloc w (.cells #[x0, x1, x2] t)
  generalize w.alloc (.cells #[x0, x1, x2] t) = w1 at *
  have n2 := heap_alloc_new w1 (.cells #[y0, y1, y2] u)
  rw [s1] at n2
  have n3 : (w1.alloc (.cells #[y0, y1, y2] u)).heap[w.heap.size]? = w1.heap[w.heap.size]? := Below.heap_alloc _ _ _ (by omega)
  rw [n1] at n3
  refine ⟨?_, ?_, ?_, ?_, ?_, ?_⟩ <;> unfold World.cell? <;> first | (rw [n3]; rfl) | (rw [n2]; rfl)
set_option maxRecDepth 100000 in
set_option maxHeartbeats 2000000 in
/-- The law's same. -/
theorem same13_any {w : World} {B g N T : Nat} {sv dv sv2 dv2 : Value} {zs ds : List Int} {bs : List Bool} (hs : Row .i64 w sv zs) (hd : Row .i64 w dv ds) (hs2 : Row .i64 w sv2 zs) (hd2 : Row .i64 w dv2 ds) (ht : w.ownsRow B 4 1 (.slice (some ⟨g, 0, none⟩) N N) N (bs.map Value.bool)) (hbl : bs.length = N) (hN : N ≤ 24) (hT : T < 16777216)
    (hE : ∀ v : Nat, v < N → BM.has T (v : Int) = bs[v]?.getD false) :
    Calls Try.prog 13 #[.agg #[sv, dv, .int .u64 T], .agg #[sv2, dv2, .slice (some ⟨g, 0, none⟩) N N]] w fun e w' => e = .returned (.bool true) ∧ Below w.heap.size w w' := by
  have h0 := same_new w sv dv (.int .u64 T) sv2 dv2 (.slice (some ⟨g, 0, none⟩) N N) 32 41
  have hgl : g < w.heap.size := (World.ownsRow.lt ht g rfl).2
  have HI1 : Hid (∀ W, Below w.heap.size w W → Calls Try.prog 19 #[sv, sv2] W fun e w' => e = .returned (.bool true) ∧ Below W.heap.size W w') := fun W hW => by
    have := ints_any _ _ zs zs W (hs.below hW) (hs2.below hW)
    rwa [decide_eq_true rfl] at this
  have HI2 : Hid (∀ W, Below w.heap.size w W → Calls Try.prog 19 #[dv, dv2] W fun e w' => e = .returned (.bool true) ∧ Below W.heap.size W w') := fun W hW => by
    have := ints_any _ _ ds ds W (hd.below hW) (hd2.below hW)
    rwa [decide_eq_true rfl] at this
  have HC : Hid (∀ (W : World) (v : Nat), Below w.heap.size w W → v < N → ∃ b, W.cell? ⟨g, v, none⟩ = some (.bool b) ∧ BM.has T (v : Int) = b) := fun W v hW hv => by
    refine ⟨bs[v]'(by omega), ?_, ?_⟩
    · rw [hW.cell (p := ⟨g, v, none⟩) hgl, World.ownsRow.cellAt ht v (by omega), List.getElem?_map, List.getElem?_eq_getElem (by omega)]
      rfl
    · rw [hE v hv, List.getElem?_eq_getElem (by omega)]
      rfl
  obtain ⟨a1, n1, c1, rfl⟩ : ∃ a n c, sv = .slice a n c := by obtain ⟨a, c, e, -⟩ := hs; exact ⟨_, _, _, e⟩
  obtain ⟨a2, n2, c2, rfl⟩ : ∃ a n c, dv = .slice a n c := by obtain ⟨a, c, e, -⟩ := hd; exact ⟨_, _, _, e⟩
  obtain ⟨a3, n3, c3, rfl⟩ : ∃ a n c, sv2 = .slice a n c := by obtain ⟨a, c, e, -⟩ := hs2; exact ⟨_, _, _, e⟩
  obtain ⟨a4, n4, c4, rfl⟩ : ∃ a n c, dv2 = .slice a n c := by obtain ⟨a, c, e, -⟩ := hd2; exact ⟨_, _, _, e⟩
  clear hs hd hs2 hd2 ht hbl hE hgl
  go_enter Try.func13, Try.ntmps13
  go_upto_region 1 with fail
  obtain ⟨w2, hw2, hb2, hs2, x0, x1, x2, y0, y1, y2⟩ := h0
  rw [← hw2]
  clear hw2
  have HCE : Hid (∀ W, Below w2.heap.size w2 W → W.cell? ⟨w.heap.size, 0, none⟩ = some (.slice a1 n1 c1) ∧ W.cell? ⟨w.heap.size, 1, none⟩ = some (.slice a2 n2 c2) ∧ W.cell? ⟨w.heap.size, 2, none⟩ = some (.int .u64 T) ∧ W.cell? ⟨w.heap.size + 1, 0, none⟩ = some (.slice a3 n3 c3) ∧ W.cell? ⟨w.heap.size + 1, 1, none⟩ = some (.slice a4 n4 c4) ∧ W.cell? ⟨w.heap.size + 1, 2, none⟩ = some (.slice (some ⟨g, 0, none⟩) N N) ∧ Below w.heap.size w W) := fun W hW =>
    ⟨(hW.cell (p := ⟨w.heap.size, 0, none⟩) (by show w.heap.size < _; omega)).trans x0, (hW.cell (p := ⟨w.heap.size, 1, none⟩) (by show w.heap.size < _; omega)).trans x1, (hW.cell (p := ⟨w.heap.size, 2, none⟩) (by show w.heap.size < _; omega)).trans x2,
      (hW.cell (p := ⟨w.heap.size + 1, 0, none⟩) (by show w.heap.size + 1 < _; omega)).trans y0, (hW.cell (p := ⟨w.heap.size + 1, 1, none⟩) (by show w.heap.size + 1 < _; omega)).trans y1, (hW.cell (p := ⟨w.heap.size + 1, 2, none⟩) (by show w.heap.size + 1 < _; omega)).trans y2, hb2.trans (hW.mono (by omega))⟩
  clear hb2 hs2 x0 x1 x2 y0 y1 y2
  go_wp2_with fail
  go_loopw [5] (fun iv wr => ∃ k : Nat, k ≤ N ∧ iv = .int .i64 k ∧ Below w2.heap.size w2 wr) (fun iv _ => N - (intOf iv).toNat)
  case atStart => exact ⟨0, Nat.zero_le _, rfl, Below.refl _ _⟩
  case round =>
    obtain ⟨k, hk, rfl, hB⟩ := hrel
    have HB : Hid (Below w2.heap.size w2 wr) := hB
    obtain ⟨x0, x1, x2, y0, y1, y2, hBw⟩ := HCE.out wr hB
    by_cases hl : k < N
    · have k1 : (k : Int) < (N : Int) := by omega
      have k0 : (0 : Int) ≤ (k : Int) := by omega
      obtain ⟨b, cb, eb⟩ := HC.out wr k hBw hl
      have hh := fun W => has_any T (k : Int) (by omega) W
      rw [eb] at hh
      clear x0 x1 y0 y1 hB hBw eb
      go_upto_region 4 with fail
      go_quiet ((go_at_call 21; exact Calls.quiet_of_same (hh _)))
      have HW : Hid (Below w2.heap.size w2 (wr.drewN nq)) := below_drewN HB.out nq
      clear x2 y2 cb
      generalize wr.drewN nq = wq at *
      go_wp2_with fail
      go_roundw
      case rel => exact ⟨k + 1, by omega, by go_num, HW.out⟩
      case measure => simp [intOf]; omega
    · obtain rfl : k = N := by omega
      have hi1 := HI1.out wr hBw
      have HB0 : Hid (Below w.heap.size w wr) := hBw
      have t1 : (T : Int) < 16777216 := by omega
      clear hB hBw
      go_wp2_with fail
      refine hi1.mono ?_
      rintro e w5 ⟨rfl, hb5⟩
      have hB5 := HB.out.trans (hb5.mono HB.out.size)
      obtain ⟨z0, z1, z2, v0, v1, v2, hBw5⟩ := HCE.out w5 hB5
      have hi2 := HI2.out w5 hBw5
      have HB5 : Hid (Below w.heap.size w w5) := hBw5
      clear hi1 hb5 hB5 x0 x1 x2 y0 y1 y2 z0 z2 v0 v2 hBw5
      go_wp2_with fail
      refine hi2.mono ?_
      rintro e w6 ⟨rfl, hb6⟩
      clear hi2
      have HB6 : Hid (Below w.heap.size w w6) := HB5.out.trans (hb6.mono HB5.out.size)
      go_wp2_with fail
      go_ret
      exact ⟨rfl, HB6.out⟩
end Go.Proofs.Ytmkpcidgiobpeaa
