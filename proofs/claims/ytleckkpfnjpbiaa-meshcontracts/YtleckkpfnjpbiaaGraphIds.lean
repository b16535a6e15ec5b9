/-
  The walk of graph's Ids: a range over all, in whose rounds a list is appended to.
-/
import Derived.Test.YtleckkpfnjpbiaaRange2
import Derived.Test.YtleckkpfnjpbiaaGraphSeq
import Derived.Maps.AppendAt
namespace Go.Proofs.Ytleckkpfnjpbiaa
open Go.RowKit Go.Shelf
attribute [local go_sem] Oper.semAt_some

theorem info3 : (Try.prog.info? 3).map (fun i => (i.zero, i.size, i.bytes)) = some (some (.int .i64 0), 1, 8) := by kernel_rfl
theorem info_parts {P : Program} {t : TypeId} {z : Value} {s b : Nat} (h : (P.info? t).map (fun i => (i.zero, i.size, i.bytes)) = some (some z, s, b)) : ∃ i, P.info? t = some i ∧ i.zero = some z ∧ i.size = s ∧ i.bytes = b := by
  obtain ⟨i, hi, hzz⟩ := Option.map_eq_some_iff.1 h
  simp only [Prod.mk.injEq] at hzz
  exact ⟨i, hi, hzz.1, hzz.2.1, hzz.2.2⟩
theorem keeps_put (W : World) (k : Nat) (o : Obj) : Keeps (fun b => b = k) W (W.putObj k o) := ⟨rfl, rfl, rfl, by simp, fun _ _ hn => World.putObj_heap_other (by omega)⟩
set_option maxRecDepth 100000 in
set_option maxHeartbeats 2000000 in
theorem all_goesX (n : Nat) (_hn : 1 ≤ n) (Bn p N most : Nat) (m : GM.M) (hm : GM.Good most m) :
    GoesX n Try.prog 77 #[.pointer (some ⟨Bn, 0, none⟩)] numArc (fun ys => ys = GM.arcs m 64) 64
      (fun A => A.cell? ⟨Bn, 0, none⟩ = some (.pointer (some ⟨p, 0, none⟩)) ∧ GMem A p N most m) := by
  intro l J W hR hJ hY h0
  have HJ : Hid (∀ s A A', J s A → Below A.heap.size A A' → J s A') := hJ
  have HR : Hid (∀ s A, J s A → A.cell? ⟨Bn, 0, none⟩ = some (.pointer (some ⟨p, 0, none⟩)) ∧ GMem A p N most m) := hR
  have HY : Hid (∀ pre x W1, J pre W1 → pre.length < 64 → YieldAt Fence.wide (n - 1) Try.prog l (numArc x) W1 fun e W' => e = .returned (.bool true) ∧ J (pre ++ [x]) W') := hY
  have H0 : Hid (J [] W) := h0
  clear hJ hR hY h0
  refine callsIn_of_wp Try.func77 rfl trivial ?_ rfl
  simp only [Try.ntmps77, List.size_toArray, List.length_cons, List.length_nil, Nat.reduceAdd, Nat.reduceSub, Array.replicate_succ, Array.replicate_zero, List.push_toArray, List.append_toArray, List.nil_append, List.cons_append]
  gi_wp2_with fail
  gi_loopw [6] (fun iv wr => ∃ k : Nat, k ≤ 64 ∧ iv = .int .i64 k ∧ J (GM.arcs m k) wr) (fun iv _ => 64 - (intOf iv).toNat)
  case atStart => exact ⟨0, Nat.zero_le _, rfl, H0.out⟩
  case round =>
    obtain ⟨k, hk, rfl, hJs⟩ := hrel
    by_cases hlt : k < 64
    · obtain ⟨hcb, hkm⟩ := HR.out _ _ hJs
      have har := arc_in hkm hm k hlt
      have HJS : Hid (J (GM.arcs m k) wr) := hJs
      have HLEN : Hid ((GM.arcs m k).length < 64) := by
        have := GM.ids_le m k
        show _ < _
        rw [GM.arcs_len]
        omega
      have k64 : (k : Int) < 64 := by omega
      clear hkm hJs
      cases hsk : GM.is m k with
      | false =>
        rw [hsk] at har
        have HA : Hid (GM.arcs m (k + 1) = GM.arcs m k) := GM.arcs_skip hsk
        unfold arcV at har
        generalize GM.arc m k = a at *
        obtain ⟨t, h, x, c⟩ := a
        dsimp only at har
        clear hsk
        gi_wp2_with fail
        refine ⟨trivial, (callsIn_wide.2 har).mono ?_⟩
        rintro e w2 ⟨rfl, hb2⟩
        have HJ2 : Hid (J (GM.arcs m (k + 1)) (w2.alloc (.cells #[.int .i64 t, .int .i64 h, .int .i64 x, .bool c] 83))) := by
          show J _ _
          rw [HA.out]
          exact HJ.out _ _ _ HJS.out (hb2.alloc hb2.size _)
        clear har hb2 hcb
        gi_wp2_with fail
        refine ⟨(fun _ h => by cases h), ?_⟩
        gi_wp2_with fail
        go_roundw
        case rel => exact ⟨k + 1, by omega, by go_num, HJ2.out⟩
        case measure => simp [intOf]; omega
      | true =>
        rw [hsk] at har
        have HA : Hid (GM.arcs m (k + 1) = GM.arcs m k ++ [(k, GM.arc m k)]) := GM.arcs_take hsk
        unfold arcV at har
        generalize GM.arc m k = a at *
        obtain ⟨t, h, x, c⟩ := a
        dsimp only at har
        have HYX : Hid (∀ W1, J (GM.arcs m k) W1 → YieldAt Fence.wide (n - 1) Try.prog l #[.int .i64 (k : Nat), .agg #[.int .i64 t, .int .i64 h, .int .i64 x, .bool c]] W1 fun e W' => e = .returned (.bool true) ∧ J (GM.arcs m (k + 1)) W') := fun W1 h1 => by
          rw [HA.out]
          exact HY.out _ (k, ⟨t, h, x, c⟩) W1 h1 HLEN.out
        clear hsk
        gi_wp2_with fail
        refine ⟨trivial, (callsIn_wide.2 har).mono ?_⟩
        rintro e w2 ⟨rfl, hb2⟩
        have hJ2 : J (GM.arcs m k) (w2.alloc (.cells #[.int .i64 t, .int .i64 h, .int .i64 x, .bool c] 83)) := HJ.out _ _ _ HJS.out (hb2.alloc hb2.size _)
        obtain ⟨fn, tmps, assign, body, hy, hRd⟩ := HYX.out _ hJ2
        clear har hb2 hcb hJ2
        gi_wp2_with fail
        refine hRd.mono ?_
        rintro e W4 ⟨rfl, hJ4⟩
        have HJ4 : Hid (J (GM.arcs m (k + 1)) W4) := hJ4
        clear hJ4 hy hRd
        gi_wp2_with fail
        go_roundw
        case rel => exact ⟨k + 1, by omega, by go_num, HJ4.out⟩
        case measure => simp [intOf]; omega
    · obtain rfl : k = 64 := by omega
      have HJS : Hid (J (GM.arcs m 64) wr) := hJs
      clear hJs hlt hk
      gi_wp2_with fail
      go_end0
      exact ⟨⟨_, rfl⟩, _, rfl, HJS.out⟩

/-- A list of numbers whose slice lies in block ga, behind base; p's pointer in the next block. -/
structure Gath (w : World) (p : Nat) (W : World) (va : Value) (zs : List Int) : Prop where
  box : Boxed W w.heap.size 47 va
  own : Own .i64 3 W (w.heap.size + 4) va zs
  ptr : Boxed W (w.heap.size + 1) 40 (.pointer (some ⟨p, 0, none⟩))
  bel : Below w.heap.size w W
section
variable {w W W' : World} {p : Nat} {va : Value} {zs : List Int}
theorem Gath.on (h : Gath w p W va zs) (hb : Below W.heap.size W W') : Gath w p W' va zs :=
  ⟨(hb.block _ h.box.lt).trans h.box, h.own.below hb, (hb.block _ h.ptr.lt).trans h.ptr, h.bel.trans (hb.mono h.bel.size)⟩
theorem Gath.kept {F : Nat → Prop} (h : Gath w p W va zs) (hk : Keeps F W W') (hF : ∀ b, F b → b = w.heap.size + 3) : Gath w p W' va zs where
  box := (hk.block _ h.box.lt (fun hf => by have := hF _ hf; omega)).trans h.box
  own := hk.row h.own (fun g hg hf => by
    have := hF _ hf
    have := h.own.block g hg
    omega)
  ptr := (hk.block _ h.ptr.lt (fun hf => by have := hF _ hf; omega)).trans h.ptr
  bel := h.bel.trans (hk.below (fun b hb => by have := hF _ hb; omega) h.bel.size)
theorem Gath.app (h : Gath w p W va zs) {o : Go.Obj} {W2 : World} (hg : (W.alloc o).grownBy W2 va.ownBlock) {v' : Value} {zs' : List Int} (ho : Own .i64 3 W2 (w.heap.size + 4) v' zs') :
    Boxed W2 w.heap.size 47 va ∧ Gath w p (W2.setCell ⟨w.heap.size, 0, none⟩ v') v' zs' ∧ ∀ b, b < w.heap.size + 4 → b ≠ w.heap.size → b < W.heap.size → (W2.setCell ⟨w.heap.size, 0, none⟩ v').heap[b]? = W.heap[b]? := by
  have hb1 : Below W.heap.size W (W.alloc o) := (Below.refl _ _).alloc (Nat.le_refl _) _
  have h1 := h.on hb1
  have hk : Keeps (fun b => w.heap.size + 4 ≤ b) (W.alloc o) W2 := (Keeps.refl _ _).grown hg (fun k hk => .inl (h.own.block k hk))
  have hb2 : Boxed W2 w.heap.size 47 va := (hk.block _ h1.box.lt (by omega)).trans h1.box
  have hp2 : Boxed W2 (w.heap.size + 1) 40 (.pointer (some ⟨p, 0, none⟩)) := (hk.block _ h1.ptr.lt (by omega)).trans h1.ptr
  have hk2 : Keeps (fun b => b = w.heap.size) W2 (W2.setCell ⟨w.heap.size, 0, none⟩ v') := keeps_set _ _ _ _
  refine ⟨hb2, ⟨hb2.set v', hk2.row ho (fun g hg e => by have := ho.block g hg; omega), hp2.other (by omega) _, (h1.bel.trans (hk.below (fun b hb => by omega) h1.bel.size)).setCell (p := ⟨w.heap.size, 0, none⟩) (Nat.le_refl _) _⟩, fun b hb hne hlt => ?_⟩
  have e1 : (W.alloc o).heap[b]? = W.heap[b]? := hb1.block b hlt
  have e2 : W2.heap[b]? = (W.alloc o).heap[b]? := hk.block b (by simp; omega) (by omega)
  rw [hk2.block b (Nat.lt_of_lt_of_le (by simp; omega) hk.size) hne, e2, e1]
end

def nums (l : List (Nat × Arc)) : List Int := l.map (fun x => ((x.1 : Nat) : Int))
theorem nums_len (l : List (Nat × Arc)) : (nums l).length = l.length := by simp [nums]
theorem nums_snoc (l : List (Nat × Arc)) (x : Nat × Arc) : nums (l ++ [x]) = nums l ++ [((x.1 : Nat) : Int)] := by simp [nums]
theorem nums_all (m : GM.M) (k : Nat) : nums (GM.arcs m k) = GM.iids m k := by simp [nums, GM.arcs, GM.iids]

end Go.Proofs.Ytleckkpfnjpbiaa
