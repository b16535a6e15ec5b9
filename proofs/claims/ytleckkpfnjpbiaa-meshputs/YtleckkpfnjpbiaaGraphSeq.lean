/-
  The program's all, gone through: each arc that there is, by rising numbers.
-/
import Derived.Test.YtleckkpfnjpbiaaRange
import Derived.Test.YtleckkpfnjpbiaaGraphA
namespace Go.Proofs.Ytleckkpfnjpbiaa
open Go.RowKit Go.Shelf
attribute [local go_sem] Oper.semAt_some

set_option maxHeartbeats 400000 in
theorem all_any (p : Nat) (w : World) :
    Calls Try.prog 61 #[.pointer (some ⟨p, 0, none⟩)] w fun e w' => e = .returned (.func (.func 77) #[] #[.pointer (some ⟨w.heap.size, 0, none⟩)]) ∧ w' = w.alloc (.cells #[.pointer (some ⟨p, 0, none⟩)] 40) := by
  go_enter Try.func61, Try.ntmps61
  go_wp2_with fail
  go_ret
  exact ⟨rfl, rfl⟩

/-- A number and its arc, as the loop's variables. -/
def numArc (x : Nat × Arc) : Array Value := #[.int .i64 (x.1 : Nat), .agg #[.int .i64 x.2.tail, .int .i64 x.2.head, .int .i64 x.2.weight, .bool x.2.closed]]

set_option maxRecDepth 100000 in
set_option maxHeartbeats 2000000 in
theorem all_goes (n : Nat) (_hn : 1 ≤ n) (Bn p N most : Nat) (m : GM.M) (hm : GM.Good most m) (w : World) :
    Goes n Try.prog 77 #[.pointer (some ⟨Bn, 0, none⟩)] numArc (fun ys => ys = GM.arcs m 64) (fun pre => pre <+: GM.arcs m 64) 64
      (fun A => A.cell? ⟨Bn, 0, none⟩ = some (.pointer (some ⟨p, 0, none⟩)) ∧ GMem A p N most m) w := by
  intro l J Jx W hW hs hR hJ hJx hY h0
  have HJ : Hid (∀ s A A', J s A → Below (w.heap.size + 2) A A' → J s A') := hJ
  have HR : Hid (∀ s A, J s A → A.cell? ⟨Bn, 0, none⟩ = some (.pointer (some ⟨p, 0, none⟩)) ∧ GMem A p N most m) := hR
  have HY : Hid (∀ pre x W1, J pre W1 → pre.length < 64 → YieldAt Fence.wide (n - 1) Try.prog l (numArc x) W1 fun e W' => (e = .returned (.bool true) ∧ J (pre ++ [x]) W' ∧ Above (w.heap.size + 2) W1 W') ∨ (e = .returned (.bool false) ∧ Jx (pre ++ [x]) W' ∧ Above (w.heap.size + 2) W1 W')) := hY
  have H0 : Hid (J [] W) := h0
  clear hJ hJx hR hY h0
  refine callsIn_of_wp Try.func77 rfl trivial ?_ rfl
  simp only [Try.ntmps77, List.size_toArray, List.length_cons, List.length_nil, Nat.reduceAdd, Nat.reduceSub, Array.replicate_succ, Array.replicate_zero, List.push_toArray, List.append_toArray, List.nil_append, List.cons_append]
  gi_wp2_with fail
  gi_loopw [6] (fun iv wr => ∃ k : Nat, k ≤ 64 ∧ iv = .int .i64 k ∧ J (GM.arcs m k) wr ∧ w.heap.size + 2 ≤ wr.heap.size) (fun iv _ => 64 - (intOf iv).toNat)
  case atStart => exact ⟨0, Nat.zero_le _, rfl, H0.out, hs⟩
  case round =>
    obtain ⟨k, hk, rfl, hJs, hsr⟩ := hrel
    by_cases hlt : k < 64
    · obtain ⟨hcb, hkm⟩ := HR.out _ _ hJs
      have har := arc_in hkm hm k hlt
      have HJS : Hid (J (GM.arcs m k) wr) := hJs
      have HLEN : Hid ((GM.arcs m k).length < 64) := by
        have := GM.ids_le m k
        show _ < _
        rw [GM.arcs_len]
        omega
      have k64 : (k : Int) < 64 := by omega
      clear hkm hJs
      cases hsk : GM.is m k with
      | false =>
        rw [hsk] at har
        have HA : Hid (GM.arcs m (k + 1) = GM.arcs m k) := GM.arcs_skip hsk
        unfold arcV at har
        generalize GM.arc m k = a at *
        obtain ⟨t, h, x, c⟩ := a
        dsimp only at har
        clear hsk
        gi_wp2_with fail
        refine ⟨trivial, (callsIn_wide.2 har).mono ?_⟩
        rintro e w2 ⟨rfl, hb2⟩
        have HJ2 : Hid (J (GM.arcs m (k + 1)) (w2.alloc (.cells #[.int .i64 t, .int .i64 h, .int .i64 x, .bool c] 83))) := by
          show J _ _
          rw [HA.out]
          exact HJ.out _ _ _ HJS.out ((hb2.alloc hb2.size _).mono hsr)
        have hs2 : w.heap.size + 2 ≤ (w2.alloc (.cells #[.int .i64 t, .int .i64 h, .int .i64 x, .bool c] 83)).heap.size := by have := hb2.size; simp; omega
        clear har hb2 hcb
        gi_wp2_with fail
        refine ⟨(fun _ h => by cases h), ?_⟩
        gi_wp2_with fail
        go_roundw
        case rel => exact ⟨k + 1, by omega, by go_num, HJ2.out, hs2⟩
        case measure => simp [intOf]; omega
      | true =>
        rw [hsk] at har
        have HA : Hid (GM.arcs m (k + 1) = GM.arcs m k ++ [(k, GM.arc m k)]) := GM.arcs_take hsk
        have HP : Hid (GM.arcs m (k + 1) <+: GM.arcs m 64) := GM.arcs_pre m (by omega)
        unfold arcV at har
        generalize GM.arc m k = a at *
        obtain ⟨t, h, x, c⟩ := a
        dsimp only at har
        have HYX : Hid (∀ W1, J (GM.arcs m k) W1 → YieldAt Fence.wide (n - 1) Try.prog l #[.int .i64 (k : Nat), .agg #[.int .i64 t, .int .i64 h, .int .i64 x, .bool c]] W1 fun e W' => (e = .returned (.bool true) ∧ J (GM.arcs m (k + 1)) W' ∧ Above (w.heap.size + 2) W1 W') ∨ (e = .returned (.bool false) ∧ Jx (GM.arcs m (k + 1)) W' ∧ Above (w.heap.size + 2) W1 W')) := fun W1 h1 => by
          rw [HA.out]
          exact HY.out _ (k, ⟨t, h, x, c⟩) W1 h1 HLEN.out
        clear hsk
        gi_wp2_with fail
        refine ⟨trivial, (callsIn_wide.2 har).mono ?_⟩
        rintro e w2 ⟨rfl, hb2⟩
        have hJ2 : J (GM.arcs m k) (w2.alloc (.cells #[.int .i64 t, .int .i64 h, .int .i64 x, .bool c] 83)) := HJ.out _ _ _ HJS.out ((hb2.alloc hb2.size _).mono hsr)
        have hs2 : w.heap.size + 2 ≤ (w2.alloc (.cells #[.int .i64 t, .int .i64 h, .int .i64 x, .bool c] 83)).heap.size := by have := hb2.size; simp; omega
        obtain ⟨fn, tmps, assign, body, hy, hRd⟩ := HYX.out _ hJ2
        clear har hb2 hcb hJ2
        gi_wp2_with fail
        refine hRd.mono ?_
        rintro e W4 (⟨rfl, hJ4, hk4⟩ | ⟨rfl, hJx4, -⟩)
        · have hs4 : w.heap.size + 2 ≤ W4.heap.size := Nat.le_trans hs2 hk4.size
          have HJ4 : Hid (J (GM.arcs m (k + 1)) W4) := hJ4
          clear hJ4 hk4 hy hRd
          gi_wp2_with fail
          go_roundw
          case rel => exact ⟨k + 1, by omega, by go_num, HJ4.out, hs4⟩
          case measure => simp [intOf]; omega
        · have HJ4 : Hid (Jx (GM.arcs m (k + 1)) W4) := hJx4
          clear hJx4 hy hRd
          gi_wp2_with fail
          (try simp only [Exit.inBlock, Exit.then]); refine bodyPost_ret (results_none rfl _ _ _) rfl ?_
          exact ⟨⟨_, rfl⟩, .inr ⟨_, HP.out, HJ4.out⟩⟩
    · obtain rfl : k = 64 := by omega
      have HJS : Hid (J (GM.arcs m 64) wr) := hJs
      clear hJs hlt hk
      gi_wp2_with fail
      go_end0
      exact ⟨⟨_, rfl⟩, .inl ⟨_, rfl, HJS.out⟩⟩
end Go.Proofs.Ytleckkpfnjpbiaa
