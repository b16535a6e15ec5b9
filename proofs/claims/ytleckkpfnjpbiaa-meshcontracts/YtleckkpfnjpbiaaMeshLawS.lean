/-
  The walks of the law's Same, and of Links.
-/
import Derived.Test.YtleckkpfnjpbiaaMeshRow
import Derived.Deep.DeepCutAuto
import Derived.Laws.Tables
import Derived.Deep.QuietTactic
import Derived.BigQuiet
import Derived.Laws.StructEq
namespace Go.Proofs.Ytleckkpfnjpbiaa
open Go.RowKit

set_option maxHeartbeats 2000000 in
theorem sameX_any {w : World} {p q N : Nat} {D : Nat → Nat → Int} (hp : XMem w p N D) (hq : XMem w q N D) (hm : XM.Mesh N D) (hN : N ≤ 24) :
    Calls Try.prog 12 #[.pointer (some ⟨p, 0, none⟩), .pointer (some ⟨q, 0, none⟩)] w fun e w' => e = .returned (.bool true) ∧ Below w.heap.size w w' := by
  have hv := xvertices_any (hp.on (Below.refl _ w))
  have HV : Hid (∀ W, XMem W p N D → Calls Try.prog 30 #[.pointer (some ⟨p, 0, none⟩)] W fun e w' => e = .returned (.int .i64 (N : Nat)) ∧ w' = W) := fun W h => xvertices_any h
  have HA : Hid (∀ u v : Int, Calls Try.prog 26 #[.pointer (some ⟨p, 0, none⟩), .int .i64 u, .int .i64 v] w fun e w' => e = .returned (.int .i64 (XM.atE N D u v)) ∧ w' = w) := fun u v => xat_any hp hN u v
  have HR : Hid (∀ u v : Int, Calls Try.prog 29 #[.pointer (some ⟨q, 0, none⟩), .int .i64 u, .int .i64 v] w fun e w' => e = .returned (.int .i64 (XM.atE N D u v)) ∧ w' = w) := fun u v => rat_any hq hm hN u v
  have c0 := hq.c0
  have HP : Hid (∀ nq, XMem (w.drewN nq) p N D ∧ XMem (w.drewN nq) q N D) := fun nq => ⟨hp.on (below_drewN (Below.refl _ _) nq), hq.on (below_drewN (Below.refl _ _) nq)⟩
  clear hp hq hm hv
  go_enter Try.func12, Try.ntmps12
  go_wp2_with fail
  go_loopw [5] (fun uv wr => ∃ u : Nat, u ≤ N + 2 ∧ uv = .int .i64 ((u : Int) - 1) ∧ wr = w) (fun uv _ => N + 3 - (intOf uv + 1).toNat)
  case atStart => exact ⟨0, Nat.zero_le _, rfl, rfl⟩
  case round =>
    obtain ⟨u, hu, rfl, rfl⟩ := hrel
    have hu2 : (u : Int) ≤ N + 2 := by omega
    obtain ⟨x, hx⟩ : ∃ x : Int, x = (u : Int) - 1 := ⟨_, rfl⟩
    rw [← hx]
    have HXU : Hid (x = (u : Int) - 1) := hx
    have hx0 : -1 ≤ x := by omega
    have hx1 : x ≤ N + 1 := by omega
    clear hx
    by_cases hlt : x ≤ (N : Int)
    · go_wp2_with fail
      go_loopw [6] (fun tv wr' => ∃ t : Nat, t ≤ N + 2 ∧ tv = .int .i64 ((t : Int) - 1) ∧ wr' = wr) (fun tv _ => N + 3 - (intOf tv + 1).toNat)
      case atStart => exact ⟨0, Nat.zero_le _, rfl, rfl⟩
      case round =>
        rename_i wr0 hwr0
        obtain ⟨t, ht, rfl, rfl⟩ := hrel
        obtain ⟨y, hy⟩ : ∃ y : Int, y = (t : Int) - 1 := ⟨_, rfl⟩
        rw [← hy]
        have HYT : Hid (y = (t : Int) - 1) := hy
        have hy0 : -1 ≤ y := by omega
        have hy1 : y ≤ N + 1 := by omega
        clear hy
        by_cases htl : y ≤ (N : Int)
        · have h1 := HA.out x y
          have h2 := HR.out x y
          generalize XM.atE N D x y = z at *
          go_wp2_with fail
          refine h1.mono ?_
          rintro e w' ⟨rfl, hw'⟩
          rw [hw']
          clear h1 hw' w'
          go_wp2_with fail
          refine h2.mono ?_
          rintro e w' ⟨rfl, hw'⟩
          rw [hw']
          clear h2 hw' w'
          go_wp2_with fail
          go_roundw
          case rel => exact ⟨t + 1, by have := HYT.out; omega, by have := HYT.out; go_num, trivial⟩
          case measure => have := HYT.out; simp [intOf]; omega
        · go_wp2_with fail
          go_roundw
          case rel => exact ⟨u + 1, by have := HXU.out; omega, by have := HXU.out; go_num, trivial⟩
          case measure => have := HXU.out; simp [intOf]; omega
    · go_upto_region 9 with fail
      go_quiet ((go_at_call 30; exact Calls.quiet_of_same (HV.out _ (HP.out _).1)))
      go_wp2_with fail
      go_ret
      exact ⟨by simp, below_drewN (Below.refl _ _) nq⟩
/-- A link is like itself. -/
theorem eqLink (a b c d e : Int) (w : World) : (Op.equalIn 10000 68 (.agg #[.int .i64 a, .int .i64 b, .int .i64 c, .int .i64 d, .int .i64 e]) (.agg #[.int .i64 a, .int .i64 b, .int .i64 c, .int .i64 d, .int .i64 e])).run Try.prog w = .ok true w := by
  have u3 := Try.underlying3
  have a3 := Try.isAgg3
  have z3 := Try.sizeOf3
  have a4 := Try.isAgg66
  have z4 := Try.sizeOf66
  have hS : Try.prog.underlying 68 = some (.struct (Try.prog.fieldsOf 68)) := by kernel_rfl
  have hp : Try.prog.stoodInHeld 68 = false := by kernel_rfl
  have hS2 : Try.prog.underlying 66 = some (.struct (Try.prog.fieldsOf 66)) := by kernel_rfl
  have hp2 : Try.prog.stoodInHeld 66 = false := by kernel_rfl
  have hE : ∀ w, (Op.equalIn 9999 66 (.agg #[.int .i64 c, .int .i64 d, .int .i64 e]) (.agg #[.int .i64 c, .int .i64 d, .int .i64 e])).run Try.prog w = .ok true w := fun w => by
    rw [show (9999 : Nat) = 9998 + 1 from rfl, run_equalIn_agg w 9998 66 _ _ hS2 hp2]
    simp only [Program.fieldsOf, Try.underlying66]
    go_simp
  rw [show (10000 : Nat) = 9999 + 1 from rfl, run_equalIn_agg w 9999 68 _ _ hS hp]
  simp only [Program.fieldsOf, Try.underlying68]
  go_simp
set_option maxHeartbeats 2000000 in
theorem links_any {w : World} {B1 B2 : Nat} {v1 v2 : Value} {mid : Int} {ds : List XM.Det} (hl : ds.length ≤ 600) (h1 : OwnL w B1 v1 mid ds) (h2 : OwnL w B2 v2 mid ds) :
    Calls Try.prog 14 #[v1, v2] w fun e w' => e = .returned (.bool true) ∧ Below w.heap.size w w' := by
  obtain ⟨a1, c1, rfl, ⟨p1, q1⟩, r1⟩ := h1.at
  obtain ⟨a2, c2, rfl, ⟨p2, q2⟩, r2⟩ := h2.at
  have R1 : Hid (0 < ds.length → ∃ b, a1 = some ⟨b, 0, none⟩ ∧ b < w.heap.size ∧ ∀ i, i < ds.length → DetIn w b (i * 5) mid (ds[i]?.getD noDet)) := r1
  have R2 : Hid (0 < ds.length → ∃ b, a2 = some ⟨b, 0, none⟩ ∧ b < w.heap.size ∧ ∀ i, i < ds.length → DetIn w b (i * 5) mid (ds[i]?.getD noDet)) := r2
  have hc1 : (ds.length : Int) ≤ c1 := by omega
  have hc2 : (ds.length : Int) ≤ c2 := by omega
  have heq := eqLink
  clear h1 h2 r1 r2 p1 p2 q1 q2
  generalize ds.length = L at *
  go_enter Try.func14, Try.ntmps14
  go_wp2_with fail
  go_loopw [5] (fun iv wr => ∃ k : Nat, k ≤ L ∧ iv = .int .i64 k ∧ Below w.heap.size w wr) (fun iv _ => L - (intOf iv).toNat)
  case atStart => exact ⟨0, Nat.zero_le _, rfl, Below.refl _ _⟩
  case round =>
    obtain ⟨k, hk, rfl, hb⟩ := hrel
    have HB : Hid (Below w.heap.size w wr) := hb
    by_cases hlt : k < L
    · have k1 : (k : Int) < (L : Int) := by omega
      obtain ⟨b1, rfl, -, g1⟩ := R1.out (by omega)
      obtain ⟨b2, rfl, -, g2⟩ := R2.out (by omega)
      obtain ⟨x0, x1, x2, x3, x4⟩ := (g1 k hlt).on hb
      obtain ⟨y0, y1, y2, y3, y4⟩ := (g2 k hlt).on hb
      generalize (ds[k]?.getD noDet) = d at *
      obtain ⟨du, dw, dx⟩ := d
      dsimp only at x0 x1 x2 y0 y1 y2
      clear g1 g2 hb
      go_upto_region 6 with fail
      go_quiet (fail)
      have HBQ : Hid (Below w.heap.size w (wr.drewN nq)) := below_drewN HB.out nq
      clear x0 x1 x2 x3 x4 y0 y1 y2 y3 y4
      go_wp2_with fail
      go_roundw
      case rel => exact ⟨k + 1, by omega, by go_num, HBQ.out⟩
      case measure => simp [intOf]; omega
    · obtain rfl : k = L := by omega
      clear hb
      go_wp2_with fail
      go_ret
      exact ⟨rfl, HB.out⟩
end Go.Proofs.Ytleckkpfnjpbiaa
