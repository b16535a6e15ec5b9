/-
  The law's Path (layer 11): what a path from one vertex to another one may be told as.
-/
import Derived.Test.YtmamligiopbefaaMmBothPath
namespace Go.Proofs.Ytmamligiopbefaa
open Go.RowKit

set_option maxHeartbeats 1000000 in
theorem lpath_no {w : World} {q N most : Nat} {m : GM.M} (hg : RMem w q N most m) (s t : Int) (h : ¬ (GM.vert N s = true ∧ GM.vert N t = true)) :
    Calls Try.prog 12 #[.pointer (some ⟨q, 0, none⟩), .int .i64 s, .int .i64 t, .slice none 0 0, .int .i64 0, .int .i64 1] w fun e w' => e = .returned (.bool true) ∧ w' = w := by
  have v1 := vertex_any hg s
  have v2 := vertex_any hg t
  clear hg
  cases h1 : GM.vert N s with
  | false =>
    rw [h1] at v1
    clear h h1 v2
    go_enter Try.func12, Try.ntmps12
    go_wp2_with fail
    refine v1.mono ?_
    rintro e w1 ⟨rfl, hw1⟩
    rw [hw1]
    clear v1 hw1 w1
    go_wp2_with fail
    go_ret
    exact ⟨rfl, rfl⟩
  | true =>
    have h2 : GM.vert N t = false := by
      cases e : GM.vert N t with
      | false => rfl
      | true => exact absurd ⟨h1, e⟩ h
    rw [h1] at v1
    rw [h2] at v2
    clear h h1 h2
    go_enter Try.func12, Try.ntmps12
    go_wp2_with fail
    refine v1.mono ?_
    rintro e w1 ⟨rfl, hw1⟩
    rw [hw1]
    clear v1 hw1 w1
    go_wp2_with fail
    refine v2.mono ?_
    rintro e w1 ⟨rfl, hw1⟩
    rw [hw1]
    clear v2 hw1 w1
    go_wp2_with fail
    go_ret
    exact ⟨rfl, rfl⟩
/-- From, as far as one vertex goes. -/
theorem rfrom_cell {W : World} {q N most : Nat} {m : GM.M} (hg : RMem W q N most m) (hok : GM.Good most m) (hN : N ≤ 24) (hin : WK.Inn N m) (a b : Nat) (ha : a < N) (hb : b < N) : Calls Try.prog 13 #[.pointer (some ⟨q, 0, none⟩), .int .i64 a] W fun e w' => ∃ ga go gc, e = .returned (.slice (some ⟨ga, go, none⟩) N gc) ∧ N ≤ gc ∧ w'.cell? ⟨ga, go + b, none⟩ = some (.int .i64 (NM.dist m a b)) ∧ Below W.heap.size W w' := by
  refine (rfrom_any hg hok hN hin a ha).mono ?_
  rintro e w' ⟨r, rfl, ho, hbl⟩
  obtain ⟨ga, gc, rfl, hat⟩ := ho.at
  rw [NM.rowFrom_len]
  obtain ⟨g1, g2, rfl, hc⟩ := hat.2.2.2 (by rw [NM.rowFrom_len]; omega)
  have := hc b (by rw [NM.rowFrom_len]; exact hb)
  rw [NM.rowFrom_at m a hb] at this
  have hcap := hat.1
  rw [NM.rowFrom_len] at hcap
  exact ⟨_, _, _, rfl, hcap, this, hbl⟩
/-- What a path may be told as. -/
def Told (m : GM.M) (a b : Nat) (w : World) (r : Value) (d c : Int) : Prop :=
  (NM.dist m a b = 4611686018427387906 ∧ r = .slice none 0 0 ∧ d = 0 ∧ c = 3) ∨ (NM.dist m a b = 4611686018427387905 ∧ r = .slice none 0 0 ∧ d = 0 ∧ c = 9) ∨
    (NM.dist m a b ≤ 4611686018427387904 ∧ (∃ T, Row .i64 w r T ∧ NM.Wk m a b T ∧ NM.csum m T = NM.dist m a b ∧ T.length ≤ 48) ∧ d = NM.dist m a b ∧ c = 0)
set_option maxHeartbeats 1000000 in
set_option maxRecDepth 100000 in
theorem lpath_ok {w : World} {q N most : Nat} {m : GM.M} (hg : RMem w q N most m) (hok : GM.Good most m) (hN : N ≤ 24) (hin : WK.Inn N m) (a b : Nat) (ha : a < N) (hb : b < N) (r : Value) (d c : Int) (ht : Told m a b w r d c) :
    Calls Try.prog 12 #[.pointer (some ⟨q, 0, none⟩), .int .i64 a, .int .i64 b, r, .int .i64 d, .int .i64 c] w fun e w' => e = .returned (.bool true) ∧ Below w.heap.size w w' := by
  have v1 := vertex_any hg (a : Int)
  rw [show GM.vert N (a : Int) = true from decide_eq_true (by omega)] at v1
  have v2 := vertex_any hg (b : Int)
  rw [show GM.vert N (b : Int) = true from decide_eq_true (by omega)] at v2
  have h6 := rfrom_cell hg hok hN hin a b ha hb
  have HRR : Hid (∀ W, Below w.heap.size w W → RMem W q N most m) := fun W hW => hg.on hW
  have hb1 : (b : Int) < (N : Int) := by omega
  have HLF : Hid (∀ T, NM.Wk m a b T → NM.csum m T = NM.dist m a b → NM.dist m a b ≤ 4611686018427387904 → WK.ccode N a b (WK.list m T) = 0 ∧ WK.wsum (WK.list m T) = NM.dist m a b ∧ WK.simple N a (WK.list m T) = true) := fun T hw hc hF => NM.least_facts hok ha hb hw hc hF
  have HT : Hid (Told m a b w r d c) := ht
  clear hg hok hN hin ha hb ht
  rcases HT.out with ⟨hd, rfl, rfl, rfl⟩ | ⟨hd, rfl, rfl, rfl⟩ | ⟨hd, ⟨T, hrow, hw, hc, hl⟩, rfl, rfl⟩
  · rw [hd] at h6
    clear HT HLF HRR hd
    go_enter Try.func12, Try.ntmps12
    go_wp2_with fail
    refine v1.mono ?_
    rintro e w1 ⟨rfl, hw1⟩
    rw [hw1]
    clear v1 hw1 w1
    go_wp2_with fail
    refine v2.mono ?_
    rintro e w1 ⟨rfl, hw1⟩
    rw [hw1]
    clear v2 hw1 w1
    go_wp2_with fail
    refine h6.mono ?_
    rintro e w6 ⟨ga, go, gc, rfl, hgc, cg, b6⟩
    have B6 : Hid (Below w.heap.size w w6) := b6
    clear h6 b6
    go_wp2_with fail
    go_ret
    exact ⟨rfl, B6.out⟩
  · rw [hd] at h6
    clear HT HLF HRR hd
    go_enter Try.func12, Try.ntmps12
    go_wp2_with fail
    refine v1.mono ?_
    rintro e w1 ⟨rfl, hw1⟩
    rw [hw1]
    clear v1 hw1 w1
    go_wp2_with fail
    refine v2.mono ?_
    rintro e w1 ⟨rfl, hw1⟩
    rw [hw1]
    clear v2 hw1 w1
    go_wp2_with fail
    refine h6.mono ?_
    rintro e w6 ⟨ga, go, gc, rfl, hgc, cg, b6⟩
    have B6 : Hid (Below w.heap.size w w6) := b6
    clear h6 b6
    go_wp2_with fail
    go_ret
    exact ⟨rfl, B6.out⟩
  · obtain ⟨f1, f2, f3⟩ := HLF.out T hw hc hd
    have HO : Hid (∀ W, Below w.heap.size w W → Row .i64 W r T) := fun W hW => hrow.below hW
    have f4 : T.length ≤ 1000 := by omega
    obtain ⟨ra, rc, rfl, -⟩ := hrow
    have n1 : NM.dist m a b ≠ 4611686018427387906 := by omega
    have n2 : NM.dist m a b ≠ 4611686018427387905 := by omega
    clear HT HLF hd hw hc hl
    generalize NM.dist m a b = d at *
    go_enter Try.func12, Try.ntmps12
    go_wp2_with fail
    refine v1.mono ?_
    rintro e w1 ⟨rfl, hw1⟩
    rw [hw1]
    clear v1 hw1 w1
    go_wp2_with fail
    refine v2.mono ?_
    rintro e w1 ⟨rfl, hw1⟩
    rw [hw1]
    clear v2 hw1 w1
    go_wp2_with fail
    refine h6.mono ?_
    rintro e w6 ⟨ga, go, gc, rfl, hgc, cg, b6⟩
    have B8 : Hid (Below w.heap.size w w6) := b6
    have k8 := rcheck_any (HRR.out w6 B8.out) (a : Int) (b : Int) (HO.out w6 B8.out) f4
    rw [f1] at k8
    clear h6 b6
    go_wp2_with fail
    refine k8.mono ?_
    rintro e w9 ⟨rfl, b9⟩
    have B9 : Hid (Below w.heap.size w w9) := below_on B8.out b9
    have k9 := rsum_any (HRR.out w9 B9.out) (HO.out w9 B9.out)
    rw [f2] at k9
    clear k8 b9 B8 cg
    go_wp2_with fail
    refine k9.mono ?_
    rintro e w10 ⟨rfl, b10⟩
    have B10 : Hid (Below w.heap.size w w10) := below_on B9.out b10
    have k10 := rsimple_any (HRR.out w10 B10.out) (a : Int) (HO.out w10 B10.out) f4
    rw [f3] at k10
    clear k9 b10 B9
    go_wp2_with fail
    refine k10.mono ?_
    rintro e w11 ⟨rfl, b11⟩
    have BZ : Hid (Below w.heap.size w w11) := below_on B10.out b11
    clear k10 b11 B10
    go_wp2_with fail
    go_ret
    exact ⟨rfl, BZ.out⟩
end Go.Proofs.Ytmamligiopbefaa
