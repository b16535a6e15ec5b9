/-
  The walks of Of, the program's and the document's: a graph's mesh.
-/
import Derived.Test.YtleckkpfnjpbiaaMeshPut
import Derived.Test.YtleckkpfnjpbiaaMeshLeave
import Derived.Test.YtleckkpfnjpbiaaGraphBest
import Derived.Test.YtleckkpfnjpbiaaGraphRef4
import Derived.Deep.RegionHeld3
namespace Go.Proofs.Ytleckkpfnjpbiaa
open Go.RowKit

namespace XM
/-- A graph's mesh as far as it is made: the rows less than s, and row s up to t. -/
def ofD (m : GM.M) (N s t : Nat) : Nat → Nat → Int := fun a b => if (a < s ∨ a = s ∧ b < t) ∧ b < N ∧ a ≠ b then (GM.best m (a : Nat) (b : Nat) 64).1 else 4611686018427387906
theorem ofD_zero (m : GM.M) (N : Nat) : ofD m N 0 0 = empty := by
  funext a b
  unfold ofD empty
  rw [if_neg (by omega)]
theorem ofD_row (m : GM.M) (N s : Nat) : ofD m N s N = ofD m N (s + 1) 0 := by
  funext a b
  unfold ofD
  by_cases h : (a < s ∨ a = s ∧ b < N) ∧ b < N ∧ a ≠ b
  · rw [if_pos h, if_pos (by omega)]
  · rw [if_neg h, if_neg (by omega)]
theorem ofD_self (m : GM.M) (N s : Nat) : ofD m N s (s + 1) = ofD m N s s := by
  funext a b
  unfold ofD
  by_cases h : (a < s ∨ a = s ∧ b < s) ∧ b < N ∧ a ≠ b
  · rw [if_pos h, if_pos (by omega)]
  · rw [if_neg h, if_neg (by omega)]
theorem ofD_step (m : GM.M) {N s t : Nat} (ht : t < N) (hne : s ≠ t) : ofD m N s (t + 1) = NM.set2 (ofD m N s t) s t (GM.best m (s : Nat) (t : Nat) 64).1 := by
  funext a b
  simp only [ofD, NM.set2]
  by_cases e : a = s ∧ b = t
  · rw [if_pos e, if_pos (by omega), e.1, e.2]
  · rw [if_neg e]
    by_cases h : (a < s ∨ a = s ∧ b < t) ∧ b < N ∧ a ≠ b
    · rw [if_pos h, if_pos (by omega)]
    · rw [if_neg h, if_neg (by omega)]
theorem best_lo {most : Nat} {m : GM.M} (h : GM.Good most m) (u v : Int) : 1 ≤ (GM.best m u v 64).1 ∧ (GM.best m u v 64).1 ≤ 4611686018427387906 := by
  have := GM.best_bd (u := u) (v := v) (GM.arcs m 64) GM.best0 (GM.arcs_ok h 64) (by decide) (by decide)
  exact ⟨this.1, this.2.1⟩
theorem ofD_mesh {most : Nat} {m : GM.M} (h : GM.Good most m) {N s t : Nat} (hs : s < N ∨ s = N ∧ t = 0) : Mesh N (ofD m N s t) := by
  refine ⟨⟨fun u w => ?_, fun u => ?_⟩, fun u w => ?_, fun u w e => ?_⟩
  · unfold ofD
    split
    · have := best_lo h (u : Nat) (w : Nat); omega
    · decide
  · unfold ofD
    rw [if_neg (by omega)]
  · unfold ofD
    split
    · exact (best_lo h _ _).1
    · decide
  · unfold ofD
    rw [if_neg (by omega)]
theorem ofD_put {most : Nat} {m : GM.M} (h : GM.Good most m) {N s t : Nat} (hs : s < N) (ht : t < N) : put N (ofD m N s t) (s : Nat) (t : Nat) (GM.best m (s : Nat) (t : Nat) 64).1 = ofD m N s (t + 1) := by
  have hb := best_lo h (s : Nat) (t : Nat)
  unfold put
  by_cases e : s = t
  · subst e
    rw [if_neg (by unfold putCode; rw [if_neg (fun c => c.2.2.1 rfl)]; decide), ofD_self]
  · have hc : putCode N (s : Nat) (t : Nat) (GM.best m (s : Nat) (t : Nat) 64).1 = 0 := if_pos ⟨decide_eq_true (by omega), decide_eq_true (by omega), by omega, hb.1, hb.2⟩
    rw [if_pos hc, ofD_step m ht e]
    simp
end XM
set_option maxHeartbeats 2000000 in
theorem xof_any {w : World} {gp N most : Nat} {m : GM.M} (hg : GMem w gp N most m) (hm : GM.Good most m) (h1 : 1 ≤ N) (h2 : N ≤ 24) :
    Calls Try.prog 18 #[.pointer (some ⟨gp, 0, none⟩)] w fun e w' => ∃ p, e = .returned (.pointer (some ⟨p, 0, none⟩)) ∧ w.heap.size ≤ p ∧ XMem w' p N (XM.ofD m N N 0) ∧ Below w.heap.size w w' := by
  have hv := vertices_any hg
  have hnw := xnew_ok N h1 h2 w
  have HB : Hid (∀ W, Below w.heap.size w W → ∀ u v : Int, Calls Try.prog 41 #[.pointer (some ⟨gp, 0, none⟩), .int .i64 u, .int .i64 v] W fun e w' => e = .returned (.tuple #[.int .i64 (GM.best m u v 64).1, .int .i64 (GM.best m u v 64).2]) ∧ Below W.heap.size W w') := fun W hW u v => best_any (hg.on hW) hm u v
  have HP : Hid (∀ W p s t, XMem W p N (XM.ofD m N s t) → s < N → t < N → Calls Try.prog 10 #[.pointer (some ⟨p, 0, none⟩), .int .i64 (s : Nat), .int .i64 (t : Nat), .int .i64 (GM.best m (s : Nat) (t : Nat) 64).1] W fun e w' => (∃ c, e = .returned (.int .i64 c)) ∧ XMem w' p N (XM.ofD m N s (t + 1)) ∧ Keeps (fun b => b = p) W w') := fun W p s t hX hs ht => by
    refine (xput_any hX (XM.ofD_mesh hm (.inl hs)) h2 _ _ _).mono ?_
    rintro e w' ⟨rfl, h3, -, h4⟩
    rw [XM.ofD_put hm hs ht] at h3
    exact ⟨⟨_, rfl⟩, h3, h4⟩
  clear hg hm h1
  go_enter Try.func18, Try.ntmps18
  go_wp2_with fail
  refine hv.mono ?_
  rintro e w9 ⟨rfl, hw9⟩
  rw [hw9]
  clear hv hw9 w9
  go_wp2_with fail
  refine hnw.mono ?_
  rintro e w1 ⟨p, rfl, hp, hX, hb⟩
  have hpw : w.heap.size ≤ p := by omega
  have c0 := hX.c0
  have HX : Hid (XMem w1 p N (XM.ofD m N 0 0)) := by
    show XMem _ _ _ _
    rw [XM.ofD_zero]
    exact hX
  have HB1 : Hid (Below w.heap.size w w1) := hb
  clear hnw hX hb hp
  go_wp2_with fail
  clear c0
  go_loopw [19] (fun iv wr => ∃ s : Nat, s ≤ N ∧ iv = .int .i64 s ∧ XMem wr p N (XM.ofD m N s 0) ∧ Below w.heap.size w wr) (fun iv _ => N - (intOf iv).toNat)
  case atStart => exact ⟨0, Nat.zero_le _, rfl, HX.out, HB1.out⟩
  case round =>
    clear HX HB1
    obtain ⟨s, hs, rfl, hX, hb⟩ := hrel
    have c0 := hX.c0
    have HX : Hid (XMem wr p N (XM.ofD m N s 0)) := hX
    have HBR : Hid (Below w.heap.size w wr) := hb
    have hsN : (s : Int) ≤ (N : Int) := by omega
    clear hX hb
    by_cases hlt : s < N
    · have s1 : (s : Int) < (N : Int) := by omega
      go_wp2_with fail
      clear c0
      go_loopw [26] (fun jv wr' => ∃ t : Nat, t ≤ N ∧ jv = .int .i64 t ∧ XMem wr' p N (XM.ofD m N s t) ∧ Below w.heap.size w wr') (fun jv _ => N - (intOf jv).toNat)
      case atStart => exact ⟨0, Nat.zero_le _, rfl, HX.out, HBR.out⟩
      case round =>
        clear HX HBR
        rename_i wr0 hwr0
        obtain ⟨t, ht, rfl, hX, hb⟩ := hrel
        have htN : (t : Int) ≤ (N : Int) := by omega
        by_cases htl : t < N
        · have t1 : (t : Int) < (N : Int) := by omega
          have hbest := HB.out wr hb s t
          have HX : Hid (XMem wr p N (XM.ofD m N s t)) := hX
          have HBR : Hid (Below w.heap.size w wr) := hb
          have HPT : Hid (∀ W, XMem W p N (XM.ofD m N s t) → Calls Try.prog 10 #[.pointer (some ⟨p, 0, none⟩), .int .i64 (s : Nat), .int .i64 (t : Nat), .int .i64 (GM.best m (s : Nat) (t : Nat) 64).1] W fun e w' => (∃ c, e = .returned (.int .i64 c)) ∧ XMem w' p N (XM.ofD m N s (t + 1)) ∧ Keeps (fun b => b = p) W w') := fun W hW => HP.out W p s t hW hlt htl
          clear hX hb
          generalize GM.best m (s : Nat) (t : Nat) 64 = b at *
          go_wp2_with fail
          refine hbest.mono ?_
          rintro e w2 ⟨rfl, hb2⟩
          have hpt := HPT.out w2 (HX.out.on hb2)
          have HB2 : Hid (Below w.heap.size w w2) := below_on HBR.out hb2
          clear hbest hb2
          go_wp2_with fail
          refine hpt.mono ?_
          rintro e w3 ⟨⟨c, rfl⟩, hX3, hK3⟩
          have HX3 : Hid (XMem w3 p N (XM.ofD m N s (t + 1)) ∧ Below w.heap.size w w3) := ⟨hX3, HB2.out.trans (hK3.below (fun b hb => by omega) HB2.out.size)⟩
          clear hpt hX3 hK3
          go_wp2_with fail
          go_roundw
          case rel => exact ⟨t + 1, by omega, by go_num, HX3.out.1, HX3.out.2⟩
          case measure => simp [intOf]; omega
        · obtain rfl : t = N := by omega
          have HX : Hid (XMem wr p t (XM.ofD m t (s + 1) 0)) := by
            show XMem _ _ _ _
            rw [← XM.ofD_row]
            exact hX
          have HBR : Hid (Below w.heap.size w wr) := hb
          clear hX hb
          go_wp2_with fail
          go_roundw
          case rel => exact ⟨s + 1, by omega, by go_num, HX.out, HBR.out⟩
          case measure => simp [intOf]; omega
    · obtain rfl : s = N := by omega
      go_wp2_with fail
      go_ret
      exact ⟨p, rfl, hpw, HX.out, HBR.out⟩
set_option maxHeartbeats 4000000 in
theorem rof_any {w : World} {gq N most : Nat} {m : GM.M} (hg : RMem w gq N most m) (h2 : N ≤ 24) :
    Calls Try.prog 19 #[.pointer (some ⟨gq, 0, none⟩)] w fun e w' => ∃ p, e = .returned (.pointer (some ⟨p, 0, none⟩)) ∧ w.heap.size ≤ p ∧ XMem w' p N (XM.ofD m N N 0) ∧ Below w.heap.size w w' := by
  have hnw := xrnew_any N w
  have cn := hg.c0
  have HG : Hid (∀ W, Below w.heap.size w W → W.cell? ⟨gq, 0, none⟩ = some (.int .i64 (N : Nat))) := fun W hW => (hg.on hW).c0
  have HB : Hid (∀ W, Below w.heap.size w W → ∀ u v : Int, Calls Try.prog 42 #[.pointer (some ⟨gq, 0, none⟩), .int .i64 u, .int .i64 v] W fun e w' => e = .returned (.tuple #[.int .i64 (GM.best m u v 64).1, .int .i64 (GM.best m u v 64).2]) ∧ Below W.heap.size W w') := fun W hW u v => rbest_any (hg.on hW) u v
  clear hg
  go_enter Try.func19, Try.ntmps19
  go_wp2_with fail
  refine hnw.mono ?_
  rintro e w1 ⟨p, rfl, hp, hX, hb⟩
  have hpw : w.heap.size ≤ p := by omega
  have HX : Hid (XMem w1 p N (XM.ofD m N 0 0)) := by
    show XMem _ _ _ _
    rw [XM.ofD_zero]
    exact hX
  have HB1 : Hid (Below w.heap.size w w1) := hb
  clear hnw hX hb hp cn
  go_wp2_with fail
  go_loopw [4] (fun iv wr => ∃ s : Nat, s ≤ N ∧ iv = .int .i64 s ∧ XMem wr p N (XM.ofD m N s 0) ∧ Below w.heap.size w wr) (fun iv _ => N - (intOf iv).toNat)
  case atStart => exact ⟨0, Nat.zero_le _, rfl, HX.out, HB1.out⟩
  case round =>
    clear HX HB1
    obtain ⟨s, hs, rfl, hX, hb⟩ := hrel
    have cn := HG.out wr hb
    have HX : Hid (XMem wr p N (XM.ofD m N s 0)) := hX
    have HBR : Hid (Below w.heap.size w wr) := hb
    have hsN : (s : Int) ≤ (N : Int) := by omega
    clear hX hb
    by_cases hlt : s < N
    · have s1 : (s : Int) < (N : Int) := by omega
      go_wp2_with fail
      clear cn
      go_loopw [5] (fun jv wr' => ∃ t : Nat, t ≤ N ∧ jv = .int .i64 t ∧ XMem wr' p N (XM.ofD m N s t) ∧ Below w.heap.size w wr') (fun jv _ => N - (intOf jv).toNat)
      case atStart => exact ⟨0, Nat.zero_le _, rfl, HX.out, HBR.out⟩
      case round =>
        clear HX HBR
        rename_i wr0 hwr0
        obtain ⟨t, ht, rfl, hX, hb⟩ := hrel
        have htN : (t : Int) ≤ (N : Int) := by omega
        have cn := HG.out wr hb
        have HBR : Hid (Below w.heap.size w wr) := hb
        by_cases htl : t < N
        · have t1 : (t : Int) < (N : Int) := by omega
          by_cases hst : s = t
          · subst hst
            have hne : ((s : Int) != (s : Int)) = false := by simp
            have HX : Hid (XMem wr p N (XM.ofD m N s (s + 1))) := by
              show XMem _ _ _ _
              rw [XM.ofD_self]
              exact hX
            clear hX hb
            go_wp2_with fail
            go_roundw
            case rel => exact ⟨s + 1, by omega, by go_num, HX.out, HBR.out⟩
            case measure => simp [intOf]; omega
          · have hne : ((s : Int) != (t : Int)) = true := by simp; omega
            have hbest := HB.out wr.drew hb.drew s t
            have s24 : (s : Int) < 24 := by omega
            have t24 : (t : Int) < 24 := by omega
            have HS : Hid (∀ W, Below wr.heap.size wr W → W.cell? ⟨p, 1 + s * 24 + t, none⟩ = some (.int .i64 (XM.ofD m N s t s t)) ∧ W.frozen? ⟨p, 1 + s * 24 + t, none⟩ = false) := fun W hW => ⟨(hX.on hW).c s t (by omega) (by omega), (hX.on hW).fz _⟩
            have HXS : Hid (∀ W, Below wr.heap.size wr W → XMem (W.setCell ⟨p, 1 + s * 24 + t, none⟩ (.int .i64 (GM.best m (s : Nat) (t : Nat) 64).1)) p N (XM.ofD m N s (t + 1)) ∧ Below w.heap.size w (W.setCell ⟨p, 1 + s * 24 + t, none⟩ (.int .i64 (GM.best m (s : Nat) (t : Nat) 64).1))) := fun W hW => by
              rw [XM.ofD_step m htl hst]
              exact ⟨(hX.on hW).set (by omega) (by omega) _, (below_on HBR.out hW).setCell (p := ⟨p, 1 + s * 24 + t, none⟩) hpw _⟩
            clear hX hb hst
            generalize GM.best m (s : Nat) (t : Nat) 64 = b at *
            obtain ⟨b1, b2⟩ := b
            dsimp only at hbest HXS
            generalize XM.ofD m N s t s t = y at *
            go_upto_region 9 with fail
            go_region_held3 (fun _ => True) (trivial) (first | (go_at_call 42; refine hbest.mono ?_; rintro e w4 ⟨rfl, hb4⟩; obtain ⟨cy, fy⟩ := HS.out _ (below_of_drew hb4)))
            all_goals
              have h9 := HXS.out w4 (below_of_drew hb4)
              have HX9 : Hid (XMem (w4.setCell ⟨p, 1 + s * 24 + t, none⟩ (.int .i64 b1)) p N (XM.ofD m N s (t + 1)) ∧ Below w.heap.size w (w4.setCell ⟨p, 1 + s * 24 + t, none⟩ (.int .i64 b1))) := h9
              clear h9 hb4 cy fy
              go_wp2_with fail
              exact ⟨⟨t + 1, by omega, by go_num, HX9.out.1, HX9.out.2⟩, by simp [intOf]; omega⟩
        · obtain rfl : t = N := by omega
          have HX : Hid (XMem wr p t (XM.ofD m t (s + 1) 0)) := by
            show XMem _ _ _ _
            rw [← XM.ofD_row]
            exact hX
          clear hX hb
          go_wp2_with fail
          go_roundw
          case rel => exact ⟨s + 1, by omega, by go_num, HX.out, HBR.out⟩
          case measure => simp [intOf]; omega
    · obtain rfl : s = N := by omega
      go_wp2_with fail
      go_ret
      exact ⟨p, rfl, hpw, HX.out, HBR.out⟩
end Go.Proofs.Ytleckkpfnjpbiaa
