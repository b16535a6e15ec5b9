/-
  The walk of the law RingBack.
-/
import Derived.Test.YtdgdhaonalppnaaRingAwake
import Derived.Test.YtdgdhaonalppnaaRingKept
namespace Go.Proofs.Ytdgdhaonalppnaa
open Go.RowKit

set_option maxHeartbeats 4000000 in
set_option maxRecDepth 100000 in
theorem back_walk (room : Int) (v : Value) (zs : List Int) (w : World) (hr0 : 0 ≤ room) (hr1 : room ≤ 255) (hrow : Row .i64 w v zs) :
    Calls Try.prog 5 #[.int .u8 room, v] w fun e w' => e = .returned (.bool true) ∧ Below w.heap.size w w' := by
  obtain ⟨x, rfl⟩ : ∃ x : Nat, room = x := ⟨room.toNat, by omega⟩
  obtain ⟨r, hr⟩ : ∃ r : Nat, r = x % 32 := ⟨_, rfl⟩
  obtain ⟨K, hK⟩ : ∃ K : Nat, K = 1 + r := ⟨_, rfl⟩
  have e1 : (x : Int) % 32 = (r : Int) := by omega
  have e2 : (1 : Int) + (r : Int) = (K : Int) := by omega
  have hK32 : K ≤ 32 := by omega
  have hK1 : 1 ≤ K := by omega
  have HX : Hid (x ≤ 255) := by show _ ≤ _; omega
  obtain ⟨a, cap, rfl, hat⟩ := hrow
  have hm : zs.length ≤ maxLen := Nat.le_trans hat.1 hat.2.1
  unfold maxLen at hm
  have HC : Hid (0 < zs.length → ∃ b o, a = some ⟨b, o, none⟩ ∧ b < w.heap.size ∧ ∀ i, i < zs.length → w.cell? ⟨b, o + i, none⟩ = some (.int .i64 (RK.el 0 zs i))) := fun hp => by
    obtain ⟨b, o, h1, h2⟩ := hat.2.2.2 hp
    exact ⟨b, o, h1, cell_lt (h2 0 hp), h2⟩
  have hw := awake_any w
  clear hr hK hat
  obtain ⟨N, hN⟩ : ∃ N, N = zs.length := ⟨_, rfl⟩
  rw [← hN] at hm ⊢
  have HN : Hid (N = zs.length) := hN
  clear hN
  go_enter Try.func5, Try.ntmps5
  go_wp2_with fail
  refine hw.mono ?_
  rintro e w1 ⟨rfl, hb1⟩
  clear hw
  by_cases h2 : 200 < N
  · go_wp2_with fail
    go_ret
    exact ⟨rfl, hb1⟩
  have hnew := oI_new K hK1 hK32 w1
  go_wp2_with fail
  refine hnew.mono ?_
  rintro e w2 ⟨p, F, rfl, ho2, hb2⟩
  have hs1 := hb1.size
  have hb2' : Below w.heap.size w w2 := hb1.trans (hb2.mono hs1)
  clear hnew hb2
  have H0 : Hid (ObjI w2 w1.heap.size p K (RK.kept K zs 0) F) := by
    show ObjI _ _ _ _ _ _
    rw [RK.kept_zero]
    exact ho2
  have HB2 : Hid (Below w.heap.size w w2) := hb2'
  clear ho2 hb2'
  go_wp2_with fail
  go_loopw [8] (fun iv wr => ∃ k : Nat, k ≤ N ∧ iv = .int .i64 k ∧ ObjI wr w1.heap.size p K (RK.kept K zs k) F ∧ Below w.heap.size w wr) (fun iv _ => N - (intOf iv).toNat)
  case atStart => exact ⟨0, Nat.zero_le _, rfl, H0.out, HB2.out⟩
  case round =>
    obtain ⟨k, hk, rfl, ho, hbr⟩ := hrel
    clear H0 HB2
    have HB : Hid (Below w.heap.size w wr) := hbr
    have HO : Hid (ObjI wr w1.heap.size p K (RK.kept K zs k) F) := ho
    clear ho hbr
    by_cases hlt : k < N
    · have hzl : k < zs.length := by have := HN.out; omega
      obtain ⟨b, o, rfl, hbl, hcell⟩ := HC.out (by omega)
      have ck : wr.cell? ⟨b, o + k, none⟩ = some (.int .i64 (RK.el 0 zs k)) := (HB.out.cell (p := ⟨b, _, none⟩) (by exact hbl)).trans (hcell k hzl)
      have hps := oI_push HO.out (RK.el 0 zs k)
      rw [RK.kept_push hK1 hzl] at hps
      have kN : (k : Int) < (N : Int) := by omega
      have hob := HO.out
      by_cases hkn : k < K
      · obtain ⟨g1, g2⟩ := RK.kept_room hzl hkn (0 : Int)
        rw [g1, decide_eq_false g2] at hps
        clear hcell hob g1 g2 hzl
        generalize RK.el 0 zs k = z at *
        go_wp2_with fail
        refine hps.mono ?_
        rintro e w3 ⟨rfl, h3, k3⟩
        have HB3 : Hid (Below w.heap.size w w3) := HB.out.trans ((HO.out.rest k3).mono hs1)
        have HO3 : Hid (ObjI w3 w1.heap.size p K (RK.kept K zs (k + 1)) F) := h3
        have kK : ¬ (K : Int) ≤ (k : Int) := by omega
        clear hps h3 k3 ck
        go_wp2_with fail
        go_roundw
        case rel => exact ⟨k + 1, by omega, by go_num, HO3.out, HB3.out⟩
        case measure => simp [intOf]; omega
      · obtain ⟨j, rfl⟩ : ∃ j, k = K + j := ⟨k - K, by omega⟩
        obtain ⟨g1, g2⟩ := RK.kept_full hK1 hzl (0 : Int)
        rw [g1, decide_eq_true g2] at hps
        have cj : w.cell? ⟨b, o + j, none⟩ = some (.int .i64 (RK.el 0 zs j)) := hcell j (by omega)
        have HCJ : Hid (∀ W, Below w.heap.size w W → W.cell? ⟨b, o + j, none⟩ = some (.int .i64 (RK.el 0 zs j))) := fun W hW => (hW.cell (p := ⟨b, _, none⟩) (by exact hbl)).trans cj
        clear hcell hob g1 g2 hzl cj
        generalize RK.el 0 zs (K + j) = z at *
        generalize RK.el 0 zs j = y at *
        go_wp2_with fail
        refine hps.mono ?_
        rintro e w3 ⟨rfl, h3, k3⟩
        have HB3 : Hid (Below w.heap.size w w3) := HB.out.trans ((HO.out.rest k3).mono hs1)
        have HO3 : Hid (ObjI w3 w1.heap.size p K (RK.kept K zs (K + j + 1)) F) := h3
        have cj3 := HCJ.out w3 HB3.out
        clear hps h3 k3 ck HCJ
        go_wp2_with fail
        go_roundw
        case rel => exact ⟨K + j + 1, by omega, by go_num, HO3.out, HB3.out⟩
        case measure => simp [intOf]; omega
    · obtain rfl : k = N := by omega
      clear hlt hk
      have H0 : Hid (ObjI wr w1.heap.size p K (RK.left K zs k) F) := by
        show ObjI _ _ _ _ _ _
        rw [HN.out, RK.left_all, ← HN.out]
        exact HO.out
      have HB2 : Hid (Below w.heap.size w wr) := HB.out
      clear HO HB
      go_wp2_with fail
      go_loopw [11] (fun iv wr => ∃ (m : Nat) (i : Int), m ≤ k ∧ k - K ≤ m ∧ i = (m : Int) - 1 ∧ iv = .int .i64 i ∧ ObjI wr w1.heap.size p K (RK.left K zs m) F ∧ Below w.heap.size w wr) (fun iv _ => (intOf iv + 1).toNat)
      case atStart => exact ⟨k, _, Nat.le_refl _, by omega, rfl, rfl, H0.out, HB2.out⟩
      case round =>
        obtain ⟨m, i, hm1, hm2, hi, rfl, ho, hbr⟩ := hrel
        clear H0 HB2
        have HB : Hid (Below w.heap.size w wr) := hbr
        have HO : Hid (ObjI wr w1.heap.size p K (RK.left K zs m) F) := ho
        clear ho hbr
        by_cases hmk : k - K < m
        · obtain ⟨j, rfl⟩ : ∃ j, m = j + 1 := ⟨m - 1, by omega⟩
          obtain rfl : i = (j : Int) := by omega
          have hzl : j < zs.length := by have := HN.out; omega
          obtain ⟨b, o, rfl, hbl, hcell⟩ := HC.out (by omega)
          have ck : wr.cell? ⟨b, o + j, none⟩ = some (.int .i64 (RK.el 0 zs j)) := (HB.out.cell (p := ⟨b, _, none⟩) (by exact hbl)).trans (hcell j hzl)
          have HCJ : Hid (∀ W, Below w.heap.size w W → W.cell? ⟨b, o + j, none⟩ = some (.int .i64 (RK.el 0 zs j))) := fun W hW => (hW.cell (p := ⟨b, _, none⟩) (by exact hbl)).trans (hcell j hzl)
          have hpp := oI_pop HO.out
          obtain ⟨g1, g2⟩ := RK.left_last (n := K) (by have := HN.out; omega) hzl (0 : Int)
          rw [g1, g2] at hpp
          simp only [getT] at hpp
          have jk : (j : Int) < (k : Int) := by omega
          have jk2 : (k : Int) - (K : Int) ≤ (j : Int) := by omega
          clear hcell g1 g2 hzl hi
          generalize RK.el 0 zs j = z at *
          go_wp2_with fail
          refine hpp.mono ?_
          rintro e w3 ⟨rfl, h3, k3⟩
          have HB3 : Hid (Below w.heap.size w w3) := HB.out.trans ((HO.out.rest k3).mono hs1)
          have HO3 : Hid (ObjI w3 w1.heap.size p K (RK.left K zs j) F) := h3
          have cj3 := HCJ.out w3 HB3.out
          clear hpp h3 k3 ck HCJ
          go_wp2_with fail
          go_roundw
          case rel => exact ⟨j, (j : Int) - 1, by omega, by omega, rfl, by go_num, HO3.out, HB3.out⟩
          case measure => simp [intOf]
        · have hmm : m = k - K := by omega
          have H1 : Hid (ObjI wr w1.heap.size p K [] F) := by
            show ObjI _ _ _ _ _ _
            rw [← RK.left_none (n := K) (zs := zs) (m := m) (by have := HN.out; omega)]
            exact HO.out
          have hpp := oI_pop H1.out
          simp only [List.getLast?_nil, getT, List.dropLast_nil] at hpp
          clear HO
          by_cases h0 : m = 0
          · obtain rfl : i = -1 := by omega
            clear hi hmm hm2 hmk
            go_wp2_with fail
            refine hpp.mono ?_
            rintro e w3 ⟨rfl, h3, k3⟩
            have HB3 : Hid (Below w.heap.size w w3) := HB.out.trans ((H1.out.rest k3).mono hs1)
            have hln := oI_len h3
            simp only [List.length_nil] at hln
            clear hpp h3 k3
            go_wp2_with fail
            refine hln.mono ?_
            rintro e w4 ⟨rfl, rfl⟩
            clear hln
            go_wp2_with fail
            go_ret
            exact ⟨rfl, HB3.out⟩
          · have i0 : 0 ≤ i := by omega
            have i1 : ¬ (k : Int) - (K : Int) ≤ i := by omega
            clear hi hmm hm2 hmk
            go_wp2_with fail
            refine hpp.mono ?_
            rintro e w3 ⟨rfl, h3, k3⟩
            have HB3 : Hid (Below w.heap.size w w3) := HB.out.trans ((H1.out.rest k3).mono hs1)
            have hln := oI_len h3
            simp only [List.length_nil] at hln
            clear hpp h3 k3
            go_wp2_with fail
            refine hln.mono ?_
            rintro e w4 ⟨rfl, rfl⟩
            clear hln
            go_wp2_with fail
            go_ret
            exact ⟨rfl, HB3.out⟩
end Go.Proofs.Ytdgdhaonalppnaa
