/-
  Two stacks of texts side by side; the walk of the law RingApart.
-/
import Derived.Test.YtdgdhaonalppnaaRingOS
import Derived.Test.YtdgdhaonalppnaaRingAwake
import Derived.Test.YtdgdhaonalppnaaRingKept
import Derived.Test.YtdgdhaonalppnaaLists
namespace Go.Proofs.Ytdgdhaonalppnaa
open Go.RowKit

/-- Two stacks of texts, in blocks apart. -/
def Pair (w : World) (B p q m n : Nat) (L M : List ByteArray) : Prop := ∃ F G, ObjS w B p m L F ∧ ObjS w B q n M G ∧ ∀ b, F b → ¬ G b
section
variable {w w' : World} {B p q m n : Nat} {L M : List ByteArray}
theorem Pair.below (h : Pair w B p q m n L M) (hb : Below w.heap.size w w') : Pair w' B p q m n L M := by
  obtain ⟨F, G, h1, h2, h3⟩ := h
  exact ⟨F, G, h1.below hb, h2.below hb, h3⟩
theorem Pair.base (h : Pair w B p q m n L M) : B ≤ w.heap.size := by
  obtain ⟨F, G, h1, -⟩ := h
  exact h1.base
theorem pair_new {F : Nat → Prop} (h : ObjS w B p m L F) (n : Nat) (h1 : 1 ≤ n) (hn : n ≤ 32) :
    Calls Try.prog 17 #[.int .i64 n] w fun e w' => ∃ q, e = .returned (.tuple #[.pointer (some ⟨q, 0, none⟩), .int .i64 0]) ∧ Pair w' B p q m n L [] ∧ Below B w w' := by
  have hB := h.base
  refine (oS_new n h1 hn w).mono ?_
  rintro e w' ⟨q, G, rfl, a1, a2⟩
  exact ⟨q, rfl, ⟨F, G, h.below a2, a1.base_le hB, fun b hf hg => by have := (h.lt b hf).2; have := (a1.lt b hg).1; omega⟩, a2.mono hB⟩
theorem p_push (h : Pair w B p q m n L M) (v : ByteArray) :
    Calls Try.prog 18 #[.pointer (some ⟨p, 0, none⟩), .string v] w fun e w' => e = .returned (.tuple #[.string (RK.went m ⟨#[]⟩ L), .bool (decide (L.length = m))]) ∧ Pair w' B p q m n (RK.pushed m L v) M ∧ Below B w w' := by
  obtain ⟨F, G, h1, h2, h3⟩ := h
  refine (oS_push h1 v).mono ?_
  rintro e w' ⟨rfl, a1, a2⟩
  exact ⟨rfl, ⟨F, G, a1, h2.kept a2 (fun b hg hf => h3 b hf hg), h3⟩, h1.rest a2⟩
theorem q_push (h : Pair w B p q m n L M) (v : ByteArray) :
    Calls Try.prog 18 #[.pointer (some ⟨q, 0, none⟩), .string v] w fun e w' => e = .returned (.tuple #[.string (RK.went n ⟨#[]⟩ M), .bool (decide (M.length = n))]) ∧ Pair w' B p q m n L (RK.pushed n M v) ∧ Below B w w' := by
  obtain ⟨F, G, h1, h2, h3⟩ := h
  refine (oS_push h2 v).mono ?_
  rintro e w' ⟨rfl, a1, a2⟩
  exact ⟨rfl, ⟨F, G, h1.kept a2 h3, a1, h3⟩, h2.rest a2⟩
theorem q_top (h : Pair w B p q m n L M) :
    Calls Try.prog 21 #[.pointer (some ⟨q, 0, none⟩)] w fun e w' => e = .returned (getT Value.string ⟨#[]⟩ M.getLast?) ∧ Pair w' B p q m n L M ∧ Below B w w' := by
  have h0 := h
  have hB := h.base
  obtain ⟨F, G, h1, h2, h3⟩ := h
  refine (oS_top h2).mono ?_
  rintro e w' ⟨rfl, a1⟩
  exact ⟨rfl, h0.below a1, a1.mono hB⟩
theorem p_len (h : Pair w B p q m n L M) :
    Calls Try.prog 20 #[.pointer (some ⟨p, 0, none⟩)] w fun e w' => e = .returned (.int .i64 (L.length : Nat)) ∧ w' = w := by
  obtain ⟨F, G, h1, -⟩ := h
  exact oS_len h1
theorem q_len (h : Pair w B p q m n L M) :
    Calls Try.prog 20 #[.pointer (some ⟨q, 0, none⟩)] w fun e w' => e = .returned (.int .i64 (M.length : Nat)) ∧ w' = w := by
  obtain ⟨F, G, h1, h2, -⟩ := h
  exact oS_len h2
theorem q_room (h : Pair w B p q m n L M) :
    Calls Try.prog 22 #[.pointer (some ⟨q, 0, none⟩)] w fun e w' => e = .returned (.int .i64 (n : Nat)) ∧ w' = w := by
  obtain ⟨F, G, h1, h2, -⟩ := h
  exact oS_room h2
end

set_option maxHeartbeats 8000000 in
set_option maxRecDepth 100000 in
theorem apart_walk (room : Int) (v : Value) (ss : List ByteArray) (w : World) (hr0 : 0 ≤ room) (hr1 : room ≤ 255) (htx : Texts w v ss) :
    Calls Try.prog 6 #[.int .u8 room, v] w fun e w' => e = .returned (.bool true) ∧ Below w.heap.size w w' := by
  obtain ⟨x, rfl⟩ : ∃ x : Nat, room = x := ⟨room.toNat, by omega⟩
  obtain ⟨r, hr⟩ : ∃ r : Nat, r = x % 32 := ⟨_, rfl⟩
  obtain ⟨K, hK⟩ : ∃ K : Nat, K = 1 + r := ⟨_, rfl⟩
  have e1 : (x : Int) % 32 = (r : Int) := by omega
  have e2 : (1 : Int) + (r : Int) = (K : Int) := by omega
  have hK32 : K ≤ 32 := by omega
  have hK1 : 1 ≤ K := by omega
  have HX : Hid (x ≤ 255) := by show _ ≤ _; omega
  obtain ⟨ao, cap, rfl, hm, hc0⟩ := htx
  unfold maxLen at hm
  have HC : Hid (0 < ss.length → ∃ b o, ao = some ⟨b, o, none⟩ ∧ b < w.heap.size ∧ ∀ i, i < ss.length → w.cell? ⟨b, o + i, none⟩ = some (.string (RK.el ⟨#[]⟩ ss i))) := hc0
  have hw := awake_any w
  clear hr hK hc0
  obtain ⟨N, hN⟩ : ∃ N, N = ss.length := ⟨_, rfl⟩
  rw [← hN] at hm ⊢
  have HN : Hid (N = ss.length) := hN
  clear hN
  go_enter Try.func6, Try.ntmps6
  go_wp2_with fail
  refine hw.mono ?_
  rintro e w1 ⟨rfl, hb1⟩
  clear hw
  by_cases h2 : 100 < N
  · go_wp2_with fail
    go_ret
    exact ⟨rfl, hb1⟩
  have hnew := oS_new 1 (by decide) (by decide) w1
  go_wp2_with fail
  refine hnew.mono ?_
  rintro e w2 ⟨p, F, rfl, ho2, hb2⟩
  have hs1 := hb1.size
  have hb2' : Below w.heap.size w w2 := hb1.trans (hb2.mono hs1)
  have hnew2 := pair_new ho2 K hK1 hK32
  clear hnew hb2 ho2
  go_wp2_with fail
  refine hnew2.mono ?_
  rintro e w3 ⟨q, rfl, ho3, hb3⟩
  have HB3 : Hid (Below w.heap.size w w3) := hb2'.trans (hb3.mono hs1)
  have H0 : Hid (Pair w3 w1.heap.size p q 1 K (RK.kept 1 ss 0) (RK.kept K ss 0)) := by
    show Pair _ _ _ _ _ _ _ _
    rw [RK.kept_zero, RK.kept_zero]
    exact ho3
  clear hnew2 hb2' ho3 hb3
  go_wp2_with fail
  go_loopw [9] (fun iv wr => ∃ k : Nat, k ≤ N ∧ iv = .int .i64 k ∧ Pair wr w1.heap.size p q 1 K (RK.kept 1 ss k) (RK.kept K ss k) ∧ Below w.heap.size w wr) (fun iv _ => N - (intOf iv).toNat)
  case atStart => exact ⟨0, Nat.zero_le _, rfl, H0.out, HB3.out⟩
  case round =>
    obtain ⟨k, hk, rfl, ho, hbr⟩ := hrel
    clear H0 HB3
    have HB : Hid (Below w.heap.size w wr) := hbr
    have HO : Hid (Pair wr w1.heap.size p q 1 K (RK.kept 1 ss k) (RK.kept K ss k)) := ho
    clear ho hbr
    by_cases hlt : k < N
    · have hzl : k < ss.length := by have := HN.out; omega
      obtain ⟨b, o, rfl, hbl, hcell⟩ := HC.out (by omega)
      have HCK : Hid (∀ W, Below w.heap.size w W → W.cell? ⟨b, o + k, none⟩ = some (.string (RK.el ⟨#[]⟩ ss k))) := fun W hW => (hW.cell (p := ⟨b, _, none⟩) (by exact hbl)).trans (hcell k hzl)
      have ck := HCK.out _ HB.out
      have kN : (k : Int) < (N : Int) := by omega
      have hps := p_push HO.out (RK.el ⟨#[]⟩ ss k)
      rw [RK.kept_push (by decide) hzl] at hps
      have HQP : Hid (∀ w', Pair w' w1.heap.size p q 1 K (RK.kept 1 ss (k + 1)) (RK.kept K ss k) → Calls Try.prog 18 #[.pointer (some ⟨q, 0, none⟩), .string (RK.el ⟨#[]⟩ ss k)] w' fun e w'' => (∃ y t, e = .returned (.tuple #[.string y, .bool t])) ∧ Pair w'' w1.heap.size p q 1 K (RK.kept 1 ss (k + 1)) (RK.kept K ss (k + 1)) ∧ Below w1.heap.size w' w'') := fun w' h => by
        have := q_push h (RK.el ⟨#[]⟩ ss k)
        rw [RK.kept_push hK1 hzl] at this
        refine this.mono ?_
        rintro e w'' ⟨rfl, a1, a2⟩
        exact ⟨⟨_, _, rfl⟩, a1, a2⟩
      have HQT : Hid (∀ w', Pair w' w1.heap.size p q 1 K (RK.kept 1 ss (k + 1)) (RK.kept K ss (k + 1)) → Calls Try.prog 21 #[.pointer (some ⟨q, 0, none⟩)] w' fun e w'' => e = .returned (.tuple #[.string (RK.el ⟨#[]⟩ ss k), .bool true]) ∧ Pair w'' w1.heap.size p q 1 K (RK.kept 1 ss (k + 1)) (RK.kept K ss (k + 1)) ∧ Below w1.heap.size w' w'') := fun w' h => by
        have := q_top h
        rw [RK.kept_last hK1 hzl (⟨#[]⟩ : ByteArray)] at this
        exact this
      have HLN : Hid ((RK.kept K ss (k + 1)).length = min (k + 1) K) := RK.kept_len (by omega)
      have HYT : Hid ((k = 0 ∧ decide ((RK.kept 1 ss k).length = 1) = false) ∨ ∃ j, k = j + 1 ∧ decide ((RK.kept 1 ss k).length = 1) = true ∧ RK.went 1 ⟨#[]⟩ (RK.kept 1 ss k) = RK.el ⟨#[]⟩ ss j) := by
        show _ ∨ _
        rcases Nat.eq_zero_or_pos k with h0 | h0
        · exact .inl ⟨h0, decide_eq_false (RK.kept_room hzl (by omega) (⟨#[]⟩ : ByteArray)).2⟩
        · obtain ⟨j, rfl⟩ : ∃ j, k = 1 + j := ⟨k - 1, by omega⟩
          obtain ⟨g1, g2⟩ := RK.kept_full (by decide) hzl (⟨#[]⟩ : ByteArray)
          exact .inr ⟨j, by omega, decide_eq_true g2, g1⟩
      have HCJ : Hid (∀ W, Below w.heap.size w W → ∀ j, k = j + 1 → W.cell? ⟨b, o + j, none⟩ = some (.string (RK.el ⟨#[]⟩ ss j))) := fun W hW j hj => (hW.cell (p := ⟨b, _, none⟩) (by exact hbl)).trans (hcell j (by omega))
      generalize RK.went 1 ⟨#[]⟩ (RK.kept 1 ss k) = y at *
      generalize decide ((RK.kept 1 ss k).length = 1) = t at *
      generalize RK.el ⟨#[]⟩ ss k = z at *
      clear hcell hzl HO
      go_wp2_with fail
      refine hps.mono ?_
      rintro e w4 ⟨rfl, ho4, hr4⟩
      have HB4 : Hid (Below w.heap.size w w4) := HB.out.trans (hr4.mono hs1)
      have HO4 : Hid (Pair w4 w1.heap.size p q 1 K (RK.kept 1 ss (k + 1)) (RK.kept K ss k)) := ho4
      clear hps ho4 hr4 ck HB
      go_upto_region 13 with fail
      go_cut [69] (fun c wx => c = .bool false ∧ wx = w4)
      case first =>
        rcases HYT.out with ⟨rfl, rfl⟩ | ⟨j, rfl, rfl, rfl⟩
        · go_wp2_with fail
          go_meet
          exact ⟨rfl, rfl⟩
        · have cj := HCJ.out _ HB4.out j rfl
          generalize RK.el ⟨#[]⟩ ss j = y at *
          have jN : (j : Int) < (N : Int) := by omega
          have jp : (0 : Int) < (j : Int) + 1 := by omega
          go_wp2_with fail
          go_meet
          exact ⟨rfl, rfl⟩
      case rest =>
        obtain ⟨rfl, rfl⟩ := hcut
        have ck := HCK.out _ HB4.out
        have hqp := HQP.out _ HO4.out
        clear HYT HCJ HQP HO4
        go_wp2_with fail
        refine hqp.mono ?_
        rintro e w5 ⟨⟨y5, t5, rfl⟩, ho5, hr5⟩
        have HB5 : Hid (Below w.heap.size w w5) := HB4.out.trans (hr5.mono hs1)
        have hq1 := HQT.out _ ho5
        clear hqp ho5 hr5 HB4 ck
        go_wp2_with fail
        refine hq1.mono ?_
        rintro e w6 ⟨rfl, ho6, hr6⟩
        have HB6 : Hid (Below w.heap.size w w6) := HB5.out.trans (hr6.mono hs1)
        have hq2 := HQT.out _ ho6
        clear hq1 ho6 hr6 HB5 HQT
        go_wp2_with fail
        refine hq2.mono ?_
        rintro e w7 ⟨rfl, ho7, hr7⟩
        have HB7 : Hid (Below w.heap.size w w7) := HB6.out.trans (hr7.mono hs1)
        have HO7 : Hid (Pair w7 w1.heap.size p q 1 K (RK.kept 1 ss (k + 1)) (RK.kept K ss (k + 1))) := ho7
        have hln := q_len ho7
        have hrm := q_room ho7
        rw [HLN.out] at hln
        have ck := HCK.out _ HB7.out
        clear hq2 ho7 hr7 HB6 HLN HCK
        by_cases hkK : K < k + 1
        · rw [show min (k + 1) K = K by omega] at hln
          have kK : (K : Int) < (k : Int) + 1 := by omega
          go_wp2_with fail
          refine hln.mono ?_
          rintro e w8 ⟨rfl, rfl⟩
          clear hln
          go_wp2_with fail
          refine hrm.mono ?_
          rintro e w8 ⟨rfl, rfl⟩
          clear hrm
          go_wp2_with fail
          go_roundw
          case rel => exact ⟨k + 1, by omega, by go_num, HO7.out, HB7.out⟩
          case measure => simp [intOf]; omega
        · rw [show min (k + 1) K = k + 1 by omega] at hln
          have kK : (k : Int) + 1 ≤ (K : Int) := by omega
          go_wp2_with fail
          refine hln.mono ?_
          rintro e w8 ⟨rfl, rfl⟩
          clear hln
          go_wp2_with fail
          refine hrm.mono ?_
          rintro e w8 ⟨rfl, rfl⟩
          clear hrm
          go_wp2_with fail
          go_roundw
          case rel => exact ⟨k + 1, by omega, by go_num, HO7.out, HB7.out⟩
          case measure => simp [intOf]; omega
    · obtain rfl : k = N := by omega
      have hln := p_len HO.out
      rw [RK.kept_len (by have := HN.out; omega)] at hln
      clear hlt hk
      by_cases hk1 : 1 < k
      · rw [show min k 1 = 1 by omega] at hln
        have k1 : 1 < (k : Int) := by omega
        go_wp2_with fail
        refine hln.mono ?_
        rintro e w4 ⟨rfl, rfl⟩
        go_wp2_with fail
        go_ret
        exact ⟨rfl, HB.out⟩
      · rw [show min k 1 = k by omega] at hln
        have k1 : (k : Int) ≤ 1 := by omega
        go_wp2_with fail
        refine hln.mono ?_
        rintro e w4 ⟨rfl, rfl⟩
        go_wp2_with fail
        go_ret
        exact ⟨ret_bool (by simp), HB.out⟩
end Go.Proofs.Ytdgdhaonalppnaa
