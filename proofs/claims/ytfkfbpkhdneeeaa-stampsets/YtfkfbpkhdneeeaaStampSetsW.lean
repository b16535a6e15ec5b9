/-
  The walk of the law StampSets.
-/
import Derived.Test.YtfkfbpkhdneeeaaStampObj
import Derived.Test.YtfkfbpkhdneeeaaStampP
namespace Go.Proofs.Ytfkfbpkhdneeeaa
open Go.RowKit

/-- A row of pairs. -/
abbrev ObjP := Obj RP.At 52 2
section
variable {w : World} {B p n : Nat} {m : Nat → Option (Int × Int)} {F : Nat → Prop}
theorem op_new (n : Nat) (hn : n ≤ 64) (w : World) :
    Calls Try.prog 18 #[.int .i64 n] w fun e w' => ∃ p F, e = .returned (.tuple #[.pointer (some ⟨p, 0, none⟩), .int .i64 0]) ∧ ObjP w' w.heap.size p n (fun _ => none) F ∧ Below w.heap.size w w' := by
  refine (RP.new_any n hn w).mono ?_
  rintro e w' ⟨p, bt, bs, xs, st, now, rfl, h1, h2, h3⟩
  exact ⟨p, _, rfl, ⟨bt, bs, xs, st, now, h1, h2, rfl⟩, h3⟩
theorem op_set (h : ObjP w B p n m F) (hn : n ≤ 64) (k : Nat) (hk : k < n) (a b : Int) :
    Calls Try.prog 19 #[.pointer (some ⟨p, 0, none⟩), .int .i64 k, .agg #[.int .i64 a, .int .i64 b]] w fun e w' => e = .returned (.int .i64 0) ∧ ObjP w' B p n (SM.upd m k (some (a, b))) F ∧ Below B w w' := by
  have h0 := h
  obtain ⟨bt, bs, xs, st, now, h1, h2, rfl⟩ := h
  refine (RP.set_in h1 h2 hn k hk a b).mono ?_
  rintro e w' ⟨rfl, xs', st', a1, a2, a3⟩
  exact ⟨rfl, ⟨bt, bs, xs', st', now, a1, a2, rfl⟩, h0.rest a3⟩
theorem op_get (h : ObjP w B p n m F) (k : Nat) (hk : k < n) (a b : Int) (hm : m k = some (a, b)) :
    Calls Try.prog 21 #[.pointer (some ⟨p, 0, none⟩), .int .i64 k] w fun e w' => e = .returned (.tuple #[.agg #[.int .i64 a, .int .i64 b], .bool true]) ∧ ObjP w' B p n m F ∧ Below B w w' := by
  have h0 := h
  have hB := h.base
  obtain ⟨bt, bs, xs, st, now, h1, h2, rfl⟩ := h
  refine (RP.get_in h1 h2 k hk a b hm).mono ?_
  rintro e w' ⟨rfl, a1⟩
  exact ⟨rfl, h0.below a1, a1.mono hB⟩
theorem op_clear (h : ObjP w B p n m F) :
    Calls Try.prog 20 #[.pointer (some ⟨p, 0, none⟩)] w fun e w' => e = .returned (.tuple #[]) ∧ ObjP w' B p n (fun _ => none) F ∧ Below B w w' := by
  have h0 := h
  obtain ⟨bt, bs, xs, st, now, h1, h2, rfl⟩ := h
  refine (RP.clear_any h1 h2).mono ?_
  rintro e w' ⟨rfl, xs', st', now', a1, a2, a3⟩
  exact ⟨rfl, ⟨bt, bs, xs', st', now', a1, a2, rfl⟩, h0.rest a3⟩
theorem op_len (h : ObjP w B p n m F) (hn : n ≤ 64) :
    Calls Try.prog 22 #[.pointer (some ⟨p, 0, none⟩)] w fun e w' => e = .returned (.int .i64 (SM.cnt n m : Nat)) ∧ w' = w := by
  obtain ⟨bt, bs, xs, st, now, h1, h2, rfl⟩ := h
  exact RP.len_any h1 h2 hn
end

/-- Whether two pairs are alike. -/
theorem eqP (a b c d : Int) (w : World) : (Op.equalIn 10000 52 (.agg #[.int .i64 a, .int .i64 b]) (.agg #[.int .i64 c, .int .i64 d])).run Try.prog w = .ok (a == c && b == d) w := by
  have u3 := Try.underlying3
  have a3 := Try.isAgg3
  have z3 := Try.sizeOf3
  rw [show (10000 : Nat) = 9999 + 1 from rfl, Op.equalIn]
  simp only [Sem.run_bind, run_underlying Try.underlying52, Result.andThen_ok]
  simp only [Std.Legacy.Range.forIn_eq_forIn_range', Std.Legacy.Range.size, Nat.sub_zero, Nat.add_sub_cancel, Nat.div_one, List.range'_succ, List.range'_zero, List.forIn_cons, List.forIn_nil]
  go_simp
  by_cases h1 : a = c <;> by_cases h2 : b = d <;> simp [h1, h2]

/-- What is set twice at one place, and nowhere else. -/
def last2 (i : Nat) (a b : Int) : Nat → Option (Int × Int) := SM.upd (SM.upd (fun _ => none) i (some (b, a))) i (some (a, b))
theorem last2_at (i : Nat) (a b : Int) : last2 i a b i = some (a, b) := by simp [last2, SM.upd]
theorem last2_cnt {i n : Nat} (h : i < n) (a b : Int) : SM.cnt n (last2 i a b) = 1 := by
  rw [SM.cnt_one (i := i), if_pos h]
  intro t
  unfold last2 SM.upd
  by_cases e : t = i <;> simp [e]

set_option maxHeartbeats 4000000 in
set_option maxRecDepth 100000 in
theorem sets_walk (n at' a b times : Int) (w : World) (hn0 : 0 ≤ n) (hn1 : n ≤ 255) (ha0 : 0 ≤ at') (ha1 : at' ≤ 255) (ht0 : 0 ≤ times) (ht1 : times ≤ 65535) :
    Calls Try.prog 5 #[.int .u8 n, .int .u8 at', .int .i64 a, .int .i64 b, .int .u16 times] w fun e w' => e = .returned (.bool true) ∧ Below w.heap.size w w' := by
  obtain ⟨x, rfl⟩ : ∃ x : Nat, n = x := ⟨n.toNat, by omega⟩
  obtain ⟨y, rfl⟩ : ∃ y : Nat, at' = y := ⟨at'.toNat, by omega⟩
  obtain ⟨z, rfl⟩ : ∃ z : Nat, times = z := ⟨times.toNat, by omega⟩
  obtain ⟨r, hr⟩ : ∃ r : Nat, r = x % 64 := ⟨_, rfl⟩
  obtain ⟨K, hK⟩ : ∃ K : Nat, K = 1 + r := ⟨_, rfl⟩
  obtain ⟨T, hT⟩ : ∃ T : Nat, T = z % 601 := ⟨_, rfl⟩
  obtain ⟨i, hi⟩ : ∃ i : Nat, i = y % K := ⟨_, rfl⟩
  have hik : i < K := by rw [hi]; exact Nat.mod_lt _ (by omega)
  have e1 : (x : Int) % 64 = (r : Int) := by omega
  have e2 : (1 : Int) + (r : Int) = (K : Int) := by omega
  have e3 : (z : Int) % 601 = (T : Int) := by omega
  have e4 : (y : Int) % (K : Int) = (i : Int) := by rw [hi]; simp
  have hK64 : K ≤ 64 := by omega
  have hK1 : 1 ≤ K := by omega
  have hT6 : T ≤ 600 := by omega
  have hK0 : ((K : Int) == 0) = false := beq_eq_false_iff_ne.2 (by omega)
  have hK0' : ¬ (K : Int) = 0 := by omega
  have HX : Hid (x ≤ 255 ∧ y ≤ 255 ∧ z ≤ 65535) := ⟨by omega, by omega, by omega⟩
  have hw := awake_any w
  clear hr hK hT hi
  go_enter Try.func5, Try.ntmps5
  go_wp2_with fail
  refine hw.mono ?_
  rintro e w1 ⟨rfl, hb1⟩
  have hnew := op_new K hK64 w1
  clear hw
  go_wp2_with fail
  refine hnew.mono ?_
  rintro e w2 ⟨p, F, rfl, ho2, hb2⟩
  have hs1 := hb1.size
  have hb2' : Below w.heap.size w w2 := hb1.trans (hb2.mono hs1)
  clear hnew hb2
  go_wp2_with fail
  go_loopw [14] (fun iv wr => ∃ k : Nat, k ≤ T ∧ iv = .int .i64 k ∧ ObjP wr w1.heap.size p K (fun _ => none) F ∧ Below w.heap.size w wr) (fun iv _ => T - (intOf iv).toNat)
  case atStart => exact ⟨0, Nat.zero_le _, rfl, ho2, hb2'⟩
  case round =>
    obtain ⟨k, hk, rfl, ho, hbr⟩ := hrel
    clear ho2 hb2'
    by_cases hlt : k < T
    · obtain ⟨j, hj⟩ : ∃ j : Nat, j = k % K := ⟨_, rfl⟩
      have hjk : j < K := by rw [hj]; exact Nat.mod_lt _ (by omega)
      have e5 : (k : Int) % (K : Int) = (j : Int) := by rw [hj]; simp
      have kT : (k : Int) < (T : Int) := by omega
      have hst := op_set ho hK64 j hjk k k
      have HB : Hid (Below w.heap.size w wr) := hbr
      clear hj ho hbr
      go_wp2_with fail
      refine hst.mono ?_
      rintro e w3 ⟨rfl, ho3, hb3⟩
      have hcl := op_clear ho3
      have HB3 : Hid (Below w.heap.size w w3) := HB.out.trans (hb3.mono hs1)
      clear hst ho3 hb3
      go_wp2_with fail
      refine hcl.mono ?_
      rintro e w4 ⟨rfl, ho4, hb4⟩
      have HB4 : Hid (Below w.heap.size w w4) := HB3.out.trans (hb4.mono hs1)
      have HO4 : Hid (ObjP w4 w1.heap.size p K (fun _ => none) F) := ho4
      clear hcl ho4 hb4
      go_wp2_with fail
      go_roundw
      case rel => exact ⟨k + 1, by omega, by go_num, HO4.out, HB4.out⟩
      case measure => simp [intOf]; omega
    · obtain rfl : k = T := by omega
      have hst := op_set ho hK64 i hik b a
      have HB : Hid (Below w.heap.size w wr) := hbr
      clear ho hbr
      go_wp2_with fail
      refine hst.mono ?_
      rintro e w3 ⟨rfl, ho3, hb3⟩
      have hst2 := op_set ho3 hK64 i hik a b
      have HB3 : Hid (Below w.heap.size w w3) := HB.out.trans (hb3.mono hs1)
      clear hst ho3 hb3
      go_wp2_with fail
      refine hst2.mono ?_
      rintro e w4 ⟨rfl, ho4, hb4⟩
      have ho4' : ObjP w4 w1.heap.size p K (last2 i a b) F := ho4
      have hgt := op_get ho4' i hik a b (last2_at i a b)
      have HB4 : Hid (Below w.heap.size w w4) := HB3.out.trans (hb4.mono hs1)
      clear hst2 ho4 hb4 ho4'
      go_wp2_with fail
      refine hgt.mono ?_
      rintro e w5 ⟨rfl, ho5, hb5⟩
      have hs5 : w.heap.size ≤ w5.heap.size := (HB4.out.trans (hb5.mono hs1)).size
      have HB5 : Hid (Below w.heap.size w (w5.alloc (.cells #[.int .i64 a, .int .i64 b] 52))) := (HB4.out.trans (hb5.mono hs1)).alloc hs5 _
      have hbx : Below w5.heap.size w5 (w5.alloc (.cells #[.int .i64 a, .int .i64 b] 52)) := (Below.refl _ _).alloc (Nat.le_refl _) _
      have hln := op_len (ho5.below hbx) hK64
      rw [last2_cnt hik] at hln
      have heq := fun w => eqP a b a b w
      simp only [beq_self_eq_true, Bool.and_self] at heq
      clear hgt ho5 hb5 hbx
      go_wp2_with fail
      refine hln.mono ?_
      rintro e w6 ⟨rfl, rfl⟩
      go_wp2_with fail
      go_ret
      exact ⟨rfl, HB5.out⟩
end Go.Proofs.Ytfkfbpkhdneeeaa
