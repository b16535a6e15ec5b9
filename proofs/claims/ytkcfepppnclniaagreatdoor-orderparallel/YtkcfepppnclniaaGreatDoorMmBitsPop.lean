/-
  BitsPop, OrdPop, OrdTips, OrdDiffP.
-/
import Derived.Test.YtkcfepppnclniaaGreatDoorMmBitsMath
import Derived.Test.YtkcfepppnclniaaGreatDoorMmBase
import Derived.Test.YtkcfepppnclniaaGreatDoorMmWitSpareP
import Derived.Test.YtkcfepppnclniaaGreatDoorMmMeshMem
import Derived.Test.YtkcfepppnclniaaGreatDoorMmWitSpared
import Derived.Test.YtkcfepppnclniaaGreatDoorMmWitMath
import Derived.Laws.Bits64b
section
/-
  How many bits a number of 64 bits has, by the library's way: pairs, fours, bytes, all. Nothing of any program.
-/
namespace Go.Proofs.YtkcfepppnclniaaGreatDoor
namespace BM

/-- A number by its bytes, the lowest first. -/
def val : List Nat → Nat
  | [] => 0
  | b :: l => b + 256 * val l
/-- The same byte over and over. -/
def mk (c : Nat) : Nat → Nat
  | 0 => 0
  | n + 1 => c + 256 * mk c n
def byts (l : List Nat) : Prop := ∀ b ∈ l, b < 256
theorem and_step {b m : Nat} (hb : b < 256) (hm : m < 256) (B M : Nat) : (b + 256 * B) &&& (m + 256 * M) = (b &&& m) + 256 * (B &&& M) := by
  have h1 : b &&& m < 2 ^ 8 := Nat.and_lt_two_pow _ hm
  apply Nat.eq_of_testBit_eq
  intro i
  have e1 := Nat.testBit_two_pow_mul_add B (i := 8) (b := b) hb i
  have e2 := Nat.testBit_two_pow_mul_add M (i := 8) (b := m) hm i
  have e3 := Nat.testBit_two_pow_mul_add (B &&& M) (i := 8) h1 i
  rw [Nat.add_comm] at e1 e2 e3
  rw [Nat.testBit_and, show (256 : Nat) = 2 ^ 8 from rfl, e1, e2, e3]
  split <;> simp [Nat.testBit_and]
theorem m55 : ∀ b, b < 256 → ∀ e, e < 2 → (b / 2 + 128 * e) &&& 85 = b / 2 &&& 85 := by decide +kernel
theorem m33 : ∀ b, b < 256 → ∀ e, e < 4 → (b / 4 + 64 * e) &&& 51 = b / 4 &&& 51 := by decide +kernel
def f1 (b : Nat) : Nat := (b / 2 &&& 85) + (b &&& 85)
def f2 (b : Nat) : Nat := (b / 4 &&& 51) + (b &&& 51)
def f3 (b : Nat) : Nat := (b / 16 + b) % 16
theorem f1_lt : ∀ b, b < 256 → f1 b < 256 := by decide +kernel
theorem f2_nib : ∀ b, b < 256 → f2 (f1 b) < 256 ∧ f2 (f1 b) / 16 ≤ 4 ∧ f2 (f1 b) % 16 ≤ 4 := by decide +kernel
/-- The bits of a byte. -/
def pc (b : Nat) : Nat := ((List.range 8).filter (fun i => b.testBit i)).length
theorem f3_pc : ∀ b, b < 256 → f3 (f2 (f1 b)) = pc b := by decide +kernel
theorem pc_le : ∀ b, b < 256 → pc b ≤ 8 := by decide +kernel
theorem step1 : ∀ l : List Nat, byts l → (val l / 2 &&& mk 85 l.length) + (val l &&& mk 85 l.length) = val (l.map f1)
  | [], _ => by simp [val, mk]
  | b :: l, h => by
    have hb : b < 256 := h b (by simp)
    have ih := step1 l (fun x hx => h x (by simp [hx]))
    simp only [val, mk, List.length_cons, List.map_cons]
    rw [and_step hb (by decide), show (b + 256 * val l) / 2 = (b / 2 + 128 * (val l % 2)) + 256 * (val l / 2) by omega, and_step (by omega) (by decide), m55 b hb _ (by omega), ← ih]
    unfold f1
    omega
theorem step2 : ∀ l : List Nat, byts l → (val l / 4 &&& mk 51 l.length) + (val l &&& mk 51 l.length) = val (l.map f2)
  | [], _ => by simp [val, mk]
  | b :: l, h => by
    have hb : b < 256 := h b (by simp)
    have ih := step2 l (fun x hx => h x (by simp [hx]))
    simp only [val, mk, List.length_cons, List.map_cons]
    rw [and_step hb (by decide), show (b + 256 * val l) / 4 = (b / 4 + 64 * (val l % 4)) + 256 * (val l / 4) by omega, and_step (by omega) (by decide), m33 b hb _ (by omega), ← ih]
    unfold f2
    omega
theorem val_mod : ∀ l : List Nat, byts l → (∀ b ∈ l, b % 16 ≤ 4) → val l % 16 ≤ 4
  | [], _, _ => by simp [val]
  | b :: l, _, h => by
    have := h b (by simp)
    simp only [val]
    omega
theorem step3 : ∀ l : List Nat, byts l → (∀ b ∈ l, b / 16 ≤ 4 ∧ b % 16 ≤ 4) → (val l / 16 + val l) &&& mk 15 l.length = val (l.map f3)
  | [], _, _ => by simp [val, mk]
  | b :: l, h, hn => by
    have hb : b < 256 := h b (by simp)
    have hnb := hn b (by simp)
    have hl : byts l := fun x hx => h x (by simp [hx])
    have ih := step3 l hl (fun x hx => hn x (by simp [hx]))
    have hv := val_mod l hl (fun x hx => (hn x (by simp [hx])).2)
    simp only [val, mk, List.length_cons, List.map_cons]
    rw [show (b + 256 * val l) / 16 + (b + 256 * val l) = (b / 16 + 16 * (val l % 16) + b) + 256 * (val l / 16 + val l) by omega, and_step (by omega) (by decide), ih]
    have e : ∀ x : Nat, x &&& 15 = x % 16 := fun x => Nat.and_two_pow_sub_one_eq_mod x 4
    rw [e]
    unfold f3
    omega
/-- The numbers of bits of its bytes, added. -/
def pcs : List Nat → Nat
  | [] => 0
  | b :: l => pc b + pcs l
theorem count_val : ∀ l : List Nat, byts l → ((List.range (8 * l.length)).filter (fun i => (val l).testBit i)).length = pcs l
  | [], _ => by simp [val, pcs]
  | b :: l, h => by
    have hb : b < 256 := h b (by simp)
    have ih := count_val l (fun x hx => h x (by simp [hx]))
    rw [List.length_cons, Nat.mul_add, Nat.mul_one, Nat.add_comm, List.range_add, List.filter_append, List.length_append]
    simp only [val, pcs]
    have ht : ∀ i, (b + 256 * val l).testBit i = if i < 8 then b.testBit i else (val l).testBit (i - 8) := by
      intro i
      have := Nat.testBit_two_pow_mul_add (val l) (i := 8) (b := b) hb i
      rwa [Nat.add_comm] at this
    congr 1
    · unfold pc
      congr 1
      refine List.filter_congr fun i hi => ?_
      rw [ht, if_pos (List.mem_range.1 hi)]
    · rw [List.filter_map, List.length_map, ← ih]
      congr 1
      refine List.filter_congr fun i hi => ?_
      simp only [Function.comp_apply]
      rw [ht, if_neg (by omega), show 8 + i - 8 = i by omega]
theorem div1 (a B x : Nat) (h0 : a ≤ 8) (e : x = a + 256 * B) : x / 256 = B := by omega
theorem div2 (a b C x : Nat) (h0 : a ≤ 16) (h1 : b ≤ 16) (e : x = a + 256 * (b + 256 * C)) : x / 65536 = C := by omega
theorem div3 (a b c d D x : Nat) (h0 : a ≤ 32) (h1 : b ≤ 32) (h2 : c ≤ 32) (h3 : d ≤ 32) (e : x = a + 256 * (b + 256 * (c + 256 * (d + 256 * D)))) : x / 4294967296 = D := by omega
theorem mod4 (a D x : Nat) (h0 : a ≤ 64) (e : x = a + 256 * D) : x % 128 = a := by omega
theorem last6 (a b c d e f g h : Nat) (h0 : a ≤ 8) (h1 : b ≤ 8) (h2 : c ≤ 8) (h3 : d ≤ 8) (h4 : e ≤ 8) (h5 : f ≤ 8) (h6 : g ≤ 8) (h7 : h ≤ 8) (x3 x4 x5 x6 : Nat)
    (e3 : x3 = a + 256 * (b + 256 * (c + 256 * (d + 256 * (e + 256 * (f + 256 * (g + 256 * h))))))) (e4 : x4 = x3 + x3 / 256) (e5 : x5 = x4 + x4 / 65536) (e6 : x6 = x5 + x5 / 4294967296) :
    x6 % 128 = a + b + c + d + e + f + g + h := by
  have d3 := div1 a _ x3 h0 e3
  have d4 : x4 = (a + b) + 256 * ((b + c) + 256 * ((c + d) + 256 * ((d + e) + 256 * ((e + f) + 256 * ((f + g) + 256 * ((g + h) + 256 * h)))))) := by
    rw [e4, d3, e3]; clear d3 e3 e4 e5 e6 h0 h1 h2 h3 h4 h5 h6 h7; omega
  have d4' := div2 (a + b) (b + c) _ x4 (by clear d4 d3 e3 e4 e5 e6; omega) (by clear d4 d3 e3 e4 e5 e6; omega) d4
  have d5 : x5 = (a + b + c + d) + 256 * ((b + c + d + e) + 256 * ((c + d + e + f) + 256 * ((d + e + f + g) + 256 * ((e + f + g + h) + 256 * ((f + g + h) + 256 * ((g + h) + 256 * h)))))) := by
    rw [e5, d4', d4]; clear d3 e3 e4 e5 e6 d4' d4 h0 h1 h2 h3 h4 h5 h6 h7; omega
  have d5' := div3 (a + b + c + d) (b + c + d + e) (c + d + e + f) (d + e + f + g) _ x5 (by clear d5 d4' d4 d3 e3 e4 e5 e6; omega) (by clear d5 d4' d4 d3 e3 e4 e5 e6; omega) (by clear d5 d4' d4 d3 e3 e4 e5 e6; omega) (by clear d5 d4' d4 d3 e3 e4 e5 e6; omega) d5
  have d6 : x6 = (a + b + c + d + e + f + g + h) + 256 * ((b + c + d + e) + 256 * ((c + d + e + f) + 256 * ((d + e + f + g) + 256 * ((e + f + g + h) + 256 * ((f + g + h) + 256 * ((g + h) + 256 * h)))))  + ((f + g + h) + 256 * ((g + h) + 256 * h))) := by
    rw [e6, d5', d5]; clear d3 e3 e4 e5 e6 d4' d4 d5 d5' h0 h1 h2 h3 h4 h5 h6 h7; omega
  exact mod4 _ _ x6 (by clear d6 d5' d5 d4' d4 d3 e3 e4 e5 e6; omega) d6

def s1 (x : Nat) : Nat := (x / 2 &&& 6148914691236517205) + (x &&& 6148914691236517205)
def s2 (x : Nat) : Nat := (x / 4 &&& 3689348814741910323) + (x &&& 3689348814741910323)
def s3 (x : Nat) : Nat := (x / 16 + x) &&& 1085102592571150095
def s4 (x : Nat) : Nat := x + x / 256
def s5 (x : Nat) : Nat := x + x / 65536
def s6 (x : Nat) : Nat := x + x / 4294967296
theorem s1_le (x : Nat) : s1 x ≤ 12297829382473034410 := by
  have a := Nat.and_le_right (n := x / 2) (m := 6148914691236517205)
  have b := Nat.and_le_right (n := x) (m := 6148914691236517205)
  unfold s1; omega
theorem s2_le (x : Nat) : s2 x ≤ 7378697629483820646 := by
  have a := Nat.and_le_right (n := x / 4) (m := 3689348814741910323)
  have b := Nat.and_le_right (n := x) (m := 3689348814741910323)
  unfold s2; omega
theorem s3_le (x : Nat) : s3 x ≤ 1085102592571150095 := Nat.and_le_right
/-- A number's lowest bytes. -/
def bs : Nat → Nat → List Nat
  | 0, _ => []
  | n + 1, x => x % 256 :: bs n (x / 256)
theorem bs_len : ∀ n x, (bs n x).length = n
  | 0, _ => rfl
  | n + 1, x => by simp [bs, bs_len n]
theorem bs_lt : ∀ n x, byts (bs n x)
  | 0, _ => fun b hb => by cases hb
  | n + 1, x => fun b hb => by
    simp only [bs, List.mem_cons] at hb
    rcases hb with rfl | hb
    · omega
    · exact bs_lt n _ b hb
theorem bs_val : ∀ n x, x < 256 ^ n → val (bs n x) = x
  | 0, x, h => by simp at h; simp [bs, val, h]
  | n + 1, x, h => by
    simp only [bs, val]
    rw [bs_val n (x / 256) (by rw [Nat.pow_succ] at h; omega)]
    omega
/-- How many bits: the library's way. -/
def ones (x : Nat) : Nat := s6 (s5 (s4 (s3 (s2 (s1 x))))) % 128
theorem ones_eq (x : Nat) (hx : x < 18446744073709551616) : ones x = (lst x).length := by
  obtain ⟨l, hl⟩ : ∃ l, l = bs 8 x := ⟨_, rfl⟩
  have hby : byts l := hl ▸ bs_lt 8 x
  have hlen : l.length = 8 := hl ▸ bs_len 8 x
  have hv : val l = x := hl ▸ bs_val 8 x hx
  clear hl
  have hc := count_val l hby
  rw [hlen, hv] at hc
  have e1 : s1 x = val (l.map f1) := by
    have := step1 l hby
    rw [hlen, hv] at this
    exact this
  have hby1 : byts (l.map f1) := by
    intro b hb
    obtain ⟨c, hc, rfl⟩ := List.mem_map.1 hb
    exact f1_lt c (hby c hc)
  have e2 : s2 (s1 x) = val ((l.map f1).map f2) := by
    have := step2 _ hby1
    rw [List.length_map, hlen, ← e1] at this
    exact this
  have hn : ∀ b ∈ (l.map f1).map f2, b < 256 ∧ b / 16 ≤ 4 ∧ b % 16 ≤ 4 := by
    intro b hb
    rw [List.map_map] at hb
    obtain ⟨c, hc, rfl⟩ := List.mem_map.1 hb
    exact f2_nib c (hby c hc)
  have e3 : s3 (s2 (s1 x)) = val (((l.map f1).map f2).map f3) := by
    have := step3 _ (fun b hb => (hn b hb).1) (fun b hb => (hn b hb).2)
    rw [List.length_map, List.length_map, hlen, ← e2] at this
    exact this
  have hp : ∀ m : List Nat, byts m → ((m.map f1).map f2).map f3 = m.map pc := by
    intro m hm
    rw [List.map_map, List.map_map]
    exact List.map_congr_left fun b hb => f3_pc b (hm b hb)
  rw [hp l hby] at e3
  unfold ones
  show _ = ((List.range 64).filter (fun i => x.testBit i)).length
  rw [hc]
  match l, hlen, hby, e3 with
  | [a, b, c, d, e, f, g, h], _, hby, e3 =>
    simp only [List.map_cons, List.map_nil, val, Nat.mul_zero, Nat.add_zero] at e3
    have q : ∀ y ∈ [a, b, c, d, e, f, g, h], pc y ≤ 8 := fun y hy => pc_le y (hby y hy)
    have t := last6 (pc a) (pc b) (pc c) (pc d) (pc e) (pc f) (pc g) (pc h) (q a (.head _)) (q b (.tail _ (.head _))) (q c (.tail _ (.tail _ (.head _)))) (q d (.tail _ (.tail _ (.tail _ (.head _)))))
      (q e (.tail _ (.tail _ (.tail _ (.tail _ (.head _)))))) (q f (.tail _ (.tail _ (.tail _ (.tail _ (.tail _ (.head _))))))) (q g (.tail _ (.tail _ (.tail _ (.tail _ (.tail _ (.tail _ (.head _))))))))
      (q h (.tail _ (.tail _ (.tail _ (.tail _ (.tail _ (.tail _ (.tail _ (.head _))))))))) (s3 (s2 (s1 x))) (s4 (s3 (s2 (s1 x)))) (s5 (s4 (s3 (s2 (s1 x))))) (s6 (s5 (s4 (s3 (s2 (s1 x)))))) e3 (by rfl) (by rfl) (by rfl)
    refine t.trans ?_
    clear e3 q hby hn e1 e2 hc hv hby1 hp t
    simp only [pcs, Nat.add_zero, Nat.add_assoc]
end BM
end Go.Proofs.YtkcfepppnclniaaGreatDoor
end

section
/-
  How many numbers are in a set, as layer 14 reaches it.
-/
namespace Go.Proofs.YtkcfepppnclniaaGreatDoor
open Go.RowKit
theorem and127_14 (z : Nat) (h : z < 9223372036854775808) : bits .and .i64 (z : Int) 127 = ((z % 128 : Nat) : Int) := by
  refine (congrArg (fun n : Nat => IntKind.i64.wrap (n : Int)) (BM.bits_and127 z h)).trans ?_
  show IntKind.i64.wrap _ = _
  rw [IntKind.wrap_i64]
  omega

set_option maxHeartbeats 1000000 in
theorem ones_core14 (x x1 x2 x3 x4 x5 x6 r : Int) (w : World)
    (k1 : IntKind.u64.wrap (bits .and .u64 (x / 2) 6148914691236517205 + bits .and .u64 x 6148914691236517205) = x1)
    (k2 : IntKind.u64.wrap (bits .and .u64 (x1 / 4) 3689348814741910323 + bits .and .u64 x1 3689348814741910323) = x2)
    (k3 : bits .and .u64 (IntKind.u64.wrap (x2 / 16 + x2)) 1085102592571150095 = x3)
    (k4 : IntKind.u64.wrap (x3 + x3 / 256) = x4) (k5 : IntKind.u64.wrap (x4 + x4 / 65536) = x5) (k6 : IntKind.u64.wrap (x5 + x5 / 4294967296) = x6)
    (k7 : bits .and .i64 (wrap64 x6) 127 = r) :
    Calls Tryz.prog 79 #[.int .u64 x] w fun e w' => e = .returned (.int .i64 r) ∧ w' = w := by
  go_enter Tryz.func79, Tryz.ntmps79
  go_wp2_with (simp only [k1, k2, k3, k4, k5, k6, k7])
  go_ret
  exact ⟨rfl, rfl⟩

theorem div_cast14 (a b : Nat) : ((a : Int) / (b : Int)) = ((a / b : Nat) : Int) := (Int.natCast_ediv a b).symm
theorem ones_any14 (x : Nat) (hx : x < 18446744073709551616) (w : World) :
    Calls Tryz.prog 79 #[.int .u64 x] w fun e w' => e = .returned (.int .i64 ((BM.lst x).length : Nat)) ∧ w' = w := by
  have b1 := BM.s1_le x
  have b2 := BM.s2_le (BM.s1 x)
  have b3 := BM.s3_le (BM.s2 (BM.s1 x))
  have h := BM.ones_eq x hx
  unfold BM.ones at h
  rw [← h]
  refine ones_core14 x (BM.s1 x : Nat) (BM.s2 (BM.s1 x) : Nat) (BM.s3 (BM.s2 (BM.s1 x)) : Nat) (BM.s4 (BM.s3 (BM.s2 (BM.s1 x))) : Nat) (BM.s5 (BM.s4 (BM.s3 (BM.s2 (BM.s1 x)))) : Nat) (BM.s6 (BM.s5 (BM.s4 (BM.s3 (BM.s2 (BM.s1 x))))) : Nat) _ w ?_ ?_ ?_ ?_ ?_ ?_ ?_
  · have e1 := bits_and_u64_nat (x / 2) 6148914691236517205 (by omega) (by decide)
    have e2 := bits_and_u64_nat x 6148914691236517205 hx (by decide)
    rw [← div_cast14] at e1
    rw [show (2 : Int) = ((2 : Nat) : Int) from rfl, show (6148914691236517205 : Int) = ((6148914691236517205 : Nat) : Int) from rfl, e1, e2, IntKind.wrap_u64]
    unfold BM.s1 at b1 ⊢
    omega
  · generalize BM.s1 x = y at *
    have e1 := bits_and_u64_nat (y / 4) 3689348814741910323 (by omega) (by decide)
    have e2 := bits_and_u64_nat y 3689348814741910323 (by omega) (by decide)
    rw [← div_cast14] at e1
    rw [show (4 : Int) = ((4 : Nat) : Int) from rfl, show (3689348814741910323 : Int) = ((3689348814741910323 : Nat) : Int) from rfl, e1, e2, IntKind.wrap_u64]
    unfold BM.s2 at b2 ⊢
    omega
  · generalize BM.s2 (BM.s1 x) = y at *
    have e1 := bits_and_u64_nat (y / 16 + y) 1085102592571150095 (by omega) (by decide)
    rw [show IntKind.u64.wrap ((y : Int) / 16 + (y : Int)) = ((y / 16 + y : Nat) : Int) by rw [IntKind.wrap_u64]; omega]
    exact e1
  · generalize BM.s3 (BM.s2 (BM.s1 x)) = y at *
    unfold BM.s4
    rw [IntKind.wrap_u64]; omega
  · generalize BM.s3 (BM.s2 (BM.s1 x)) = y at *
    unfold BM.s5 BM.s4
    rw [IntKind.wrap_u64]; omega
  · generalize BM.s3 (BM.s2 (BM.s1 x)) = y at *
    unfold BM.s6 BM.s5 BM.s4
    rw [IntKind.wrap_u64]; omega
  · generalize BM.s3 (BM.s2 (BM.s1 x)) = y at *
    have hz : BM.s6 (BM.s5 (BM.s4 y)) < 9223372036854775808 := by unfold BM.s6 BM.s5 BM.s4; omega
    generalize BM.s6 (BM.s5 (BM.s4 y)) = z at *
    rw [show wrap64 (z : Int) = (z : Int) by unfold wrap64; omega]
    exact and127_14 z hz

set_option maxHeartbeats 400000 in
theorem len_any14 (s : Nat) (hs : s < 18446744073709551616) (w : World) :
    Calls Tryz.prog 48 #[.int .u64 s] w fun e w' => e = .returned (.int .i64 ((BM.lst s).length : Nat)) ∧ w' = w := by
  have hc := ones_any14 s hs w
  have hl := BM.lst_len s
  generalize (BM.lst s).length = n at *
  go_enter Tryz.func48, Tryz.ntmps48
  go_wp2_with fail
  refine hc.mono ?_
  rintro e w' ⟨rfl, rfl⟩
  go_wp2_with fail
  go_ret
  exact ⟨rfl, rfl⟩
end Go.Proofs.YtkcfepppnclniaaGreatDoor
end

section
/-
  The program's set of the vertices at the other ends of some steps: a range over Out, or In.
-/
namespace Go.Proofs.YtkcfepppnclniaaGreatDoor
open Go.RowKit Go.Shelf
attribute [local go_sem] Oper.semAt_some
set_option maxRecDepth 100000 in
set_option maxHeartbeats 2000000 in
theorem ends_in {w : World} {p N B F : Nat} {D : Nat → Nat → Int} {v : Int} {back : Bool} (hF : Reads F p N D v B w) (hgo : GoesQ 4 Tryz.prog 88 #[.pointer (some ⟨B + 1 + 1, 0, none⟩), .pointer (some ⟨B + 1 + 1 + 1, 0, none⟩)] stepV (XM.steps N D v back N) (Reads F p N D v B)) :
    CallsIn Fence.wide 5 Tryz.prog 27 #[iterV B] w fun e w' => e = .returned (.int .u64 (OM.tips (XM.steps N D v back N) : Nat)) ∧ Below w.heap.size w w' := by
  have hp := hF.lt.1
  have hB := hF.lt.2
  have bK : Boxed (w.alloc (.cells #[.int .u64 0] 62)) w.heap.size 62 (.int .u64 0) := Boxed.new w 62 (.int .u64 0)
  have hS : (w.alloc (.cells #[.int .u64 0] 62)).heap.size = w.heap.size + 1 := by simp
  have hB0 : Below w.heap.size w (w.alloc (.cells #[.int .u64 0] 62)) := (Below.refl _ _).alloc (Nat.le_refl _) _
  have HF0 : Hid (Reads F p N D v B (w.alloc (.cells #[.int .u64 0] 62))) := hF.below hB0
  have HTN : Hid ((OM.tips [] : Nat) = 0) := OM.tips_nil
  have HTS : Hid (∀ l x, OM.tips (l ++ [x]) = OM.tips l ||| BM.only (x.1 : Int)) := OM.tips_snoc
  have HTL : Hid (∀ l, OM.tips l < 18446744073709551616) := OM.tips_lt
  clear hF
  generalize XM.steps N D v back N = L at *
  generalize OM.tips = tp at *
  refine callsIn_of_wp_marks Tryz.func27 rfl trivial ?_ rfl
  simp only [Tryz.ntmps27, List.size_toArray, List.length_cons, List.length_nil, Nat.reduceAdd, Nat.reduceSub, Array.replicate_succ, Array.replicate_zero, List.push_toArray, List.append_toArray, List.nil_append, List.cons_append]
  refine wpIn_wide.2 ?_
  unfold iterV
  go_wp2_with fail
  generalize w.alloc (.cells #[.int .u64 0] 62) = W0 at *
  refine (wpIn_wide (n := 5)).1 (range_goesQ (by decide) (gf := 88) (lb := #[.pointer (some ⟨B + 1 + 1, 0, none⟩), .pointer (some ⟨B + 1 + 1 + 1, 0, none⟩)]) rfl (enters_of Tryz.func88 (by kernel_rfl) rfl) hgo (fun _ => rfl)
    (fun pre W => Boxed W w.heap.size 62 (.int .u64 (tp pre : Nat)) ∧ Reads F p N D v B W ∧ Below w.heap.size w W)
    (fun _ _ _ => False)
    (fun pre A A' h hk => ⟨(hk.block _ h.1.lt (by omega)).trans h.1, h.2.1.kept hk (by omega) (fun b _ _ => by omega), h.2.2.trans (hk.below (fun b hb => by omega) h.2.2.size)⟩)
    (fun _ _ _ _ h _ => h)
    (fun pre A h => h.2.1)
    ⟨by rw [HTN.out]; exact bK, HF0.out, hB0⟩
    (fun x A => { tmps := #[iterV B, undef, .int .u64 0, .pointer (some ⟨w.heap.size, 0, none⟩), .int .i64 (x.1 : Nat), iterV B, .int .i64 (x.1 : Nat), .int .i64 x.2, undef, undef, undef, undef], defers := [] })
    (fun x A => A) (fun x W => Below.refl _ _) ?assign ?body ?done ?stop)
  case assign =>
    intro l x W K hK
    simp only [stepV]
    gi_wp2
    exact hK
  case body =>
    rintro l pre ⟨y, d⟩ A W rfl hr ⟨b1, hrd, hW⟩ hpx hA hkA hsA
    dsimp only
    have c1 := b1.cell
    have f1 := b1.frozen
    have hwi := with_any (tp pre) (y : Int) (HTL.out pre) W
    rw [show tp pre ||| BM.only (y : Int) = tp (pre ++ [(y, d)]) from (HTS.out pre (y, d)).symm] at hwi
    have HB1 : Hid (Boxed (W.setCell ⟨w.heap.size, 0, none⟩ (.int .u64 (tp (pre ++ [(y, d)]) : Nat))) w.heap.size 62 (.int .u64 (tp (pre ++ [(y, d)]) : Nat))) := b1.set _
    have hk := keeps_set W w.heap.size 0 (.int .u64 (tp (pre ++ [(y, d)]) : Nat))
    have HRD : Hid (Reads F p N D v B (W.setCell ⟨w.heap.size, 0, none⟩ (.int .u64 (tp (pre ++ [(y, d)]) : Nat)))) := hrd.kept hk (by omega) (fun b _ _ => by omega)
    have HBW : Hid (Below w.heap.size w (W.setCell ⟨w.heap.size, 0, none⟩ (.int .u64 (tp (pre ++ [(y, d)]) : Nat)))) := hW.setCell (p := ⟨w.heap.size, 0, none⟩) (Nat.le_refl _) _
    have HBK : Hid (∀ b, W0.heap.size ≤ b → b < W0.heap.size + 2 → (W.setCell ⟨w.heap.size, 0, none⟩ (.int .u64 (tp (pre ++ [(y, d)]) : Nat))).heap[b]? = W.heap[b]?) := fun b h1 _ => Below.heap_setCell _ _ _ _ (by show b ≠ w.heap.size; omega)
    clear hk hrd hW hgo bK hB0 HF0 hr hkA hsA hpx hA b1
    generalize hT2 : tp (pre ++ [(y, d)]) = t2 at *
    have HT2 : Hid (tp (pre ++ [(y, d)]) = t2) := hT2
    clear hT2
    generalize tp pre = t1 at *
    gi_wp2_with fail
    refine ⟨trivial, (CallsIn.inRound (W0.heap.size + 1) (callsIn_wide.2 hwi)).mono ?_⟩
    rintro e w4 ⟨rfl, hw4⟩
    rw [hw4]
    clear hw4 w4 hwi
    gi_wp2_with fail
    exact ⟨HBK.out, by rw [HT2.out]; exact HB1.out, HRD.out, HBW.out⟩
  case done =>
    rintro W ⟨b1, hrd, hW⟩ hK
    have c1 := b1.cell
    clear b1 hrd hgo bK HF0
    go_wp2_with fail
    refine ⟨by simp, .inl ⟨_, _, rfl, run_takeDeferred hK, ?_⟩⟩
    exact ⟨_, results_tmp rfl _ _ _, rfl, hW.trans (belowK_b (w := w) (Nat.le_refl _) W _ _ _ (by omega) hK rfl rfl)⟩
  case stop =>
    rintro c pre W _ h _
    exact h.elim
/-- The vertices to which there is a step. -/
theorem endsO_any {w : World} {p N B : Nat} {D : Nat → Nat → Int} {v : Int} (hN : N ≤ 24) (hF : Reads 63 p N D v B w) :
    Calls Tryz.prog 27 #[iterV B] w fun e w' => e = .returned (.int .u64 (OM.tips (XM.steps N D v false N) : Nat)) ∧ Below w.heap.size w w' := callsIn_wide.1 (ends_in hF (out_goes 4 (by decide) B p N hN D v))
/-- The vertices from which there is one. -/
theorem endsI_any {w : World} {p N B : Nat} {D : Nat → Nat → Int} {v : Int} (hN : N ≤ 24) (hF : Reads 65 p N D v B w) :
    Calls Tryz.prog 27 #[iterV B] w fun e w' => e = .returned (.int .u64 (OM.tips (XM.steps N D v true N) : Nat)) ∧ Below w.heap.size w w' := callsIn_wide.1 (ends_in hF (in_goes 4 (by decide) B p N hN D v))
end Go.Proofs.YtkcfepppnclniaaGreatDoor
end

section
/-
  The program's Difference, over its Need.
-/
namespace Go.Proofs.YtkcfepppnclniaaGreatDoor
open Go.RowKit
set_option maxHeartbeats 400000 in
theorem diff_no (HN : NeedNo) : DiffNo := by
  intro w p N D hg hN v hv k
  have hc := HN hg hN v hv k
  clear hg hv HN
  go_enter Tryz.func16, Tryz.ntmps16
  go_wp2_with fail
  refine hc.mono ?_
  rintro e w1 ⟨rfl, hb⟩
  clear hc
  go_wp2_with fail
  go_ret2
  exact ⟨rfl, hb⟩
set_option maxHeartbeats 1000000 in
theorem diff_ok (HN : NeedIs) : DiffIs := by
  intro w p N D hg hm hN v hv k
  have hc := HN hg hm hN v hv k
  have HG : Hid (∀ W, Below w.heap.size w W → XMem W p N D) := fun W hW => hg.on hW
  have HO : Hid (∀ W, Below w.heap.size w W → Calls Tryz.prog 28 #[.pointer (some ⟨p, 0, none⟩), .int .i64 v] W fun e w' => e = .returned (iterV W.heap.size) ∧ Reads 63 p N D (v : Nat) W.heap.size w' ∧ Below W.heap.size W w') := fun W hW => (outX_any p v W).mono fun e w' ⟨he, hw⟩ => by
    have := iterW_reads (HG.out W hW) 63 (v : Nat)
    exact ⟨he, by rw [hw]; exact this.1, by rw [hw]; exact this.2.1⟩
  have HI : Hid (∀ W, Below w.heap.size w W → Calls Tryz.prog 29 #[.pointer (some ⟨p, 0, none⟩), .int .i64 v] W fun e w' => e = .returned (iterV W.heap.size) ∧ Reads 65 p N D (v : Nat) W.heap.size w' ∧ Below W.heap.size W w') := fun W hW => (inX_any p v W).mono fun e w' ⟨he, hw⟩ => by
    have := iterW_reads (HG.out W hW) 65 (v : Nat)
    exact ⟨he, by rw [hw]; exact this.1, by rw [hw]; exact this.2.1⟩
  have HEO : Hid (∀ W B, Reads 63 p N D (v : Nat) B W → Calls Tryz.prog 27 #[iterV B] W fun e w' => e = .returned (.int .u64 (OM.tips (XM.steps N D v false N) : Nat)) ∧ Below W.heap.size W w') := fun W B h => endsO_any hN h
  have HEI : Hid (∀ W B, Reads 65 p N D (v : Nat) B W → Calls Tryz.prog 27 #[iterV B] W fun e w' => e = .returned (.int .u64 (OM.tips (XM.steps N D v true N) : Nat)) ∧ Below W.heap.size W w') := fun W B h => endsI_any hN h
  have HLO : Hid (∀ W, Calls Tryz.prog 48 #[.int .u64 (OM.tips (XM.steps N D v false N) : Nat)] W fun e w' => e = .returned (.int .i64 (OM.edges N D v false : Nat)) ∧ w' = W) := fun W => by
    have := len_any14 (OM.tips (XM.steps N D v false N)) (OM.tips_lt _) W
    rwa [OM.tips_len hN] at this
  have HLI : Hid (∀ W, Calls Tryz.prog 48 #[.int .u64 (OM.tips (XM.steps N D v true N) : Nat)] W fun e w' => e = .returned (.int .i64 (OM.edges N D v true : Nat)) ∧ w' = W) := fun W => by
    have := len_any14 (OM.tips (XM.steps N D v true N)) (OM.tips_lt _) W
    rwa [OM.tips_len hN] at this
  have hd : OM.diff N D v k.toNat = (OM.need N D v k.toNat : Int) - (OM.edges N D v false : Nat) - (OM.edges N D v true : Nat) := rfl
  have hnb : OM.need N D v k.toNat ≤ 600 := by
    have h1 := XM.dets_len (N := N) (D := D) (v := v) N
    have h2 : N * N ≤ 24 * 24 := Nat.mul_le_mul hN hN
    have h3 : OM.need N D v k.toNat ≤ (XM.dets N D v N).length := List.length_filter_le _ _
    omega
  have he1 : OM.edges N D v false ≤ 24 := Nat.le_trans (XM.steps_len N) hN
  have he2 : OM.edges N D v true ≤ 24 := Nat.le_trans (XM.steps_len N) hN
  rw [hd]
  clear hd hm HN hg HG
  generalize OM.need N D v k.toNat = nd at *
  generalize OM.edges N D v false = e1 at *
  generalize OM.edges N D v true = e2 at *
  generalize OM.tips (XM.steps N D v false N) = t1 at *
  generalize OM.tips (XM.steps N D v true N) = t2 at *
  go_enter Tryz.func16, Tryz.ntmps16
  go_wp2_with fail
  refine hc.mono ?_
  rintro e w1 ⟨rfl, hb⟩
  have HB1 : Hid (Below w.heap.size w w1) := hb
  clear hc hb
  go_wp2_with fail
  refine (HO.out w1 HB1.out).mono ?_
  rintro e w2 ⟨rfl, hr2, hb2⟩
  have HB2 : Hid (Below w.heap.size w w2) := below_on HB1.out hb2
  have hE := HEO.out w2 _ hr2
  clear HO HEO hr2 hb2 HB1
  go_wp2_with fail
  refine hE.mono ?_
  rintro e w3 ⟨rfl, hb3⟩
  have HB3 : Hid (Below w.heap.size w w3) := below_on HB2.out hb3
  clear hE hb3 HB2
  go_wp2_with fail
  refine (HI.out w3 HB3.out).mono ?_
  rintro e w4 ⟨rfl, hr4, hb4⟩
  have HB4 : Hid (Below w.heap.size w w4) := below_on HB3.out hb4
  have hE := HEI.out w4 _ hr4
  clear HI HEI hr4 hb4 HB3
  go_wp2_with fail
  refine hE.mono ?_
  rintro e w5 ⟨rfl, hb5⟩
  have HB5 : Hid (Below w.heap.size w w5) := below_on HB4.out hb5
  clear hE hb5 HB4
  go_wp2_with fail
  refine (HLO.out w5).mono ?_
  rintro e w6 ⟨rfl, hw6⟩
  rw [hw6]
  clear hw6 w6 HLO
  go_wp2_with fail
  refine (HLI.out w5).mono ?_
  rintro e w6 ⟨rfl, hw6⟩
  rw [hw6]
  clear hw6 w6 HLI
  go_wp2_with fail
  go_ret2
  exact ⟨rfl, HB5.out⟩
end Go.Proofs.YtkcfepppnclniaaGreatDoor
end
