/-
  WitRef, WitBits, OrdAllP, OrdLaid.
-/
import Derived.Test.YtkcfepppnclniaaGreatDoorMmMeshMem
import Derived.Test.YtkcfepppnclniaaGreatDoorMmBitsMath
import Derived.Test.YtkcfepppnclniaaGreatDoorMmWitMath
import Derived.Deep.DeepCutAuto
import Derived.Laws.Tables
import Derived.Deep.QuietTactic
import Derived.BigQuiet
import Derived.Shelf.Spec.TrailingZeros
import Derived.Test.YtkcfepppnclniaaGreatDoorRows
import Derived.ProofKit
import Derived.LaidMore
import Derived.Stop.LaidErr
import Derived.Lib.LaidTab
section
/-
  The walks of layer 13's document, of its small calls: has, sum, Three; layer 3's Has.
-/
namespace Go.Proofs.YtkcfepppnclniaaGreatDoor
open Go.RowKit
namespace WM
def vsL (L : List (Nat × Int)) : List Int := L.map (fun x => ((x.1 : Nat) : Int))
def dsL (L : List (Nat × Int)) : List Int := L.map (·.2)
theorem vsL_len (L : List (Nat × Int)) : (vsL L).length = L.length := by simp [vsL]
theorem dsL_len (L : List (Nat × Int)) : (dsL L).length = L.length := by simp [dsL]
theorem vsL_snoc (L : List (Nat × Int)) (x : Nat × Int) : vsL (L ++ [x]) = vsL L ++ [((x.1 : Nat) : Int)] := by simp [vsL]
theorem dsL_snoc (L : List (Nat × Int)) (x : Nat × Int) : dsL (L ++ [x]) = dsL L ++ [x.2] := by simp [dsL]
theorem vsL_mem (L : List (Nat × Int)) (v : Nat) : decide ((v : Int) ∈ vsL L) = has L v := by
  rw [Bool.eq_iff_iff, decide_eq_true_iff, has_iff]
  unfold vsL
  rw [List.mem_map]
  constructor
  · rintro ⟨x, h1, h2⟩
    exact ⟨x, h1, by omega⟩
  · rintro ⟨x, h1, h2⟩
    exact ⟨x, h1, by omega⟩
theorem sum_take (D : Nat → Nat → Int) (L : List (Nat × Int)) (v k : Nat) (h : k < L.length) : sum D (L.take (k + 1)) v = low (sum D (L.take k) v) (DM.two L[k].2 (D L[k].1 v)) := by
  rw [List.take_succ_eq_append_getElem h, sum_snoc]
end WM
set_option maxHeartbeats 400000 in
/-- Layer 3's document: Has. -/
theorem rhas3_any (s : Nat) (x : Int) (hs : s < 18446744073709551616) (w : World) :
    Calls Tryz.prog 118 #[.int .u64 s, .int .i64 x] w fun e w' => e = .returned (.bool (BM.has s x)) ∧ w' = w := by
  by_cases h : 0 ≤ x ∧ x < 64
  · obtain ⟨n, rfl⟩ : ∃ n : Nat, x = n := ⟨x.toNat, by omega⟩
    have hn : n < 64 := by omega
    have e : BM.has s (n : Int) = s.testBit n := by unfold BM.has; rw [decide_eq_true h, Bool.true_and, Int.toNat_natCast]
    rw [e]
    clear e h
    go_enter Tryz.func118, Tryz.ntmps118
    go_wp2_with fail
    go_loop [0, 5] (fun sv i => ∃ k : Nat, k ≤ n ∧ i = .int .i64 k ∧ sv = .int .u64 (s / 2 ^ k : Nat)) (fun _ i => n - (intOf i).toNat)
    case atStart => exact ⟨0, Nat.zero_le _, rfl, by simp⟩
    case round =>
      obtain ⟨k, hk, rfl, rfl⟩ := hrel
      have hq : s / 2 ^ k < 18446744073709551616 := Nat.lt_of_le_of_lt (Nat.div_le_self _ _) hs
      have HS : Hid (s / 2 ^ (k + 1) = s / 2 ^ k / 2) := by show _ = _; rw [Nat.pow_succ, Nat.div_div_eq_div_mul]
      have HT : Hid (k = n → s.testBit n = decide (s / 2 ^ k % 2 = 1)) := fun e => by rw [e, Nat.testBit_eq_decide_div_mod_eq]
      generalize s / 2 ^ k = q at *
      by_cases hlt : k < n
      · go_wp2_with fail
        go_round
        case rel => exact ⟨k + 1, by omega, by simp, by rw [HS.out]; simp⟩
        case measure => simp [intOf]; omega
      · go_wp2_with fail
        go_ret
        refine ⟨ret_bool ?_, rfl⟩
        rw [HT.out (by omega), Bool.eq_iff_iff]
        simp
        omega
  · have e : BM.has s x = false := by simp [BM.has]; omega
    rw [e]
    go_enter Tryz.func118, Tryz.ntmps118
    by_cases h0 : x < 0
    · go_wp2_with fail
      go_ret
      exact ⟨rfl, rfl⟩
    · have h64 : 64 ≤ x := by omega
      go_wp2_with fail
      go_ret
      exact ⟨rfl, rfl⟩
set_option maxHeartbeats 400000 in
/-- Is a number in a list? -/
theorem rhas13_any (v : Value) (zs : List Int) (n : Int) (w : World) (hrow : Row .i64 w v zs) :
    Calls Tryz.prog 105 #[v, .int .i64 n] w fun e w' => e = .returned (.bool (decide (n ∈ zs))) ∧ w' = w := by
  obtain ⟨a, cap, rfl, h1, h2, h3, h4⟩ := hrow
  have hml : zs.length ≤ 9223372036854775807 := by unfold maxLen at h2; omega
  go_enter Tryz.func105, Tryz.ntmps105
  go_wp2_with fail
  go_loop [5] (fun i => ∃ k : Nat, k ≤ zs.length ∧ i = .int .i64 k ∧ Hid (n ∉ zs.take k)) (fun i => zs.length - (intOf i).toNat)
  case atStart => exact ⟨0, Nat.zero_le _, rfl, by simp [Hid]⟩
  case round =>
    obtain ⟨k, hk, rfl, HN⟩ := hrel
    by_cases hlt : k < zs.length
    · obtain ⟨b, o, rfl, hc⟩ := h4 (by omega)
      have hck := hc k hlt
      rw [List.getElem?_eq_getElem hlt, Option.getD_some] at hck
      have HY : Hid (zs[k] = n → n ∈ zs) := fun e => e ▸ List.getElem_mem hlt
      have HO : Hid (zs[k] ≠ n → n ∉ zs.take (k + 1)) := fun e => by
        rw [take_one zs k hlt, List.mem_append]
        rintro (h | h)
        · exact HN.out h
        · exact e (List.mem_singleton.1 h).symm
      clear hc HN
      have hi0 : (0 : Int) ≤ (k : Int) := by omega
      have hi1 : (k : Int) < (zs.length : Int) := by omega
      generalize zs[k] = z at *
      by_cases hz : z = n
      · have HE : Hid (n ∈ zs) := HY.out hz
        subst hz
        clear HY HO
        go_wp2_with fail
        go_ret
        exact ⟨ret_bool (by rw [decide_eq_true HE.out]), rfl⟩
      · have HE : Hid (n ∉ zs.take (k + 1)) := HO.out hz
        have hzb : (z == n) = false := beq_eq_false_iff_ne.2 hz
        clear HY HO hz
        go_wp2_with fail
        go_round
        case rel => exact ⟨k + 1, by omega, by simp, HE⟩
        case measure => simp [intOf]; omega
    · obtain rfl : k = zs.length := by omega
      have HE : Hid (n ∉ zs) := by
        have := HN.out
        rwa [List.take_length] at this
      go_wp2_with fail
      go_ret
      exact ⟨ret_bool (by rw [decide_eq_false HE.out]), rfl⟩
end Go.Proofs.YtkcfepppnclniaaGreatDoor
end

section
/-
  What layer 13 leans on of layer 3, beside Has and With: Without, and Of of any row.
-/
namespace Go.Proofs.YtkcfepppnclniaaGreatDoor
open Go.RowKit
set_option maxHeartbeats 400000 in
/-- The program's Without. -/
theorem without13_any (s : Nat) (x : Int) (hs : s < 18446744073709551616) (w : World) :
    Calls Tryz.prog 31 #[.int .u64 s, .int .i64 x] w fun e w' => e = .returned (.int .u64 (BM.less s (BM.only x) : Nat)) ∧ w' = w := by
  have hc := only_any x w
  have hr := BM.bits_andNot_u64_nat s _ hs (BM.only_lt x)
  go_enter Tryz.func31, Tryz.ntmps31
  go_wp2_with fail
  refine hc.mono ?_
  rintro e w' ⟨rfl, rfl⟩
  go_wp2_with fail
  go_ret
  exact ⟨rfl, rfl⟩
set_option maxHeartbeats 400000 in
/-- The program's Of: the set of any row of numbers. -/
theorem of13_any (v : Value) (zs : List Int) (w : World) (hrow : Row .i64 w v zs) :
    Calls Tryz.prog 77 #[v] w fun e w' => e = .returned (.int .u64 (BM.ofL zs : Nat)) ∧ w' = w := by
  obtain ⟨a, cap, rfl, hat⟩ := hrow
  obtain ⟨h1, h2, h3, h4⟩ := hat
  have hml : zs.length ≤ 9223372036854775807 := by unfold maxLen at h2; omega
  rw [← BM.setOf_eq]
  go_enter Tryz.func77, Tryz.ntmps77
  go_wp2_with fail
  go_loop [3, 8] (fun sv i => ∃ k : Nat, k ≤ zs.length ∧ i = .int .i64 k ∧ sv = .int .u64 (BM.setOf (zs.take k) : Nat)) (fun _ i => zs.length - (intOf i).toNat)
  case atStart => exact ⟨0, Nat.zero_le _, rfl, by simp [BM.setOf]⟩
  case round =>
    obtain ⟨k, hk, rfl, rfl⟩ := hrel
    by_cases hlt : k < zs.length
    · obtain ⟨b, o, rfl, hc⟩ := h4 (by omega)
      have hck := hc k hlt
      rw [List.getElem?_eq_getElem hlt, Option.getD_some] at hck
      have hS : BM.setOf (zs.take (k + 1)) = BM.setOf (zs.take k) ||| BM.only zs[k] := by rw [take_one zs k hlt, BM.setOf_snoc]
      have HS : Hid (BM.setOf (zs.take (k + 1)) = BM.setOf (zs.take k) ||| BM.only zs[k]) := hS
      have hcall := with_any (BM.setOf (zs.take k)) zs[k] (BM.setOf_lt _) w
      clear hS hc
      generalize zs[k] = z at *
      go_wp2_with fail
      refine hcall.mono ?_
      rintro e w' ⟨rfl, rfl⟩
      go_wp2_with fail
      go_round
      case rel => exact ⟨k + 1, by omega, by simp, by rw [HS.out]⟩
      case measure => simp [intOf]; omega
    · obtain rfl : k = zs.length := by omega
      go_wp2_with fail
      go_ret
      exact ⟨by simp, rfl⟩
end Go.Proofs.YtkcfepppnclniaaGreatDoor
end

section
/-
  A set's numbers, gone through: All, as a range whose rounds may turn whatever it doesn't read.
-/
namespace Go.Proofs.YtkcfepppnclniaaGreatDoor
open Go.RowKit Go.Shelf
attribute [local go_sem] Oper.semAt_some
def Ready (w : World) : Prop := 0 < w.heap.size ∧ ∀ j, j < 64 → w.cell? ⟨0, j, none⟩ = some (.int .u8 (Lib.deBruijn64tab.getD j 0))
theorem Ready.below {w w' : World} {n : Nat} (h : Ready w) (hn : 0 < n) (hb : Below n w w') : Ready w' := by
  refine ⟨by have := hb.size; have := h.1; omega, fun j hj => ?_⟩
  rw [hb.cell (by exact hn)]; exact h.2 j hj

set_option maxHeartbeats 1000000 in
/-- The library's TrailingZeros64, where it is told at which place of the table it looks. -/
theorem tz_at {x k i : Nat} {w : World} (hx : x ≠ 0) (hi : i < 64) (hk : k < 64) (hcell : w.cell? ⟨0, i, none⟩ = some (.int .u8 k))
    (look : IntKind.u64.wrap (bits BinOp.and IntKind.u64 (x : Int) (IntKind.u64.wrap (-(x : Int))) * 285870213051353865) / 288230376151711744 = (i : Int)) :
    Calls Tryz.prog 87 #[.int .u64 x] w fun e w' => e = .returned (.int .i64 k) ∧ w' = w := by
  have hne : ((x : Int) == 0) = false := by simp [hx]
  go_enter Tryz.func87, Tryz.ntmps87
  go_wp2_with (simp only [look])
  go_ret
  exact ⟨rfl, rfl⟩
theorem tz_any (x : Nat) (hx : x < 18446744073709551616) (hx0 : x ≠ 0) (w : World) (hT : Ready w) :
    Calls Tryz.prog 87 #[.int .u64 x] w fun e w' => e = .returned (.int .i64 (Lib.ctz 64 x : Nat)) ∧ w' = w := by
  obtain ⟨low, hk⟩ := Lib.lowest_bit 64 x hx0 hx
  obtain ⟨hi, tab⟩ := Lib.deBruijn64_at _ hk
  have hcell := hT.2 _ hi
  rw [tab] at hcell
  exact tz_at hx0 hi hk hcell (tz64_key x _ hx hx0 low)

/-- What First answers. -/
def fst (s : Nat) : Int := (((BM.lst s).head?.getD 0 : Nat) : Int)
def some? (s : Nat) : Bool := !(s == 0)
set_option maxHeartbeats 400000 in
theorem first_any (s : Nat) (hs : s < 18446744073709551616) (w : World) (hT : Ready w) :
    Calls Tryz.prog 60 #[.int .u64 s] w fun e w' => e = .returned (.tuple #[.int .i64 (fst s), .bool (some? s)]) ∧ w' = w := by
  by_cases h0 : s = 0
  · subst h0
    go_enter Tryz.func60, Tryz.ntmps60
    go_wp2_with fail
    go_ret2
    exact ⟨by simp [fst, some?, BM.lst_zero], rfl⟩
  · have hc := tz_any s hs h0 w hT
    have e1 : fst s = ((Lib.ctz 64 s : Nat) : Int) := by unfold fst; rw [(BM.lst_cons s h0 hs).1]; rfl
    have e2 : some? s = true := by simp [some?, h0]
    rw [e1, e2]
    have hn : ¬ ((s : Int) = 0) := by omega
    go_enter Tryz.func60, Tryz.ntmps60
    go_wp2_with fail
    refine hc.mono ?_
    rintro e w' ⟨rfl, rfl⟩
    go_wp2_with fail
    go_ret2
    exact ⟨rfl, rfl⟩
theorem lst_fst (t : Nat) (ht : t < 18446744073709551616) (h0 : t ≠ 0) : ∃ x : Nat, fst t = (x : Int) ∧ BM.lst t = x :: BM.lst (BM.less t (BM.only (fst t))) ∧ BM.less t (BM.only (fst t)) < t := by
  obtain ⟨h1, h2, h3⟩ := BM.lst_cons t h0 ht
  have e : fst t = ((Lib.ctz 64 t : Nat) : Int) := by unfold fst; rw [h1]; rfl
  exact ⟨_, e, by rw [e]; exact h1, by rw [e]; exact h3⟩
/-- What All reads. -/
def AllReads (Bn s : Nat) (W : World) : Prop := W.cell? ⟨Bn, 0, none⟩ = some (.int .u64 s) ∧ Ready W
def numV (x : Nat) : Array Value := #[.int .i64 (x : Nat)]
set_option maxRecDepth 100000 in
set_option maxHeartbeats 1000000 in
theorem all_goes14 (n : Nat) (hn : 1 ≤ n) (Bn s : Nat) (hs : s < 18446744073709551616) : GoesQ n Tryz.prog 59 #[.pointer (some ⟨Bn, 0, none⟩)] numV (BM.lst s) (AllReads Bn s) := by
  intro l J Jx W hJR hY hJ0
  obtain ⟨hBn, hR⟩ := hJR _ _ hJ0
  have hf0 := first_any s hs W hR
  refine callsIn_of_wp Tryz.func59 rfl trivial ?_ rfl
  simp only [Tryz.ntmps59, List.size_toArray, List.length_cons, List.length_nil, Nat.reduceAdd, Nat.reduceSub, Array.replicate_succ, Array.replicate_zero, List.push_toArray, List.append_toArray, List.nil_append, List.cons_append]
  gi_wp2_with fail
  refine ⟨trivial, (callsIn_wide.2 hf0).mono ?_⟩
  rintro e w' ⟨rfl, rfl⟩
  gi_wp2_with fail
  gi_loopw [3, 4, 5] (fun p x ok wr => ∃ (pre : List Nat) (t : Nat), t < 18446744073709551616 ∧ BM.lst s = pre ++ BM.lst t ∧ p = .int .u64 t ∧ x = .int .i64 (fst t) ∧ ok = .bool (some? t) ∧ J pre wr)
    (fun p _ _ _ => (intOf p).toNat)
  case atStart => exact ⟨[], s, hs, rfl, rfl, rfl, rfl, hJ0⟩
  case round =>
    obtain ⟨pre, t, ht, hx, rfl, rfl, rfl, hJs⟩ := hrel
    by_cases h0 : t = 0
    · subst h0
      have e : some? 0 = false := by decide
      rw [e]
      gi_wp2_with fail
      refine ⟨fun _ h => (by cases h), ?_⟩
      gi_wp2_with fail
      go_end0
      exact ⟨⟨_, rfl⟩, .inl (by rw [hx, BM.lst_zero, List.append_nil]; exact hJs)⟩
    · have e : some? t = true := by simp [some?, h0]
      rw [e]
      obtain ⟨y, hy0, hc, hlt⟩ := lst_fst t ht h0
      have hx2 : BM.lst s = (pre ++ [y]) ++ BM.lst (BM.less t (BM.only (fst t))) := by rw [hx, hc]; simp
      have hwl := BM.less_lt t (BM.only (fst t))
      obtain ⟨fn, tmps, assign, body, hy, hRd⟩ := hY pre y wr hJs ⟨_, hx2.symm⟩
      have HX : Hid (BM.lst s = (pre ++ [y]) ++ BM.lst (BM.less t (BM.only (fst t)))) := hx2
      clear hx hx2 hc
      unfold numV at hy
      rw [hy0] at *
      gi_wp2_with fail
      refine hRd.mono ?_
      rintro e W3 (⟨rfl, hJ3⟩ | ⟨rfl, hJx3⟩)
      · have hR3 := (hJR _ _ hJ3).2
        have hw3 := without13_any t (y : Int) ht W3
        have hf3 := first_any _ hwl W3 hR3
        generalize BM.less t (BM.only (y : Int)) = t' at *
        gi_wp2_with fail
        refine ⟨trivial, (callsIn_wide.2 hw3).mono ?_⟩
        rintro e w4 ⟨rfl, rfl⟩
        gi_wp2_with fail
        refine ⟨trivial, (callsIn_wide.2 hf3).mono ?_⟩
        rintro e w5 ⟨rfl, rfl⟩
        gi_wp2_with fail
        go_roundw
        case rel => exact ⟨pre ++ [y], t', hwl, HX.out, rfl, rfl, rfl, hJ3⟩
        case measure => simp [intOf]; omega
      · gi_wp2_with fail
        go_end0
        exact ⟨⟨_, rfl⟩, .inr ⟨pre ++ [y], ⟨_, HX.out.symm⟩, hJx3⟩⟩
set_option maxHeartbeats 400000 in
theorem all_new14 (s : Nat) (w : World) :
    Calls Tryz.prog 26 #[.int .u64 s] w fun e w' => e = .returned (.func (.func 59) #[] #[.pointer (some ⟨w.heap.size, 0, none⟩)]) ∧ w' = w.alloc (.cells #[.int .u64 s] 62) := by
  go_enter Tryz.func26, Tryz.ntmps26
  go_wp2_with fail
  go_ret
  exact ⟨rfl, rfl⟩
theorem shl_below14 (m : Nat) (h : m ≤ 64) : IntKind.u64.wrap (IntKind.u64.wrap (2 ^ m) - 1) = ((2 ^ m - 1 : Nat) : Int) := by
  have h1 : 2 ^ m ≤ 2 ^ 64 := Nat.pow_le_pow_right (by decide) h
  have h2 : 0 < 2 ^ m := Nat.two_pow_pos m
  rw [IntKind.wrap_u64, IntKind.wrap_u64, pow_cast]
  generalize 2 ^ m = p at *
  omega

set_option maxHeartbeats 400000 in
theorem below_any14 (n : Int) (w : World) :
    Calls Tryz.prog 24 #[.int .i64 n] w fun e w' => e = .returned (.int .u64 (BM.below n : Nat)) ∧ w' = w := by
  go_enter Tryz.func24, Tryz.ntmps24
  go_wp2_with fail
  · go_ret
    refine ⟨ret_int ?_, rfl⟩
    unfold BM.below BM.cut
    rw [show min (max n 0).toNat 64 = 0 by omega]
    rfl
  · go_ret
    refine ⟨ret_int ?_, rfl⟩
    unfold BM.below BM.cut
    rw [show min (max n 0).toNat 64 = min n.toNat 64 by omega]
    exact shl_below14 _ (by omega)
end Go.Proofs.YtkcfepppnclniaaGreatDoor
end

section
/-
  What the listed package-level variable gives the walks, and a start that fits.
-/
namespace Go.Proofs.YtkcfepppnclniaaGreatDoor
open Go.ChangeShapes Go.WideShapes Go.ChangeAt Go.RowKit

theorem own : ownKnob Tryz.prog.godebug = none := by kernel_rfl
theorem laidOut : laidOutB Tryz.prog = true := by kernel_rfl
theorem gTab : Tryz.prog.globalNamed "math/bits.deBruijn64tab" = some 0 := by kernel_rfl
theorem gTabType : (Tryz.prog.globals[0]?).map (·.type) = some 137 := by kernel_rfl
theorem tabData : (Rows.laid_math_bits_deBruijn64tab : DataW Unit) = Lib.tabData .u8 (Lib.deBruijn64tab.map (fun n : Nat => (n : Int))) := by rfl

theorem size_of_var {W : World} {n : String} {g : Nat} {cs : Array Value} (hg : Tryz.prog.globalNamed n = some g) (hv : W.var? Tryz.prog n = some cs) : g < W.heap.size := by
  unfold World.var? at hv
  simp only [hg, Option.bind_some] at hv
  rcases Nat.lt_or_ge g W.heap.size with h' | h'
  · exact h'
  · simp [Array.getElem?_eq_none h'] at hv

theorem ready_of_laid {W : World} (h : laidMetH Tryz.prog Rows.orderRanksRow.laid W) : Ready W := by
  rw [MakeChecks.laidMetH_plain _ _ _ (by kernel_rfl)] at h
  have h1 : laidMet Tryz.prog _ W := h
  have hs : 0 < W.heap.size := by
    obtain ⟨ps, ⟨g0, t0, cs0, f0, p0, q0, hg0, ht0, hv0, _⟩, _⟩ := h1
    obtain rfl := Option.some.inj (gTab.symm.trans hg0)
    exact size_of_var hg0 hv0
  have ht := Lib.tabIs_of_head gTab gTabType Tryz.underlying137 Tryz.underlying5 (by kernel_rfl) (by kernel_rfl) (by rw [← tabData]; exact h1)
  refine ⟨hs, fun j hj => ?_⟩
  have hc := World.var?_cell gTab ht j
  rw [hc]
  have hl : (Lib.deBruijn64tab).length = 64 := by decide
  simp [List.getD_eq_getElem?_getD, hl, hj]

theorem door_met (os : Os) (args : Array Value) : laidMetH Tryz.prog Rows.orderRanksRow.laid ((World.doorLaid Tryz.prog 400 os).forCall (fun _ _ => 0) ⟨#[], args, []⟩).memory :=
  laidMetH_of_parts3 (fuel := 8) (laidMet_of_run' 8 (by kernel_rfl) (by kernel_rfl)) (by kernel_rfl) (by kernel_rfl)
end Go.Proofs.YtkcfepppnclniaaGreatDoor
end
