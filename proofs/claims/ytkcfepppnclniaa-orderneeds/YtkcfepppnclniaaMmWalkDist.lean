/-
  WalkDist, MeshRef.
-/
import Derived.Test.YtkcfepppnclniaaMmGraphMem
import Derived.Test.YtkcfepppnclniaaMmDistMath
import Derived.Test.YtkcfepppnclniaaMmMeshRow
import Derived.Laws.Bits64b
import Derived.Deep.DeepCutAuto
import Derived.Laws.Tables
import Derived.Deep.QuietTactic
import Derived.BigQuiet
section
/-
  The walks of dist and of bits as far as package walk leans on them: a sum of a list, the document's sum of two; a set's member, a set with one more.
-/
namespace Go.Proofs.Ytkcfepppnclniaa
open Go.RowKit

theorem gnorm_eq (a : Int) : GM.norm a = DM.norm a := rfl
theorem dnorm_any (a : Int) (w : World) :
    Calls Try.prog 47 #[.int .i64 a] w fun e w' => e = .returned (.int .i64 (DM.norm a)) ∧ w' = w := norm_any a w
set_option maxHeartbeats 400000 in
theorem rnorm_any (a : Int) (w : World) :
    Calls Try.prog 58 #[.int .i64 a] w fun e w' => e = .returned (.int .i64 (DM.norm a)) ∧ w' = w := by
  go_enter Try.func58, Try.ntmps58
  go_wp2
  all_goals go_ret
  all_goals refine ⟨ret_int ?_, rfl⟩
  all_goals unfold DM.norm
  all_goals (repeat' split) <;> omega
set_option maxHeartbeats 400000 in
theorem told_any (a : Int) (w : World) :
    Calls Try.prog 48 #[.int .i64 a] w fun e w' => e = .returned (.bool (DM.told a)) ∧ w' = w := by
  go_enter Try.func48, Try.ntmps48
  go_wp2_with (go_at_call 47; refine (dnorm_any _ _).mono ?_; rintro e w' ⟨rfl, rfl⟩)
  all_goals go_ret
  all_goals exact ⟨rfl, rfl⟩
set_option maxHeartbeats 400000 in
theorem two_any (a b : Int) (w : World) :
    Calls Try.prog 42 #[.int .i64 a, .int .i64 b] w fun e w' => e = .returned (.int .i64 (DM.two a b)) ∧ w' = w := by
  have ha := DM.norm_bd a
  have hb := DM.norm_bd b
  go_enter Try.func42, Try.ntmps42
  go_wp2_with (go_at_call 58; refine (rnorm_any _ _).mono ?_; rintro e w' ⟨rfl, rfl⟩)
  all_goals go_ret
  all_goals refine ⟨ret_int ?_, rfl⟩
  all_goals unfold DM.two
  all_goals go_light
  all_goals (repeat' split) <;> (try simp only [beq_iff_eq, beq_eq_false_iff_ne, ne_eq] at *) <;> omega
set_option maxHeartbeats 400000 in
theorem addStep_any (s a : Int) (w : World) (h0 : 0 ≤ s) (h1 : s ≤ 4611686018427387906) :
    Calls Try.prog 46 #[.int .i64 s, .int .i64 a] w fun e w' => e = .returned (.int .i64 (DM.two s a)) ∧ w' = w := by
  have ha := DM.norm_bd a
  rcases DM.told_cases s with ⟨hs, hs'⟩ | ⟨hs, hs'⟩ <;> rcases DM.told_cases (DM.norm a) with ⟨hb, hb'⟩ | ⟨hb, hb'⟩
  all_goals
    rw [DM.norm_of h0 h1] at hs'
    rw [DM.norm_norm] at hb'
    go_enter Try.func46, Try.ntmps46
    go_wp2_with (first | (go_at_call 47; refine (dnorm_any _ _).mono ?_; rintro e w' ⟨rfl, rfl⟩) | (go_at_call 48; refine (told_any _ _).mono ?_; rintro e w' ⟨rfl, rfl⟩))
  all_goals go_ret
  all_goals refine ⟨ret_int ?_, rfl⟩
  all_goals simp only [DM.two, DM.norm_of h0 h1]
  all_goals (repeat' split) <;> omega
set_option maxHeartbeats 400000 in
theorem foldAdd_row (v : Value) (zs : List Int) (w : World) (h : Row .i64 w v zs) :
    Calls Try.prog 45 #[v, .int .i64 0, .func (.func 46) #[] #[]] w fun e w' => e = .returned (.int .i64 (DM.addl zs)) ∧ w' = w := by
  obtain ⟨a, cap, rfl, hat⟩ := h
  obtain ⟨h1, h2, h3, h4⟩ := hat
  have hml : zs.length ≤ 9223372036854775807 := by unfold maxLen at h2; omega
  go_enter Try.func45, Try.ntmps45
  go_wp2
  go_loop [7, 13] (fun s i => ∃ k : Nat, k ≤ zs.length ∧ i = .int .i64 k ∧ s = .int .i64 (DM.addl (zs.take k))) (fun _ i => zs.length - (intOf i).toNat)
  case atStart => exact ⟨0, Nat.zero_le _, rfl, rfl⟩
  case round =>
    obtain ⟨k, hk, rfl, rfl⟩ := hrel
    have hb := DM.addl_bd (zs.take k)
    by_cases hlt : k < zs.length
    · obtain ⟨b, o, rfl, hc⟩ := h4 (by omega)
      have hck := hc k hlt
      have HS : Hid (DM.addl (zs.take (k + 1)) = DM.two (DM.addl (zs.take k)) zs[k]) := DM.foldl_take_succ _ _ _ _ hlt
      go_wp2_with (go_at_call 46; refine (addStep_any _ _ _ hb.1 hb.2).mono ?_; rintro e w' ⟨rfl, rfl⟩)
      go_round
      case rel => exact ⟨k + 1, by omega, by go_num, by rw [HS.out]⟩
      case measure => simp [intOf]; omega
    · go_wp2
      go_ret
      exact ⟨ret_int (by rw [List.take_of_length_le (by omega)]), rfl⟩
set_option maxHeartbeats 400000 in
theorem add_row (v : Value) (zs : List Int) (w : World) (h : Row .i64 w v zs) :
    Calls Try.prog 27 #[v] w fun e w' => e = .returned (.int .i64 (DM.addl zs)) ∧ w' = w := by
  go_enter Try.func27, Try.ntmps27
  go_wp2_with (go_at_call 45; refine (foldAdd_row _ zs _ h).mono ?_; rintro e w' ⟨rfl, rfl⟩)
  go_ret
  exact ⟨rfl, rfl⟩

/-! bits -/
theorem pow_cast (n : Nat) : ((2 : Int) ^ n) = ((2 ^ n : Nat) : Int) := (Int.natCast_pow 2 n).symm
theorem shl_one (n : Nat) (h : n < 64) : IntKind.u64.wrap (2 ^ n) = ((2 ^ n : Nat) : Int) := by
  have := BM.pow64 h
  rw [IntKind.wrap_u64, pow_cast]
  generalize 2 ^ n = p at *
  omega
set_option maxHeartbeats 400000 in
theorem only_any (x : Int) (w : World) :
    Calls Try.prog 56 #[.int .i64 x] w fun e w' => e = .returned (.int .u64 (BM.only x : Nat)) ∧ w' = w := by
  by_cases h : 0 ≤ x ∧ x < 64
  · have e : BM.only x = 2 ^ x.toNat := by unfold BM.only; rw [if_pos h]
    obtain ⟨n, rfl⟩ : ∃ n : Nat, x = n := ⟨x.toNat, by omega⟩
    rw [e]
    go_enter Try.func56, Try.ntmps56
    go_wp2_with fail
    go_ret
    exact ⟨ret_int (shl_one n (by omega)), rfl⟩
  · have e : BM.only x = 0 := by unfold BM.only; rw [if_neg h]
    rw [e]
    go_enter Try.func56, Try.ntmps56
    go_wp2_with fail
    all_goals (try (exfalso; omega))
    all_goals go_ret
    all_goals exact ⟨rfl, rfl⟩
theorem int_bne (a : Nat) : (!(a : Int) == 0) = !(a == 0) := by
  rw [Bool.eq_iff_iff]; simp
set_option maxHeartbeats 400000 in
theorem has_any (s : Nat) (x : Int) (hs : s < 18446744073709551616) (w : World) :
    Calls Try.prog 69 #[.int .u64 s, .int .i64 x] w fun e w' => e = .returned (.bool (BM.has s x)) ∧ w' = w := by
  have hc := only_any x w
  have hr : (!bits BinOp.and IntKind.u64 (s : Int) (BM.only x : Nat) == 0) = BM.has s x := by
    rw [bits_and_u64_nat s _ hs (BM.only_lt x), ← BM.has_only, int_bne]
  go_enter Try.func69, Try.ntmps69
  go_wp2_with fail
  refine hc.mono ?_
  rintro e w' ⟨rfl, rfl⟩
  go_wp2_with fail
  go_ret
  exact ⟨ret_bool hr, rfl⟩
set_option maxHeartbeats 400000 in
theorem with_any (s : Nat) (x : Int) (hs : s < 18446744073709551616) (w : World) :
    Calls Try.prog 37 #[.int .u64 s, .int .i64 x] w fun e w' => e = .returned (.int .u64 (s ||| BM.only x : Nat)) ∧ w' = w := by
  have hc := only_any x w
  have hr := bits_or_u64_nat s _ hs (BM.only_lt x)
  go_enter Try.func37, Try.ntmps37
  go_wp2_with fail
  refine hc.mono ?_
  rintro e w' ⟨rfl, rfl⟩
  go_wp2_with fail
  go_ret
  exact ⟨rfl, rfl⟩
set_option maxHeartbeats 400000 in
theorem of_none (w : World) :
    Calls Try.prog 35 #[.slice none 0 0] w fun e w' => e = .returned (.int .u64 0) ∧ w' = w := by
  go_enter Try.func35, Try.ntmps35
  go_wp2_with fail
  go_loop [3, 8] (fun sv i => i = .int .i64 0 ∧ sv = .int .u64 0) (fun _ _ => 0)
  case atStart => exact ⟨rfl, rfl⟩
  case round =>
    obtain ⟨rfl, rfl⟩ := hrel
    go_wp2_with fail
    go_ret
    exact ⟨rfl, rfl⟩
end Go.Proofs.Ytkcfepppnclniaa
end

section
/-
  The walks of the document's Steps, Detours and Contract, and of Links.
-/
namespace Go.Proofs.Ytkcfepppnclniaa
open Go.RowKit

def firsts (l : List (Nat × Int)) : List Int := l.map (fun x => ((x.1 : Nat) : Int))
theorem firsts_len (l : List (Nat × Int)) : (firsts l).length = l.length := by simp [firsts]
theorem firsts_snoc (l : List (Nat × Int)) (x : Nat × Int) : firsts (l ++ [x]) = firsts l ++ [((x.1 : Nat) : Int)] := by simp [firsts]
set_option maxHeartbeats 2000000 in
theorem rsteps_any {w : World} {p N : Nat} {D : Nat → Nat → Int} (hg : XMem w p N D) (hm : XM.Mesh N D) (hN : N ≤ 24) (v : Int) (back : Bool) :
    Calls Try.prog 14 #[.pointer (some ⟨p, 0, none⟩), .int .i64 v, .bool back] w fun e w' => ∃ r, e = .returned r ∧ Own .i64 3 w' w.heap.size r (firsts (XM.steps N D v back N)) ∧ Below w.heap.size w w' := by
  obtain ⟨i0, hi, hz0, hz1, hz2⟩ := info_parts info3
  have HX : Hid (∀ W, Below w.heap.size w W → XMem W p N D) := fun W hW => hg.on hW
  have HAT : Hid (∀ W, Below w.heap.size w W → ∀ a b : Int, Calls Try.prog 28 #[.pointer (some ⟨p, 0, none⟩), .int .i64 a, .int .i64 b] W fun e w' => e = .returned (.int .i64 (XM.atE N D a b)) ∧ w' = W) := fun W hW a b => rat_any (hg.on hW) hm hN a b
  have HBD : Hid (∀ a b : Int, XM.atE N D a b ≤ 4611686018427387906) := fun a b => (XM.atE_bd hm a b).2
  clear hg hm
  go_enter Try.func14, Try.ntmps14
  go_wp2_with fail
  go_loopw [7, 8] (fun ov iv wr => ∃ k : Nat, k ≤ N ∧ iv = .int .i64 k ∧ Own .i64 3 wr w.heap.size ov (firsts (XM.steps N D v back k)) ∧ Below w.heap.size w wr) (fun _ iv _ => N - (intOf iv).toNat)
  case atStart => exact ⟨0, Nat.zero_le _, rfl, Own.nil _ _ _ _, Below.refl _ _⟩
  case round =>
    obtain ⟨k, hk, rfl, hO, hB⟩ := hrel
    have HO : Hid (Own .i64 3 wr w.heap.size u7 (firsts (XM.steps N D v back k))) := hO
    have HB : Hid (Below w.heap.size w wr) := hB
    have c0 := (HX.out wr hB).c0
    have hkN : (k : Int) ≤ (N : Int) := by omega
    clear hO
    by_cases hlt : k < N
    · have k1 : (k : Int) < (N : Int) := by omega
      have h1 := HAT.out wr hB v k
      have h2 := HAT.out wr hB k v
      have HSK : Hid (XM.dirE N D v back (k : Nat) = 4611686018427387906 → firsts (XM.steps N D v back (k + 1)) = firsts (XM.steps N D v back k)) := fun h => by rw [XM.steps_skip h]
      have HTK : Hid (XM.dirE N D v back (k : Nat) ≠ 4611686018427387906 → firsts (XM.steps N D v back (k + 1)) = firsts (XM.steps N D v back k) ++ [(k : Int)]) := fun h => by rw [XM.steps_take h, firsts_snoc]
      have hd2 : XM.dirE N D v back (k : Nat) ≤ 4611686018427387906 := by
        unfold XM.dirE
        split
        · exact HBD.out _ _
        · exact HBD.out _ _
      have hl : (firsts (XM.steps N D v back k)).length ≤ 24 := by
        rw [firsts_len]
        have := XM.steps_len (N := N) (D := D) (v := v) (back := back) k
        omega
      have HDE : Hid (XM.dirE N D v back (k : Nat) = if back then XM.atE N D (k : Nat) v else XM.atE N D v (k : Nat)) := rfl
      have hbs := hB.size
      clear hB
      generalize XM.dirE N D v back (k : Nat) = d at *
      obtain ⟨S2, hS2⟩ : ∃ S2, S2 = firsts (XM.steps N D v back (k + 1)) := ⟨_, rfl⟩
      have HS2 : Hid (firsts (XM.steps N D v back (k + 1)) = S2) := hS2.symm
      rw [← hS2] at HSK HTK
      clear hS2
      generalize firsts (XM.steps N D v back k) = S1 at *
      cases back with
      | false =>
        have e : XM.atE N D v (k : Nat) = d := HDE.out.symm
        rw [e] at h1
        clear h2 HDE e
        by_cases hd : d = 4611686018427387906
        · have HE : Hid (S2 = S1) := HSK.out hd
          clear HSK HTK
          subst hd
          go_wp2_with fail
          refine h1.mono ?_
          rintro e w' ⟨rfl, rfl⟩
          clear h1
          go_wp2_with fail
          go_roundw
          case rel => exact ⟨k + 1, by omega, by go_num, by rw [HS2.out, HE.out]; exact HO.out, HB.out⟩
          case measure => simp [intOf]; omega
        · have HE : Hid (S2 = S1 ++ [(k : Int)]) := HTK.out hd
          have hdl : d < 4611686018427387906 := by omega
          clear HSK HTK hd
          go_wp2_with fail
          refine h1.mono ?_
          rintro e w' ⟨rfl, hw'⟩
          rw [hw']
          clear h1 hw' w'
          go_wp2_with (at_builtin; refine wpList_append_row _ rfl _ _ 43 rfl .i64 w.heap.size 3 i0 8 Try.underlying43 hi hz0 hz1 hz2 _ S1 rfl (HO.out.alloc _) (some ⟨wr.heap.size, 0, none⟩) 1 1 [(k : Int)] rfl rfl (rowAt_lit1 _ _ _ _) (by unfold maxLen; simp; omega) (by simp; omega) (by simp; omega) ?_)
          intro v2 w2 hown2 hgrow2 _
          have hb2 : Below w.heap.size w w2 := (HB.out.alloc HB.out.size _).grown hgrow2 (by simp; omega) (fun g hg => HO.out.block g hg)
          have HO2 : Hid (Own .i64 3 w2 w.heap.size v2 S2) := by
            show Own _ _ _ _ _ _
            rw [HE.out]
            exact hown2
          have HB2 : Hid (Below w.heap.size w w2) := hb2
          clear hown2 hgrow2 hb2
          go_wp2_with fail
          go_roundw
          case rel => exact ⟨k + 1, by omega, by go_num, by rw [HS2.out]; exact HO2.out, HB2.out⟩
          case measure => simp [intOf]; omega
      | true =>
        have e : XM.atE N D (k : Nat) v = d := HDE.out.symm
        rw [e] at h2
        clear HDE e
        by_cases hd : d = 4611686018427387906
        · have HE : Hid (S2 = S1) := HSK.out hd
          clear HSK HTK
          subst hd
          go_wp2_with fail
          refine h1.mono ?_
          rintro e w' ⟨rfl, rfl⟩
          clear h1
          go_wp2_with fail
          refine h2.mono ?_
          rintro e w' ⟨rfl, rfl⟩
          clear h2
          go_wp2_with fail
          go_roundw
          case rel => exact ⟨k + 1, by omega, by go_num, by rw [HS2.out, HE.out]; exact HO.out, HB.out⟩
          case measure => simp [intOf]; omega
        · have HE : Hid (S2 = S1 ++ [(k : Int)]) := HTK.out hd
          have hdl : d < 4611686018427387906 := by omega
          clear HSK HTK hd
          go_wp2_with fail
          refine h1.mono ?_
          rintro e w' ⟨rfl, hw'⟩
          rw [hw']
          clear h1 hw' w'
          go_wp2_with fail
          refine h2.mono ?_
          rintro e w' ⟨rfl, hw'⟩
          rw [hw']
          clear h2 hw' w'
          go_wp2_with (at_builtin; refine wpList_append_row _ rfl _ _ 43 rfl .i64 w.heap.size 3 i0 8 Try.underlying43 hi hz0 hz1 hz2 _ S1 rfl (HO.out.alloc _) (some ⟨wr.heap.size, 0, none⟩) 1 1 [(k : Int)] rfl rfl (rowAt_lit1 _ _ _ _) (by unfold maxLen; simp; omega) (by simp; omega) (by simp; omega) ?_)
          intro v2 w2 hown2 hgrow2 _
          have hb2 : Below w.heap.size w w2 := (HB.out.alloc HB.out.size _).grown hgrow2 (by simp; omega) (fun g hg => HO.out.block g hg)
          have HO2 : Hid (Own .i64 3 w2 w.heap.size v2 S2) := by
            show Own _ _ _ _ _ _
            rw [HE.out]
            exact hown2
          have HB2 : Hid (Below w.heap.size w w2) := hb2
          clear hown2 hgrow2 hb2
          go_wp2_with fail
          go_roundw
          case rel => exact ⟨k + 1, by omega, by go_num, by rw [HS2.out]; exact HO2.out, HB2.out⟩
          case measure => simp [intOf]; omega
    · obtain rfl : k = N := by omega
      clear hlt hk hB
      go_wp2_with fail
      go_ret
      exact ⟨_, rfl, HO.out, HB.out⟩
set_option maxHeartbeats 2000000 in
theorem rdet_any {w : World} {p N : Nat} {D : Nat → Nat → Int} (hg : XMem w p N D) (hm : XM.Mesh N D) (hN : N ≤ 24) (v : Int) :
    Calls Try.prog 25 #[.pointer (some ⟨p, 0, none⟩), .int .i64 v] w fun e w' => ∃ r, e = .returned r ∧ OwnL w' w.heap.size r v (XM.dets N D v N) ∧ Below w.heap.size w w' := by
  obtain ⟨i0, hi, hz0, hz1, hz2⟩ := info_parts infoLink
  have HX : Hid (∀ W, Below w.heap.size w W → XMem W p N D) := fun W hW => hg.on hW
  have HAT : Hid (∀ W, Below w.heap.size w W → ∀ a b : Int, Calls Try.prog 28 #[.pointer (some ⟨p, 0, none⟩), .int .i64 a, .int .i64 b] W fun e w' => e = .returned (.int .i64 (XM.atE N D a b)) ∧ w' = W) := fun W hW a b => rat_any (hg.on hW) hm hN a b
  have HLEN : Hid (∀ k j, k ≤ N → j ≤ N → (XM.dets N D v k ++ XM.detRow N D v k j).length ≤ 700) := fun k j hk hj => by
    have h1 := XM.dets_len (N := N) (D := D) (v := v) k
    have h2 := XM.detRow_len (N := N) (D := D) (v := v) k j
    have h3 : k * N ≤ 24 * 24 := Nat.mul_le_mul (by omega) hN
    rw [List.length_append]
    omega
  clear hg hm
  go_enter Try.func25, Try.ntmps25
  go_wp2_with fail
  go_loopw [5, 6] (fun ov iv wr => ∃ k : Nat, k ≤ N ∧ iv = .int .i64 k ∧ OwnL wr w.heap.size ov v (XM.dets N D v k) ∧ Below w.heap.size w wr) (fun _ iv _ => N - (intOf iv).toNat)
  case atStart => exact ⟨0, Nat.zero_le _, rfl, OwnL.nil _ _ _, Below.refl _ _⟩
  case round =>
    obtain ⟨k, hk, rfl, hO, hB⟩ := hrel
    have HO : Hid (OwnL wr w.heap.size u5 v (XM.dets N D v k)) := hO
    have HB : Hid (Below w.heap.size w wr) := hB
    have c0 := (HX.out wr hB).c0
    have hkN : (k : Int) ≤ (N : Int) := by omega
    clear hO hB
    by_cases hlt : k < N
    · have k1 : (k : Int) < (N : Int) := by omega
      go_wp2_with fail
      go_loopw [5, 7] (fun ov jv wr' => ∃ j : Nat, j ≤ N ∧ jv = .int .i64 j ∧ OwnL wr' w.heap.size ov v (XM.dets N D v k ++ XM.detRow N D v k j) ∧ Below w.heap.size w wr') (fun _ jv _ => N - (intOf jv).toNat)
      case atStart => exact ⟨0, Nat.zero_le _, rfl, by rw [show XM.detRow N D v k 0 = [] from rfl, List.append_nil]; exact HO.out, HB.out⟩
      case round =>
        clear HO HB c0
        rename_i wr0 hwr0
        obtain ⟨j, hj, rfl, hO, hB⟩ := hrel
        have HB : Hid (Below w.heap.size w wr) := hB
        have c0 := (HX.out wr hB).c0
        have hjN : (j : Int) ≤ (N : Int) := by omega
        by_cases hjl : j < N
        · have j1 : (j : Int) < (N : Int) := by omega
          have h1 := HAT.out wr hB k v
          have h2 := HAT.out wr hB v j
          have hbs := hB.size
          have hlen := HLEN.out k j hk hj
          have HTK : Hid (k ≠ j ∧ DM.two (XM.atE N D k v) (XM.atE N D v j) < 4611686018427387906 → XM.dets N D v k ++ XM.detRow N D v k (j + 1) = XM.dets N D v k ++ XM.detRow N D v k j ++ [⟨k, j, DM.two (XM.atE N D k v) (XM.atE N D v j)⟩]) := fun h => by
            show _ ++ (_ ++ _) = _
            rw [if_pos h, List.append_assoc]
          have HSK : Hid (¬ (k ≠ j ∧ DM.two (XM.atE N D k v) (XM.atE N D v j) < 4611686018427387906) → XM.dets N D v k ++ XM.detRow N D v k (j + 1) = XM.dets N D v k ++ XM.detRow N D v k j) := fun h => by
            show _ ++ (_ ++ _) = _
            rw [if_neg h, List.append_nil]
          have h3 := two_any (XM.atE N D k v) (XM.atE N D v j) wr
          have hx2 := (DM.two_bd (XM.atE N D k v) (XM.atE N D v j)).2
          have HO : Hid (OwnL wr w.heap.size u5 v (XM.dets N D v k ++ XM.detRow N D v k j)) := hO
          clear hO hB
          generalize DM.two (XM.atE N D k v) (XM.atE N D v j) = x at *
          generalize XM.atE N D k v = a1 at *
          generalize XM.atE N D v j = a2 at *
          obtain ⟨S2, hS2⟩ : ∃ S2, S2 = XM.dets N D v k ++ XM.detRow N D v k (j + 1) := ⟨_, rfl⟩
          have HS2 : Hid (XM.dets N D v k ++ XM.detRow N D v k (j + 1) = S2) := hS2.symm
          rw [← hS2] at HSK HTK
          clear hS2
          generalize XM.dets N D v k ++ XM.detRow N D v k j = S1 at *
          by_cases hkj : k = j
          · have HE : Hid (S2 = S1) := HSK.out (fun h => h.1 hkj)
            have hne : ((k : Int) != (j : Int)) = false := by simp [hkj]
            clear HSK HTK hkj
            go_wp2_with fail
            refine h1.mono ?_
            rintro e w' ⟨rfl, rfl⟩
            clear h1
            go_wp2_with fail
            refine h2.mono ?_
            rintro e w' ⟨rfl, rfl⟩
            clear h2
            go_wp2_with fail
            refine h3.mono ?_
            rintro e w' ⟨rfl, rfl⟩
            clear h3
            go_wp2_with fail
            go_roundw
            case rel => exact ⟨j + 1, by omega, by go_num, by rw [HS2.out, HE.out]; exact HO.out, HB.out⟩
            case measure => simp [intOf]; omega
          · have hne : ((k : Int) != (j : Int)) = true := by simp; omega
            by_cases hx : x < 4611686018427387906
            · have HE : Hid (S2 = S1 ++ [⟨k, j, x⟩]) := HTK.out ⟨hkj, hx⟩
              clear HSK HTK hkj
              go_wp2_with fail
              refine h1.mono ?_
              rintro e w' ⟨rfl, hw'⟩
              rw [hw']
              clear h1 hw' w'
              go_wp2_with fail
              refine h2.mono ?_
              rintro e w' ⟨rfl, hw'⟩
              rw [hw']
              clear h2 hw' w'
              go_wp2_with fail
              refine h3.mono ?_
              rintro e w' ⟨rfl, hw'⟩
              rw [hw']
              clear h3 hw' w'
              go_wp2_with (at_builtin; refine wpList_append_own _ rfl _ _ 41 rfl w.heap.size 54 i0 zLink 5 40 Try.underlying41 hi hz0 hz1 hz2 rfl (by decide) u5 S1.length (linkCells v S1) rfl (HO.out.alloc _) ⟨wr.heap.size, 0, none⟩ 1 1 (detCells v ⟨k, j, x⟩) rfl rfl (cell_new5 _ _ _ _ _ _ _) (detCells_one _ _) (by unfold maxLen; omega) (by omega) (by simp; omega) ?_)
              intro v2 w2 hown2 hgrow2 _
              have hb2 : Below w.heap.size w w2 := (HB.out.alloc HB.out.size _).grown hgrow2 (by simp; omega) (fun g hg => (HO.out.block g hg).1)
              have HO2 : Hid (OwnL w2 w.heap.size v2 v S2) := by
                show OwnL _ _ _ _ _
                rw [HE.out]
                unfold OwnL
                rw [List.length_append, linkCells_snoc]
                exact hown2
              have HB2 : Hid (Below w.heap.size w w2) := hb2
              clear hown2 hgrow2 hb2
              go_wp2_with fail
              go_roundw
              case rel => exact ⟨j + 1, by omega, by go_num, by rw [HS2.out]; exact HO2.out, HB2.out⟩
              case measure => simp [intOf]; omega
            · have HE : Hid (S2 = S1) := HSK.out (fun h => hx h.2)
              obtain rfl : x = 4611686018427387906 := by omega
              clear HSK HTK hkj hx hx2
              go_wp2_with fail
              refine h1.mono ?_
              rintro e w' ⟨rfl, rfl⟩
              clear h1
              go_wp2_with fail
              refine h2.mono ?_
              rintro e w' ⟨rfl, rfl⟩
              clear h2
              go_wp2_with fail
              refine h3.mono ?_
              rintro e w' ⟨rfl, rfl⟩
              clear h3
              go_wp2_with fail
              go_roundw
              case rel => exact ⟨j + 1, by omega, by go_num, by rw [HS2.out, HE.out]; exact HO.out, HB.out⟩
              case measure => simp [intOf]; omega
        · obtain rfl : j = N := by omega
          have HO : Hid (OwnL wr w.heap.size u5 v (XM.dets j D v (k + 1))) := hO
          clear hO hB hjl
          go_wp2_with fail
          go_roundw
          case rel => exact ⟨k + 1, by omega, by go_num, HO.out, HB.out⟩
          case measure => simp [intOf]; omega
    · obtain rfl : k = N := by omega
      clear hlt hk
      go_wp2_with fail
      go_ret
      exact ⟨_, rfl, HO.out, HB.out⟩
end Go.Proofs.Ytkcfepppnclniaa
end
