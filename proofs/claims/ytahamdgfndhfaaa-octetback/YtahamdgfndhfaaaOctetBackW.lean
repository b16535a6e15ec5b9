/-
  The walk of the law OctetBack.
-/
import Derived.Test.YtahamdgfndhfaaaOctetAwake
import Derived.Deep.QuietTactic
import Derived.BigQuiet
import Derived.Deep.RegionHeld3
namespace Go.Proofs.Ytahamdgfndhfaaa
open Go.RowKit
namespace OM
/-- In so many bytes a number is put. -/
def wd (ss : List Int) (i : Nat) : Nat := if i < ss.length then ((ss[i]?.getD 0) % 9).toNat else 8
theorem wd_le (ss : List Int) (i : Nat) : wd ss i ≤ 8 := by unfold wd; split <;> omega
/-- The bytes of number j. -/
def part (ns ss : List Int) (j : Nat) : List Int := lowN (wd ss j) (ns[j]?.getD 0)
theorem part_length (ns ss : List Int) (j : Nat) : (part ns ss j).length = wd ss j := lowN_length _ _
/-- The first k ones; those from the k-th on. -/
def cat (ns ss : List Int) (k : Nat) : List Int := (List.range k).flatMap (part ns ss)
def rest (ns ss : List Int) (k : Nat) : List Int := ((List.range ns.length).drop k).flatMap (part ns ss)
theorem cat_succ (ns ss : List Int) (k : Nat) : cat ns ss (k + 1) = cat ns ss k ++ part ns ss k := by simp [cat, List.range_succ]
theorem cat_le (ns ss : List Int) (k : Nat) : (cat ns ss k).length ≤ 8 * k := by
  induction k with
  | zero => simp [cat]
  | succ k ih => rw [cat_succ, List.length_append, part_length]; have := wd_le ss k; omega
theorem cat_all (ns ss : List Int) : cat ns ss ns.length = rest ns ss 0 := rfl
theorem rest_step (ns ss : List Int) (k : Nat) (h : k < ns.length) : rest ns ss k = part ns ss k ++ rest ns ss (k + 1) := by
  unfold rest
  rw [List.drop_eq_getElem_cons (by simpa using h)]
  simp [List.flatMap_cons]
theorem rest_end (ns ss : List Int) (k : Nat) (h : ns.length ≤ k) : rest ns ss k = [] := by
  unfold rest
  rw [List.drop_eq_nil_of_le (by simpa using h)]; rfl
theorem rest_bd (ns ss : List Int) (k : Nat) : ∀ z ∈ rest ns ss k, 0 ≤ z ∧ z ≤ 255 := by
  intro z hz
  obtain ⟨j, _, hj⟩ := List.mem_flatMap.1 hz
  exact lowN_bd _ _ z hj
theorem rest_le (ns ss : List Int) (k : Nat) : (rest ns ss k).length ≤ 8 * ns.length := by
  rcases Nat.lt_or_ge ns.length k with h | h
  · rw [rest_end ns ss k (by omega)]; simp
  · have e : ∀ d, d ≤ ns.length → (rest ns ss (ns.length - d)).length ≤ 8 * d := by
      intro d
      induction d with
      | zero => intro _; rw [rest_end ns ss _ (by omega)]; simp
      | succ d ih =>
        intro hd
        rw [rest_step ns ss _ (by omega), List.length_append, part_length, show ns.length - (d + 1) + 1 = ns.length - d by omega]
        have := ih (by omega)
        have := wd_le ss (ns.length - (d + 1))
        omega
    have := e (ns.length - k) (by omega)
    rw [show ns.length - (ns.length - k) = k by omega] at this
    omega
end OM

set_option maxHeartbeats 400000 in
theorem width_any (v : Value) (ss : List Int) (i : Nat) (w : World) (hrow : Row .u8 w v ss) (hbd : ∀ z ∈ ss, 0 ≤ z ∧ z ≤ 255) (hi : i ≤ 1000000) :
    Calls Try.prog 17 #[v, .int .i64 i] w fun e w' => e = .returned (.int .i64 (OM.wd ss i)) ∧ w' = w := by
  obtain ⟨a, cap, rfl, hat⟩ := hrow
  have hcap := hat.1
  have hcm := hat.2.1
  unfold maxLen at hcm
  by_cases hlt : i < ss.length
  · obtain ⟨b, o, rfl, hc⟩ := hat.2.2.2 (by omega)
    have hck := hc i hlt
    have hzb := hbd ss[i] (List.getElem_mem _)
    have HW : Hid ((OM.wd ss i : Int) = ss[i] % 9) := by
      show _ = _
      unfold OM.wd
      rw [if_pos hlt, List.getElem?_eq_getElem hlt, Option.getD_some]
      omega
    clear hat hc hbd
    go_enter Try.func17, Try.ntmps17
    go_wp2_with fail
    go_ret
    exact ⟨ret_int HW.out.symm, rfl⟩
  · have HW : Hid ((OM.wd ss i : Int) = 8) := by
      show _ = _
      unfold OM.wd
      rw [if_neg hlt]; rfl
    clear hat hbd
    go_enter Try.func17, Try.ntmps17
    go_wp2_with fail
    go_ret
    exact ⟨ret_int HW.out.symm, rfl⟩

set_option maxHeartbeats 1000000 in
theorem back_walk (vn : Value) (ns : List Int) (vs : Value) (ss : List Int) (w : World) (hrn : Row .u64 w vn ns) (hbn : ∀ z ∈ ns, 0 ≤ z ∧ z ≤ 18446744073709551615) (hrs : Row .u8 w vs ss) (hbs : ∀ z ∈ ss, 0 ≤ z ∧ z ≤ 255) :
    Calls Try.prog 6 #[vn, vs] w fun e w' => e = .returned (.bool true) ∧ Below w.heap.size w w' := by
  obtain ⟨a, cap, rfl, hat⟩ := hrn
  have HA : Hid (RowAt .u64 w a cap ns) := hat
  have HS : Hid (Row .u8 w vs ss) := hrs
  have HBN : Hid (∀ z ∈ ns, 0 ≤ z ∧ z ≤ 18446744073709551615) := hbn
  have HBS : Hid (∀ z ∈ ss, 0 ≤ z ∧ z ≤ 255) := hbs
  have hcap := hat.1
  have hcm := hat.2.1
  unfold maxLen at hcm
  clear hat hrs hbn hbs
  by_cases h40 : 40 < ns.length
  · go_enter Try.func6, Try.ntmps6
    go_wp2_with fail
    refine (awake_any _).mono ?_
    rintro e w1 ⟨rfl, hb1⟩
    go_wp2_with fail
    go_ret
    exact ⟨rfl, hb1⟩
  go_enter Try.func6, Try.ntmps6
  go_wp2_with fail
  refine (awake_any _).mono ?_
  rintro e w1 ⟨rfl, hb1⟩
  go_wp2_with fail
  go_loopw [5, 6] (fun b i wr => ∃ k : Nat, k ≤ ns.length ∧ i = .int .i64 k ∧ Hid (Own .u8 5 wr w.heap.size b (OM.cat ns ss k)) ∧ Below w.heap.size w wr) (fun _ i _ => ns.length - (intOf i).toNat)
  case atStart => exact ⟨0, Nat.zero_le _, rfl, Own.nil _ _ _ _, hb1⟩
  case round =>
    obtain ⟨k, hk, rfl, HO, hbr⟩ := hrel
    have hsz := hbr.size
    by_cases hlt : k < ns.length
    · obtain ⟨b, o, rfl, hc⟩ := (HA.out.below hbr).2.2.2 (by omega)
      have hck := hc k hlt
      have hxb := HBN.out ns[k] (List.getElem_mem _)
      have HP : Hid (OM.cat ns ss (k + 1) = OM.cat ns ss k ++ OM.low (OM.wd ss k) ns[k]) := by
        show _ = _
        rw [OM.cat_succ, OM.part, OM.low, OM.wide_of (OM.wd_le ss k), List.getElem?_eq_getElem hlt, Option.getD_some]
      rw [List.getElem?_eq_getElem hlt, Option.getD_some] at hck
      have hi0 : (0 : Int) ≤ (k : Int) := by omega
      have hi1 : (k : Int) < (ns.length : Int) := by omega
      have hcl := OM.cat_le ns ss k
      have HSr : Hid (Row .u8 wr vs ss) := HS.out.below hbr
      generalize ns[k] = x at *
      clear hc
      go_wp2_with fail
      go_region_with (first
        | (go_at_call 17; refine (width_any _ ss k _ ?_ HBS.out (by omega)).mono ?_; exact HSr.out; rintro e w2 ⟨rfl, rfl⟩)
        | (go_at_call 9; refine (put_any _ (OM.cat ns ss k) (OM.wd ss k : Int) x _ ?_ (by omega) hxb.1 hxb.2).mono ?_; exact HO.out.row; rintro e w3 ⟨r3, rfl, ho3, hb3⟩))
      all_goals
        have hb3' : Below w.heap.size w w3 := hbr.trans ((below_of_drew hb3).mono hsz)
        have HO3 : Hid (Own .u8 5 w3 w.heap.size r3 (OM.cat ns ss (k + 1))) := by
          show Own _ _ _ _ _ _
          rw [HP.out]; exact ho3.base_le hsz
        clear ho3 hb3
        go_wp2_with fail
        go_roundw
        case rel => exact ⟨k + 1, by omega, by go_num, HO3, hb3'⟩
        case measure => simp [intOf]; omega
    · obtain rfl : k = ns.length := by omega
      have HR0 : Hid (Row .u8 wr u5 (OM.rest ns ss 0)) := by
        show Row _ _ _ _
        rw [← OM.cat_all]; exact HO.out.row
      clear HO
      go_wp2_with fail
      go_loopw [5, 7] (fun b i wq => ∃ k : Nat, k ≤ ns.length ∧ i = .int .i64 k ∧ Hid (Row .u8 wq b (OM.rest ns ss k)) ∧ Below w.heap.size w wq) (fun _ i _ => ns.length - (intOf i).toNat)
      case atStart => exact ⟨0, Nat.zero_le _, rfl, HR0, hbr⟩
      case round =>
        obtain ⟨j, hj, rfl, HR, hbq⟩ := hrel
        have hsq := hbq.size
        by_cases hlj : j < ns.length
        · obtain ⟨b, o, rfl, hc⟩ := (HA.out.below hbq).2.2.2 (by omega)
          have hck := hc j hlj
          have hxb := HBN.out ns[j] (List.getElem_mem _)
          have HST : Hid (OM.rest ns ss j = OM.lowN (OM.wd ss j) ns[j] ++ OM.rest ns ss (j + 1)) := by
            show _ = _
            rw [OM.rest_step ns ss j hlj, OM.part, List.getElem?_eq_getElem hlj, Option.getD_some]
          rw [List.getElem?_eq_getElem hlj, Option.getD_some] at hck
          have hi0 : (0 : Int) ≤ (j : Int) := by omega
          have hi1 : (j : Int) < (ns.length : Int) := by omega
          have hrl := OM.rest_le ns ss j
          have HRB : Hid (∀ z ∈ OM.rest ns ss j, 0 ≤ z ∧ z ≤ 255) := OM.rest_bd ns ss j
          have hw8 := OM.wd_le ss j
          have HSr : Hid (Row .u8 wr vs ss) := HS.out.below hbq
          have HLW : Hid ((OM.lowN (OM.wd ss j) ns[j]).length = OM.wd ss j) := OM.lowN_length _ _
          have HLB : Hid (∀ z ∈ OM.lowN (OM.wd ss j) ns[j], 0 ≤ z ∧ z ≤ 255) := OM.lowN_bd _ _
          have HLO : Hid (OM.low (OM.wd ss j : Int) ns[j] = OM.lowN (OM.wd ss j) ns[j]) := by show _ = _; rw [OM.low, OM.wide_of hw8]
          generalize ns[j] = x at *
          clear hc
          go_wp2_with fail
          refine (width_any _ ss j _ HSr.out HBS.out (by omega)).mono ?_
          rintro e w2 ⟨rfl, rfl⟩
          go_wp2_with fail
          refine (get_ok _ (OM.rest ns ss j) (OM.wd ss j) _ HR.out (by omega) HRB.out hw8 (by rw [HST.out, List.length_append, HLW.out]; omega)).mono ?_
          rintro e w3 ⟨r3, rfl, ho3, hb3⟩
          have et : (OM.rest ns ss j).take (OM.wd ss j) = OM.lowN (OM.wd ss j) x := by
            rw [HST.out]; exact List.take_left' HLW.out
          have ed : (OM.rest ns ss j).drop (OM.wd ss j) = OM.rest ns ss (j + 1) := by
            rw [HST.out]; exact List.drop_left' HLW.out
          rw [et]
          rw [ed] at ho3
          have hb3' : Below w.heap.size w w3 := hbq.trans (hb3.mono hsq)
          have hs3 := hb3'.size
          have HR3 : Hid (Row .u8 w3 r3 (OM.rest ns ss (j + 1))) := ho3.row
          have HS3 : Hid (Row .u8 w3 vs ss) := HS.out.below hb3'
          have hck3 : w3.cell? ⟨b, o + j, none⟩ = some (.int .u64 x) := (hb3.cell (by dsimp only; exact cell_lt hck)).trans hck
          clear et ed ho3
          go_upto_region 14 with fail
          go_cut [60] (fun s60 wx => s60 = .bool false ∧ Hid (Row .u8 wx r3 (OM.rest ns ss (j + 1))) ∧ Below w.heap.size w wx)
          case first =>
            go_region_held3 (fun w' => w'.cell? ⟨b, o + j, none⟩ = some (.int .u64 x)) (go_keep) (first
              | (go_at_call 17; refine (width_any _ ss j _ ?_ HBS.out (by omega)).mono ?_; exact HS3.out; rintro e w4 ⟨rfl, rfl⟩)
              | (go_at_call 10; refine (rput_any _ [] (OM.wd ss j : Int) x _ ?_ (by decide) hxb.1 hxb.2).mono ?_; exact Row.nil _ _; rintro e w5 ⟨r5, rfl, ho5, hb5⟩; have hck5 := (hb5.cell (p := ⟨b, o + j, none⟩) (cell_lt hck3)).trans hck3)
              | (go_at_call 12; refine (number_any _ (OM.lowN (OM.wd ss j) x) _ ?_ ?_ HLB.out).mono ?_; rw [List.nil_append, HLO.out] at ho5; exact ho5.row; rw [HLW.out]; exact hw8; rintro e w6 ⟨rfl, rfl⟩))
            all_goals
              have hb5' := below_of_drew hb5
              have HR5 : Hid (Row .u8 w6 r3 (OM.rest ns ss (j + 1))) := HR3.out.below hb5'
              have hb5w : Below w.heap.size w w6 := hb3'.trans (hb5'.mono hs3)
              clear ho5 hb5
              go_wp2_with fail
              go_meet
              exact ⟨rfl, HR5, hb5w⟩
          case rest =>
          obtain ⟨rfl, HR5, hb5w⟩ := hcut
          go_wp2_with fail
          go_roundw
          case rel => exact ⟨j + 1, by omega, by go_num, HR5, hb5w⟩
          case measure => simp [intOf]; omega
        · obtain ⟨ao, c, hv, hato⟩ := HR.out
          rw [OM.rest_end ns ss j (by omega)] at hv
          subst hv
          go_wp2_with fail
          go_ret
          exact ⟨rfl, hbq⟩
end Go.Proofs.Ytahamdgfndhfaaa
