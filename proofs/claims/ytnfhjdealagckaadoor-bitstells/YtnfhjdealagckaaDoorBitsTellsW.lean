/-
  The walk of the law BitsTells.
-/
import Derived.Test.YtnfhjdealagckaaDoorBitsAwake
import Derived.Deep.DeepCutAuto
namespace Go.Proofs.YtnfhjdealagckaaDoor
open Go.RowKit

/-- Those of the first k that are another number. -/
def others (zs : List Int) (x : Int) (k : Nat) : List Int := (zs.take k).filter (fun y => !decide (y = x))
theorem others_miss (zs : List Int) (x : Int) (k : Nat) (h : k < zs.length) (e : zs[k] = x) : others zs x (k + 1) = others zs x k := by
  unfold others
  rw [take_snoc zs k h, List.filter_append, List.filter_cons, if_neg (by simp [e])]; simp
theorem others_hit (zs : List Int) (x : Int) (k : Nat) (h : k < zs.length) (e : ¬ zs[k] = x) : others zs x (k + 1) = others zs x k ++ [zs[k]] := by
  unfold others
  rw [take_snoc zs k h, List.filter_append, List.filter_cons, if_pos (by simp [e])]; simp
theorem others_len (zs : List Int) (x : Int) (k : Nat) : (others zs x k).length ≤ zs.length := by
  unfold others
  have := List.length_filter_le (fun y => !decide (y = x)) (zs.take k)
  rw [List.length_take] at this
  omega
theorem first_facts (s : Nat) (hs : s < 18446744073709551616) : (some? s = true ∧ 0 < (BM.ilst s).length ∧ (BM.ilst s)[0]? = some (fst s)) ∨ (some? s = false ∧ (BM.ilst s).length = 0 ∧ fst s = 0) := by
  by_cases h : s = 0
  · subst h; exact .inr (by decide)
  · left
    rw [(ilst_cons s hs h).1]
    exact ⟨by simp [some?, h], by simp, rfl⟩

set_option maxRecDepth 100000 in
set_option maxHeartbeats 2000000 in
theorem tells_walk (a x : Int) (w : World) (hR : Ready w) (h0 : 0 ≤ a) (h1 : a ≤ 18446744073709551615) :
    Calls Tryd.prog 3 #[.int .u64 a, .int .i64 x] w fun e w' => e = .returned (.bool true) ∧ Below w.heap.size w w' := by
  obtain ⟨s, rfl⟩ : ∃ s : Nat, a = s := ⟨a.toNat, by omega⟩
  have hs : s < 18446744073709551616 := by omega
  obtain ⟨i0, hi, hz0, hz1, hz2⟩ := info_parts info3
  have hle := ilst_le s
  have HFF : Hid ((some? s = true ∧ 0 < (BM.ilst s).length ∧ (BM.ilst s)[0]? = some (fst s)) ∨ (some? s = false ∧ (BM.ilst s).length = 0 ∧ fst s = 0)) := first_facts s hs
  have HW : Hid (BM.ofL (BM.ilst s ++ [x]) = s ||| BM.only x) := BM.ofL_with s hs x
  have HL : Hid (BM.ofL ((BM.ilst s).filter (fun y => !decide (y = x))) = BM.less s (BM.only x)) := BM.ofL_without s x
  have c1 := fun w => has_any s x hs w
  have c2 := fun w => rhas_any s x hs w
  have c3 := fun w => len_any s hs w
  rw [← ilst_len] at c3
  have c4 := fun w => with_any s x hs w
  have c5 := fun w => without_any s x hs w
  have c6 := fun w h => first_any s hs w h
  have c7 := fun w h => list_any s hs w h
  go_enter Tryd.func3, Tryd.ntmps3
  go_wp2_with fail
  refine (awake_any _ hR).mono ?_
  rintro e w1 ⟨rfl, hb1⟩
  go_wp2_with fail
  refine (rlist_any s hs w1).mono ?_
  rintro e w2 ⟨r2, rfl, ho2, hb2⟩
  have hb2' : Below w.heap.size w w2 := hb1.trans (hb2.mono hb1.size)
  have hR2 := hR.below hR.1 hb2'
  obtain ⟨a2, cp2, rfl, hat2⟩ := ho2.at
  have HO : Hid (Own .i64 3 w2 w.heap.size (.slice a2 (BM.ilst s).length cp2) (BM.ilst s)) := ho2.base_le hb1.size
  have d6 := c6 w2 hR2
  have d7 := c7 w2 hR2
  have hcells := hat2.2.2.2
  have hcp := hat2.1
  clear ho2 hb2 hat2 c6 c7
  generalize fst s = f at *
  generalize some? s = b at *
  generalize BM.ilst s = zs at *
  generalize BM.has s x = hx at *
  generalize BM.less s (BM.only x) = sl at *
  generalize s ||| BM.only x = sw at *
  go_wp2_with fail
  refine d6.mono ?_
  rintro e w' ⟨rfl, rfl⟩
  go_upto_region 6 with fail
  go_cut [44] (fun c wx => c = .bool false ∧ wx = w')
  case first =>
    rcases HFF.out with ⟨rfl, hp, hf⟩ | ⟨rfl, hz, rfl⟩
    · obtain ⟨bb, oo, rfl, hc⟩ := hcells hp
      have hc0 := hc 0 hp
      rw [hf, Option.getD_some, Nat.add_zero] at hc0
      clear hc hcells
      go_wp2_with fail
      go_meet
      exact ⟨rfl, rfl⟩
    · obtain rfl := List.eq_nil_of_length_eq_zero hz
      clear hcells hz hle
      go_wp2_with fail
      go_meet
      exact ⟨rfl, rfl⟩
  case rest =>
  obtain ⟨rfl, hwc⟩ := hcut
  subst hwc
  clear HFF hcells d6
  go_wp2_with fail
  refine (c1 _).mono ?_
  rintro e w'' ⟨rfl, rfl⟩
  go_wp2_with fail
  refine (c2 _).mono ?_
  rintro e w'' ⟨rfl, rfl⟩
  go_wp2_with fail
  refine (c3 _).mono ?_
  rintro e w'' ⟨rfl, rfl⟩
  go_wp2_with fail
  refine d7.mono ?_
  rintro e w3 ⟨r3, rfl, ho3, hb3⟩
  have c8 := ints_same r3 _ zs w3 ho3.row (HO.out.row.below hb3)
  obtain ⟨a3, cp3, rfl, _⟩ := ho3.at
  have hb3' : Below w.heap.size w w3 := hb2'.trans (hb3.mono hb2'.size)
  have HO3 : Hid (Own .i64 3 w3 w.heap.size (.slice a2 zs.length cp2) zs) := HO.out.below hb3
  clear ho3 hb3 HO
  go_wp2_with fail
  refine c8.mono ?_
  rintro e w4 ⟨rfl, hb4⟩
  have hb4' : Below w.heap.size w w4 := hb3'.trans (hb4.mono hb3'.size)
  have hs4 := hb4'.size
  have HA4 : Hid (RowAt .i64 w4 a2 cp2 zs) := by
    obtain ⟨a4, cp4, e4, hat4⟩ := HO3.out.at
    injection e4 with e41 e42 e43
    subst e41 e43
    exact hat4.below hb4
  clear hb4 HO3
  go_wp2_with (at_builtin; refine wpList_append_row _ rfl _ _ 25 rfl .i64 w4.heap.size 3 i0 8 Tryd.underlying25 hi hz0 hz1 hz2 (.slice (some ⟨w4.heap.size, 0, none⟩) 0 0) [] rfl (Own.lit .i64 3 w4 w4.heap.size (Nat.le_refl _) [] _ 0 rfl rfl (by decide)) a2 zs.length cp2 zs rfl rfl (HA4.out.below ((Below.refl _ _).alloc (Nat.le_refl _) _)) (by unfold maxLen; simp; omega) (by simp; omega) (by simp) ?_)
  intro v5 w5 hown5 hgrow5 _
  have hb5 : Below w4.heap.size w4 w5 := ((Below.refl _ _).alloc (Nat.le_refl _) _).grown hgrow5 (by simp) (fun k h => by cases h; exact Nat.le_refl _)
  have hs5 := hb5.size
  have HO5 : Hid (Own .i64 3 w5 w4.heap.size v5 zs) := hown5
  clear hown5 hgrow5
  go_wp2_with (at_builtin; refine wpList_append_row _ rfl _ _ 25 rfl .i64 w4.heap.size 3 i0 8 Tryd.underlying25 hi hz0 hz1 hz2 v5 zs rfl (HO5.out.alloc _) (some ⟨w5.heap.size, 0, none⟩) 1 1 [x] rfl rfl (rowAt_lit1 _ _ _ _) (by unfold maxLen; simp; omega) (by simp; omega) (by simp; omega) ?_)
  intro v6 w6 hown6 hgrow6 _
  have hb46 : Below w4.heap.size w4 w6 := (hb5.alloc hs5 _).grown hgrow6 (by simp; omega) HO5.out.block
  have hb6 : Below w.heap.size w w6 := hb4'.trans (hb46.mono hs4)
  have HA6 : Hid (RowAt .i64 w6 a2 cp2 zs) := HA4.out.below hb46
  have c9 := rof_any v6 _ w6 hown6.row
  rw [HW.out] at c9
  obtain ⟨a6, cp6, rfl, _⟩ := hown6.at
  rw [show (zs ++ [x]).length = zs.length + 1 by simp] at c9 ⊢
  clear hown6 hgrow6 HA4 HO5 hb46 hb5 hs5
  go_wp2_with fail
  refine c9.mono ?_
  rintro e w7 ⟨rfl, rfl⟩
  go_wp2_with fail
  have HL2 : Hid (BM.ofL (others zs x zs.length) = sl) := by
    show _ = _
    unfold others
    rw [List.take_of_length_le (Nat.le_refl _)]; exact HL.out
  have hsw : w.heap.size ≤ w7.heap.size := hb6.size
  go_loopw [10, 11] (fun v i wr => ∃ k : Nat, k ≤ zs.length ∧ i = .int .i64 k ∧ Hid (Own .i64 3 wr w7.heap.size v (others zs x k)) ∧ Below w7.heap.size w7 wr) (fun _ i _ => zs.length - (intOf i).toNat)
  case atStart => exact ⟨0, Nat.zero_le _, rfl, Own.nil _ _ _ _, Below.refl _ _⟩
  case round =>
    obtain ⟨k, hk, rfl, HO, hbr⟩ := hrel
    have hsz := hbr.size
    by_cases hlt : k < zs.length
    · obtain ⟨bb, oo, rfl, hc⟩ := (HA6.out.below hbr).2.2.2 (by omega)
      have hck := hc k hlt
      rw [List.getElem?_eq_getElem hlt, Option.getD_some] at hck
      have hol := others_len zs x k
      have HM : Hid (zs[k] = x → others zs x (k + 1) = others zs x k) := others_miss zs x k hlt
      have HH : Hid (¬ zs[k] = x → others zs x (k + 1) = others zs x k ++ [zs[k]]) := others_hit zs x k hlt
      generalize zs[k] = z at *
      clear hc
      by_cases hzx : z = x
      · subst hzx
        have HM2 : Hid (others zs z (k + 1) = others zs z k) := HM.out rfl
        clear HM HH
        have hq : (z == z) = true := by simp
        go_wp2_with fail
        go_roundw
        case rel => exact ⟨k + 1, by omega, by simp, by rw [HM2.out]; exact HO, hbr⟩
        case measure => simp [intOf]; omega
      · have HH2 : Hid (others zs x (k + 1) = others zs x k ++ [z]) := HH.out hzx
        clear HM HH
        have hq : (z == x) = false := by simp [hzx]
        go_wp2_with (at_builtin; refine wpList_append_row _ rfl _ _ 25 rfl .i64 w7.heap.size 3 i0 8 Tryd.underlying25 hi hz0 hz1 hz2 _ (others zs x k) rfl (HO.out.alloc _) (some ⟨wr.heap.size, 0, none⟩) 1 1 [z] rfl rfl (rowAt_lit1 _ _ _ _) (by unfold maxLen; simp; omega) (by simp; omega) (by simp; omega) ?_)
        intro v8 w8 hown8 hgrow8 _
        have hb8 : Below w7.heap.size w7 w8 := (hbr.alloc hsz _).grown hgrow8 (by simp; omega) HO.out.block
        have HO8 : Hid (Own .i64 3 w8 w7.heap.size v8 (others zs x (k + 1))) := by
          show Own _ _ _ _ _ _
          rw [HH2.out]; exact hown8
        clear hown8 hgrow8
        go_wp2_with fail
        go_roundw
        case rel => exact ⟨k + 1, by omega, by simp, HO8, hb8⟩
        case measure => simp [intOf]; omega
    · obtain rfl : k = zs.length := by omega
      have c10 := rof_any _ _ wr HO.out.row
      rw [HL2.out] at c10
      have hbf : Below w.heap.size w wr := hb6.trans (hbr.mono hsw)
      go_wp2_with fail
      refine (c4 _).mono ?_
      rintro e w'' ⟨rfl, rfl⟩
      go_wp2_with fail
      refine (c5 _).mono ?_
      rintro e w'' ⟨rfl, rfl⟩
      go_wp2_with fail
      refine c10.mono ?_
      rintro e w'' ⟨rfl, rfl⟩
      go_wp2_with fail
      go_ret
      exact ⟨rfl, hbf⟩
end Go.Proofs.YtnfhjdealagckaaDoor
