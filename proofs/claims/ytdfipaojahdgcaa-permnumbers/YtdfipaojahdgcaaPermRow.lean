/-
  The row of those that are left: the walks of slices.Delete and slices.Index, and of perm's row with its two closures.
-/
import Derived.Test.YtdfipaojahdgcaaPermRank
import Derived.Lib.SliceRun
import Derived.Laws.EntriesVeiled
namespace Go.Proofs.Ytdfipaojahdgcaa
open Go.RowKit

theorem Own.head {k : IntKind} {e : TypeId} {w : World} {base g cap n : Nat} {zs : List Int} (hn : n = zs.length) (h : Own k e w base (.slice (some ⟨g, 0, none⟩) n cap) zs) (i : Nat) (hi : i ≤ n) : Own k e w base (.slice (some ⟨g, 0, none⟩) i cap) (zs.take i) := by
  subst hn
  rcases h.2 with ⟨h1, hn⟩ | ⟨g', cap', cur, hv, hb, hg, hnc, hcm, hcs, htake⟩
  · cases h1
  · cases hv
    have hl : (zs.take i).length = i := by rw [List.length_take]; omega
    unfold Own
    rw [hl]
    refine ⟨by rw [List.length_map, hl, Nat.mul_one], .inr ⟨g, cap, cur, rfl, hb, hg, by omega, hcm, hcs, ?_⟩⟩
    have := congrArg (List.take i) htake
    rw [List.take_take, Nat.mul_one, Nat.min_eq_left hi] at this
    rw [Nat.mul_one, this, List.map_take]
/-- What lies beyond a row's length, within its capacity. -/
theorem Own.spare {k : IntKind} {e : TypeId} {w : World} {base g cap n : Nat} {zs : List Int} (hn : n = zs.length) (h : Own k e w base (.slice (some ⟨g, 0, none⟩) n cap) zs) (j : Nat) (hj : j < cap) : (w.cell? ⟨g, j, none⟩).isSome = true ∧ w.frozen? ⟨g, j, none⟩ = false := by
  subst hn
  refine ⟨?_, World.ownsRow.frozenAt (size := 1) h j⟩
  rcases h.2 with ⟨h1, hn⟩ | ⟨g', cap', cur, hv, hb, hg, hnc, hcm, hcs, htake⟩
  · cases h1
  · cases hv
    simp [World.cell?, hg]
    omega
theorem Own.cap_le {k : IntKind} {e : TypeId} {w : World} {base g cap n : Nat} {zs : List Int} (hn : n = zs.length) (h : Own k e w base (.slice (some ⟨g, 0, none⟩) n cap) zs) : n ≤ cap ∧ cap ≤ maxLen := by
  subst hn
  rcases h.2 with ⟨h1, hn⟩ | ⟨g', cap', cur, hv, hb, hg, hnc, hcm, hcs, htake⟩
  · cases h1
  · cases hv
    exact ⟨hnc, hcm⟩

set_option maxHeartbeats 2000000 in
/-- slices.Delete of one number of a row of the call's own. -/
theorem delete_any (g cap i n B : Nat) (zs : List Int) (w : World) (hn : n = zs.length) (h : Own .i64 3 w B (.slice (some ⟨g, 0, none⟩) n cap) zs) (hi : i < n) (h24 : n ≤ 24) :
    Calls Try.prog 33 #[.slice (some ⟨g, 0, none⟩) n cap, .int .i64 i, .int .i64 (i + 1 : Nat)] w fun e w' => e = .returned (.slice (some ⟨g, 0, none⟩) (n - 1) cap) ∧ Own .i64 3 w' B (.slice (some ⟨g, 0, none⟩) (n - 1) cap) (zs.eraseIdx i) ∧ Keeps (fun b => b = g) w w' := by
  obtain ⟨i0, hi0, hz0, hz1, hz2⟩ := info_parts info3
  obtain ⟨hcap, hmax⟩ := h.cap_le hn
  unfold maxLen at hmax
  obtain ⟨j, hj⟩ : ∃ j, j = i + 1 := ⟨_, rfl⟩
  rw [← hj]
  have hlt : i < j := by omega
  have hjn : j ≤ n := by omega
  obtain ⟨ys, hys⟩ : ∃ ys, ys = zs.drop j := ⟨_, rfl⟩
  have hyl : ys.length = n - j := by rw [hys, List.length_drop, hn]
  have hd : w.drew.ownsRow B 3 1 (.slice (some ⟨g, 0, none⟩) i cap) i ((zs.take i).map (Value.int .i64)) := by
    have := Own.head hn h i (by omega)
    unfold Own at this
    rw [List.length_take, Nat.min_eq_left (by omega)] at this
    exact this
  obtain ⟨A, hA, hsrc⟩ : ∃ A : Addr, (if cap = j then some (⟨g, 0, none⟩ : Addr) else some ⟨g, j, none⟩) = some A ∧ Hid (∀ t u, (ys.map (Value.int .i64))[t]? = some u → w.drew.cell? (A.add t) = some u) := by
    by_cases hc : cap = j
    · refine ⟨⟨g, 0, none⟩, by simp [hc], fun t u hu => ?_⟩
      have h0 : ys = [] := List.eq_nil_of_length_eq_zero (by omega)
      rw [h0] at hu
      simp at hu
    · refine ⟨⟨g, j, none⟩, by simp [hc], fun t u hu => ?_⟩
      have ht : t < n - j := by
        have := (List.getElem?_eq_some_iff.1 hu).1
        simpa [hyl] using this
      have hcell := (Own.cell hn h (j + t) (by omega)).1
      rw [Addr.add_lit]
      show w.cell? _ = _
      rw [hcell]
      rw [hys] at hu
      rw [List.getElem?_map, List.getElem?_drop, List.getElem?_eq_getElem (by omega)] at hu
      rw [List.getElem?_eq_getElem (by omega)]
      exact hu
  have HD : Hid (w.drew.ownsRow B 3 1 (.slice (some ⟨g, 0, none⟩) i cap) i ((zs.take i).map (Value.int .i64))) := hd
  have HY : Hid ((ys.map (Value.int .i64)).length = (n - j) * 1) := by show _ = _; rw [List.length_map, hyl, Nat.mul_one]
  have HE : Hid (zs.eraseIdx i = zs.take i ++ ys) := by show _ = _; rw [hys, List.eraseIdx_eq_take_drop_succ, hj]
  have HI : Hid (∀ u ∈ ys.map (Value.int .i64), u.oneCell' = true) := ints_oneCell _ _
  have HL : Hid ((zs.take i ++ ys).length = n - 1) := by show _ = _; rw [List.length_append, List.length_take, hyl]; omega
  rw [HE.out]
  have hic : i ≤ cap := by omega
  have hjc : j ≤ cap := by omega
  have HJ : Hid (j = i + 1) := hj
  clear h hd hys hyl hn hj
  go_enter Try.func33, Try.ntmps33
  go_wp2_with fail
  go_region_law (refine step_append_fits rfl (.tmp 22) (.tmp 25) 22 rfl B 3 i0 1 Try.underlying22 hi0 hz1 g i cap _ (by simp [Act.eval, Act.put]) HD.out A (n - j) (cap - j) (ys.map (Value.int .i64)) (by simp [Act.eval, Act.put]) HY.out hsrc.out HI.out (by omega) ?_; intro w1 hown1 hgr1)
  have HO1 : Hid (Own .i64 3 w1 B (.slice (some ⟨g, 0, none⟩) (n - 1) cap) (zs.take i ++ ys)) := by
    show World.ownsRow _ _ _ _ _ _ _
    have hj := HJ.out
    rw [HL.out, List.map_append, show n - 1 = i + (n - j) by omega]
    exact hown1
  have HK1 : Hid (Keeps (fun b => b = g) w w1) := ((Keeps.refl _ w).drew).grown hgr1 (fun k hk => .inl (by cases hk; rfl))
  have hm : i + (n - j) = n - 1 := by have := HJ.out; omega
  rw [hm]
  obtain ⟨hs1, hs2⟩ := Own.spare (by rw [HL.out]) HO1.out (n - 1) (by omega)
  have hcl : ∀ ty, (Builtin.clear_ #[22] ty #[.slice (some ⟨g, n - 1, none⟩) 1 (cap - (n - 1))]).run Try.prog w1 = .ok (.tuple #[]) (w1.setCells g (n - 1) (List.replicate 1 (.int .i64 0))) :=
    fun ty => Lib.run_clear_slice w1 _ _ ty _ Try.underlying22 Try.zeroValue3 rfl rfl g (n - 1) 1 _ (by omega) (fun t ht => by rw [show n - 1 + t = n - 1 by omega]; exact hs1) (fun t ht => by rw [show n - 1 + t = n - 1 by omega]; exact hs2)
  have HO2 : Hid (Own .i64 3 (w1.setCells g (n - 1) (List.replicate 1 (.int .i64 0))) B (.slice (some ⟨g, 0, none⟩) (n - 1) cap) (zs.take i ++ ys)) := by
    have := (Own.stored (by rw [HL.out]) HO1.out (n - 1) 0).1
    rw [List.set_eq_of_length_le (by rw [HL.out]; omega)] at this
    exact this
  have HK2 : Hid (Keeps (fun b => b = g) w (w1.setCells g (n - 1) (List.replicate 1 (.int .i64 0)))) := HK1.out.trans (keeps_setCells g _ _ _) (fun _ h => .inl h)
  have hm1 : n - (n - 1) = 1 := by omega
  have hm2 : ¬ cap = n - 1 := by omega
  clear hs1 hs2 hown1 hgr1 hm
  generalize w1.setCells g (n - 1) (List.replicate 1 (.int .i64 0)) = w2 at *
  have hmn : n - 1 ≤ n := by omega
  generalize n - 1 = m at *
  have hmc : n ≤ cap := hcap
  go_wp2_with (simp only [hcl])
  go_ret
  obtain rfl : m = n - 1 := by omega
  exact ⟨rfl, HO2.out, HK2.out⟩

theorem idx_ne {zs : List Int} {x : Int} {k : Nat} (h : k < zs.idxOf x) (hk : k < zs.length) : zs[k] ≠ x := by
  have := List.not_of_lt_findIdx (p := fun y => y == x) (xs := zs) h
  simpa using this
set_option maxHeartbeats 400000 in
/-- slices.Index of a number that is there. -/
theorem index_any (v : Value) (zs : List Int) (x : Int) (w : World) (hrow : Row .i64 w v zs) (hx : x ∈ zs) :
    Calls Try.prog 35 #[v, .int .i64 x] w fun e w' => e = .returned (.int .i64 (zs.idxOf x : Nat)) ∧ w' = w := by
  obtain ⟨a, cap, rfl, h1, h2, -, h4⟩ := hrow
  have hp : zs.idxOf x < zs.length := List.idxOf_lt_length_iff.2 hx
  have hml : zs.length ≤ 9223372036854775807 := by unfold maxLen at h2; omega
  obtain ⟨b, o, rfl, hc⟩ := h4 (by omega)
  have HC : Hid (∀ i, i < zs.length → w.cell? ⟨b, o + i, none⟩ = some (.int .i64 (zs[i]?.getD 0))) := hc
  have HAT : Hid (zs[zs.idxOf x]? = some x) := by show _ = _; rw [List.getElem?_eq_getElem hp, List.getElem_idxOf hp]
  have HNE : Hid (∀ k (hk : k < zs.length), k < zs.idxOf x → zs[k] ≠ x) := fun k hk h => idx_ne h hk
  clear hc h4 hx
  generalize zs.idxOf x = p at *
  go_enter Try.func35, Try.ntmps35
  go_wp2_with fail
  go_loop [8] (fun i => ∃ k : Nat, k ≤ p ∧ i = .int .i64 k) (fun i => zs.length - (intOf i).toNat)
  case atStart => exact ⟨0, Nat.zero_le _, rfl⟩
  case round =>
    obtain ⟨k, hk, rfl⟩ := hrel
    have hkl : k < zs.length := by omega
    have hck := HC.out k hkl
    by_cases hlt : k < p
    · have hne := HNE.out k hkl hlt
      rw [List.getElem?_eq_getElem hkl, Option.getD_some] at hck
      generalize zs[k] = z at *
      have hne' : ¬ x = z := fun e => hne e.symm
      go_wp2_with fail
      go_round
      case rel => exact ⟨k + 1, by omega, by simp⟩
      case measure => simp [intOf]; omega
    · obtain rfl : k = p := by omega
      rw [HAT.out, Option.getD_some] at hck
      go_wp2_with fail
      go_ret
      exact ⟨rfl, rfl⟩

/-- The row of those that are left: its variable's block lc, its cells' block g. -/
structure LRow (w : World) (B lc g cap : Nat) (zs : List Int) : Prop where
  cell : w.cell? ⟨lc, 0, none⟩ = some (.slice (some ⟨g, 0, none⟩) zs.length cap)
  fr : w.frozen? ⟨lc, 0, none⟩ = false
  own : Own .i64 3 w B (.slice (some ⟨g, 0, none⟩) zs.length cap) zs
  ne : lc ≠ g
section
variable {w w' : World} {B lc g cap : Nat} {zs : List Int}
/-- The row's blocks. -/
def rowF (lc g : Nat) : Nat → Prop := fun b => b = lc ∨ b = g
theorem LRow.lt (h : LRow w B lc g cap zs) : lc < w.heap.size ∧ g < w.heap.size ∧ B ≤ g :=
  ⟨cell_lt h.cell, (World.ownsRow.lt h.own g rfl).2, (World.ownsRow.lt h.own g rfl).1⟩
theorem LRow.keeps {F : Nat → Prop} (h : LRow w B lc g cap zs) (hk : Keeps F w w') (h1 : ¬ F lc) (h2 : ¬ F g) : LRow w' B lc g cap zs :=
  ⟨hk.cell h.cell h1, (hk.frozen (cell_lt h.cell) h1).trans h.fr, hk.row h.own (fun x hx => by cases hx; exact h2), h.ne⟩
theorem LRow.below (h : LRow w B lc g cap zs) (hb : Below w.heap.size w w') : LRow w' B lc g cap zs := h.keeps (Below.keeps hb (fun _ => False)) id id
theorem lrow_set {u : Value} {n : Nat} (hn : n = zs.length) (hc : w.cell? ⟨lc, 0, none⟩ = some u) (hf : w.frozen? ⟨lc, 0, none⟩ = false) (ho : Own .i64 3 w B (.slice (some ⟨g, 0, none⟩) n cap) zs) (hne : lc ≠ g) :
    LRow (w.setCell ⟨lc, 0, none⟩ (.slice (some ⟨g, 0, none⟩) n cap)) B lc g cap zs := by
  subst hn
  exact ⟨World.cell?_setCell_same _ _ _ hc, by rw [World.frozen?_setCell]; exact hf, (keeps_set w lc 0 _).row ho (fun x hx => by cases hx; exact fun e => hne e.symm), hne⟩

set_option maxHeartbeats 1000000 in
/-- leaveAt: the one at a place leaves. -/
theorem leaveAt_any (h : LRow w B lc g cap zs) (p : Nat) (hp : p < zs.length) (h24 : zs.length ≤ 24) :
    Calls Try.prog 32 #[.int .i64 p, .pointer (some ⟨lc, 0, none⟩)] w fun e w' => e = .returned (.int .i64 (zs[p]?.getD 0)) ∧ LRow w' B lc g cap (zs.eraseIdx p) ∧ Keeps (rowF lc g) w w' := by
  have hd := delete_any g cap p zs.length B zs w rfl h.own hp h24
  have hc := h.cell
  obtain ⟨hcp, -⟩ := Own.cell rfl h.own p hp
  have hle : (zs.eraseIdx p).length = zs.length - 1 := List.length_eraseIdx_of_lt hp
  have HL : Hid (LRow w B lc g cap zs) := h
  have HE : Hid ((zs.eraseIdx p).length = zs.length - 1) := hle
  clear h hle
  generalize zs[p]?.getD 0 = z at *
  generalize zs.eraseIdx p = ys at *
  obtain ⟨n, hn⟩ : ∃ n, n = zs.length := ⟨_, rfl⟩
  rw [← hn] at hd hc hp h24
  rw [← hn] at HE
  clear hn
  have hp0 : (0 : Int) ≤ (p : Int) := by omega
  have hp1 : (p : Int) < (n : Int) := by omega
  go_enter Try.func32, Try.ntmps32
  go_wp2_with fail
  refine hd.mono ?_
  rintro e w1 ⟨rfl, ho, hk⟩
  have hc1 := hk.cell hc (fun e => HL.out.ne e)
  have hf1 := (hk.frozen (cell_lt hc) (fun e => HL.out.ne e)).trans HL.out.fr
  have HR : Hid (LRow (w1.setCell ⟨lc, 0, none⟩ (.slice (some ⟨g, 0, none⟩) (n - 1) cap)) B lc g cap ys) := lrow_set HE.out.symm hc1 hf1 ho HL.out.ne
  have HK : Hid (Keeps (rowF lc g) w (w1.setCell ⟨lc, 0, none⟩ (.slice (some ⟨g, 0, none⟩) (n - 1) cap))) := (hk.mono (G := rowF lc g) (fun _ h => .inr h)).setCell (.inl (.inl rfl)) _
  clear hd ho hk hcp
  go_wp2_with fail
  go_ret
  exact ⟨rfl, HR.out, HK.out⟩

set_option maxHeartbeats 1000000 in
/-- leave: a vertex leaves, its place is told. -/
theorem leave_any {la : Nat} (h : LRow w B lc g cap zs) (hla : w.cell? ⟨la, 0, none⟩ = some (.func (.func 32) #[] #[.pointer (some ⟨lc, 0, none⟩)])) (x : Int) (hx : x ∈ zs) (h24 : zs.length ≤ 24) :
    Calls Try.prog 34 #[.int .i64 x, .pointer (some ⟨lc, 0, none⟩), .pointer (some ⟨la, 0, none⟩)] w fun e w' => e = .returned (.int .i64 (zs.idxOf x : Nat)) ∧ LRow w' B lc g cap (zs.eraseIdx (zs.idxOf x)) ∧ Keeps (rowF lc g) w w' := by
  have hi := index_any _ zs x w h.own.row hx
  have hd := leaveAt_any h (zs.idxOf x) (List.idxOf_lt_length_iff.2 hx) h24
  have hc := h.cell
  clear h hx
  generalize zs.idxOf x = p at *
  go_enter Try.func34, Try.ntmps34
  go_wp2_with fail
  refine hi.mono ?_
  rintro e w1 ⟨rfl, rfl⟩
  go_wp2_with fail
  refine hd.mono ?_
  rintro e w2 ⟨rfl, hr, hk⟩
  have HR : Hid (LRow w2 B lc g cap (zs.eraseIdx p)) := hr
  have HK : Hid (Keeps (rowF lc g) w1 w2) := hk
  clear hd hr hk hi
  go_wp2_with fail
  go_ret
  exact ⟨rfl, HR.out, HK.out⟩
end

set_option maxHeartbeats 1000000 in
theorem row_any (n : Nat) (hn : n ≤ 24) (w : World) :
    Calls Try.prog 29 #[.int .i64 n] w fun e w' => ∃ lc g cap, e = .returned (.tuple #[.func (.func 32) #[] #[.pointer (some ⟨lc, 0, none⟩)], .func (.func 34) #[] #[.pointer (some ⟨lc, 0, none⟩), .pointer (some ⟨w.heap.size, 0, none⟩)]]) ∧ LRow w' w.heap.size lc g cap (PM.rise n) ∧ w'.cell? ⟨w.heap.size, 0, none⟩ = some (.func (.func 32) #[] #[.pointer (some ⟨lc, 0, none⟩)]) ∧ w.heap.size < lc ∧ w.heap.size < g ∧ Below w.heap.size w w' := by
  have hr := rising_at n (w.alloc (.cells #[.nilFunc] 31))
  rw [cnt_nat hn] at hr
  go_enter Try.func29, Try.ntmps29
  go_wp2_with fail
  refine hr.mono ?_
  rintro e w1 ⟨rfl, ho, hb⟩
  simp only [World.size_alloc] at ho hb ⊢
  have hs : w.heap.size + 1 < w1.heap.size := (World.ownsRow.lt ho _ rfl).2
  have hc1 : w1.cell? ⟨w.heap.size, 0, none⟩ = some .nilFunc := by rw [hb.cell (by simp)]; simp
  have hf1 : w1.frozen? ⟨w.heap.size, 0, none⟩ = false := by rw [hb.frozen (by simp)]; simp
  have hb1 : Below w.heap.size w w1 := ((Below.refl _ w).alloc (Nat.le_refl _) _).trans (hb.mono (by omega))
  have HO : Hid (Own .i64 3 w1 (w.heap.size + 1) (.slice (some ⟨w.heap.size + 1, 0, none⟩) n n) (PM.rise n)) := ho
  clear ho hb hr
  have hbA : Below w1.heap.size w1 (w1.alloc (.cells #[.slice (some ⟨w.heap.size + 1, 0, none⟩) n n] 22)) := (Below.refl _ _).alloc (Nat.le_refl _) _
  have hc2 : (w1.alloc (.cells #[.slice (some ⟨w.heap.size + 1, 0, none⟩) n n] 22)).cell? ⟨w.heap.size, 0, none⟩ = some .nilFunc := by rw [hbA.cell (by dsimp only; omega)]; exact hc1
  have hf2 : (w1.alloc (.cells #[.slice (some ⟨w.heap.size + 1, 0, none⟩) n n] 22)).frozen? ⟨w.heap.size, 0, none⟩ = false := by rw [hbA.frozen (by dsimp only; omega)]; exact hf1
  have HA : Hid (Below w1.heap.size w1 (w1.alloc (.cells #[.slice (some ⟨w.heap.size + 1, 0, none⟩) n n] 22))) := hbA
  have hcl : (w1.alloc (.cells #[.slice (some ⟨w.heap.size + 1, 0, none⟩) n n] 22)).cell? ⟨w1.heap.size, 0, none⟩ = some (.slice (some ⟨w.heap.size + 1, 0, none⟩) n n) := by simp
  have hfl : (w1.alloc (.cells #[.slice (some ⟨w.heap.size + 1, 0, none⟩) n n] 22)).frozen? ⟨w1.heap.size, 0, none⟩ = false := by simp
  have HR : Hid (LRow (w1.alloc (.cells #[.slice (some ⟨w.heap.size + 1, 0, none⟩) n n] 22)) w.heap.size w1.heap.size (w.heap.size + 1) n (PM.rise n)) := by
    have e : (PM.rise n).length = n := by simp [PM.rise]
    refine ⟨by rw [e]; exact hcl, hfl, ?_, by omega⟩
    rw [e]
    exact (HO.out.below hbA).base_le (by omega)
  clear hbA hc1 hf1 hcl hfl
  have hb2 : Below w.heap.size w (w1.alloc (.cells #[.slice (some ⟨w.heap.size + 1, 0, none⟩) n n] 22)) := hb1.trans (HA.out.mono (by omega))
  clear HA
  go_wp2_with fail
  generalize w1.alloc (.cells #[.slice (some ⟨w.heap.size + 1, 0, none⟩) n n] 22) = w2 at *
  obtain ⟨F, hF⟩ : ∃ F, F = Value.func (.func 32) #[] #[.pointer (some ⟨w1.heap.size, 0, none⟩)] := ⟨_, rfl⟩
  have hc3 := World.cell?_setCell_same _ _ F hc2
  have hc4 := World.cell?_setCell_same _ _ F hc3
  have k3 : Keeps (fun b => b = w.heap.size) w2 ((w2.setCell ⟨w.heap.size, 0, none⟩ F).setCell ⟨w.heap.size, 0, none⟩ F) := (keeps_set _ _ _ _).trans (keeps_set _ _ _ _) (fun _ h => .inl h)
  have hr4 := HR.out.keeps k3 (by omega) (by omega)
  rw [hF] at hr4 hc4 k3
  refine bodyPost_ret (v := .tuple #[.func (.func 32) #[] #[.pointer (some ⟨w1.heap.size, 0, none⟩)], .func (.func 34) #[] #[.pointer (some ⟨w1.heap.size, 0, none⟩), .pointer (some ⟨w.heap.size, 0, none⟩)]]) ?_ rfl ⟨_, _, _, rfl, hr4, hc4, by omega, by omega, hb2.trans (k3.below (fun b hb => by omega) hb2.size)⟩
  simp [results, Try.f29, go_sem, hc4]
end Go.Proofs.Ytdfipaojahdgcaa
