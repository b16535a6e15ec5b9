/-
  GraphA, GraphCopy, NearTab.
-/
import Derived.Test.YtkcfepppnclniaaGreatDoorMmGraphMem
import Derived.Test.YtkcfepppnclniaaGreatDoorMmWalkMath
import Derived.Deep.WholeRow
section
/-
  The walks of graph's and the reference's smaller functions: New, Arc, Vertices, Copy, and what they lean on.
-/
namespace Go.Proofs.YtkcfepppnclniaaGreatDoor
open Go.RowKit

set_option maxHeartbeats 400000 in
theorem norm_any (a : Int) (w : World) :
    Calls Tryz.prog 89 #[.int .i64 a] w fun e w' => e = .returned (.int .i64 (GM.norm a)) ∧ w' = w := by
  go_enter Tryz.func89, Tryz.ntmps89
  go_wp2
  all_goals go_ret
  all_goals refine ⟨ret_int ?_, rfl⟩
  all_goals unfold GM.norm
  all_goals (repeat' split) <;> (try split at *) <;> omega
set_option maxHeartbeats 400000 in
theorem less_any (a b : Int) (w : World) :
    Calls Tryz.prog 66 #[.int .i64 a, .int .i64 b] w fun e w' => e = .returned (.bool (decide (GM.norm a < GM.norm b))) ∧ w' = w := by
  go_enter Tryz.func66, Tryz.ntmps66
  go_wp2_with (go_at_call 89; refine (norm_any _ _).mono ?_; rintro e w' ⟨rfl, rfl⟩)
  all_goals go_ret
  all_goals exact ⟨rfl, rfl⟩
set_option maxHeartbeats 400000 in
theorem weight_any (a : Int) (w : World) :
    Calls Tryz.prog 40 #[.int .i64 a] w fun e w' => e = .returned (.bool (GM.okW a)) ∧ w' = w := by
  by_cases h : 1 ≤ a
  all_goals
    go_enter Tryz.func40, Tryz.ntmps40
    go_wp2
    all_goals go_ret
    all_goals refine ⟨ret_bool ?_, rfl⟩
    all_goals unfold GM.okW
    all_goals simp
    all_goals omega
set_option maxHeartbeats 400000 in
theorem rweight_any (a : Int) (w : World) :
    Calls Tryz.prog 85 #[.int .i64 a] w fun e w' => e = .returned (.bool (GM.okW a)) ∧ w' = w := by
  by_cases h : 1 ≤ a
  all_goals
    go_enter Tryz.func85, Tryz.ntmps85
    go_wp2
    all_goals go_ret
    all_goals refine ⟨ret_bool ?_, rfl⟩
    all_goals unfold GM.okW
    all_goals simp
    all_goals omega
set_option maxHeartbeats 400000 in
theorem hasPlace_any (g : Value) (id : Int) (w : World) :
    Calls Tryz.prog 38 #[g, .int .i64 id] w fun e w' => e = .returned (.bool (GM.place id)) ∧ w' = w := by
  by_cases h : 0 ≤ id
  all_goals
    go_enter Tryz.func38, Tryz.ntmps38
    go_wp2
    all_goals go_ret
    all_goals refine ⟨ret_bool ?_, rfl⟩
    all_goals unfold GM.place
    all_goals simp
    all_goals omega
set_option maxHeartbeats 400000 in
theorem hasVertex_any {w : World} {p n most : Nat} {m : GM.M} (hg : GMem w p n most m) (v : Int) :
    Calls Tryz.prog 39 #[.pointer (some ⟨p, 0, none⟩), .int .i64 v] w fun e w' => e = .returned (.bool (GM.vert n v)) ∧ w' = w := by
  have c0 := hg.c0
  clear hg
  by_cases h : 0 ≤ v
  all_goals
    go_enter Tryz.func39, Tryz.ntmps39
    go_wp2
    all_goals go_ret
    all_goals refine ⟨ret_bool ?_, rfl⟩
    all_goals unfold GM.vert
    all_goals simp
    all_goals omega
set_option maxHeartbeats 400000 in
theorem vertex_any {w : World} {q n most : Nat} {m : GM.M} (hg : RMem w q n most m) (v : Int) :
    Calls Tryz.prog 84 #[.pointer (some ⟨q, 0, none⟩), .int .i64 v] w fun e w' => e = .returned (.bool (GM.vert n v)) ∧ w' = w := by
  have c0 := hg.c0
  clear hg
  by_cases h : 0 ≤ v
  all_goals
    go_enter Tryz.func84, Tryz.ntmps84
    go_wp2
    all_goals go_ret
    all_goals refine ⟨ret_bool ?_, rfl⟩
    all_goals unfold GM.vert
    all_goals simp
    all_goals omega
set_option maxHeartbeats 400000 in
theorem vertices_any {w : World} {p n most : Nat} {m : GM.M} (hg : GMem w p n most m) :
    Calls Tryz.prog 57 #[.pointer (some ⟨p, 0, none⟩)] w fun e w' => e = .returned (.int .i64 (n : Nat)) ∧ w' = w := by
  have c0 := hg.c0
  clear hg
  go_enter Tryz.func57, Tryz.ntmps57
  go_wp2
  go_ret
  exact ⟨rfl, rfl⟩
/-- May there be such a graph? -/
def may (n most : Int) : Bool := decide (1 ≤ n ∧ n ≤ 24 ∧ 1 ≤ most ∧ most ≤ 64)
set_option maxHeartbeats 1000000 in
theorem new_ok (n most : Nat) (hn : 1 ≤ n) (hn' : n ≤ 24) (hm : 1 ≤ most) (hm' : most ≤ 64) (w : World) :
    Calls Tryz.prog 17 #[.int .i64 n, .int .i64 most] w fun e w' => ∃ p, e = .returned (.tuple #[.pointer (some ⟨p, 0, none⟩), .int .i64 0]) ∧ p = w.heap.size ∧ GMem w' p n most GM.none0 ∧ Below w.heap.size w w' := by
  have h1 : ¬ (n : Int) < 1 := by omega
  have h2 : ¬ (24 : Int) < n := by omega
  have h3 : ¬ (most : Int) < 1 := by omega
  have h4 : ¬ (64 : Int) < most := by omega
  go_enter Tryz.func17, Tryz.ntmps17
  go_upto_region 3 with fail
  have hz := zeroG
  have hs := zG_size
  have hne := zG_ne
  have hst := zG_set n most
  generalize zG = Z at *
  go_wp2_with (simp only [hz])
  go_ret2
  exact ⟨w.heap.size, rfl, rfl, gmem_new _ _ _ _ _, (Below.refl _ _).alloc (Nat.le_refl _) _⟩
set_option maxHeartbeats 1000000 in
theorem new_no (n most : Int) (hn : ¬ (1 ≤ n ∧ n ≤ 24 ∧ 1 ≤ most ∧ most ≤ 64)) (w : World) :
    Calls Tryz.prog 17 #[.int .i64 n, .int .i64 most] w fun e w' => e = .returned (.tuple #[.pointer none, .int .i64 1]) ∧ w' = w := by
  by_cases h : n < 1
  all_goals by_cases h2 : 24 < n
  all_goals by_cases h3 : most < 1
  all_goals by_cases h4 : 64 < most
  all_goals first
    | (exfalso; omega)
    | (clear hn
       go_enter Tryz.func17, Tryz.ntmps17
       go_wp2
       go_ret2
       exact ⟨rfl, rfl⟩)
set_option maxHeartbeats 1000000 in
theorem rnew_any (n most : Nat) (w : World) :
    Calls Tryz.prog 18 #[.int .i64 n, .int .i64 most] w fun e w' => ∃ q, e = .returned (.pointer (some ⟨q, 0, none⟩)) ∧ q = w.heap.size ∧ RMem w' q n most GM.none0 ∧ Below w.heap.size w w' := by
  have hz := zeroR
  have hs := zR_size
  have hne := zR_ne
  have hst := zR_set n most
  generalize zR = Z at *
  go_enter Tryz.func18, Tryz.ntmps18
  go_wp2_with (simp only [hz])
  go_ret
  exact ⟨w.heap.size, rfl, rfl, rmem_new _ _ _ _ _, (Below.refl _ _).alloc (Nat.le_refl _) _⟩
set_option maxHeartbeats 1000000 in
theorem code_any {w : World} {q n most : Nat} {m : GM.M} (hg : RMem w q n most m) (id : Int) :
    Calls Tryz.prog 37 #[.pointer (some ⟨q, 0, none⟩), .int .i64 id] w fun e w' => e = .returned (.int .i64 (GM.atCode m id)) ∧ w' = w := by
  by_cases h : 0 ≤ id ∧ id < 64
  · obtain ⟨i, rfl⟩ : ∃ i : Nat, id = i := ⟨id.toNat, by omega⟩
    have hi : i < 64 := by omega
    have ct := hg.tk i hi
    have h1 : ¬ (i : Int) < 0 := by omega
    have h2 : ¬ 63 < (i : Int) := by omega
    have HC : Hid (GM.atCode m i = if GM.is m i then 0 else 3) := by
      show _ = _
      unfold GM.atCode
      rw [if_pos (show GM.place i = true from decide_eq_true h), Int.toNat_natCast]
    clear hg h
    generalize GM.is m i = b at *
    go_enter Tryz.func37, Tryz.ntmps37
    cases b
    all_goals
      go_wp2
      go_ret
      exact ⟨ret_int HC.out.symm, rfl⟩
  · have HC : Hid (GM.atCode m id = 1) := by
      show _ = _
      unfold GM.atCode
      rw [if_neg (by rw [show GM.place id = false from decide_eq_false h]; decide)]
    clear hg
    by_cases h1 : id < 0
    · go_enter Tryz.func37, Tryz.ntmps37
      go_wp2
      go_ret
      exact ⟨ret_int HC.out.symm, rfl⟩
    · have h2 : 63 < id := by omega
      clear h
      go_enter Tryz.func37, Tryz.ntmps37
      go_wp2
      go_ret
      exact ⟨ret_int HC.out.symm, rfl⟩


/-- The way out of Arc: the arc lies in its cell, the truth value in its slot. -/
theorem arc_out {w W : World} {t : Array Value} {g : Nat} {a : Arc} {b : Bool} (ht : t[4]?.getD undef = .pointer (some ⟨g, 0, none⟩)) (h5 : t[5]?.getD undef = .bool b) (hin : ArcIn W g 0 a) (hB : Below w.heap.size w W) :
    bodyPost Tryz.prog Tryz.f41 (fun e w' => e = .returned (.tuple #[arcV a, .bool b]) ∧ Below w.heap.size w w') Exit.ret { tmps := t, defers := [] } W := by
  obtain ⟨r0, r1, r2, r3⟩ := hin
  simp only [Nat.zero_add] at r1 r2 r3
  refine bodyPost_ret (v := .tuple #[arcV a, .bool b]) ?_ rfl ⟨rfl, hB⟩
  unfold arcV
  simp [results, Tryz.f41, go_sem, ht, h5, r0, r1, r2, r3]
theorem rarc_out {w W : World} {t : Array Value} {g : Nat} {a : Arc} {b : Bool} (ht : t[4]?.getD undef = .pointer (some ⟨g, 0, none⟩)) (h5 : t[5]?.getD undef = .bool b) (hin : ArcIn W g 0 a) (hB : Below w.heap.size w W) :
    bodyPost Tryz.prog Tryz.f11 (fun e w' => e = .returned (.tuple #[arcV a, .bool b]) ∧ Below w.heap.size w w') Exit.ret { tmps := t, defers := [] } W := by
  obtain ⟨r0, r1, r2, r3⟩ := hin
  simp only [Nat.zero_add] at r1 r2 r3
  refine bodyPost_ret (v := .tuple #[arcV a, .bool b]) ?_ rfl ⟨rfl, hB⟩
  unfold arcV
  simp [results, Tryz.f11, go_sem, ht, h5, r0, r1, r2, r3]
theorem arcIn_new (w : World) (t h x : Int) (c : Bool) : ArcIn (w.alloc (.cells #[.int .i64 t, .int .i64 h, .int .i64 x, .bool c] 35)) w.heap.size 0 ⟨t, h, x, c⟩ := by
  unfold ArcIn
  simp
set_option maxHeartbeats 1000000 in
theorem arc_no (g : Value) (id : Int) (hid : GM.place id = false) (w : World) :
    Calls Tryz.prog 41 #[g, .int .i64 id] w fun e w' => e = .returned (.tuple #[arcV noArc, .bool false]) ∧ Below w.heap.size w w' := by
  have hp := fun W => hasPlace_any g id W
  rw [hid] at hp
  have HP : Hid (∀ W, Calls Tryz.prog 38 #[g, .int .i64 id] W fun e w' => e = .returned (.bool false) ∧ w' = W) := hp
  clear hp
  have hb1 : Below w.heap.size w (w.alloc (.cells #[.int .i64 0, .int .i64 0, .int .i64 0, .bool false] 35)) := (Below.refl _ _).alloc (Nat.le_refl _) _
  have HN : Hid (ArcIn (w.alloc (.cells #[.int .i64 0, .int .i64 0, .int .i64 0, .bool false] 35)) w.heap.size 0 noArc) := arcIn_new _ _ _ _ _
  go_enter Tryz.func41, Tryz.ntmps41
  go_wp2_with fail
  refine (HP.out _).mono ?_
  rintro e w' ⟨rfl, rfl⟩
  go_wp2_with fail
  exact arc_out rfl rfl HN.out hb1
/-- Two arcs in blocks of their own, the first one zero. -/
theorem two_boxes (w : World) (t h x : Int) (c : Bool) : (∀ j, ((w.alloc (.cells #[.int .i64 0, .int .i64 0, .int .i64 0, .bool false] 35)).alloc (.cells #[.int .i64 t, .int .i64 h, .int .i64 x, .bool c] 35)).frozen? ⟨w.heap.size, j, none⟩ = false) ∧
    ArcIn ((w.alloc (.cells #[.int .i64 0, .int .i64 0, .int .i64 0, .bool false] 35)).alloc (.cells #[.int .i64 t, .int .i64 h, .int .i64 x, .bool c] 35)) w.heap.size 0 noArc ∧
    ArcIn ((w.alloc (.cells #[.int .i64 0, .int .i64 0, .int .i64 0, .bool false] 35)).alloc (.cells #[.int .i64 t, .int .i64 h, .int .i64 x, .bool c] 35)) (w.heap.size + 1) 0 ⟨t, h, x, c⟩ ∧ True ∧ True := by
  refine ⟨fun j => by simp, ?_, ?_, trivial, trivial⟩
  · unfold ArcIn noArc; simp
  · unfold ArcIn; simp
set_option maxHeartbeats 1000000 in
theorem arc_in {w : World} {p n most : Nat} {m : GM.M} (hg : GMem w p n most m) (hm : GM.Good most m) (i : Nat) (hi : i < 64) :
    Calls Tryz.prog 41 #[.pointer (some ⟨p, 0, none⟩), .int .i64 i] w fun e w' => e = .returned (.tuple #[arcV (GM.arc m i), .bool (GM.is m i)]) ∧ Below w.heap.size w w' := by
  have hp := fun W => hasPlace_any (.pointer (some ⟨p, 0, none⟩)) (i : Int) W
  rw [show GM.place (i : Int) = true from decide_eq_true (by omega)] at hp
  have HP : Hid (∀ W, Calls Tryz.prog 38 #[.pointer (some ⟨p, 0, none⟩), .int .i64 i] W fun e w' => e = .returned (.bool true) ∧ w' = W) := hp
  clear hp
  have hb1 : Below w.heap.size w (w.alloc (.cells #[.int .i64 0, .int .i64 0, .int .i64 0, .bool false] 35)) := (Below.refl _ _).alloc (Nat.le_refl _) _
  have hg1 := hg.on hb1
  obtain ⟨a0, a1, a2, a3⟩ := hg1.arc i hi
  have ht := hm.tells i
  have hw := fun W => weight_any (GM.arc m i).weight W
  rw [ht] at hw
  generalize GM.arc m i = a at *
  obtain ⟨t, h, x, c⟩ := a
  generalize GM.is m i = b at *
  dsimp only at a0 a1 a2 a3 hw
  unfold arcV
  dsimp only
  have HW : Hid (∀ W, Calls Tryz.prog 40 #[.int .i64 x] W fun e w' => e = .returned (.bool b) ∧ w' = W) := hw
  have hi' : (i : Int) < 64 := by omega
  clear hg hg1 hm ht hw
  go_enter Tryz.func41, Tryz.ntmps41
  go_wp2_with fail
  refine (HP.out _).mono ?_
  rintro e w' ⟨rfl, rfl⟩
  go_wp2_with fail
  have hb2 : Below w.heap.size w ((w.alloc (.cells #[.int .i64 0, .int .i64 0, .int .i64 0, .bool false] 35)).alloc (.cells #[.int .i64 t, .int .i64 h, .int .i64 x, .bool c] 35)) := hb1.alloc (by simp) _
  obtain ⟨b0, b1, b2, b3, b4⟩ := two_boxes w t h x c
  clear a0 a1 a2 a3 hb1
  generalize (w.alloc (.cells #[.int .i64 0, .int .i64 0, .int .i64 0, .bool false] 35)).alloc (.cells #[.int .i64 t, .int .i64 h, .int .i64 x, .bool c] 35) = w1 at *
  obtain ⟨d0, d1, d2, d3⟩ := b1
  obtain ⟨e0, e1, e2, e3⟩ := b2
  dsimp only at d0 d1 d2 d3 e0 e1 e2 e3
  simp only [Nat.zero_add] at d1 d2 d3 e1 e2 e3
  have f0 := b0 0
  have f1 := b0 1
  have f2 := b0 2
  have f3 := b0 3
  clear b0 b3 b4
  have HN : Hid (ArcIn ((((w1.setCell ⟨w.heap.size, 0, none⟩ (.int .i64 t)).setCell ⟨w.heap.size, 1, none⟩ (.int .i64 h)).setCell ⟨w.heap.size, 2, none⟩ (.int .i64 x)).setCell ⟨w.heap.size, 3, none⟩ (.bool c)).drew w.heap.size 0 ⟨t, h, x, c⟩) := by
    have := arcSet_in (w := w1) (b := w.heap.size) (o := 0) (a0 := noArc) ⟨d0, d1, d2, d3⟩ ⟨t, h, x, c⟩
    unfold arcSet at this
    simp only [Nat.zero_add] at this
    exact this
  have HB : Hid (Below w.heap.size w ((((w1.setCell ⟨w.heap.size, 0, none⟩ (.int .i64 t)).setCell ⟨w.heap.size, 1, none⟩ (.int .i64 h)).setCell ⟨w.heap.size, 2, none⟩ (.int .i64 x)).setCell ⟨w.heap.size, 3, none⟩ (.bool c)).drew) := ((((hb2.setCell (p := ⟨w.heap.size, 0, none⟩) (Nat.le_refl _) _).setCell (p := ⟨w.heap.size, 1, none⟩) (Nat.le_refl _) _).setCell (p := ⟨w.heap.size, 2, none⟩) (Nat.le_refl _) _).setCell (p := ⟨w.heap.size, 3, none⟩) (Nat.le_refl _) _).drew
  clear hb2
  go_region_with (go_at_call 40; refine (HW.out _).mono ?_; rintro e w9 ⟨rfl, hw9⟩; rw [hw9]; clear hw9 w9)
  all_goals
    go_wp2_with fail
    exact arc_out rfl rfl HN.out HB.out
/-- The program's Arc, of any number. -/
theorem arc_any {w : World} {p n most : Nat} {m : GM.M} (hg : GMem w p n most m) (hm : GM.Good most m) (id : Int) :
    Calls Tryz.prog 41 #[.pointer (some ⟨p, 0, none⟩), .int .i64 id] w fun e w' => e = .returned (.tuple #[arcV (GM.look m id).1, .bool (GM.look m id).2]) ∧ Below w.heap.size w w' := by
  unfold GM.look
  cases h : GM.place id with
  | true =>
    obtain ⟨i, rfl, hi⟩ := GM.place_nat h
    rw [Int.toNat_natCast]
    exact arc_in hg hm i hi
  | false => exact arc_no _ _ h w
set_option maxHeartbeats 1000000 in
/-- The document's. -/
theorem rarc_any {w : World} {q n most : Nat} {m : GM.M} (hg : RMem w q n most m) (id : Int) :
    Calls Tryz.prog 11 #[.pointer (some ⟨q, 0, none⟩), .int .i64 id] w fun e w' => e = .returned (.tuple #[arcV (GM.look m id).1, .bool (GM.look m id).2]) ∧ Below w.heap.size w w' := by
  have hb1 : Below w.heap.size w (w.alloc (.cells #[.int .i64 0, .int .i64 0, .int .i64 0, .bool false] 35)) := (Below.refl _ _).alloc (Nat.le_refl _) _
  have HN : Hid (ArcIn (w.alloc (.cells #[.int .i64 0, .int .i64 0, .int .i64 0, .bool false] 35)) w.heap.size 0 noArc) := arcIn_new _ _ _ _ _
  have hg1 := hg.on hb1
  have hc := code_any hg1 id
  clear hg
  by_cases h0 : GM.atCode m id = 0
  · obtain ⟨i, rfl, hi, hs⟩ := GM.atCode_zero h0
    rw [h0] at hc
    obtain ⟨a0, a1, a2, a3⟩ := hg1.arc i hi
    have hl : GM.look m (i : Int) = (GM.arc m i, true) := by
      unfold GM.look
      rw [if_pos (show GM.place i = true from decide_eq_true (by omega)), Int.toNat_natCast, hs]
    rw [hl]
    have hi' : (i : Int) < 64 := by omega
    generalize GM.arc m i = a at *
    obtain ⟨t, h, x, c⟩ := a
    dsimp only at a0 a1 a2 a3
    clear hl h0 hs hg1
    go_enter Tryz.func11, Tryz.ntmps11
    go_wp2_with fail
    refine hc.mono ?_
    rintro e w9 ⟨rfl, hw9⟩
    rw [hw9]
    clear hw9 w9 hc
    go_wp2_with fail
    have hin := arcIn_new w t h x c
    have hbe : Below w.heap.size w (w.alloc (.cells #[.int .i64 t, .int .i64 h, .int .i64 x, .bool c] 35)) := (Below.refl _ _).alloc (Nat.le_refl _) _
    exact rarc_out rfl rfl hin hbe
  · have hl : GM.look m id = (noArc, false) := by
      unfold GM.look
      cases hp : GM.place id with
      | true =>
        unfold GM.atCode at h0
        rw [if_pos hp] at h0
        cases hs : GM.is m id.toNat with
        | true => rw [hs] at h0; simp at h0
        | false => rw [if_pos rfl, GM.arc_none hs]
      | false => rfl
    rw [hl]
    have h0' : (GM.atCode m id != 0) = true := by simpa using h0
    clear hl hg1
    generalize GM.atCode m id = k at *
    go_enter Tryz.func11, Tryz.ntmps11
    go_wp2_with fail
    refine hc.mono ?_
    rintro e w9 ⟨rfl, hw9⟩
    rw [hw9]
    clear hw9 w9 hc
    go_wp2_with fail
    exact rarc_out rfl rfl HN.out hb1
end Go.Proofs.YtkcfepppnclniaaGreatDoor
end

section
/-
  The walk of graph's Copy: a whole graph out of its block, and into a new one.
-/
namespace Go.Proofs.YtkcfepppnclniaaGreatDoor
open Go.RowKit

/-- A whole struct (or array) out of its cells, whatever lies around them. -/
theorem wpList_load_cells {P : Program} {ops : Array Oper} {rest : List Oper} {o : Oper} {a : Act} {w : World} {Q : Exit → Act → World → Prop} (hgd : o.guard = none) (ty : TypeId) (x : Operand) (ho : o.op = .load ty x)
    (g : Nat) (hx : a.eval x = .pointer (some ⟨g, 0, none⟩)) (cs : List Value) (d : TypeDesc) (hu : P.underlying ty = some d) (hd : (match d with | .struct _ | .array _ _ => true | _ => false) = true) (hi : (P.info? ty).map (·.size) = some cs.length)
    (hc : ∀ j v, cs[j]? = some v → w.cell? ((⟨g, 0, none⟩ : Addr).add j) = some v)
    (h : wpList P ops Q rest (a.put o.dst (.agg cs.toArray)) w) : wpList P ops Q (o :: rest) a w := by
  refine wpList_plain hgd fun _ hK => ?_
  have hl : (loadCells ⟨g, 0, none⟩ cs.length).run P w = .ok cs.toArray w := run_loadCells_list (P := P) w ⟨g, 0, none⟩ cs hc
  have hv : (loadVar ty ⟨g, 0, none⟩).run P w = .ok (.agg cs.toArray) w := by
    cases hq : P.info? ty with
    | none => simp [hq] at hi
    | some i =>
      have hs : i.size = cs.length := by simpa [hq] using hi
      have hagg : (isAgg ty).run P w = .ok true w := by
        unfold isAgg
        rw [Sem.run_bind, run_underlying hu w]
        cases d <;> simp_all
      simp [loadVar, Sem.run_bind, hagg, sizeOf, typeInfo, hq, hs, hl]
  unfold Oper.wp execOp
  simp only [ho, hx, Instr.loadAt, Instr.sureAddr, Sem.run_bind, Sem.run_pure, Result.andThen_ok, hv]
  exact hK _ _ h
theorem infoG : (Tryz.prog.info? 82).map (·.size) = some 258 := by kernel_rfl
theorem infoR : (Tryz.prog.info? 41).map (·.size) = some 322 := by kernel_rfl
theorem all_one {l : List Value} (h : ∀ v ∈ l, v.oneCell' = true) : l.toArray.all (·.oneCell') = true := by
  rw [Array.all_eq_true_iff_forall_mem]
  intro v hv
  exact h v (by simpa using hv)

end Go.Proofs.YtkcfepppnclniaaGreatDoor
end

section
/-
  A table of 24 rows of 24 numbers in a block.
-/
namespace Go.Proofs.YtkcfepppnclniaaGreatDoor
open Go.RowKit

/-- The table D lies in block b. -/
structure TMem (w : World) (b : Nat) (D : Nat → Nat → Int) : Prop where
  c : ∀ s t, s < 24 → t < 24 → w.cell? ⟨b, s * 24 + t, none⟩ = some (.int .i64 (D s t))
  fz : ∀ j, w.frozen? ⟨b, j, none⟩ = false
def tabCells (D : Nat → Nat → Int) : List Value := (List.range 576).map (fun j => Value.int .i64 (D (j / 24) (j % 24)))
theorem tabCells_len (D : Nat → Nat → Int) : (tabCells D).length = 576 := by simp [tabCells]
theorem tabCells_get (D : Nat → Nat → Int) {s t : Nat} (hs : s < 24) (ht : t < 24) : (tabCells D)[s * 24 + t]? = some (.int .i64 (D s t)) := by
  unfold tabCells
  rw [List.getElem?_map, List.getElem?_range (by omega)]
  simp only [Option.map_some]
  rw [show (s * 24 + t) / 24 = s by omega, show (s * 24 + t) % 24 = t by omega]
theorem tabCells_one (D : Nat → Nat → Int) : ∀ v ∈ tabCells D, v.oneCell' = true := by
  intro v hv
  obtain ⟨j, _, rfl⟩ := List.mem_map.1 hv
  rfl
section
variable {w w' : World} {b : Nat} {D D' : Nat → Nat → Int}
theorem TMem.lt (h : TMem w b D) : b < w.heap.size := cell_lt (h.c 0 0 (by omega) (by omega))
theorem TMem.of_block (h : TMem w b D) (hb : w'.heap[b]? = w.heap[b]?) : TMem w' b D :=
  ⟨fun s t hs ht => (World.cell?_of_block (a := ⟨b, s * 24 + t, none⟩) hb).trans (h.c s t hs ht), fun j => (World.frozen?_of_block (a := ⟨b, j, none⟩) hb).trans (h.fz j)⟩
theorem TMem.on (h : TMem w b D) (hb : Below w.heap.size w w') : TMem w' b D := h.of_block (hb.block b h.lt)
theorem TMem.congr (h : TMem w b D) (e : ∀ s t, s < 24 → t < 24 → D s t = D' s t) : TMem w b D' := ⟨fun s t hs ht => by rw [← e s t hs ht]; exact h.c s t hs ht, h.fz⟩
theorem TMem.set (h : TMem w b D) {s t : Nat} (hs : s < 24) (ht : t < 24) (x : Int) : TMem (w.setCell ⟨b, s * 24 + t, none⟩ (.int .i64 x)) b (NM.set2 D s t x) where
  c s' t' hs' ht' := by
    unfold NM.set2
    by_cases e : s' = s ∧ t' = t
    · obtain ⟨rfl, rfl⟩ := e
      rw [if_pos ⟨rfl, rfl⟩]
      exact World.cell?_setCell_same _ _ _ (h.c s' t' hs' ht')
    · rw [if_neg e, cell_other _ (by omega)]
      exact h.c s' t' hs' ht'
  fz j := by simpa using h.fz j
theorem TMem.cells (h : TMem w b D) : ∀ j v, (tabCells D)[j]? = some v → w.cell? ((⟨b, 0, none⟩ : Addr).add j) = some v := by
  intro j v hv
  have ea : (⟨b, 0, none⟩ : Addr).add j = ⟨b, j, none⟩ := by rw [Addr.add_lit]; simp
  have hj : j < 576 := by have := (List.getElem?_eq_some_iff.1 hv).1; rwa [tabCells_len] at this
  rw [ea, ← hv]
  have h1 := h.c (j / 24) (j % 24) (by omega) (by omega)
  have h2 := tabCells_get D (s := j / 24) (t := j % 24) (by omega) (by omega)
  rw [show j / 24 * 24 + j % 24 = j by omega] at h1 h2
  rw [h1, h2]
end
theorem tmem_new (w : World) (D : Nat → Nat → Int) (t : TypeId) : TMem (w.alloc (.cells (tabCells D).toArray t)) w.heap.size D where
  c s t hs ht := by
    rw [World.cell?_alloc_new, List.getElem?_toArray]
    exact tabCells_get D hs ht
  fz j := by simp
def zT : Array Value := (tabCells (fun _ _ => 0)).toArray
theorem zeroT (w : World) : (zeroValue 84).run Tryz.prog w = .ok (.agg zT) w := by kernel_rfl
theorem zT_size : zT.size = 576 := by simp [zT, tabCells_len]
theorem zT_ne : (zT = #[]) = False := eq_false (fun h => by have := congrArg Array.size h; rw [zT_size] at this; cases this)
theorem infoT : (Tryz.prog.info? 84).map (·.size) = some 576 := by kernel_rfl
/-- Two tables of noughts, just laid. -/
theorem two_tabs (w : World) : ∃ w2, w2 = (w.alloc (.cells zT 84)).alloc (.cells zT 84) ∧ TMem w2 w.heap.size (fun _ _ => 0) ∧ TMem w2 (w.heap.size + 1) (fun _ _ => 0) ∧ Below w.heap.size w w2 ∧ w2.heap.size = w.heap.size + 2 ∧ w2.heap[w.heap.size]? = some (.cells zT 84 (0, 0)) := by
  refine ⟨_, rfl, (tmem_new w (fun _ _ => 0) _).on ((Below.refl _ _).alloc (Nat.le_refl _) _), ?_, ((Below.refl _ _).alloc (Nat.le_refl _) _).alloc (by simp) _, by simp, (Below.heap_alloc _ _ _ (by simp)).trans (heap_alloc_new w _)⟩
  have := tmem_new (w.alloc (.cells zT 84)) (fun _ _ => 0) 84
  rwa [World.size_alloc] at this
theorem loadVar_cells {P : Program} {w : World} (ty : TypeId) (g : Nat) (cs : List Value) (d : TypeDesc) (hu : P.underlying ty = some d) (hd : (match d with | .struct _ | .array _ _ => true | _ => false) = true) (hi : (P.info? ty).map (·.size) = some cs.length)
    (hc : ∀ j v, cs[j]? = some v → w.cell? ((⟨g, 0, none⟩ : Addr).add j) = some v) : (loadVar ty ⟨g, 0, none⟩).run P w = .ok (.agg cs.toArray) w := by
  have hl : (loadCells ⟨g, 0, none⟩ cs.length).run P w = .ok cs.toArray w := run_loadCells_list (P := P) w ⟨g, 0, none⟩ cs hc
  cases hq : P.info? ty with
  | none => simp [hq] at hi
  | some i =>
    have hs : i.size = cs.length := by simpa [hq] using hi
    have hagg : (isAgg ty).run P w = .ok true w := by
      unfold isAgg
      rw [Sem.run_bind, run_underlying hu w]
      cases d <;> simp_all
    simp [loadVar, Sem.run_bind, hagg, sizeOf, typeInfo, hq, hs, hl]
/-- A block that is laid over whole. -/
theorem tmem_row {w : World} {g : Nat} {t : TypeId} {old : Array Value} (hg : w.heap[g]? = some (.cells old t (0, 0))) (D : Nat → Nat → Int) : TMem (w.setRow g (tabCells D).toArray) g D := by
  have hb : (w.setRow g (tabCells D).toArray).heap[g]? = some (.cells (tabCells D).toArray t (0, 0)) := setRow_heap w g old _ t (0, 0) hg
  refine ⟨fun s t' hs ht => ?_, fun j => ?_⟩
  · rw [cell_of_row _ g (s * 24 + t') _ t (0, 0) hb, List.getElem?_toArray]
    exact tabCells_get D hs ht
  · simp [World.frozen?, hb]
theorem keeps_row (w : World) (g : Nat) (cs : Array Value) : Keeps (fun b => b = g) w (w.setRow g cs) := by
  exact ⟨rfl, rfl, rfl, by simp, fun k _ hn => setRow_other w g k cs hn⟩
end Go.Proofs.YtkcfepppnclniaaGreatDoor
end
