/-
  The walks of graph's and the reference's smaller functions: New, Arc, Vertices, Copy, and what they lean on.
-/
import Derived.Test.YtleckkpfnjpbiaaGraphMem
namespace Go.Proofs.Ytleckkpfnjpbiaa
open Go.RowKit

set_option maxHeartbeats 400000 in
theorem norm_any (a : Int) (w : World) :
    Calls Try.prog 49 #[.int .i64 a] w fun e w' => e = .returned (.int .i64 (GM.norm a)) ∧ w' = w := by
  go_enter Try.func49, Try.ntmps49
  go_wp2
  all_goals go_ret
  all_goals refine ⟨ret_int ?_, rfl⟩
  all_goals unfold GM.norm
  all_goals (repeat' split) <;> (try split at *) <;> omega
set_option maxHeartbeats 400000 in
theorem less_any (a b : Int) (w : World) :
    Calls Try.prog 43 #[.int .i64 a, .int .i64 b] w fun e w' => e = .returned (.bool (decide (GM.norm a < GM.norm b))) ∧ w' = w := by
  go_enter Try.func43, Try.ntmps43
  go_wp2_with (go_at_call 49; refine (norm_any _ _).mono ?_; rintro e w' ⟨rfl, rfl⟩)
  all_goals go_ret
  all_goals exact ⟨rfl, rfl⟩
set_option maxHeartbeats 400000 in
theorem weight_any (a : Int) (w : World) :
    Calls Try.prog 66 #[.int .i64 a] w fun e w' => e = .returned (.bool (GM.okW a)) ∧ w' = w := by
  by_cases h : 1 ≤ a
  all_goals
    go_enter Try.func66, Try.ntmps66
    go_wp2
    all_goals go_ret
    all_goals refine ⟨ret_bool ?_, rfl⟩
    all_goals unfold GM.okW
    all_goals simp
    all_goals omega
set_option maxHeartbeats 400000 in
theorem rweight_any (a : Int) (w : World) :
    Calls Try.prog 74 #[.int .i64 a] w fun e w' => e = .returned (.bool (GM.okW a)) ∧ w' = w := by
  by_cases h : 1 ≤ a
  all_goals
    go_enter Try.func74, Try.ntmps74
    go_wp2
    all_goals go_ret
    all_goals refine ⟨ret_bool ?_, rfl⟩
    all_goals unfold GM.okW
    all_goals simp
    all_goals omega
set_option maxHeartbeats 400000 in
theorem hasPlace_any (g : Value) (id : Int) (w : World) :
    Calls Try.prog 64 #[g, .int .i64 id] w fun e w' => e = .returned (.bool (GM.place id)) ∧ w' = w := by
  by_cases h : 0 ≤ id
  all_goals
    go_enter Try.func64, Try.ntmps64
    go_wp2
    all_goals go_ret
    all_goals refine ⟨ret_bool ?_, rfl⟩
    all_goals unfold GM.place
    all_goals simp
    all_goals omega
set_option maxHeartbeats 400000 in
theorem hasVertex_any {w : World} {p n most : Nat} {m : GM.M} (hg : GMem w p n most m) (v : Int) :
    Calls Try.prog 65 #[.pointer (some ⟨p, 0, none⟩), .int .i64 v] w fun e w' => e = .returned (.bool (GM.vert n v)) ∧ w' = w := by
  have c0 := hg.c0
  clear hg
  by_cases h : 0 ≤ v
  all_goals
    go_enter Try.func65, Try.ntmps65
    go_wp2
    all_goals go_ret
    all_goals refine ⟨ret_bool ?_, rfl⟩
    all_goals unfold GM.vert
    all_goals simp
    all_goals omega
set_option maxHeartbeats 400000 in
theorem vertex_any {w : World} {q n most : Nat} {m : GM.M} (hg : RMem w q n most m) (v : Int) :
    Calls Try.prog 73 #[.pointer (some ⟨q, 0, none⟩), .int .i64 v] w fun e w' => e = .returned (.bool (GM.vert n v)) ∧ w' = w := by
  have c0 := hg.c0
  clear hg
  by_cases h : 0 ≤ v
  all_goals
    go_enter Try.func73, Try.ntmps73
    go_wp2
    all_goals go_ret
    all_goals refine ⟨ret_bool ?_, rfl⟩
    all_goals unfold GM.vert
    all_goals simp
    all_goals omega
set_option maxHeartbeats 400000 in
theorem vertices_any {w : World} {p n most : Nat} {m : GM.M} (hg : GMem w p n most m) :
    Calls Try.prog 40 #[.pointer (some ⟨p, 0, none⟩)] w fun e w' => e = .returned (.int .i64 (n : Nat)) ∧ w' = w := by
  have c0 := hg.c0
  clear hg
  go_enter Try.func40, Try.ntmps40
  go_wp2
  go_ret
  exact ⟨rfl, rfl⟩
/-- May there be such a graph? -/
def may (n most : Int) : Bool := decide (1 ≤ n ∧ n ≤ 24 ∧ 1 ≤ most ∧ most ≤ 64)
set_option maxHeartbeats 1000000 in
theorem new_ok (n most : Nat) (hn : 1 ≤ n) (hn' : n ≤ 24) (hm : 1 ≤ most) (hm' : most ≤ 64) (w : World) :
    Calls Try.prog 36 #[.int .i64 n, .int .i64 most] w fun e w' => ∃ p, e = .returned (.tuple #[.pointer (some ⟨p, 0, none⟩), .int .i64 0]) ∧ p = w.heap.size ∧ GMem w' p n most GM.none0 ∧ Below w.heap.size w w' := by
  have h1 : ¬ (n : Int) < 1 := by omega
  have h2 : ¬ (24 : Int) < n := by omega
  have h3 : ¬ (most : Int) < 1 := by omega
  have h4 : ¬ (64 : Int) < most := by omega
  go_enter Try.func36, Try.ntmps36
  go_upto_region 3 with fail
  have hz := zeroG
  have hs := zG_size
  have hne := zG_ne
  have hst := zG_set n most
  generalize zG = Z at *
  go_wp2_with (simp only [hz])
  go_ret2
  exact ⟨w.heap.size, rfl, rfl, gmem_new _ _ _ _ _, (Below.refl _ _).alloc (Nat.le_refl _) _⟩
set_option maxHeartbeats 1000000 in
theorem new_no (n most : Int) (hn : ¬ (1 ≤ n ∧ n ≤ 24 ∧ 1 ≤ most ∧ most ≤ 64)) (w : World) :
    Calls Try.prog 36 #[.int .i64 n, .int .i64 most] w fun e w' => e = .returned (.tuple #[.pointer none, .int .i64 1]) ∧ w' = w := by
  by_cases h : n < 1
  all_goals by_cases h2 : 24 < n
  all_goals by_cases h3 : most < 1
  all_goals by_cases h4 : 64 < most
  all_goals first
    | (exfalso; omega)
    | (clear hn
       go_enter Try.func36, Try.ntmps36
       go_wp2
       go_ret2
       exact ⟨rfl, rfl⟩)
set_option maxHeartbeats 1000000 in
theorem rnew_any (n most : Nat) (w : World) :
    Calls Try.prog 37 #[.int .i64 n, .int .i64 most] w fun e w' => ∃ q, e = .returned (.pointer (some ⟨q, 0, none⟩)) ∧ q = w.heap.size ∧ RMem w' q n most GM.none0 ∧ Below w.heap.size w w' := by
  have hz := zeroR
  have hs := zR_size
  have hne := zR_ne
  have hst := zR_set n most
  generalize zR = Z at *
  go_enter Try.func37, Try.ntmps37
  go_wp2_with (simp only [hz])
  go_ret
  exact ⟨w.heap.size, rfl, rfl, rmem_new _ _ _ _ _, (Below.refl _ _).alloc (Nat.le_refl _) _⟩
set_option maxHeartbeats 1000000 in
theorem code_any {w : World} {q n most : Nat} {m : GM.M} (hg : RMem w q n most m) (id : Int) :
    Calls Try.prog 76 #[.pointer (some ⟨q, 0, none⟩), .int .i64 id] w fun e w' => e = .returned (.int .i64 (GM.atCode m id)) ∧ w' = w := by
  by_cases h : 0 ≤ id ∧ id < 64
  · obtain ⟨i, rfl⟩ : ∃ i : Nat, id = i := ⟨id.toNat, by omega⟩
    have hi : i < 64 := by omega
    have ct := hg.tk i hi
    have h1 : ¬ (i : Int) < 0 := by omega
    have h2 : ¬ 63 < (i : Int) := by omega
    have HC : Hid (GM.atCode m i = if GM.is m i then 0 else 3) := by
      show _ = _
      unfold GM.atCode
      rw [if_pos (show GM.place i = true from decide_eq_true h), Int.toNat_natCast]
    clear hg h
    generalize GM.is m i = b at *
    go_enter Try.func76, Try.ntmps76
    cases b
    all_goals
      go_wp2
      go_ret
      exact ⟨ret_int HC.out.symm, rfl⟩
  · have HC : Hid (GM.atCode m id = 1) := by
      show _ = _
      unfold GM.atCode
      rw [if_neg (by rw [show GM.place id = false from decide_eq_false h]; decide)]
    clear hg
    by_cases h1 : id < 0
    · go_enter Try.func76, Try.ntmps76
      go_wp2
      go_ret
      exact ⟨ret_int HC.out.symm, rfl⟩
    · have h2 : 63 < id := by omega
      clear h
      go_enter Try.func76, Try.ntmps76
      go_wp2
      go_ret
      exact ⟨ret_int HC.out.symm, rfl⟩


/-- The way out of Arc: the arc lies in its cell, the truth value in its slot. -/
theorem arc_out {w W : World} {t : Array Value} {g : Nat} {a : Arc} {b : Bool} (ht : t[4]?.getD undef = .pointer (some ⟨g, 0, none⟩)) (h5 : t[5]?.getD undef = .bool b) (hin : ArcIn W g 0 a) (hB : Below w.heap.size w W) :
    bodyPost Try.prog Try.f67 (fun e w' => e = .returned (.tuple #[arcV a, .bool b]) ∧ Below w.heap.size w w') Exit.ret { tmps := t, defers := [] } W := by
  obtain ⟨r0, r1, r2, r3⟩ := hin
  simp only [Nat.zero_add] at r1 r2 r3
  refine bodyPost_ret (v := .tuple #[arcV a, .bool b]) ?_ rfl ⟨rfl, hB⟩
  unfold arcV
  simp [results, Try.f67, go_sem, ht, h5, r0, r1, r2, r3]
theorem arcIn_new (w : World) (t h x : Int) (c : Bool) : ArcIn (w.alloc (.cells #[.int .i64 t, .int .i64 h, .int .i64 x, .bool c] 83)) w.heap.size 0 ⟨t, h, x, c⟩ := by
  unfold ArcIn
  simp
set_option maxHeartbeats 1000000 in
theorem arc_no (g : Value) (id : Int) (hid : GM.place id = false) (w : World) :
    Calls Try.prog 67 #[g, .int .i64 id] w fun e w' => e = .returned (.tuple #[arcV noArc, .bool false]) ∧ Below w.heap.size w w' := by
  have hp := fun W => hasPlace_any g id W
  rw [hid] at hp
  have HP : Hid (∀ W, Calls Try.prog 64 #[g, .int .i64 id] W fun e w' => e = .returned (.bool false) ∧ w' = W) := hp
  clear hp
  have hb1 : Below w.heap.size w (w.alloc (.cells #[.int .i64 0, .int .i64 0, .int .i64 0, .bool false] 83)) := (Below.refl _ _).alloc (Nat.le_refl _) _
  have HN : Hid (ArcIn (w.alloc (.cells #[.int .i64 0, .int .i64 0, .int .i64 0, .bool false] 83)) w.heap.size 0 noArc) := arcIn_new _ _ _ _ _
  go_enter Try.func67, Try.ntmps67
  go_wp2_with fail
  refine (HP.out _).mono ?_
  rintro e w' ⟨rfl, rfl⟩
  go_wp2_with fail
  exact arc_out rfl rfl HN.out hb1
/-- Two arcs in blocks of their own, the first one zero. -/
theorem two_boxes (w : World) (t h x : Int) (c : Bool) : (∀ j, ((w.alloc (.cells #[.int .i64 0, .int .i64 0, .int .i64 0, .bool false] 83)).alloc (.cells #[.int .i64 t, .int .i64 h, .int .i64 x, .bool c] 83)).frozen? ⟨w.heap.size, j, none⟩ = false) ∧
    ArcIn ((w.alloc (.cells #[.int .i64 0, .int .i64 0, .int .i64 0, .bool false] 83)).alloc (.cells #[.int .i64 t, .int .i64 h, .int .i64 x, .bool c] 83)) w.heap.size 0 noArc ∧
    ArcIn ((w.alloc (.cells #[.int .i64 0, .int .i64 0, .int .i64 0, .bool false] 83)).alloc (.cells #[.int .i64 t, .int .i64 h, .int .i64 x, .bool c] 83)) (w.heap.size + 1) 0 ⟨t, h, x, c⟩ ∧ True ∧ True := by
  refine ⟨fun j => by simp, ?_, ?_, trivial, trivial⟩
  · unfold ArcIn noArc; simp
  · unfold ArcIn; simp
set_option maxHeartbeats 1000000 in
theorem arc_in {w : World} {p n most : Nat} {m : GM.M} (hg : GMem w p n most m) (hm : GM.Good most m) (i : Nat) (hi : i < 64) :
    Calls Try.prog 67 #[.pointer (some ⟨p, 0, none⟩), .int .i64 i] w fun e w' => e = .returned (.tuple #[arcV (GM.arc m i), .bool (GM.is m i)]) ∧ Below w.heap.size w w' := by
  have hp := fun W => hasPlace_any (.pointer (some ⟨p, 0, none⟩)) (i : Int) W
  rw [show GM.place (i : Int) = true from decide_eq_true (by omega)] at hp
  have HP : Hid (∀ W, Calls Try.prog 64 #[.pointer (some ⟨p, 0, none⟩), .int .i64 i] W fun e w' => e = .returned (.bool true) ∧ w' = W) := hp
  clear hp
  have hb1 : Below w.heap.size w (w.alloc (.cells #[.int .i64 0, .int .i64 0, .int .i64 0, .bool false] 83)) := (Below.refl _ _).alloc (Nat.le_refl _) _
  have hg1 := hg.on hb1
  obtain ⟨a0, a1, a2, a3⟩ := hg1.arc i hi
  have ht := hm.tells i
  have hw := fun W => weight_any (GM.arc m i).weight W
  rw [ht] at hw
  generalize GM.arc m i = a at *
  obtain ⟨t, h, x, c⟩ := a
  generalize GM.is m i = b at *
  dsimp only at a0 a1 a2 a3 hw
  unfold arcV
  dsimp only
  have HW : Hid (∀ W, Calls Try.prog 66 #[.int .i64 x] W fun e w' => e = .returned (.bool b) ∧ w' = W) := hw
  have hi' : (i : Int) < 64 := by omega
  clear hg hg1 hm ht hw
  go_enter Try.func67, Try.ntmps67
  go_wp2_with fail
  refine (HP.out _).mono ?_
  rintro e w' ⟨rfl, rfl⟩
  go_wp2_with fail
  have hb2 : Below w.heap.size w ((w.alloc (.cells #[.int .i64 0, .int .i64 0, .int .i64 0, .bool false] 83)).alloc (.cells #[.int .i64 t, .int .i64 h, .int .i64 x, .bool c] 83)) := hb1.alloc (by simp) _
  obtain ⟨b0, b1, b2, b3, b4⟩ := two_boxes w t h x c
  clear a0 a1 a2 a3 hb1
  generalize (w.alloc (.cells #[.int .i64 0, .int .i64 0, .int .i64 0, .bool false] 83)).alloc (.cells #[.int .i64 t, .int .i64 h, .int .i64 x, .bool c] 83) = w1 at *
  obtain ⟨d0, d1, d2, d3⟩ := b1
  obtain ⟨e0, e1, e2, e3⟩ := b2
  dsimp only at d0 d1 d2 d3 e0 e1 e2 e3
  simp only [Nat.zero_add] at d1 d2 d3 e1 e2 e3
  have f0 := b0 0
  have f1 := b0 1
  have f2 := b0 2
  have f3 := b0 3
  clear b0 b3 b4
  have HN : Hid (ArcIn ((((w1.setCell ⟨w.heap.size, 0, none⟩ (.int .i64 t)).setCell ⟨w.heap.size, 1, none⟩ (.int .i64 h)).setCell ⟨w.heap.size, 2, none⟩ (.int .i64 x)).setCell ⟨w.heap.size, 3, none⟩ (.bool c)).drew w.heap.size 0 ⟨t, h, x, c⟩) := by
    have := arcSet_in (w := w1) (b := w.heap.size) (o := 0) (a0 := noArc) ⟨d0, d1, d2, d3⟩ ⟨t, h, x, c⟩
    unfold arcSet at this
    simp only [Nat.zero_add] at this
    exact this
  have HB : Hid (Below w.heap.size w ((((w1.setCell ⟨w.heap.size, 0, none⟩ (.int .i64 t)).setCell ⟨w.heap.size, 1, none⟩ (.int .i64 h)).setCell ⟨w.heap.size, 2, none⟩ (.int .i64 x)).setCell ⟨w.heap.size, 3, none⟩ (.bool c)).drew) := ((((hb2.setCell (p := ⟨w.heap.size, 0, none⟩) (Nat.le_refl _) _).setCell (p := ⟨w.heap.size, 1, none⟩) (Nat.le_refl _) _).setCell (p := ⟨w.heap.size, 2, none⟩) (Nat.le_refl _) _).setCell (p := ⟨w.heap.size, 3, none⟩) (Nat.le_refl _) _).drew
  clear hb2
  go_region_with (go_at_call 66; refine (HW.out _).mono ?_; rintro e w9 ⟨rfl, hw9⟩; rw [hw9]; clear hw9 w9)
  all_goals
    go_wp2_with fail
    exact arc_out rfl rfl HN.out HB.out
/-- The program's Arc, of any number. -/
theorem arc_any {w : World} {p n most : Nat} {m : GM.M} (hg : GMem w p n most m) (hm : GM.Good most m) (id : Int) :
    Calls Try.prog 67 #[.pointer (some ⟨p, 0, none⟩), .int .i64 id] w fun e w' => e = .returned (.tuple #[arcV (GM.look m id).1, .bool (GM.look m id).2]) ∧ Below w.heap.size w w' := by
  unfold GM.look
  cases h : GM.place id with
  | true =>
    obtain ⟨i, rfl, hi⟩ := GM.place_nat h
    rw [Int.toNat_natCast]
    exact arc_in hg hm i hi
  | false => exact arc_no _ _ h w
end Go.Proofs.Ytleckkpfnjpbiaa
