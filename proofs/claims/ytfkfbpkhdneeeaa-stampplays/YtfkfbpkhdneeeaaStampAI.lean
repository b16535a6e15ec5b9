/-
  The walks of package stamp's may, Len, Set, Get, Clear and New, where things are of type int.
-/
import Derived.Test.YtfkfbpkhdneeeaaStampMem
import Derived.BigRegion
import Derived.BigQuiet
import Derived.BigFrame
import Derived.Deep.QuietTactic
import Derived.Deep.DeepCutAuto
import Derived.Deep.OwnRows
namespace Go.Proofs.Ytfkfbpkhdneeeaa
namespace RI
open Go.RowKit

/-- At a place of the cells lies v. -/
def At (xs : List Value) (t : Nat) (v : Int) : Prop := xs[t]? = some ((Value.int .i64) v)
theorem at_put {n : Nat} {xs : List Value} (hl : xs.length = n * 1) {k : Nat} (hk : k < n) (v : Int) : At (xs.set k ((Value.int .i64) v)) k v ∧ ∀ t, t ≠ k → t < n → ∀ u, At xs t u → At (xs.set k ((Value.int .i64) v)) t u := by
  refine ⟨?_, fun t ht _ u hu => ?_⟩
  · unfold At
    rw [List.getElem?_set, if_pos rfl, if_pos (by omega)]
  · unfold At at hu ⊢
    rw [List.getElem?_set, if_neg (fun e => ht e.symm)]
    exact hu
theorem at_zero {n t : Nat} (ht : t < n) : ∃ v, At (List.replicate (n * 1) ((Value.int .i64) (0 : Int))) t v := ⟨(0 : Int), by unfold At; rw [List.getElem?_replicate, if_pos (by omega)]⟩

set_option maxHeartbeats 400000 in
theorem may_any {w : World} {B p bt bs n : Nat} {xs : List Value} {st : List Nat} {now : Nat} (h : SMem 3 1 w B p bt bs n xs st now) (t : Int) :
    Calls Try.prog 25 #[.pointer (some ⟨p, 0, none⟩), .int .i64 t] w fun e w' => e = .returned (.bool (decide (0 ≤ t ∧ t < (n : Int)))) ∧ w' = w := by
  have c1 := h.c1
  clear h
  by_cases h0 : 0 ≤ t
  · go_enter Try.func25, Try.ntmps25
    go_wp2_with fail
    go_ret
    exact ⟨ret_bool (by simp [h0]), rfl⟩
  · go_enter Try.func25, Try.ntmps25
    go_wp2_with fail
    go_ret
    exact ⟨ret_bool (by simp; omega), rfl⟩

set_option maxHeartbeats 1000000 in
theorem len_any {w : World} {B p bt bs n : Nat} {xs : List Value} {st : List Nat} {now : Nat} (h : SMem 3 1 w B p bt bs n xs st now) {m : Nat → Option Int} (hr : SM.Rep At n m xs st now) (hn : n ≤ 64) :
    Calls Try.prog 24 #[.pointer (some ⟨p, 0, none⟩)] w fun e w' => e = .returned (.int .i64 (SM.cnt n m : Nat)) ∧ w' = w := by
  have c1 := h.c1
  have c2 := h.c2
  have HC : Hid (∀ k, k < n → w.cell? ⟨bs, k, none⟩ = some (.int .u8 (SM.at0 st k : Nat)) ∧ (m k).isSome = decide (SM.at0 st k = now)) := fun k hk => ⟨(h.stamp hk).1, hr.some hk⟩
  clear h hr
  go_enter Try.func24, Try.ntmps24
  go_wp2_with fail
  go_loop [3, 11] (fun c i => ∃ k : Nat, k ≤ n ∧ i = .int .i64 k ∧ c = .int .i64 (SM.cnt k m : Nat)) (fun _ i => n - (intOf i).toNat)
  case atStart => exact ⟨0, Nat.zero_le _, rfl, by simp [SM.cnt]⟩
  case round =>
    obtain ⟨k, hk, rfl, rfl⟩ := hrel
    by_cases hlt : k < n
    · obtain ⟨ck, hs⟩ := HC.out k hlt
      have HS : Hid (SM.cnt (k + 1) m = SM.cnt k m + if (m k).isSome then 1 else 0) := SM.cnt_succ k m
      rw [hs] at HS
      have hcl := SM.cnt_le k m
      clear hs
      generalize SM.at0 st k = s at *
      have kn : (k : Int) < (n : Int) := by omega
      by_cases e : s = now
      · subst e
        go_wp2_with fail
        go_round
        case rel => exact ⟨k + 1, by omega, by simp, by rw [HS.out]; simp⟩
        case measure => simp [intOf]; omega
      · have e' : ((s : Int) == (now : Int)) = false := beq_eq_false_iff_ne.2 (by omega)
        go_wp2_with fail
        go_round
        case rel => exact ⟨k + 1, by omega, by simp, by rw [HS.out]; simp [e]⟩
        case measure => simp [intOf]; omega
    · obtain rfl : k = n := by omega
      go_wp2_with fail
      go_ret
      exact ⟨rfl, rfl⟩

set_option maxHeartbeats 1000000 in
theorem set_any {w : World} {B p bt bs n : Nat} {xs : List Value} {st : List Nat} {now : Nat} (h : SMem 3 1 w B p bt bs n xs st now) {m : Nat → Option Int} (hr : SM.Rep At n m xs st now) (_hn : n ≤ 64) (t : Int) (v : Int) :
    Calls Try.prog 9 #[.pointer (some ⟨p, 0, none⟩), .int .i64 t, (Value.int .i64) v] w fun e w' => e = .returned (.int .i64 (SM.code n t)) ∧
      ∃ xs' st', SMem 3 1 w' B p bt bs n xs' st' now ∧ SM.Rep At n (SM.put n m t v) xs' st' now ∧ Keeps (sfoot p bt bs) w w' := by
  have hm := may_any h t
  unfold SM.code SM.put
  by_cases ht : 0 ≤ t ∧ t < (n : Int)
  · rw [if_pos ht, if_pos ht]
    obtain ⟨k, rfl⟩ : ∃ k : Nat, t = k := ⟨t.toNat, by omega⟩
    have hk : k < n := by omega
    rw [decide_eq_true ht] at hm
    rw [Int.toNat_natCast]
    have c0 := h.c0
    have c1 := h.c1
    have c2 := h.c2
    have hxl : xs.length = n * 1 := h.th.1
    obtain ⟨t1, f1⟩ := h.thing (j := k) (by omega)
    obtain ⟨x0, hx0⟩ : ∃ x0, xs[k]? = some x0 := ⟨_, List.getElem?_eq_getElem (by omega)⟩
    rw [hx0] at t1
    have h2 := h.setThing k ((Value.int .i64) v)
    obtain ⟨s1, g1⟩ := h2.stamp hk
    have H3 : Hid (SMem 3 1 ((w.setCell ⟨bt, k, none⟩ ((Value.int .i64) v)).setCell ⟨bs, k, none⟩ (.int .u8 (now : Nat))) B p bt bs n (xs.set k ((Value.int .i64) v)) (st.set k now) now) := h2.setStamp k now
    have ha := at_put hxl hk v
    have HR : Hid (SM.Rep At n (SM.upd m k (some v)) (xs.set k ((Value.int .i64) v)) (st.set k now) now) := hr.put hk ha.1 ha.2
    have n1 := h.n1
    have n2 := h.n2
    have n3 := h.n3
    have g0 : w.frozen? ⟨bs, k, none⟩ = false := (h.stamp hk).2
    have kn : (k : Int) < (n : Int) := by omega
    clear h h2 hr ha ht hxl hx0
    go_enter Try.func9, Try.ntmps9
    go_wp2_with fail
    refine hm.mono ?_
    rintro e w' ⟨rfl, rfl⟩
    go_wp2_with fail
    go_region
    all_goals (go_wp2_with fail; go_ret)
    all_goals exact ⟨rfl, _, _, H3.out.drew, HR.out, (((Keeps.refl _ _).setCell (p := ⟨bt, k, none⟩) (.inl (.inr (.inl rfl))) _).setCell (p := ⟨bs, k, none⟩) (.inl (.inr (.inr rfl))) _).drew⟩
  · rw [if_neg ht, if_neg ht]
    rw [decide_eq_false ht] at hm
    have H3 : Hid (SMem 3 1 w B p bt bs n xs st now) := h
    have HR : Hid (SM.Rep At n m xs st now) := hr
    clear h hr
    go_enter Try.func9, Try.ntmps9
    go_wp2_with fail
    refine hm.mono ?_
    rintro e w' ⟨rfl, rfl⟩
    go_wp2_with fail
    go_ret
    exact ⟨rfl, _, _, H3.out, HR.out, Keeps.refl _ _⟩

set_option maxHeartbeats 1000000 in
theorem get_any {w : World} {B p bt bs n : Nat} {xs : List Value} {st : List Nat} {now : Nat} (h : SMem 3 1 w B p bt bs n xs st now) {m : Nat → Option Int} (hr : SM.Rep At n m xs st now) (t : Int) :
    Calls Try.prog 23 #[.pointer (some ⟨p, 0, none⟩), .int .i64 t] w fun e w' => e = .returned (getT (Value.int .i64) (0 : Int) (SM.look m t)) ∧ Below w.heap.size w w' := by
  have hm := fun q => may_any (h.drewN q) t
  unfold SM.look
  by_cases ht : 0 ≤ t ∧ t < (n : Int)
  · rw [if_pos ht.1]
    obtain ⟨k, rfl⟩ : ∃ k : Nat, t = k := ⟨t.toNat, by omega⟩
    have hk : k < n := by omega
    rw [decide_eq_true ht] at hm
    rw [Int.toNat_natCast]
    have HM0 : Hid (∀ q, Calls Try.prog 25 #[.pointer (some ⟨p, 0, none⟩), .int .i64 k] (w.drewN q) fun e w' => e = .returned (.bool true) ∧ w' = w.drewN q) := hm
    have c0 := h.c0
    have c1 := h.c1
    have c2 := h.c2
    obtain ⟨v, hv, hmk⟩ := hr.is k hk
    have t1 := (h.thing (j := k) (by omega)).1
    rw [show xs[k]? = some ((Value.int .i64) v) from hv] at t1
    have s1 := (h.stamp hk).1
    have kn : (k : Int) < (n : Int) := by omega
    rw [hmk]
    clear h hr hv hmk ht hm
    generalize SM.at0 st k = s at *
    by_cases e : s = now
    · subst e
      have e' : ((s : Int) != (s : Int)) = false := by simp
      rw [if_pos rfl]
      simp only [getT]
      go_enter Try.func23, Try.ntmps23
      go_wp2_with fail
      go_quiet ((go_at_call 25; exact Calls.quiet_of_same (HM0.out _)))
      go_wp2_with fail
      go_ret2
      exact ⟨rfl, below_drewN (Below.refl _ _) _⟩
    · have e' : ((s : Int) != (now : Int)) = true := by simp; omega
      rw [if_neg e]
      simp only [getT]
      go_enter Try.func23, Try.ntmps23
      go_wp2_with fail
      go_quiet ((go_at_call 25; exact Calls.quiet_of_same (HM0.out _)))
      have hbq : Below w.heap.size w (w.drewN nq) := below_drewN (Below.refl _ _) _
      have hsq : w.heap.size ≤ (w.drewN nq).heap.size := hbq.size
      generalize w.drewN nq = w2 at *
      go_wp2_with fail
      go_ret2
      exact ⟨rfl, hbq.alloc hsq _⟩
  · rw [decide_eq_false ht] at hm
    have HM0 : Hid (∀ q, Calls Try.prog 25 #[.pointer (some ⟨p, 0, none⟩), .int .i64 t] (w.drewN q) fun e w' => e = .returned (.bool false) ∧ w' = w.drewN q) := hm
    have e0 : (if 0 ≤ t then m t.toNat else none) = none := by
      split
      · exact hr.out _ (by omega)
      · rfl
    rw [e0]
    simp only [getT]
    clear h hr hm e0
    go_enter Try.func23, Try.ntmps23
    go_wp2_with fail
    go_quiet ((go_at_call 25; exact Calls.quiet_of_same (HM0.out _)))
    have hbq : Below w.heap.size w (w.drewN nq) := below_drewN (Below.refl _ _) _
    have hsq : w.heap.size ≤ (w.drewN nq).heap.size := hbq.size
    generalize w.drewN nq = w2 at *
    go_wp2_with fail
    go_ret2
    exact ⟨rfl, hbq.alloc hsq _⟩

set_option maxHeartbeats 1000000 in
theorem clear_any {w : World} {B p bt bs n : Nat} {xs : List Value} {st : List Nat} {now : Nat} (h : SMem 3 1 w B p bt bs n xs st now) {m : Nat → Option Int} (hr : SM.Rep At n m xs st now) :
    Calls Try.prog 12 #[.pointer (some ⟨p, 0, none⟩)] w fun e w' => e = .returned (.tuple #[]) ∧
      ∃ xs' st' now', SMem 3 1 w' B p bt bs n xs' st' now' ∧ SM.Rep At n (fun _ => none) xs' st' now' ∧ Keeps (sfoot p bt bs) w w' := by
  have hlo := hr.lo
  have hhi := hr.hi
  have c2 := h.c2
  have fz := h.fz
  by_cases hlt : now < 255
  · have H3 : Hid (SMem 3 1 (w.setCell ⟨p, 2, none⟩ (.int .u8 ((now + 1 : Nat) : Int))) B p bt bs n xs st (now + 1)) := h.setNow (now + 1)
    have HR : Hid (SM.Rep At n (fun _ => none) xs st (now + 1)) := hr.next hlt
    have e' : (((now : Int) + 1) != 0) = true := by simp; omega
    clear h hr
    go_enter Try.func12, Try.ntmps12
    go_wp2_with fail
    (try simp only [Exit.inBlock, Exit.then]); refine bodyPost_ret (results_none rfl _ _ _) rfl ?_
    exact ⟨rfl, _, _, _, H3.out, HR.out, (Keeps.refl _ _).setCell (p := ⟨p, 2, none⟩) (.inl (.inl rfl)) _⟩
  · obtain rfl : now = 255 := by omega
    have hk1 : Keeps (sfoot p bt bs) w (w.setCell ⟨p, 2, none⟩ (.int .u8 0)) := (Keeps.refl _ _).setCell (p := ⟨p, 2, none⟩) (.inl (.inl rfl)) _
    have h1 : SMem 3 1 (w.setCell ⟨p, 2, none⟩ (.int .u8 0)) B p bt bs n xs st 0 := h.setNow 0
    clear hlo hhi hlt h
    go_enter Try.func12, Try.ntmps12
    go_upto_region 1 with fail
    clear c2 fz
    generalize w.setCell ⟨p, 2, none⟩ (.int .u8 0) = w1 at *
    have c2 := h1.c2
    have c1 := h1.c1
    have hcl := fun ty => run_clear_own (P := Try.prog) h1.sp 60 ty (.int .u8 0) (.int .u8 0) Try.underlying60 zero8 (zeroCells_one _ n) rfl
    have hk2 : Keeps (sfoot p bt bs) w1 (w1.setCells bs 0 (List.replicate (n * 1) (.int .u8 0))) := (keeps_setCells _ _ _ _).mono (fun b hb => .inr (.inr hb))
    have h2 := h1.clearStamps
    generalize w1.setCells bs 0 (List.replicate (n * 1) (.int .u8 0)) = w2 at *
    clear h1
    have c20 := h2.c0
    have hcl2 := fun ty => run_clear_own (P := Try.prog) h2.th 43 ty ((Value.int .i64) (0 : Int)) ((Value.int .i64) (0 : Int)) Try.underlying43 zeroI (zeroCells_one _ n) rfl
    have hk3 : Keeps (sfoot p bt bs) w2 (w2.setCells bt 0 (List.replicate (n * 1) ((Value.int .i64) (0 : Int)))) := (keeps_setCells _ _ _ _).mono (fun b hb => .inr (.inl hb))
    have h3 := h2.clearThings ((Value.int .i64) (0 : Int))
    generalize w2.setCells bt 0 (List.replicate (n * 1) ((Value.int .i64) (0 : Int))) = w3 at *
    clear h2
    have c32 := h3.c2
    have f32 := h3.fz
    have H4 : Hid (SMem 3 1 (w3.setCell ⟨p, 2, none⟩ (.int .u8 1)) B p bt bs n (List.replicate (n * 1) ((Value.int .i64) (0 : Int))) (List.replicate n 0) 1) := h3.setNow 1
    have HR : Hid (SM.Rep At n (fun _ => none) (List.replicate (n * 1) ((Value.int .i64) (0 : Int))) (List.replicate n 0) 1) := SM.rep_new n (fun t ht => at_zero ht)
    have HK : Hid (Keeps (sfoot p bt bs) w w3) := (hk1.trans hk2 (fun _ h => .inl h)).trans hk3 (fun _ h => .inl h)
    clear h3 hk1 hk2 hk3 hr
    go_wp2_with (simp only [hcl, hcl2])
    go_end0
    exact ⟨rfl, _, _, _, H4.out, HR.out, HK.out.setCell (p := ⟨p, 2, none⟩) (.inl (.inl rfl)) _⟩

theorem infoT : (Try.prog.info? 3).map (fun i => (i.zero, i.size, i.bytes)) = some (some ((Value.int .i64) (0 : Int)), 1, 8) := by kernel_rfl
theorem made_things (w : World) (B n : Nat) (hB : B ≤ w.heap.size) (hn : n ≤ 64) : (w.alloc (.cells (madeCells #[(Value.int .i64) (0 : Int)] n) 3)).ownsRow B 3 1 (.slice (some ⟨w.heap.size, 0, none⟩) n n) n (List.replicate (n * 1) ((Value.int .i64) (0 : Int))) := by
  have h := World.ownsRow_lit (base := B) (e := 3) (size := 1) w (madeCells #[(Value.int .i64) (0 : Int)] n) n hB (by unfold maxLen; omega) (by rw [size_madeCells]; omega)
  rw [toList_madeCells_one] at h
  simpa using h

set_option maxHeartbeats 2000000 in
theorem new_any (n : Nat) (hn : n ≤ 64) (w : World) :
    Calls Try.prog 7 #[.int .i64 n] w fun e w' => ∃ p bt bs xs st now, e = .returned (.tuple #[.pointer (some ⟨p, 0, none⟩), .int .i64 0]) ∧
      SMem 3 1 w' w.heap.size p bt bs n xs st now ∧ SM.Rep At n (fun _ => none) xs st now ∧ Below w.heap.size w w' := by
  have hmk := run_make_row' (P := Try.prog) 43 3 ((Value.int .i64) (0 : Int)) 8 Try.underlying43 infoT rfl .i64 .i64 n (by omega) (by omega)
  have hmb := run_make_row' (P := Try.prog) 60 5 (.int .u8 0) 1 Try.underlying60 info8 rfl .i64 .i64 n (by omega) (by omega)
  have HR : Hid (SM.Rep At n (fun _ => none) (List.replicate (n * 1) ((Value.int .i64) (0 : Int))) (List.replicate n 0) 1) := SM.rep_new n (fun t ht => at_zero ht)
  go_enter Try.func7, Try.ntmps7
  go_wp2_with fail
  go_region
  all_goals (go_wp2_with fail; go_ret2)
  · have q2 := made_stamps (w.alloc (.cells (madeCells #[(Value.int .i64) (0 : Int)] n) 3)) w.heap.size n (by simp) hn
    rw [World.size_alloc] at q2
    exact ⟨_, w.heap.size, w.heap.size + 1, _, _, _, rfl, (smem_new ((made_things w w.heap.size n (Nat.le_refl _) hn).alloc _) q2 (by omega) (by simp; omega) (by simp)).drew, HR.out, ((((Below.refl _ w).alloc (Nat.le_refl _) _).alloc (by simp) _).alloc (by simp; omega) _).drew⟩
  · have q1 := made_things (w.alloc (.cells (madeCells #[.int .u8 0] n) 5)) w.heap.size n (by simp) hn
    rw [World.size_alloc] at q1
    exact ⟨_, w.heap.size + 1, w.heap.size, _, _, _, rfl, (smem_new q1 ((made_stamps w w.heap.size n (Nat.le_refl _) hn).alloc _) (by omega) (by simp; omega) (by simp)).drew, HR.out, ((((Below.refl _ w).alloc (Nat.le_refl _) _).alloc (by simp) _).alloc (by simp; omega) _).drew⟩

set_option maxHeartbeats 2000000 in
theorem new_bad (n : Int) (hn : n < 0 ∨ 64 < n) (w : World) :
    Calls Try.prog 7 #[.int .i64 n] w fun e w' => e = .returned (.tuple #[.pointer none, .int .i64 1]) ∧ w' = w := by
  by_cases h0 : n < 0
  · go_enter Try.func7, Try.ntmps7
    go_wp2_with fail
    go_ret2
    exact ⟨rfl, rfl⟩
  · have h1 : 64 < n := by omega
    clear hn
    go_enter Try.func7, Try.ntmps7
    go_wp2_with fail
    go_ret2
    exact ⟨rfl, rfl⟩
end RI
end Go.Proofs.Ytfkfbpkhdneeeaa
