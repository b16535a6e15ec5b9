/-
  The walks of package stamp's may, Len, Set, Get, Clear and New, where things are of type string.
-/
import Derived.Test.YtfkfbpkhdneeeaaStampMem
import Derived.BigRegion
import Derived.BigQuiet
import Derived.BigFrame
import Derived.Deep.QuietTactic
import Derived.Deep.DeepCutAuto
import Derived.Deep.OwnRows
namespace Go.Proofs.Ytfkfbpkhdneeeaa
namespace RS
open Go.RowKit

/-- At a place of the cells lies v. -/
def At (xs : List Value) (t : Nat) (v : ByteArray) : Prop := xs[t]? = some (Value.string v)
theorem at_put {n : Nat} {xs : List Value} (hl : xs.length = n * 1) {k : Nat} (hk : k < n) (v : ByteArray) : At (xs.set k (Value.string v)) k v ∧ ∀ t, t ≠ k → t < n → ∀ u, At xs t u → At (xs.set k (Value.string v)) t u := by
  refine ⟨?_, fun t ht _ u hu => ?_⟩
  · unfold At
    rw [List.getElem?_set, if_pos rfl, if_pos (by omega)]
  · unfold At at hu ⊢
    rw [List.getElem?_set, if_neg (fun e => ht e.symm)]
    exact hu
theorem at_zero {n t : Nat} (ht : t < n) : ∃ v, At (List.replicate (n * 1) (Value.string (⟨#[]⟩ : ByteArray))) t v := ⟨(⟨#[]⟩ : ByteArray), by unfold At; rw [List.getElem?_replicate, if_pos (by omega)]⟩

set_option maxHeartbeats 400000 in
theorem may_any {w : World} {B p bt bs n : Nat} {xs : List Value} {st : List Nat} {now : Nat} (h : SMem 9 1 w B p bt bs n xs st now) (t : Int) :
    Calls Try.prog 27 #[.pointer (some ⟨p, 0, none⟩), .int .i64 t] w fun e w' => e = .returned (.bool (decide (0 ≤ t ∧ t < (n : Int)))) ∧ w' = w := by
  have c1 := h.c1
  clear h
  by_cases h0 : 0 ≤ t
  · go_enter Try.func27, Try.ntmps27
    go_wp2_with fail
    go_ret
    exact ⟨ret_bool (by simp [h0]), rfl⟩
  · go_enter Try.func27, Try.ntmps27
    go_wp2_with fail
    go_ret
    exact ⟨ret_bool (by simp; omega), rfl⟩


set_option maxHeartbeats 1000000 in
theorem set_any {w : World} {B p bt bs n : Nat} {xs : List Value} {st : List Nat} {now : Nat} (h : SMem 9 1 w B p bt bs n xs st now) {m : Nat → Option ByteArray} (hr : SM.Rep At n m xs st now) (_hn : n ≤ 64) (t : Int) (v : ByteArray) :
    Calls Try.prog 16 #[.pointer (some ⟨p, 0, none⟩), .int .i64 t, Value.string v] w fun e w' => e = .returned (.int .i64 (SM.code n t)) ∧
      ∃ xs' st', SMem 9 1 w' B p bt bs n xs' st' now ∧ SM.Rep At n (SM.put n m t v) xs' st' now ∧ Keeps (sfoot p bt bs) w w' := by
  have hm := may_any h t
  unfold SM.code SM.put
  by_cases ht : 0 ≤ t ∧ t < (n : Int)
  · rw [if_pos ht, if_pos ht]
    obtain ⟨k, rfl⟩ : ∃ k : Nat, t = k := ⟨t.toNat, by omega⟩
    have hk : k < n := by omega
    rw [decide_eq_true ht] at hm
    rw [Int.toNat_natCast]
    have c0 := h.c0
    have c1 := h.c1
    have c2 := h.c2
    have hxl : xs.length = n * 1 := h.th.1
    obtain ⟨t1, f1⟩ := h.thing (j := k) (by omega)
    obtain ⟨x0, hx0⟩ : ∃ x0, xs[k]? = some x0 := ⟨_, List.getElem?_eq_getElem (by omega)⟩
    rw [hx0] at t1
    have h2 := h.setThing k (Value.string v)
    obtain ⟨s1, g1⟩ := h2.stamp hk
    have H3 : Hid (SMem 9 1 ((w.setCell ⟨bt, k, none⟩ (Value.string v)).setCell ⟨bs, k, none⟩ (.int .u8 (now : Nat))) B p bt bs n (xs.set k (Value.string v)) (st.set k now) now) := h2.setStamp k now
    have ha := at_put hxl hk v
    have HR : Hid (SM.Rep At n (SM.upd m k (some v)) (xs.set k (Value.string v)) (st.set k now) now) := hr.put hk ha.1 ha.2
    have n1 := h.n1
    have n2 := h.n2
    have n3 := h.n3
    have g0 : w.frozen? ⟨bs, k, none⟩ = false := (h.stamp hk).2
    have kn : (k : Int) < (n : Int) := by omega
    clear h h2 hr ha ht hxl hx0
    go_enter Try.func16, Try.ntmps16
    go_wp2_with fail
    refine hm.mono ?_
    rintro e w' ⟨rfl, rfl⟩
    go_wp2_with fail
    go_region
    all_goals (go_wp2_with fail; go_ret)
    all_goals exact ⟨rfl, _, _, H3.out.drew, HR.out, (((Keeps.refl _ _).setCell (p := ⟨bt, k, none⟩) (.inl (.inr (.inl rfl))) _).setCell (p := ⟨bs, k, none⟩) (.inl (.inr (.inr rfl))) _).drew⟩
  · rw [if_neg ht, if_neg ht]
    rw [decide_eq_false ht] at hm
    have H3 : Hid (SMem 9 1 w B p bt bs n xs st now) := h
    have HR : Hid (SM.Rep At n m xs st now) := hr
    clear h hr
    go_enter Try.func16, Try.ntmps16
    go_wp2_with fail
    refine hm.mono ?_
    rintro e w' ⟨rfl, rfl⟩
    go_wp2_with fail
    go_ret
    exact ⟨rfl, _, _, H3.out, HR.out, Keeps.refl _ _⟩

set_option maxHeartbeats 1000000 in
theorem get_any {w : World} {B p bt bs n : Nat} {xs : List Value} {st : List Nat} {now : Nat} (h : SMem 9 1 w B p bt bs n xs st now) {m : Nat → Option ByteArray} (hr : SM.Rep At n m xs st now) (t : Int) :
    Calls Try.prog 29 #[.pointer (some ⟨p, 0, none⟩), .int .i64 t] w fun e w' => e = .returned (getT Value.string (⟨#[]⟩ : ByteArray) (SM.look m t)) ∧ Below w.heap.size w w' := by
  have hm := fun q => may_any (h.drewN q) t
  unfold SM.look
  by_cases ht : 0 ≤ t ∧ t < (n : Int)
  · rw [if_pos ht.1]
    obtain ⟨k, rfl⟩ : ∃ k : Nat, t = k := ⟨t.toNat, by omega⟩
    have hk : k < n := by omega
    rw [decide_eq_true ht] at hm
    rw [Int.toNat_natCast]
    have HM0 : Hid (∀ q, Calls Try.prog 27 #[.pointer (some ⟨p, 0, none⟩), .int .i64 k] (w.drewN q) fun e w' => e = .returned (.bool true) ∧ w' = w.drewN q) := hm
    have c0 := h.c0
    have c1 := h.c1
    have c2 := h.c2
    obtain ⟨v, hv, hmk⟩ := hr.is k hk
    have t1 := (h.thing (j := k) (by omega)).1
    rw [show xs[k]? = some (Value.string v) from hv] at t1
    have s1 := (h.stamp hk).1
    have kn : (k : Int) < (n : Int) := by omega
    rw [hmk]
    clear h hr hv hmk ht hm
    generalize SM.at0 st k = s at *
    by_cases e : s = now
    · subst e
      have e' : ((s : Int) != (s : Int)) = false := by simp
      rw [if_pos rfl]
      simp only [getT]
      go_enter Try.func29, Try.ntmps29
      go_wp2_with fail
      go_quiet ((go_at_call 27; exact Calls.quiet_of_same (HM0.out _)))
      go_wp2_with fail
      go_ret2
      exact ⟨rfl, below_drewN (Below.refl _ _) _⟩
    · have e' : ((s : Int) != (now : Int)) = true := by simp; omega
      rw [if_neg e]
      simp only [getT]
      go_enter Try.func29, Try.ntmps29
      go_wp2_with fail
      go_quiet ((go_at_call 27; exact Calls.quiet_of_same (HM0.out _)))
      have hbq : Below w.heap.size w (w.drewN nq) := below_drewN (Below.refl _ _) _
      have hsq : w.heap.size ≤ (w.drewN nq).heap.size := hbq.size
      generalize w.drewN nq = w2 at *
      go_wp2_with fail
      go_ret2
      exact ⟨rfl, hbq.alloc hsq _⟩
  · rw [decide_eq_false ht] at hm
    have HM0 : Hid (∀ q, Calls Try.prog 27 #[.pointer (some ⟨p, 0, none⟩), .int .i64 t] (w.drewN q) fun e w' => e = .returned (.bool false) ∧ w' = w.drewN q) := hm
    have e0 : (if 0 ≤ t then m t.toNat else none) = none := by
      split
      · exact hr.out _ (by omega)
      · rfl
    rw [e0]
    simp only [getT]
    clear h hr hm e0
    go_enter Try.func29, Try.ntmps29
    go_wp2_with fail
    go_quiet ((go_at_call 27; exact Calls.quiet_of_same (HM0.out _)))
    have hbq : Below w.heap.size w (w.drewN nq) := below_drewN (Below.refl _ _) _
    have hsq : w.heap.size ≤ (w.drewN nq).heap.size := hbq.size
    generalize w.drewN nq = w2 at *
    go_wp2_with fail
    go_ret2
    exact ⟨rfl, hbq.alloc hsq _⟩


theorem infoT : (Try.prog.info? 9).map (fun i => (i.zero, i.size, i.bytes)) = some (some (Value.string (⟨#[]⟩ : ByteArray)), 1, 16) := by kernel_rfl
theorem made_things (w : World) (B n : Nat) (hB : B ≤ w.heap.size) (hn : n ≤ 64) : (w.alloc (.cells (madeCells #[Value.string (⟨#[]⟩ : ByteArray)] n) 9)).ownsRow B 9 1 (.slice (some ⟨w.heap.size, 0, none⟩) n n) n (List.replicate (n * 1) (Value.string (⟨#[]⟩ : ByteArray))) := by
  have h := World.ownsRow_lit (base := B) (e := 9) (size := 1) w (madeCells #[Value.string (⟨#[]⟩ : ByteArray)] n) n hB (by unfold maxLen; omega) (by rw [size_madeCells]; omega)
  rw [toList_madeCells_one] at h
  simpa using h

set_option maxHeartbeats 2000000 in
theorem new_any (n : Nat) (hn : n ≤ 64) (w : World) :
    Calls Try.prog 15 #[.int .i64 n] w fun e w' => ∃ p bt bs xs st now, e = .returned (.tuple #[.pointer (some ⟨p, 0, none⟩), .int .i64 0]) ∧
      SMem 9 1 w' w.heap.size p bt bs n xs st now ∧ SM.Rep At n (fun _ => none) xs st now ∧ Below w.heap.size w w' := by
  have hmk := run_make_row' (P := Try.prog) 38 9 (Value.string (⟨#[]⟩ : ByteArray)) 16 Try.underlying38 infoT rfl .i64 .i64 n (by omega) (by omega)
  have hmb := run_make_row' (P := Try.prog) 60 5 (.int .u8 0) 1 Try.underlying60 info8 rfl .i64 .i64 n (by omega) (by omega)
  have HR : Hid (SM.Rep At n (fun _ => none) (List.replicate (n * 1) (Value.string (⟨#[]⟩ : ByteArray))) (List.replicate n 0) 1) := SM.rep_new n (fun t ht => at_zero ht)
  go_enter Try.func15, Try.ntmps15
  go_wp2_with fail
  go_region
  all_goals (go_wp2_with fail; go_ret2)
  · have q2 := made_stamps (w.alloc (.cells (madeCells #[Value.string (⟨#[]⟩ : ByteArray)] n) 9)) w.heap.size n (by simp) hn
    rw [World.size_alloc] at q2
    exact ⟨_, w.heap.size, w.heap.size + 1, _, _, _, rfl, (smem_new ((made_things w w.heap.size n (Nat.le_refl _) hn).alloc _) q2 (by omega) (by simp; omega) (by simp)).drew, HR.out, ((((Below.refl _ w).alloc (Nat.le_refl _) _).alloc (by simp) _).alloc (by simp; omega) _).drew⟩
  · have q1 := made_things (w.alloc (.cells (madeCells #[.int .u8 0] n) 5)) w.heap.size n (by simp) hn
    rw [World.size_alloc] at q1
    exact ⟨_, w.heap.size + 1, w.heap.size, _, _, _, rfl, (smem_new q1 ((made_stamps w w.heap.size n (Nat.le_refl _) hn).alloc _) (by omega) (by simp; omega) (by simp)).drew, HR.out, ((((Below.refl _ w).alloc (Nat.le_refl _) _).alloc (by simp) _).alloc (by simp; omega) _).drew⟩

end RS
end Go.Proofs.Ytfkfbpkhdneeeaa
