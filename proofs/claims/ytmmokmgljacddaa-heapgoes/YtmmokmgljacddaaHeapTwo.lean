/-
  A heap of the program's, and one of the reference's beside it: what each call answers, and that each leaves the other alone.
-/
import Derived.Test.YtmmokmgljacddaaHeapD
import Derived.Test.YtmmokmgljacddaaHeapEI
import Derived.Test.YtmmokmgljacddaaHeapRef2
namespace Go.Proofs.Ytmmokmgljacddaa
open Go.RowKit

def Hp (w : World) (B p n : Nat) (m : Nat → Option Int) (F : Nat → Prop) : Prop := ∃ bp bc lv line place come, HMem (Value.int .i64) 3 w B p bp bc lv line place come ∧ HM.Rep HM.TI 0 n m line place come ∧ F = foot p bp bc lv
def Rf (w : World) (B q n : Nat) (m : Nat → Option Int) (G : Nat → Prop) : Prop := ∃ bi bq ins ps, RMem w B q bi bq ins ps ∧ HR.Rep n m ins ps ∧ G = rfoot q bi bq
/-- A heap of n things in block p, of the call's own from block B on. -/
def One (w : World) (B p n : Nat) (m : Nat → Option Int) : Prop := ∃ F, Hp w B p n m F
/-- And the reference's, in block q. -/
def Two (w : World) (B p q n : Nat) (m mr : Nat → Option Int) : Prop := ∃ F G, Hp w B p n m F ∧ Rf w B q n mr G ∧ ∀ b, F b → ¬ G b

theorem Hp.lt {w : World} {B p n : Nat} {m : Nat → Option Int} {F : Nat → Prop} (h : Hp w B p n m F) : ∀ b, F b → B ≤ b ∧ b < w.heap.size := by
  obtain ⟨bp, bc, lv, line, place, come, h1, _, rfl⟩ := h
  exact h1.lt
theorem Hp.base {w : World} {B p n : Nat} {m : Nat → Option Int} {F : Nat → Prop} (h : Hp w B p n m F) : B ≤ w.heap.size := by
  obtain ⟨bp, bc, lv, line, place, come, h1, _, rfl⟩ := h
  have := h1.lt p (.inl rfl)
  omega
theorem Rf.lt {w : World} {B p n : Nat} {m : Nat → Option Int} {F : Nat → Prop} (h : Rf w B p n m F) : ∀ b, F b → B ≤ b ∧ b < w.heap.size := by
  obtain ⟨bi, bq, ins, ps, h1, _, rfl⟩ := h
  exact h1.lt
theorem Hp.kept {w w' : World} {B p n : Nat} {m : Nat → Option Int} {F G : Nat → Prop} (h : Hp w B p n m F) (hk : Keeps G w w') (hG : ∀ b, F b → ¬ G b) : Hp w' B p n m F := by
  obtain ⟨bp, bc, lv, line, place, come, h1, h2, rfl⟩ := h
  exact ⟨bp, bc, lv, line, place, come, h1.kept hk hG, h2, rfl⟩
theorem Rf.kept {w w' : World} {B p n : Nat} {m : Nat → Option Int} {F G : Nat → Prop} (h : Rf w B p n m F) (hk : Keeps G w w') (hG : ∀ b, F b → ¬ G b) : Rf w' B p n m F := by
  obtain ⟨bi, bq, ins, ps, h1, h2, rfl⟩ := h
  exact ⟨bi, bq, ins, ps, h1.kept hk hG, h2, rfl⟩

/-! The program's calls, of a heap alone. -/
theorem hp_put {w : World} {B p n : Nat} {m : Nat → Option Int} {F : Nat → Prop} (h : Hp w B p n m F) (hn : n ≤ 64) (t v : Int) :
    Calls Try.prog 11 #[.pointer (some ⟨p, 0, none⟩), .int .i64 t, .int .i64 v] w fun e w' => e = .returned (.int .i64 (HM.code HM.TI n m t v)) ∧ ∃ F', Hp w' B p n (HM.put HM.TI n m t v) F' ∧ Keeps F w w' ∧ ∀ b, F' b → F b ∨ w.heap.size ≤ b := by
  obtain ⟨bp, bc, lv, line, place, come, h1, h2, rfl⟩ := h
  refine (HI.put_any h1 h2 hn t v).mono ?_
  rintro e w' ⟨rfl, lv', line', place', come', a1, a2, a3, a4⟩
  exact ⟨rfl, _, ⟨bp, bc, lv', line', place', come', a1, a2, rfl⟩, a3, a4⟩
theorem hp_pop {w : World} {B p n : Nat} {m : Nat → Option Int} {F : Nat → Prop} (h : Hp w B p n m F) (hn : n ≤ 64) :
    Calls Try.prog 13 #[.pointer (some ⟨p, 0, none⟩)] w fun e w' => e = .returned (peekT (Value.int .i64) 0 (HM.firstOf HM.TI m)) ∧ ∃ F', Hp w' B p n (HM.popped HM.TI m) F' ∧ Keeps F w w' ∧ ∀ b, F' b → F b ∨ w.heap.size ≤ b := by
  obtain ⟨bp, bc, lv, line, place, come, h1, h2, rfl⟩ := h
  refine (HI.pop_any h1 h2 hn).mono ?_
  rintro e w' ⟨rfl, lv', line', place', come', a1, a2, a3, a4⟩
  exact ⟨rfl, _, ⟨bp, bc, lv', line', place', come', a1, a2, rfl⟩, a3, fun b hb => .inl (a4 b hb)⟩
theorem hp_peek {w : World} {B p n : Nat} {m : Nat → Option Int} {F : Nat → Prop} (h : Hp w B p n m F) :
    Calls Try.prog 15 #[.pointer (some ⟨p, 0, none⟩)] w fun e w' => e = .returned (peekT (Value.int .i64) 0 (HM.firstOf HM.TI m)) ∧ Below w.heap.size w w' := by
  obtain ⟨bp, bc, lv, line, place, come, h1, h2, rfl⟩ := h
  exact HI.peek_first h1 h2
theorem hp_at {w : World} {B p n : Nat} {m : Nat → Option Int} {F : Nat → Prop} (h : Hp w B p n m F) (t : Int) :
    Calls Try.prog 17 #[.pointer (some ⟨p, 0, none⟩), .int .i64 t] w fun e w' => e = .returned (atT (Value.int .i64) 0 (HM.look m t)) ∧ Below w.heap.size w w' := by
  obtain ⟨bp, bc, lv, line, place, come, h1, h2, rfl⟩ := h
  exact HI.at_look h1 h2 t
theorem hp_len {w : World} {B p n : Nat} {m : Nat → Option Int} {F : Nat → Prop} (h : Hp w B p n m F) :
    Calls Try.prog 19 #[.pointer (some ⟨p, 0, none⟩)] w fun e w' => e = .returned (.int .i64 (HM.cnt n m : Nat)) ∧ w' = w := by
  obtain ⟨bp, bc, lv, line, place, come, h1, h2, rfl⟩ := h
  rw [← h2.len]
  exact HI.len_any h1

theorem one_new (n : Nat) (hn : n ≤ 64) (w : World) :
    Calls Try.prog 9 #[.int .i64 n] w fun e w' => ∃ p, e = .returned (.tuple #[.pointer (some ⟨p, 0, none⟩), .int .i64 0]) ∧ One w' w.heap.size p n (fun _ => none) ∧ Below w.heap.size w w' := by
  refine (HI.new_any n hn w).mono ?_
  rintro e w' ⟨p, bp, bc, rfl, h1, h2⟩
  exact ⟨p, rfl, ⟨_, bp, bc, _, _, _, _, h1, HI.rep_new n, rfl⟩, h2⟩
theorem One.base {w : World} {B p n : Nat} {m : Nat → Option Int} (h : One w B p n m) : B ≤ w.heap.size := by
  obtain ⟨F, h⟩ := h
  exact h.base
theorem One.below {w w' : World} {B p n : Nat} {m : Nat → Option Int} (h : One w B p n m) (hb : Below w.heap.size w w') : One w' B p n m := by
  obtain ⟨F, h⟩ := h
  exact ⟨F, h.kept (Below.keeps hb (fun _ => False)) (fun _ _ h => h)⟩
theorem one_put {w : World} {B p n : Nat} {m : Nat → Option Int} (h : One w B p n m) (hn : n ≤ 64) (t v : Int) :
    Calls Try.prog 11 #[.pointer (some ⟨p, 0, none⟩), .int .i64 t, .int .i64 v] w fun e w' => e = .returned (.int .i64 (HM.code HM.TI n m t v)) ∧ One w' B p n (HM.put HM.TI n m t v) ∧ Below B w w' := by
  obtain ⟨F, h⟩ := h
  refine (hp_put h hn t v).mono ?_
  rintro e w' ⟨rfl, F', a1, a2, a3⟩
  exact ⟨rfl, ⟨F', a1⟩, a2.below (fun b hb => (h.lt b hb).1) h.base⟩
theorem one_pop {w : World} {B p n : Nat} {m : Nat → Option Int} (h : One w B p n m) (hn : n ≤ 64) :
    Calls Try.prog 13 #[.pointer (some ⟨p, 0, none⟩)] w fun e w' => e = .returned (peekT (Value.int .i64) 0 (HM.firstOf HM.TI m)) ∧ One w' B p n (HM.popped HM.TI m) ∧ Below B w w' := by
  obtain ⟨F, h⟩ := h
  refine (hp_pop h hn).mono ?_
  rintro e w' ⟨rfl, F', a1, a2, a3⟩
  exact ⟨rfl, ⟨F', a1⟩, a2.below (fun b hb => (h.lt b hb).1) h.base⟩
theorem one_peek {w : World} {B p n : Nat} {m : Nat → Option Int} (h : One w B p n m) :
    Calls Try.prog 15 #[.pointer (some ⟨p, 0, none⟩)] w fun e w' => e = .returned (peekT (Value.int .i64) 0 (HM.firstOf HM.TI m)) ∧ One w' B p n m ∧ Below B w w' := by
  have hB := h.base
  have h0 := h
  obtain ⟨F, h⟩ := h
  refine (hp_peek h).mono ?_
  rintro e w' ⟨rfl, a1⟩
  exact ⟨rfl, h0.below a1, a1.mono hB⟩
theorem one_len {w : World} {B p n : Nat} {m : Nat → Option Int} (h : One w B p n m) :
    Calls Try.prog 19 #[.pointer (some ⟨p, 0, none⟩)] w fun e w' => e = .returned (.int .i64 (HM.cnt n m : Nat)) ∧ w' = w := by
  obtain ⟨F, h⟩ := h
  exact hp_len h

/-! Both. -/
theorem Two.base {w : World} {B p q n : Nat} {m mr : Nat → Option Int} (h : Two w B p q n m mr) : B ≤ w.heap.size := by
  obtain ⟨F, G, h, _⟩ := h
  exact h.base
theorem Two.below {w w' : World} {B p q n : Nat} {m mr : Nat → Option Int} (h : Two w B p q n m mr) (hb : Below w.heap.size w w') : Two w' B p q n m mr := by
  obtain ⟨F, G, h1, h2, h3⟩ := h
  exact ⟨F, G, h1.kept (Below.keeps hb (fun _ => False)) (fun _ _ h => h), h2.kept (Below.keeps hb (fun _ => False)) (fun _ _ h => h), h3⟩
theorem Two.of {w w' : World} {B p q n : Nat} {m m' mr : Nat → Option Int} {F F' G : Nat → Prop} (h1 : Hp w B p n m F) (h2 : Rf w B q n mr G) (h3 : ∀ b, F b → ¬ G b) (a1 : Hp w' B p n m' F') (a2 : Keeps F w w') (a3 : ∀ b, F' b → F b ∨ w.heap.size ≤ b) : Two w' B p q n m' mr ∧ Below B w w' := by
  refine ⟨⟨F', G, a1, h2.kept a2 (fun b hb hf => h3 b hf hb), fun b hb hg => ?_⟩, a2.below (fun b hb => (h1.lt b hb).1) h1.base⟩
  rcases a3 b hb with h | h
  · exact h3 b h hg
  · have := (h2.lt b hg).2
    omega
theorem two_put {w : World} {B p q n : Nat} {m mr : Nat → Option Int} (h : Two w B p q n m mr) (hn : n ≤ 64) (t v : Int) :
    Calls Try.prog 11 #[.pointer (some ⟨p, 0, none⟩), .int .i64 t, .int .i64 v] w fun e w' => e = .returned (.int .i64 (HM.code HM.TI n m t v)) ∧ Two w' B p q n (HM.put HM.TI n m t v) mr ∧ Below B w w' := by
  obtain ⟨F, G, h1, h2, h3⟩ := h
  refine (hp_put h1 hn t v).mono ?_
  rintro e w' ⟨rfl, F', a1, a2, a3⟩
  exact ⟨rfl, Two.of h1 h2 h3 a1 a2 a3⟩
theorem two_pop {w : World} {B p q n : Nat} {m mr : Nat → Option Int} (h : Two w B p q n m mr) (hn : n ≤ 64) :
    Calls Try.prog 13 #[.pointer (some ⟨p, 0, none⟩)] w fun e w' => e = .returned (peekT (Value.int .i64) 0 (HM.firstOf HM.TI m)) ∧ Two w' B p q n (HM.popped HM.TI m) mr ∧ Below B w w' := by
  obtain ⟨F, G, h1, h2, h3⟩ := h
  refine (hp_pop h1 hn).mono ?_
  rintro e w' ⟨rfl, F', a1, a2, a3⟩
  exact ⟨rfl, Two.of h1 h2 h3 a1 a2 a3⟩
theorem two_peek {w : World} {B p q n : Nat} {m mr : Nat → Option Int} (h : Two w B p q n m mr) :
    Calls Try.prog 15 #[.pointer (some ⟨p, 0, none⟩)] w fun e w' => e = .returned (peekT (Value.int .i64) 0 (HM.firstOf HM.TI m)) ∧ Two w' B p q n m mr ∧ Below B w w' := by
  have hB := h.base
  have h0 := h
  obtain ⟨F, G, h, _⟩ := h
  refine (hp_peek h).mono ?_
  rintro e w' ⟨rfl, a1⟩
  exact ⟨rfl, h0.below a1, a1.mono hB⟩
theorem two_at {w : World} {B p q n : Nat} {m mr : Nat → Option Int} (h : Two w B p q n m mr) (t : Int) :
    Calls Try.prog 17 #[.pointer (some ⟨p, 0, none⟩), .int .i64 t] w fun e w' => e = .returned (atT (Value.int .i64) 0 (HM.look m t)) ∧ Two w' B p q n m mr ∧ Below B w w' := by
  have hB := h.base
  have h0 := h
  obtain ⟨F, G, h, _⟩ := h
  refine (hp_at h t).mono ?_
  rintro e w' ⟨rfl, a1⟩
  exact ⟨rfl, h0.below a1, a1.mono hB⟩
theorem two_len {w : World} {B p q n : Nat} {m mr : Nat → Option Int} (h : Two w B p q n m mr) :
    Calls Try.prog 19 #[.pointer (some ⟨p, 0, none⟩)] w fun e w' => e = .returned (.int .i64 (HM.cnt n m : Nat)) ∧ w' = w := by
  obtain ⟨F, G, h, _⟩ := h
  exact hp_len h
theorem Two.ofR {w w' : World} {B p q n : Nat} {m mr mr' : Nat → Option Int} {F G : Nat → Prop} (h1 : Hp w B p n m F) (h2 : Rf w B q n mr G) (h3 : ∀ b, F b → ¬ G b) (a1 : Rf w' B q n mr' G) (a2 : Keeps G w w') : Two w' B p q n m mr' ∧ Below B w w' :=
  ⟨⟨F, G, h1.kept a2 h3, a1, h3⟩, a2.below (fun b hb => (h2.lt b hb).1) h1.base⟩
theorem two_rput {w : World} {B p q n : Nat} {m mr : Nat → Option Int} (h : Two w B p q n m mr) (t v : Int) :
    Calls Try.prog 12 #[.pointer (some ⟨q, 0, none⟩), .int .i64 t, .int .i64 v] w fun e w' => e = .returned (.int .i64 (HM.code HM.TI n mr t v)) ∧ Two w' B p q n m (HM.put HM.TI n mr t v) ∧ Below B w w' := by
  obtain ⟨F, G, h1, h2, h3⟩ := h
  obtain ⟨bi, bq, ins, ps, r1, r2, rfl⟩ := id h2
  refine (HR.put_any r1 r2 t v).mono ?_
  rintro e w' ⟨rfl, ins', ps', a1, a2, a3⟩
  exact ⟨rfl, Two.ofR h1 h2 h3 ⟨_, _, _, _, a1, a2, rfl⟩ a3⟩
theorem two_rpop {w : World} {B p q n : Nat} {m mr : Nat → Option Int} (h : Two w B p q n m mr) (hn : n ≤ 64) :
    Calls Try.prog 14 #[.pointer (some ⟨q, 0, none⟩)] w fun e w' => e = .returned (peekT (Value.int .i64) 0 (HM.firstOf HM.TI mr)) ∧ Two w' B p q n m (HM.popped HM.TI mr) ∧ Below B w w' := by
  obtain ⟨F, G, h1, h2, h3⟩ := h
  obtain ⟨bi, bq, ins, ps, r1, r2, rfl⟩ := id h2
  refine (HR.pop_any r1 r2 hn).mono ?_
  rintro e w' ⟨rfl, ins', a1, a2, a3⟩
  exact ⟨rfl, Two.ofR h1 h2 h3 ⟨_, _, _, _, a1, a2, rfl⟩ a3⟩
theorem two_rpeek {w : World} {B p q n : Nat} {m mr : Nat → Option Int} (h : Two w B p q n m mr) (hn : n ≤ 64) :
    Calls Try.prog 16 #[.pointer (some ⟨q, 0, none⟩)] w fun e w' => e = .returned (peekT (Value.int .i64) 0 (HM.firstOf HM.TI mr)) ∧ Two w' B p q n m mr ∧ Below B w w' := by
  have h0 := h
  obtain ⟨F, G, h1, h2, h3⟩ := h
  obtain ⟨bi, bq, ins, ps, r1, r2, rfl⟩ := id h2
  refine (HR.peek_any r1 r2 hn).mono ?_
  rintro e w' ⟨rfl, k, rfl⟩
  exact ⟨rfl, h0.below (below_drewN (Below.refl _ _) _), below_drewN (Below.refl _ _) _⟩
theorem two_rat {w : World} {B p q n : Nat} {m mr : Nat → Option Int} (h : Two w B p q n m mr) (t : Int) :
    Calls Try.prog 18 #[.pointer (some ⟨q, 0, none⟩), .int .i64 t] w fun e w' => e = .returned (atT (Value.int .i64) 0 (HM.look mr t)) ∧ w' = w := by
  obtain ⟨F, G, h1, h2, h3⟩ := h
  obtain ⟨bi, bq, ins, ps, r1, r2, rfl⟩ := h2
  exact HR.at_any r1 r2 t
theorem two_rlen {w : World} {B p q n : Nat} {m mr : Nat → Option Int} (h : Two w B p q n m mr) (hn : n ≤ 64) :
    Calls Try.prog 20 #[.pointer (some ⟨q, 0, none⟩)] w fun e w' => e = .returned (.int .i64 (HM.cnt n mr : Nat)) ∧ w' = w := by
  obtain ⟨F, G, h1, h2, h3⟩ := h
  obtain ⟨bi, bq, ins, ps, r1, r2, rfl⟩ := h2
  exact HR.len_any r1 r2 hn

/-! The reference's New. -/
theorem infoB : (Try.prog.info? 4).map (fun i => (i.zero, i.size, i.bytes)) = some (some (.bool false), 1, 1) := by kernel_rfl
theorem made_bools (w : World) (B n : Nat) (hB : B ≤ w.heap.size) (hn : n ≤ 64) : (w.alloc (.cells (madeCells #[.bool false] n) 4)).ownsRow B 4 1 (.slice (some ⟨w.heap.size, 0, none⟩) n n) n ((List.replicate n false).map Value.bool) := by
  have h := World.ownsRow_lit (base := B) (e := 4) (size := 1) w (madeCells #[.bool false] n) n hB (by unfold maxLen; omega) (by rw [size_madeCells]; omega)
  rw [toList_madeCells_one] at h
  simpa using h
theorem rnew_mem {w : World} {B g c n : Nat} {st : TypeId} (h1 : w.ownsRow B 4 1 (.slice (some ⟨g, 0, none⟩) n n) n ((List.replicate n false).map Value.bool)) (h2 : w.ownsRow B 3 1 (.slice (some ⟨c, 0, none⟩) n n) n ((List.replicate n (0 : Int)).map (Value.int .i64))) (hgc : g ≠ c) (hB : B ≤ w.heap.size) {p : Nat} (hp : p = w.heap.size) :
    RMem (w.alloc (.cells #[.slice (some ⟨g, 0, none⟩) n n, .slice (some ⟨c, 0, none⟩) n n] st)) B p g c (List.replicate n false) (List.replicate n 0) := by
  subst hp
  have l1 := (World.ownsRow.lt h1 g rfl).2
  have l2 := (World.ownsRow.lt h2 c rfl).2
  refine ⟨by simp, by simp, ?_, ?_, hB, by omega, by omega, hgc⟩
  · rw [List.length_replicate]; exact h1.alloc _
  · rw [List.length_replicate]; exact h2.alloc _
theorem rrep_new (n : Nat) : HR.Rep n (fun _ => none) (List.replicate n false) (List.replicate n 0) := by
  refine ⟨by simp, by simp, fun t => ?_⟩
  by_cases ht : t < n
  · simp [bat, ht]
  · rw [if_neg (by omega)]
set_option maxHeartbeats 2000000 in
theorem rnew_any (n : Nat) (hn : n ≤ 64) (w : World) :
    Calls Try.prog 10 #[.int .i64 n] w fun e w' => ∃ q bi bq, e = .returned (.pointer (some ⟨q, 0, none⟩)) ∧ RMem w' w.heap.size q bi bq (List.replicate n false) (List.replicate n 0) ∧ Below w.heap.size w w' := by
  have hmk := run_make_row' (P := Try.prog) 43 3 (.int .i64 0) 8 Try.underlying43 HI.info3 rfl .i64 .i64 n (by omega) (by omega)
  have hmb := run_make_row' (P := Try.prog) 44 4 (.bool false) 1 Try.underlying44 infoB rfl .i64 .i64 n (by omega) (by omega)
  go_enter Try.func10, Try.ntmps10
  go_wp2_with fail
  go_region
  all_goals (go_wp2_with fail; go_ret)
  · have q2 := HI.made_row (w.alloc (.cells (madeCells #[.bool false] n) 4)) w.heap.size n (by simp) hn
    rw [World.size_alloc] at q2
    exact ⟨_, w.heap.size, w.heap.size + 1, rfl, (rnew_mem ((made_bools w w.heap.size n (Nat.le_refl _) hn).alloc _) q2 (by omega) (by simp; omega) (by simp)).kept ((Keeps.refl (fun _ => False) _).drew) (fun _ _ h => h), ((((Below.refl _ w).alloc (Nat.le_refl _) _).alloc (by simp) _).alloc (by simp; omega) _).drew⟩
  · have q1 := made_bools (w.alloc (.cells (madeCells #[.int .i64 0] n) 3)) w.heap.size n (by simp) hn
    rw [World.size_alloc] at q1
    exact ⟨_, w.heap.size + 1, w.heap.size, rfl, (rnew_mem q1 ((HI.made_row w w.heap.size n (Nat.le_refl _) hn).alloc _) (by omega) (by simp; omega) (by simp)).kept ((Keeps.refl (fun _ => False) _).drew) (fun _ _ h => h), ((((Below.refl _ w).alloc (Nat.le_refl _) _).alloc (by simp) _).alloc (by simp; omega) _).drew⟩
theorem RMem.base_le {w : World} {B B' q bi bq : Nat} {ins : List Bool} {ps : List Int} (h : RMem w B q bi bq ins ps) (hB : B' ≤ B) : RMem w B' q bi bq ins ps :=
  ⟨h.c0, h.c1, HI.row_base h.is hB, HI.row_base h.ps hB, Nat.le_trans hB h.lo, h.n1, h.n2, h.n3⟩
theorem two_new {w : World} {B p n : Nat} {m : Nat → Option Int} (h : One w B p n m) (hn : n ≤ 64) :
    Calls Try.prog 10 #[.int .i64 n] w fun e w' => ∃ q, e = .returned (.pointer (some ⟨q, 0, none⟩)) ∧ Two w' B p q n m (fun _ => none) ∧ Below B w w' := by
  have hB := h.base
  obtain ⟨F, h1⟩ := h
  refine (rnew_any n hn w).mono ?_
  rintro e w' ⟨q, bi, bq, rfl, a1, a2⟩
  refine ⟨q, rfl, ⟨F, _, h1.kept (Below.keeps a2 (fun _ => False)) (fun _ _ h => h), ⟨bi, bq, _, _, a1.base_le hB, rrep_new n, rfl⟩, fun b hb hg => ?_⟩, a2.mono hB⟩
  have := (h1.lt b hb).2
  have := (a1.lt b hg).1
  omega
end Go.Proofs.Ytmmokmgljacddaa
