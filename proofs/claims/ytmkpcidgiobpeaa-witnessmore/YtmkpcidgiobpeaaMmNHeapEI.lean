/-
  The walk of package heap's New, where priorities are of type int.
-/
import Derived.Test.YtmkpcidgiobpeaaMmNHeapCI
import Derived.Test.YtmkpcidgiobpeaaMmNHeapN
import Derived.Deep.RegionWith
import Derived.Deep.RegionHeld3
namespace Go.Proofs.Ytmkpcidgiobpeaa
namespace HI
open Go.RowKit

theorem infoC : (Try.prog.info? 3).map (fun i => (i.zero, i.size, i.bytes)) = some (some ((Value.int .i64) (0 : Int)), 1, 8) := by kernel_rfl

theorem new_mem {w : World} {B g c n : Nat} {st : TypeId} (h1 : w.ownsRow B 3 1 (.slice (some ⟨g, 0, none⟩) n n) n ((List.replicate n (-1 : Int)).map (Value.int .i64))) (h2 : w.ownsRow B 3 1 (.slice (some ⟨c, 0, none⟩) n n) n ((List.replicate n (0 : Int)).map (Value.int .i64))) (hgc : g ≠ c) (hB : B ≤ w.heap.size) {p : Nat} (hp : p = w.heap.size) :
    HMem (Value.int .i64) 3 (w.alloc (.cells #[.slice none 0 0, .slice (some ⟨g, 0, none⟩) n n, .slice (some ⟨c, 0, none⟩) n n] st)) B p g c (.slice none 0 0) [] (List.replicate n (-1)) (List.replicate n (0 : Int)) := by
  subst hp
  have l1 := (World.ownsRow.lt h1 g rfl).2
  have l2 := (World.ownsRow.lt h2 c rfl).2
  refine ⟨by simp, ⟨n, by simp, ?_⟩, ⟨n, by simp, ?_⟩, by simp, World.ownsRow_nil _ _ _ _, hB, by omega, by omega, hgc, fun g' h => by cases h⟩
  · rw [List.length_replicate]; exact h1.alloc _
  · rw [List.length_replicate]; exact h2.alloc _
theorem rep_new (n : Nat) : HM.Rep HM.TI (0 : Int) n (fun _ => none) [] (List.replicate n (-1)) (List.replicate n (0 : Int)) := by
  refine ⟨⟨by simp, fun i hi => by simp at hi, fun t ht => .inl ?_⟩, by simp, fun k _ hk => by simp at hk, fun t => ?_⟩
  · simp [HM.pat, ht]
  · by_cases ht : t < n
    · simp [HM.pat, ht]
    · rw [if_neg (by omega)]

theorem row_base {w : World} {B B' : Nat} {e : TypeId} {v : Value} {n : Nat} {xs : List Value} (h : w.ownsRow B e 1 v n xs) (hb : B' ≤ B) : w.ownsRow B' e 1 v n xs := by
  refine ⟨h.1, ?_⟩
  rcases h.2 with h' | ⟨g, cap, cur, hv, hg, r⟩
  · exact .inl h'
  · exact .inr ⟨g, cap, cur, hv, Nat.le_trans hb hg, r⟩
theorem made_row (w : World) (B n : Nat) (hB : B ≤ w.heap.size) (hn : n ≤ 64) : (w.alloc (.cells (madeCells #[(Value.int .i64) (0 : Int)] n) 3)).ownsRow B 3 1 (.slice (some ⟨w.heap.size, 0, none⟩) n n) n ((List.replicate n (0 : Int)).map (Value.int .i64)) := by
  have h := World.ownsRow_lit (base := B) (e := 3) (size := 1) w (madeCells #[(Value.int .i64) (0 : Int)] n) n hB (by unfold maxLen; omega) (by rw [size_madeCells]; omega)
  rw [toList_madeCells_one] at h
  simpa using h
theorem below_row {w w' : World} {B : Nat} {e : TypeId} {v : Value} {n : Nat} {xs : List Value} (h : w.ownsRow B e 1 v n xs) (hb : Below w.heap.size w w') : w'.ownsRow B e 1 v n xs := (Below.keeps hb (fun _ => False)).row h (fun _ _ h => h)

set_option maxHeartbeats 2000000 in
theorem new_bad (n : Int) (hn : n < 0 ∨ 64 < n) (w : World) :
    Calls Try.prog 43 #[.int .i64 n] w fun e w' => e = .returned (.tuple #[.pointer none, .int .i64 1]) ∧ w' = w := by
  by_cases h0 : n < 0
  · go_enter Try.func43, Try.ntmps43
    go_wp2_with fail
    go_ret2
    exact ⟨rfl, rfl⟩
  · have h1 : 64 < n := by omega
    clear hn
    go_enter Try.func43, Try.ntmps43
    go_wp2_with fail
    go_ret2
    exact ⟨rfl, rfl⟩

set_option maxHeartbeats 2000000 in
theorem new_any (n : Nat) (hn : n ≤ 64) (w : World) :
    Calls Try.prog 43 #[.int .i64 n] w fun e w' => ∃ p bp bc, e = .returned (.tuple #[.pointer (some ⟨p, 0, none⟩), .int .i64 0]) ∧
      HMem (Value.int .i64) 3 w' w.heap.size p bp bc (.slice none 0 0) [] (List.replicate n (-1)) (List.replicate n (0 : Int)) ∧ Below w.heap.size w w' := by
  have hmk := run_make_row' (P := Try.prog) 29 3 ((Value.int .i64) (0 : Int)) 8 Try.underlying29 infoC rfl .i64 .i64 n (by omega) (by omega)
  go_enter Try.func43, Try.ntmps43
  go_wp2_with fail
  go_region_with (go_at_call 55; refine (HN.repeat_any _ n hn _ (by simp)).mono ?_; rintro e w1 ⟨rfl, ho1, hb1⟩)
  all_goals (go_wp2_with fail; go_ret2)
  · have s1 := hb1.size
    have q1 : w1.ownsRow w.heap.size 3 1 (.slice (some ⟨w.heap.size + 1, 0, none⟩) n n) n ((List.replicate n (-1 : Int)).map (Value.int .i64)) := by
      have := row_base ho1 (B' := w.heap.size) (by simp)
      simpa using this
    have b1 : Below w.heap.size w w1 := ((Below.refl _ w).alloc (Nat.le_refl _) _).drew.trans (hb1.mono (B' := w.heap.size) (by simp))
    have s2 : w.heap.size + 1 < w1.heap.size := (World.ownsRow.lt q1 _ rfl).2
    refine ⟨_, w.heap.size + 1, w1.heap.size, rfl, new_mem (q1.alloc _) (made_row w1 w.heap.size n (by omega) hn) (by omega) (by simp; omega) (by simp), (b1.alloc (by omega) _).alloc (by simp; omega) _⟩
  · have s1 := hb1.size
    have q1 : w1.ownsRow w.heap.size 3 1 (.slice (some ⟨w.heap.size + 1 + 1, 0, none⟩) n n) n ((List.replicate n (-1 : Int)).map (Value.int .i64)) := by
      have := row_base ho1 (B' := w.heap.size) (by simp; omega)
      simpa using this
    have b1 : Below w.heap.size w w1 := (((Below.refl _ w).alloc (Nat.le_refl _) _).alloc (by simp) _).drew.trans (hb1.mono (B' := w.heap.size) (by simp; omega))
    have s2 : w.heap.size + 1 + 1 < w1.heap.size := (World.ownsRow.lt q1 _ rfl).2
    have q2 := below_row (made_row (w.alloc (.cells #[.int .i64 (-1)] 3)) w.heap.size n (by simp) hn) (below_of_drew hb1)
    rw [show (w.alloc (.cells #[.int .i64 (-1)] 3)).heap.size = w.heap.size + 1 by simp] at q2
    refine ⟨_, w.heap.size + 1 + 1, w.heap.size + 1, rfl, new_mem q1 q2 (by omega) (by omega) (by simp), b1.alloc (by omega) _⟩
  · have s1 := hb1.size
    have q1 : w1.ownsRow w.heap.size 3 1 (.slice (some ⟨w.heap.size + 1 + 1, 0, none⟩) n n) n ((List.replicate n (-1 : Int)).map (Value.int .i64)) := by
      have := row_base ho1 (B' := w.heap.size) (by simp; omega)
      simpa using this
    have b1 : Below w.heap.size w w1 := (((Below.refl _ w).alloc (Nat.le_refl _) _).alloc (by simp) _).drew.trans (hb1.mono (B' := w.heap.size) (by simp; omega))
    have s2 : w.heap.size + 1 + 1 < w1.heap.size := (World.ownsRow.lt q1 _ rfl).2
    have q2 := below_row ((made_row w w.heap.size n (Nat.le_refl _) hn).alloc (.cells #[.int .i64 (-1)] 3)) (below_of_drew hb1)
    refine ⟨_, w.heap.size + 1 + 1, w.heap.size, rfl, new_mem q1 q2 (by omega) (by omega) (by simp), b1.alloc (by omega) _⟩
end HI
end Go.Proofs.Ytmkpcidgiobpeaa
