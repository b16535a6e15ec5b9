/-
  The walk of the laws' own first look: the answers that the document fixes.
-/
import Derived.Test.YtnfhjdealagckaaDoorBitsList
namespace Go.Proofs.YtnfhjdealagckaaDoor
open Go.RowKit

theorem row_lit (k : IntKind) (e : TypeId) (w : World) (zs : List Int) (cs : Array Value) (n : Nat) (b : Nat) (hb : b = w.heap.size) (hcs : cs = (zs.map (Value.int k)).toArray) (hn : n = zs.length) (hm : n ≤ maxLen) :
    Row k (w.alloc (.cells cs e)) (.slice (some ⟨b, 0, none⟩) n n) zs := by
  subst hb
  exact (Own.lit k e w w.heap.size (Nat.le_refl _) zs cs n hcs hn hm).row

set_option maxHeartbeats 1000000 in
theorem awake_any (w : World) (hR : Ready w) :
    Calls Tryd.prog 8 #[] w fun e w' => e = .returned (.bool true) ∧ Below w.heap.size w w' := by
  have hb1 : ∀ cs : Array Value, Below w.heap.size w (w.alloc (.cells cs 3)) := fun cs => (Below.refl _ _).alloc (Nat.le_refl _) _
  have hR1 : ∀ cs : Array Value, Ready (w.alloc (.cells cs 3)) := fun cs => hR.below hR.1 (hb1 cs)
  have e1 : BM.ofL [2, 0, 64] = 5 := by decide
  have e2 : fst 5 = 0 := by decide
  have e3 : some? 5 = true := by decide
  have e4 : (BM.lst 5).length = 2 := by decide
  have e5 : BM.has 5 2 = true := by decide
  have e6 : BM.has 5 1 = false := by decide
  have e7 : 5 ||| BM.only 1 = 7 := by decide
  have e8 : BM.less 5 (BM.only 2) = 1 := by decide
  have e9 : BM.below 3 = 7 := by decide
  have c1 := fun cs : Array Value => first_any 5 (by decide) _ (hR1 cs)
  have c2 := len_any 5 (by decide)
  have c3 := has_any 5 2 (by decide)
  have c4 := has_any 5 1 (by decide)
  have c5 := with_any 5 1 (by decide)
  have c6 := without_any 5 2 (by decide)
  have c7 := below_any 3
  rw [e2, e3] at c1
  rw [e4] at c2
  rw [e5] at c3
  rw [e6] at c4
  rw [e7] at c5
  rw [e8] at c6
  rw [e9] at c7
  have E1 : Hid (BM.ofL [2, 0, 64] = 5) := e1
  clear e1 e2 e3 e4 e5 e6 e7 e8 e9
  go_enter Tryd.func8, Tryd.ntmps8
  go_wp2_with fail
  refine (of_any _ [2, 0, 64] _ (row_lit .i64 _ _ [2, 0, 64] _ 3 _ rfl rfl rfl (by decide))).mono ?_
  rintro e w' ⟨rfl, rfl⟩
  rw [E1.out]
  go_wp2_with fail
  refine (c1 _).mono ?_
  rintro e w' ⟨rfl, rfl⟩
  go_wp2_with fail
  refine (c2 _).mono ?_
  rintro e w' ⟨rfl, rfl⟩
  go_wp2_with fail
  refine (c3 _).mono ?_
  rintro e w' ⟨rfl, rfl⟩
  go_wp2_with fail
  refine (c4 _).mono ?_
  rintro e w' ⟨rfl, rfl⟩
  go_wp2_with fail
  refine (c5 _).mono ?_
  rintro e w' ⟨rfl, rfl⟩
  go_wp2_with fail
  refine (c6 _).mono ?_
  rintro e w' ⟨rfl, rfl⟩
  go_wp2_with fail
  refine (c7 _).mono ?_
  rintro e w' ⟨rfl, rfl⟩
  go_wp2_with fail
  go_ret
  exact ⟨rfl, hb1 _⟩
end Go.Proofs.YtnfhjdealagckaaDoor
