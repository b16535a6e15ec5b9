/-
  The walk of the law's own first look: the answers that the document fixes.
-/
import Derived.Test.YtahamdgfndhfaaaOctetUnhex
namespace Go.Proofs.Ytahamdgfndhfaaa
open Go.RowKit

theorem notgood : ¬ OM.good [48, 65] := fun h => by
  have := h.2 1 (by decide)
  exact absurd this (by decide)

theorem row_lit (k : IntKind) (e : TypeId) (w : World) (zs : List Int) (cs : Array Value) (n : Nat) (b : Nat) (hb : b = w.heap.size) (hcs : cs = (zs.map (Value.int k)).toArray) (hn : n = zs.length) (hm : n ≤ maxLen) :
    Row k (w.alloc (.cells cs e)) (.slice (some ⟨b, 0, none⟩) n n) zs := by
  subst hb
  exact (Own.lit k e w w.heap.size (Nat.le_refl _) zs cs n hcs hn hm).row

set_option maxHeartbeats 1000000 in
theorem awake_any (w : World) :
    Calls Try.prog 8 #[] w fun e w' => e = .returned (.bool true) ∧ Below w.heap.size w w' := by
  have p1 : OM.num (List.take 2 [1, 2, 3]) = 258 := by decide
  have p2 : strOfNums ([] ++ OM.low 2 258) = ⟨#[1, 2]⟩ := by decide
  have p3 : OM.hexL [171] = [97, 98] := by decide
  have P1 : Hid _ := p1
  have P2 : Hid _ := p2
  have P3 : Hid _ := p3
  clear p1 p2 p3
  go_enter Try.func8, Try.ntmps8
  go_wp2_with fail
  refine (get_ok _ [1, 2, 3] 2 _ (row_lit .u8 _ _ [1, 2, 3] _ 3 _ rfl rfl rfl (by decide)) (by decide) (by decide) (by decide) (by decide)).mono ?_
  rintro e w1 ⟨r1, rfl, ho1, hb1⟩
  rw [P1.out]
  have hb1' : Below w.heap.size w w1 := ((Below.refl _ _).alloc (Nat.le_refl _) _).trans (hb1.mono (by simp))
  obtain ⟨a1, c1, rfl, _⟩ := ho1.at
  have hz1 := hb1'.size
  clear ho1 hb1
  go_wp2_with fail
  refine (get_short _ 1 1 2 _ (by decide) (by decide)).mono ?_
  rintro e w2 ⟨rfl, rfl⟩
  go_wp2_with fail
  have hb2 : Below w.heap.size w _ := hb1'.alloc hz1 (.cells #[.int .u8 1] 5)
  refine (unhex_any _ _ (by decide)).mono ?_
  rintro e w3 ⟨h3, hb3⟩
  rcases h3 with ⟨hg, _⟩ | ⟨_, rfl⟩
  · exact absurd hg notgood
  have hb3' : Below w.heap.size w w3 := hb2.trans (hb3.mono hb2.size)
  have hz3 := hb3'.size
  clear hb3
  go_wp2_with fail
  refine (put_any _ [] 2 258 _ (Row.nil _ _) (by decide) (by decide) (by decide)).mono ?_
  rintro e w4 ⟨r4, rfl, ho4, hb4⟩
  have hb4' : Below w.heap.size w w4 := hb3'.trans (hb4.mono hz3)
  have hz4 := hb4'.size
  have hcv := ho4.row.string 22 5 9 Try.underlying22 Try.underlying5 Try.underlying9
  rw [P2.out] at hcv
  clear hb4 ho4
  go_wp2_with fail
  refine (hex_any _ [171] _ (row_lit .u8 _ _ [171] _ 1 _ rfl rfl rfl (by decide)) (by decide) (by decide)).mono ?_
  rintro e w5 ⟨rfl, hb5⟩
  rw [P3.out]
  have hb5' : Below w.heap.size w w5 := (hb4'.alloc hz4 _).trans (hb5.mono (by simp; omega))
  clear hb5
  go_wp2_with fail
  go_ret
  exact ⟨rfl, hb5'⟩
end Go.Proofs.Ytahamdgfndhfaaa
