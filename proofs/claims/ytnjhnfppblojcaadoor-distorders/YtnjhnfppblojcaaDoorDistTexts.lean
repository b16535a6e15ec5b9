/-
  The walks of package dist's and its reference's functions over texts.
-/
import Derived.Test.YtnjhnfppblojcaaDoorDistLists
import Derived.Test.YtnjhnfppblojcaaDoorDistTextMath
import Derived.Test.YtnjhnfppblojcaaDoorShelf
import Derived.Lib.AtoiErrMem
import Derived.WalkSmall
namespace Go.Proofs.YtnjhnfppblojcaaDoor
open Go.RowKit

theorem gPow : Tryd.prog.globalNamed "internal/strconv.uint64pow10" = some 2 := by kernel_rfl

/-- What the library's texts lean on: its table of powers, and its two errors. -/
def Ready (w : World) : Prop :=
  4 < w.heap.size ∧ Lib.TabIs Tryd.prog w "internal/strconv.uint64pow10" .u64 Lib.pow10Tab ∧
  (∃ t p, w.cell? ⟨0, 0, none⟩ = some (.iface t p)) ∧ ∃ t p, w.cell? ⟨1, 0, none⟩ = some (.iface t p)
theorem Ready.below {w w' : World} (h : Ready w) (hb : Below w.heap.size w w') : Ready w' := by
  obtain ⟨h0, h1, ⟨t, p, h2⟩, u, q, h3⟩ := h
  have hs := hb.size
  refine ⟨by omega, var?_below hb gPow (by omega) h1, ⟨t, p, ?_⟩, u, q, ?_⟩
  · rw [hb.cell (by dsimp only; omega)]; exact h2
  · rw [hb.cell (by dsimp only; omega)]; exact h3
theorem below_grow (w : World) (k : Nat) (os : Array Obj) : Below w.heap.size w (Sort.grow (w.drewN k) os) :=
  ⟨rfl, rfl, rfl, by simp [Sort.grow, World.drewN], fun i hi => by
    show (w.heap ++ os)[i]? = _
    rw [Array.getElem?_append_left hi]⟩

theorem ret_str {a b : List UInt8} (h : a = b) : Ending.returned (.string ⟨a.toArray⟩) = .returned (.string ⟨b.toArray⟩) := by rw [h]

set_option maxHeartbeats 400000 in
theorem text_any (a : Int) (w : World) (hw : Ready w) :
    Calls Tryd.prog 18 #[.int .i64 a] w fun e w' => e = .returned (.string ⟨(DM.text a).toArray⟩) ∧ Below w.heap.size w w' := by
  have hb := DM.norm_bd a
  by_cases h1 : DM.norm a = 4611686018427387905
  · go_enter Tryd.func18, Tryd.ntmps18
    go_wp2_with (go_at_call 9; refine (norm_any _ _).mono ?_; rintro e w' ⟨rfl, rfl⟩)
    go_ret
    refine ⟨ret_str (a := [102, 97, 114]) ?_, Below.refl _ _⟩
    unfold DM.text; rw [if_pos h1]; rfl
  by_cases h2 : DM.norm a = 4611686018427387906
  · go_enter Tryd.func18, Tryd.ntmps18
    go_wp2_with (go_at_call 9; refine (norm_any _ _).mono ?_; rintro e w' ⟨rfl, rfl⟩)
    go_ret
    refine ⟨ret_str (a := [110, 111, 110, 101]) ?_, Below.refl _ _⟩
    unfold DM.text; rw [if_neg h1, if_pos h2]; rfl
  · have HT : Hid (DM.text a = Lib.itoa (DM.norm a)) := by
      show _ = _
      unfold DM.text Lib.itoa
      rw [if_neg h1, if_neg h2, if_neg (by omega)]
    have f1 : (DM.norm a == 4611686018427387905) = false := by simp [h1]
    have f2 : (DM.norm a == 4611686018427387906) = false := by simp [h2]
    go_enter Tryd.func18, Tryd.ntmps18
    go_wp2_with (first
      | (go_at_call 9; refine (norm_any _ _).mono ?_; rintro e w' ⟨rfl, rfl⟩)
      | (go_at_call 27; refine (Tryd.strconv_Itoa _ (by omega) (by omega) _ hw.2.1).mono ?_; rintro e w' ⟨rfl, nk, os, rfl⟩))
    go_ret
    exact ⟨ret_str HT.out.symm, below_grow _ _ _⟩

set_option maxHeartbeats 400000 in
theorem digits_any (n : Nat) (w : World) (hn : n ≤ 4611686018427387904) :
    Calls Tryd.prog 28 #[.int .i64 n] w fun e w' => e = .returned (.string ⟨(Lib.decDigits n).toArray⟩) ∧ w' = w := by
  go_enter Tryd.func28, Tryd.ntmps28
  go_wp2
  go_loop [0, 3, 4] (fun m s i => ∃ (k q : Nat) (l : List UInt8), k ≤ 20 ∧ i = .int .i64 k ∧ m = .int .i64 q ∧ s = .string ⟨l.toArray⟩ ∧ l.length = k ∧ q * 10 ^ k ≤ n ∧ ((k = 0 ∧ q = n) ∨ (0 < k ∧ Lib.decDigits n = (if q = 0 then [] else Lib.decDigits q) ++ l))) (fun _ _ i => 20 - (intOf i).toNat)
  case atStart => exact ⟨0, n, [], by omega, rfl, rfl, rfl, rfl, by simp, .inl ⟨rfl, rfl⟩⟩
  case round =>
    obtain ⟨k, q, l, hk, rfl, rfl, rfl, hl, hq, hd⟩ := hrel
    have hqn : q ≤ n := Nat.le_trans (Nat.le_mul_of_pos_right q (Nat.pow_pos (by omega))) hq
    have HQ : Hid (q * 10 ^ k ≤ n) := hq
    have HD : Hid _ := hd
    clear hq hd
    by_cases hgo : 0 < q ∨ k = 0
    · have hk20 : k < 20 := by
        rcases hgo with h | h
        · exact DM.pow_bound h HQ.out hn
        · omega
      have fin : ∃ (k1 q1 : Nat) (l1 : List UInt8), k1 ≤ 20 ∧ Value.int IntKind.i64 ((k : Int) + 1) = .int .i64 k1 ∧ Value.int IntKind.i64 ((q : Int) / 10) = .int .i64 q1 ∧ Value.string (ByteArray.extract ⟨#[48, 49, 50, 51, 52, 53, 54, 55, 56, 57]⟩ (q % 10) (q % 10 + 1) ++ ⟨l.toArray⟩) = .string ⟨l1.toArray⟩ ∧ l1.length = k1 ∧ q1 * 10 ^ k1 ≤ n ∧ ((k1 = 0 ∧ q1 = n) ∨ (0 < k1 ∧ Lib.decDigits n = (if q1 = 0 then [] else Lib.decDigits q1) ++ l1)) := by
        refine ⟨k + 1, q / 10, UInt8.ofNat (48 + q % 10) :: l, by omega, by go_num, by go_num, by rw [DM.digit_str], by simp [hl], ?_, .inr ⟨by omega, DM.digit_step (HD.out) hl hgo⟩⟩
        exact Nat.le_trans (DM.pow_step q k) HQ.out
      have FIN : Hid _ := fin
      clear fin
      by_cases h0 : 0 < q
      · go_wp2
        exact ⟨FIN.out, by simp [intOf]; omega⟩
      · have hkb : ((k : Int) == 0) = true := by simp; omega
        go_wp2
        exact ⟨FIN.out, by simp [intOf]; omega⟩
    · have hz : q = 0 := by omega
      have hkb : ((k : Int) == 0) = false := by simp; omega
      have HE : Hid (l = Lib.decDigits n) := by
        rcases HD.out with ⟨h, _⟩ | ⟨_, h⟩
        · omega
        · rw [if_pos hz] at h; exact h.symm
      by_cases hk20 : k < 20
      all_goals
        go_wp2
        go_ret
        exact ⟨ret_str HE.out, rfl⟩
end Go.Proofs.YtnjhnfppblojcaaDoor
