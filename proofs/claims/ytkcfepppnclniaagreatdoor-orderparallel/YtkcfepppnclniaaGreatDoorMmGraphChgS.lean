/-
  GraphChgS, GraphChgW.
-/
import Derived.Test.YtkcfepppnclniaaGreatDoorMmGraphA
section
/-
  The walk of graph's change, where what an arc becomes is told by shut$1.
-/
namespace Go.Proofs.YtkcfepppnclniaaGreatDoor
open Go.RowKit

set_option maxHeartbeats 1000000 in
set_option maxRecDepth 100000 in
/-- f: what an arc becomes, and the code; y: what lies there then. -/
theorem change_s {w : World} {p N most : Nat} {m : GM.M} (hg : GMem w p N most m) (hm : GM.Good most m) (id : Int) (B : Nat) (f : Arc → Arc × Int) (y : Option Arc) (hy : y.getD noArc = (f (GM.arc m id.toNat)).1)
    (hcl : ∀ W a, Below w.heap.size w W → Calls Tryz.prog 104 #[arcV a, .pointer (some ⟨B, 0, none⟩)] W fun e w' => e = .returned (.tuple #[arcV (f a).1, .int .i64 (f a).2]) ∧ Below W.heap.size W w') :
    Calls Tryz.prog 80 #[.pointer (some ⟨p, 0, none⟩), .int .i64 id, .func (.func 104) #[] #[.pointer (some ⟨B, 0, none⟩)]] w fun e w' =>
      e = .returned (.int .i64 (if GM.atCode m id = 0 then (f (GM.arc m id.toNat)).2 else GM.atCode m id)) ∧ GMem w' p N most (if GM.atCode m id = 0 ∧ (f (GM.arc m id.toNat)).2 = 0 then GM.upd m id.toNat y else m) ∧ Keeps (fun b => b = p) w w' := by
  have cP := hasPlace_any (.pointer (some ⟨p, 0, none⟩)) id w
  cases hP : GM.place id with
  | false =>
    have hc : GM.atCode m id = 1 := by
      unfold GM.atCode
      rw [hP]
      rfl
    rw [hc]
    rw [if_neg (by decide), if_neg (by intro h; exact absurd h.1 (by decide))]
    rw [hP] at cP
    have HR : Hid (GMem w p N most m) := hg
    clear hcl hy hg hc hP
    go_enter Tryz.func80, Tryz.ntmps80
    go_wp2_with fail
    refine cP.mono ?_
    rintro e w9 ⟨rfl, hw9⟩
    rw [hw9]
    clear hw9 w9 cP
    go_wp2_with fail
    go_ret
    exact ⟨rfl, HR.out, Keeps.refl _ _⟩
  | true =>
    obtain ⟨i, rfl, hi⟩ := GM.place_nat hP
    rw [hP] at cP
    rw [Int.toNat_natCast] at hy ⊢
    have hc : GM.atCode m i = if GM.is m i then 0 else 3 := by
      unfold GM.atCode
      rw [hP, if_pos rfl, Int.toNat_natCast]
    have har := arc_in hg hm i hi
    have HG : Hid (GMem w p N most m) := hg
    have hpl := hg.lt
    cases hs : GM.is m i with
    | false =>
      rw [hs] at har hc
      rw [hc]
      rw [if_neg (by decide), if_neg (by decide), if_neg (by intro h; exact absurd h.1 (by decide))]
      clear hcl hy hg hc hP hs
      generalize GM.arc m i = ar at *
      obtain ⟨t, h, x, c⟩ := ar
      unfold arcV at har
      dsimp only at har
      go_enter Tryz.func80, Tryz.ntmps80
      go_wp2_with fail
      refine cP.mono ?_
      rintro e w9 ⟨rfl, hw9⟩
      rw [hw9]
      clear hw9 w9 cP
      go_wp2_with fail
      refine har.mono ?_
      rintro e w2 ⟨rfl, hb2⟩
      have HB3 : Hid (Below w.heap.size w (w2.alloc (.cells #[.int .i64 t, .int .i64 h, .int .i64 x, .bool c] 35))) := hb2.alloc hb2.size _
      clear har hb2
      go_wp2_with fail
      go_ret
      exact ⟨rfl, HG.out.on HB3.out, Below.keeps HB3.out _⟩
    | true =>
      rw [hs, if_pos rfl] at hc
      rw [hs] at har
      rw [hc, if_pos rfl]
      simp only [true_and]
      have HCL : Hid (∀ W a, Below w.heap.size w W → Calls Tryz.prog 104 #[arcV a, .pointer (some ⟨B, 0, none⟩)] W fun e w' => e = .returned (.tuple #[arcV (f a).1, .int .i64 (f a).2]) ∧ Below W.heap.size W w') := hcl
      clear hcl hg hc hP hs
      generalize GM.arc m i = ar at *
      obtain ⟨t, h, x, c⟩ := ar
      unfold arcV at har HCL
      dsimp only at har
      obtain ⟨k, hk⟩ : ∃ k, k = (f ⟨t, h, x, c⟩).2 := ⟨_, rfl⟩
      obtain ⟨a2, ha2⟩ : ∃ a2, a2 = (f ⟨t, h, x, c⟩).1 := ⟨_, rfl⟩
      rw [← hk]
      rw [← ha2] at hy
      have HC2 : Hid (∀ W, Below w.heap.size w W → Calls Tryz.prog 104 #[.agg #[.int .i64 t, .int .i64 h, .int .i64 x, .bool c], .pointer (some ⟨B, 0, none⟩)] W fun e w' => e = .returned (.tuple #[.agg #[.int .i64 a2.tail, .int .i64 a2.head, .int .i64 a2.weight, .bool a2.closed], .int .i64 k]) ∧ Below W.heap.size W w') := fun W hW => by
        have := HCL.out W ⟨t, h, x, c⟩ hW
        rw [hk, ha2]
        exact this
      clear HCL hk ha2
      obtain ⟨t2, h2, x2, c2⟩ := a2
      dsimp only at HC2
      have HY : Hid (y.getD noArc = ⟨t2, h2, x2, c2⟩) := hy
      clear hy
      go_enter Tryz.func80, Tryz.ntmps80
      go_wp2_with fail
      refine cP.mono ?_
      rintro e w9 ⟨rfl, hw9⟩
      rw [hw9]
      clear hw9 w9 cP
      go_wp2_with fail
      refine har.mono ?_
      rintro e w2 ⟨rfl, hb2⟩
      have hb3 : Below w.heap.size w (w2.alloc (.cells #[.int .i64 t, .int .i64 h, .int .i64 x, .bool c] 35)) := hb2.alloc hb2.size _
      have hA3 := arcIn_new w2 t h x c
      have hs2 := hb2.size
      have hsz : w2.heap.size < (w2.alloc (.cells #[.int .i64 t, .int .i64 h, .int .i64 x, .bool c] 35)).heap.size := by simp
      have hf3 : ∀ j, (w2.alloc (.cells #[.int .i64 t, .int .i64 h, .int .i64 x, .bool c] 35)).frozen? ⟨w2.heap.size, j, none⟩ = false := fun j => by simp
      have HF3 : Hid (∀ j, (w2.alloc (.cells #[.int .i64 t, .int .i64 h, .int .i64 x, .bool c] 35)).frozen? ⟨w2.heap.size, j, none⟩ = false) := hf3
      clear har hb2 hf3
      go_wp2_with fail
      generalize w2.alloc (.cells #[.int .i64 t, .int .i64 h, .int .i64 x, .bool c] 35) = w3 at *
      refine (HC2.out w3 hb3).mono ?_
      rintro e w4 ⟨rfl, hb4⟩
      have hA4 : ArcIn w4 w2.heap.size 0 ⟨t, h, x, c⟩ := hA3.same (fun j => hb4.cell (p := ⟨w2.heap.size, j, none⟩) hsz)
      have hf4 : ∀ j, w4.frozen? ⟨w2.heap.size, j, none⟩ = false := fun j => (hb4.frozen (p := ⟨w2.heap.size, j, none⟩) hsz).trans (HF3.out j)
      have hb4' : Below w.heap.size w w4 := hb3.trans (hb4.mono hb3.size)
      have e0 := hf4 0
      have e1 := hf4 1
      have e2 := hf4 2
      have e3 := hf4 3
      obtain ⟨a0, a1, a2, a3⟩ := hA4
      have hin := arcSet_in (w := w4) (b := w2.heap.size) (o := 0) (a0 := ⟨t, h, x, c⟩) ⟨a0, a1, a2, a3⟩ ⟨t2, h2, x2, c2⟩
      have hk5 := arcSet_keeps w4 w2.heap.size 0 ⟨t2, h2, x2, c2⟩
      have hb5 : Below w.heap.size w (arcSet w4 w2.heap.size 0 ⟨t2, h2, x2, c2⟩) := hb4'.trans (hk5.below (fun b hb => by omega) hb4'.size)
      unfold arcSet at hin hb5
      simp only [Nat.zero_add] at a1 a2 a3 hin hb5
      dsimp only at a0 a1 a2 a3
      have HIN : Hid (ArcIn ((((w4.setCell ⟨w2.heap.size, 0, none⟩ (.int .i64 t2)).setCell ⟨w2.heap.size, 1, none⟩ (.int .i64 h2)).setCell ⟨w2.heap.size, 2, none⟩ (.int .i64 x2)).setCell ⟨w2.heap.size, 3, none⟩ (.bool c2)) w2.heap.size 0 ⟨t2, h2, x2, c2⟩) := hin
      have HB5 : Hid (Below w.heap.size w ((((w4.setCell ⟨w2.heap.size, 0, none⟩ (.int .i64 t2)).setCell ⟨w2.heap.size, 1, none⟩ (.int .i64 h2)).setCell ⟨w2.heap.size, 2, none⟩ (.int .i64 x2)).setCell ⟨w2.heap.size, 3, none⟩ (.bool c2))) := hb5
      clear hA3 hf4 hb4 hb4' hk5 hin hb5 hb3 hsz HF3 HC2 hs2
      by_cases hk0 : k = 0
      · subst hk0
        go_upto_region 8 with fail
        clear a0 a1 a2 a3 e0 e1 e2 e3
        generalize (((w4.setCell ⟨w2.heap.size, 0, none⟩ (.int .i64 t2)).setCell ⟨w2.heap.size, 1, none⟩ (.int .i64 h2)).setCell ⟨w2.heap.size, 2, none⟩ (.int .i64 x2)).setCell ⟨w2.heap.size, 3, none⟩ (.bool c2) = w5 at *
        have hg5 := HG.out.on HB5.out
        obtain ⟨a0, a1, a2, a3⟩ := HIN.out
        simp only [Nat.zero_add] at a1 a2 a3
        dsimp only at a0 a1 a2 a3
        obtain ⟨d0, d1, d2, d3⟩ := hg5.arc i hi
        have f0 := hg5.fz (2 + i * 4)
        have f1 := hg5.fz (2 + i * 4 + 1)
        have f2 := hg5.fz (2 + i * 4 + 2)
        have f3 := hg5.fz (2 + i * 4 + 3)
        have HR : Hid (GMem ((((w5.setCell ⟨p, 2 + i * 4, none⟩ (.int .i64 t2)).setCell ⟨p, 2 + i * 4 + 1, none⟩ (.int .i64 h2)).setCell ⟨p, 2 + i * 4 + 2, none⟩ (.int .i64 x2)).setCell ⟨p, 2 + i * 4 + 3, none⟩ (.bool c2)).drew p N most (GM.upd m i y) ∧ Keeps (fun b => b = p) w ((((w5.setCell ⟨p, 2 + i * 4, none⟩ (.int .i64 t2)).setCell ⟨p, 2 + i * 4 + 1, none⟩ (.int .i64 h2)).setCell ⟨p, 2 + i * 4 + 2, none⟩ (.int .i64 x2)).setCell ⟨p, 2 + i * 4 + 3, none⟩ (.bool c2)).drew) := by
          have h1 := hg5.put hi y
          rw [HY.out] at h1
          have h2 := arcSet_keeps w5 p (2 + i * 4) ⟨t2, h2, x2, c2⟩
          exact ⟨h1.drew, ((Below.keeps HB5.out (fun b => b = p)).trans h2 (fun _ h => .inl h)).drew⟩
        have i64' : (i : Int) < 64 := by omega
        clear hg5 HG HY
        go_region
        all_goals
          go_wp2_with fail
          go_ret
          first
            | exact ⟨rfl, HR.out⟩
            | (rw [if_pos rfl]; exact ⟨rfl, HR.out⟩)
      · have HK0 : Hid (¬ k = 0) := hk0
        have hk0' : (k == 0) = false := beq_eq_false_iff_ne.2 hk0
        go_wp2_with fail
        all_goals
          go_ret
          first
            | exact ⟨rfl, HG.out.on HB5.out, Below.keeps HB5.out _⟩
            | (rw [if_neg HK0.out]; exact ⟨rfl, HG.out.on HB5.out, Below.keeps HB5.out _⟩)
end Go.Proofs.YtkcfepppnclniaaGreatDoor
end

section
/-
  The walk of graph's change, where what an arc becomes is told by Weigh$1.
-/
namespace Go.Proofs.YtkcfepppnclniaaGreatDoor
open Go.RowKit

set_option maxHeartbeats 1000000 in
set_option maxRecDepth 100000 in
/-- f: what an arc becomes, and the code; y: what lies there then. -/
theorem change_w {w : World} {p N most : Nat} {m : GM.M} (hg : GMem w p N most m) (hm : GM.Good most m) (id : Int) (B : Nat) (f : Arc → Arc × Int) (y : Option Arc) (hy : y.getD noArc = (f (GM.arc m id.toNat)).1)
    (hcl : ∀ W a, Below w.heap.size w W → Calls Tryz.prog 83 #[arcV a, .pointer (some ⟨B, 0, none⟩)] W fun e w' => e = .returned (.tuple #[arcV (f a).1, .int .i64 (f a).2]) ∧ Below W.heap.size W w') :
    Calls Tryz.prog 80 #[.pointer (some ⟨p, 0, none⟩), .int .i64 id, .func (.func 83) #[] #[.pointer (some ⟨B, 0, none⟩)]] w fun e w' =>
      e = .returned (.int .i64 (if GM.atCode m id = 0 then (f (GM.arc m id.toNat)).2 else GM.atCode m id)) ∧ GMem w' p N most (if GM.atCode m id = 0 ∧ (f (GM.arc m id.toNat)).2 = 0 then GM.upd m id.toNat y else m) ∧ Keeps (fun b => b = p) w w' := by
  have cP := hasPlace_any (.pointer (some ⟨p, 0, none⟩)) id w
  cases hP : GM.place id with
  | false =>
    have hc : GM.atCode m id = 1 := by
      unfold GM.atCode
      rw [hP]
      rfl
    rw [hc]
    rw [if_neg (by decide), if_neg (by intro h; exact absurd h.1 (by decide))]
    rw [hP] at cP
    have HR : Hid (GMem w p N most m) := hg
    clear hcl hy hg hc hP
    go_enter Tryz.func80, Tryz.ntmps80
    go_wp2_with fail
    refine cP.mono ?_
    rintro e w9 ⟨rfl, hw9⟩
    rw [hw9]
    clear hw9 w9 cP
    go_wp2_with fail
    go_ret
    exact ⟨rfl, HR.out, Keeps.refl _ _⟩
  | true =>
    obtain ⟨i, rfl, hi⟩ := GM.place_nat hP
    rw [hP] at cP
    rw [Int.toNat_natCast] at hy ⊢
    have hc : GM.atCode m i = if GM.is m i then 0 else 3 := by
      unfold GM.atCode
      rw [hP, if_pos rfl, Int.toNat_natCast]
    have har := arc_in hg hm i hi
    have HG : Hid (GMem w p N most m) := hg
    have hpl := hg.lt
    cases hs : GM.is m i with
    | false =>
      rw [hs] at har hc
      rw [hc]
      rw [if_neg (by decide), if_neg (by decide), if_neg (by intro h; exact absurd h.1 (by decide))]
      clear hcl hy hg hc hP hs
      generalize GM.arc m i = ar at *
      obtain ⟨t, h, x, c⟩ := ar
      unfold arcV at har
      dsimp only at har
      go_enter Tryz.func80, Tryz.ntmps80
      go_wp2_with fail
      refine cP.mono ?_
      rintro e w9 ⟨rfl, hw9⟩
      rw [hw9]
      clear hw9 w9 cP
      go_wp2_with fail
      refine har.mono ?_
      rintro e w2 ⟨rfl, hb2⟩
      have HB3 : Hid (Below w.heap.size w (w2.alloc (.cells #[.int .i64 t, .int .i64 h, .int .i64 x, .bool c] 35))) := hb2.alloc hb2.size _
      clear har hb2
      go_wp2_with fail
      go_ret
      exact ⟨rfl, HG.out.on HB3.out, Below.keeps HB3.out _⟩
    | true =>
      rw [hs, if_pos rfl] at hc
      rw [hs] at har
      rw [hc, if_pos rfl]
      simp only [true_and]
      have HCL : Hid (∀ W a, Below w.heap.size w W → Calls Tryz.prog 83 #[arcV a, .pointer (some ⟨B, 0, none⟩)] W fun e w' => e = .returned (.tuple #[arcV (f a).1, .int .i64 (f a).2]) ∧ Below W.heap.size W w') := hcl
      clear hcl hg hc hP hs
      generalize GM.arc m i = ar at *
      obtain ⟨t, h, x, c⟩ := ar
      unfold arcV at har HCL
      dsimp only at har
      obtain ⟨k, hk⟩ : ∃ k, k = (f ⟨t, h, x, c⟩).2 := ⟨_, rfl⟩
      obtain ⟨a2, ha2⟩ : ∃ a2, a2 = (f ⟨t, h, x, c⟩).1 := ⟨_, rfl⟩
      rw [← hk]
      rw [← ha2] at hy
      have HC2 : Hid (∀ W, Below w.heap.size w W → Calls Tryz.prog 83 #[.agg #[.int .i64 t, .int .i64 h, .int .i64 x, .bool c], .pointer (some ⟨B, 0, none⟩)] W fun e w' => e = .returned (.tuple #[.agg #[.int .i64 a2.tail, .int .i64 a2.head, .int .i64 a2.weight, .bool a2.closed], .int .i64 k]) ∧ Below W.heap.size W w') := fun W hW => by
        have := HCL.out W ⟨t, h, x, c⟩ hW
        rw [hk, ha2]
        exact this
      clear HCL hk ha2
      obtain ⟨t2, h2, x2, c2⟩ := a2
      dsimp only at HC2
      have HY : Hid (y.getD noArc = ⟨t2, h2, x2, c2⟩) := hy
      clear hy
      go_enter Tryz.func80, Tryz.ntmps80
      go_wp2_with fail
      refine cP.mono ?_
      rintro e w9 ⟨rfl, hw9⟩
      rw [hw9]
      clear hw9 w9 cP
      go_wp2_with fail
      refine har.mono ?_
      rintro e w2 ⟨rfl, hb2⟩
      have hb3 : Below w.heap.size w (w2.alloc (.cells #[.int .i64 t, .int .i64 h, .int .i64 x, .bool c] 35)) := hb2.alloc hb2.size _
      have hA3 := arcIn_new w2 t h x c
      have hs2 := hb2.size
      have hsz : w2.heap.size < (w2.alloc (.cells #[.int .i64 t, .int .i64 h, .int .i64 x, .bool c] 35)).heap.size := by simp
      have hf3 : ∀ j, (w2.alloc (.cells #[.int .i64 t, .int .i64 h, .int .i64 x, .bool c] 35)).frozen? ⟨w2.heap.size, j, none⟩ = false := fun j => by simp
      have HF3 : Hid (∀ j, (w2.alloc (.cells #[.int .i64 t, .int .i64 h, .int .i64 x, .bool c] 35)).frozen? ⟨w2.heap.size, j, none⟩ = false) := hf3
      clear har hb2 hf3
      go_wp2_with fail
      generalize w2.alloc (.cells #[.int .i64 t, .int .i64 h, .int .i64 x, .bool c] 35) = w3 at *
      refine (HC2.out w3 hb3).mono ?_
      rintro e w4 ⟨rfl, hb4⟩
      have hA4 : ArcIn w4 w2.heap.size 0 ⟨t, h, x, c⟩ := hA3.same (fun j => hb4.cell (p := ⟨w2.heap.size, j, none⟩) hsz)
      have hf4 : ∀ j, w4.frozen? ⟨w2.heap.size, j, none⟩ = false := fun j => (hb4.frozen (p := ⟨w2.heap.size, j, none⟩) hsz).trans (HF3.out j)
      have hb4' : Below w.heap.size w w4 := hb3.trans (hb4.mono hb3.size)
      have e0 := hf4 0
      have e1 := hf4 1
      have e2 := hf4 2
      have e3 := hf4 3
      obtain ⟨a0, a1, a2, a3⟩ := hA4
      have hin := arcSet_in (w := w4) (b := w2.heap.size) (o := 0) (a0 := ⟨t, h, x, c⟩) ⟨a0, a1, a2, a3⟩ ⟨t2, h2, x2, c2⟩
      have hk5 := arcSet_keeps w4 w2.heap.size 0 ⟨t2, h2, x2, c2⟩
      have hb5 : Below w.heap.size w (arcSet w4 w2.heap.size 0 ⟨t2, h2, x2, c2⟩) := hb4'.trans (hk5.below (fun b hb => by omega) hb4'.size)
      unfold arcSet at hin hb5
      simp only [Nat.zero_add] at a1 a2 a3 hin hb5
      dsimp only at a0 a1 a2 a3
      have HIN : Hid (ArcIn ((((w4.setCell ⟨w2.heap.size, 0, none⟩ (.int .i64 t2)).setCell ⟨w2.heap.size, 1, none⟩ (.int .i64 h2)).setCell ⟨w2.heap.size, 2, none⟩ (.int .i64 x2)).setCell ⟨w2.heap.size, 3, none⟩ (.bool c2)) w2.heap.size 0 ⟨t2, h2, x2, c2⟩) := hin
      have HB5 : Hid (Below w.heap.size w ((((w4.setCell ⟨w2.heap.size, 0, none⟩ (.int .i64 t2)).setCell ⟨w2.heap.size, 1, none⟩ (.int .i64 h2)).setCell ⟨w2.heap.size, 2, none⟩ (.int .i64 x2)).setCell ⟨w2.heap.size, 3, none⟩ (.bool c2))) := hb5
      clear hA3 hf4 hb4 hb4' hk5 hin hb5 hb3 hsz HF3 HC2 hs2
      by_cases hk0 : k = 0
      · subst hk0
        go_upto_region 8 with fail
        clear a0 a1 a2 a3 e0 e1 e2 e3
        generalize (((w4.setCell ⟨w2.heap.size, 0, none⟩ (.int .i64 t2)).setCell ⟨w2.heap.size, 1, none⟩ (.int .i64 h2)).setCell ⟨w2.heap.size, 2, none⟩ (.int .i64 x2)).setCell ⟨w2.heap.size, 3, none⟩ (.bool c2) = w5 at *
        have hg5 := HG.out.on HB5.out
        obtain ⟨a0, a1, a2, a3⟩ := HIN.out
        simp only [Nat.zero_add] at a1 a2 a3
        dsimp only at a0 a1 a2 a3
        obtain ⟨d0, d1, d2, d3⟩ := hg5.arc i hi
        have f0 := hg5.fz (2 + i * 4)
        have f1 := hg5.fz (2 + i * 4 + 1)
        have f2 := hg5.fz (2 + i * 4 + 2)
        have f3 := hg5.fz (2 + i * 4 + 3)
        have HR : Hid (GMem ((((w5.setCell ⟨p, 2 + i * 4, none⟩ (.int .i64 t2)).setCell ⟨p, 2 + i * 4 + 1, none⟩ (.int .i64 h2)).setCell ⟨p, 2 + i * 4 + 2, none⟩ (.int .i64 x2)).setCell ⟨p, 2 + i * 4 + 3, none⟩ (.bool c2)).drew p N most (GM.upd m i y) ∧ Keeps (fun b => b = p) w ((((w5.setCell ⟨p, 2 + i * 4, none⟩ (.int .i64 t2)).setCell ⟨p, 2 + i * 4 + 1, none⟩ (.int .i64 h2)).setCell ⟨p, 2 + i * 4 + 2, none⟩ (.int .i64 x2)).setCell ⟨p, 2 + i * 4 + 3, none⟩ (.bool c2)).drew) := by
          have h1 := hg5.put hi y
          rw [HY.out] at h1
          have h2 := arcSet_keeps w5 p (2 + i * 4) ⟨t2, h2, x2, c2⟩
          exact ⟨h1.drew, ((Below.keeps HB5.out (fun b => b = p)).trans h2 (fun _ h => .inl h)).drew⟩
        have i64' : (i : Int) < 64 := by omega
        clear hg5 HG HY
        go_region
        all_goals
          go_wp2_with fail
          go_ret
          first
            | exact ⟨rfl, HR.out⟩
            | (rw [if_pos rfl]; exact ⟨rfl, HR.out⟩)
      · have HK0 : Hid (¬ k = 0) := hk0
        have hk0' : (k == 0) = false := beq_eq_false_iff_ne.2 hk0
        go_wp2_with fail
        all_goals
          go_ret
          first
            | exact ⟨rfl, HG.out.on HB5.out, Below.keeps HB5.out _⟩
            | (rw [if_neg HK0.out]; exact ⟨rfl, HG.out.on HB5.out, Below.keeps HB5.out _⟩)
end Go.Proofs.YtkcfepppnclniaaGreatDoor
end
