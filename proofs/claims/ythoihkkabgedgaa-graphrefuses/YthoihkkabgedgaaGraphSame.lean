/-
  The walk of the law's Same: all of a graph is what the document's has.
-/
import Derived.Test.YthoihkkabgedgaaInts
import Derived.Test.YthoihkkabgedgaaGraphRef3
import Derived.Laws.StructEq
namespace Go.Proofs.Ythoihkkabgedgaa
open Go.RowKit

/-- An arc is like itself. -/
theorem eqArc (t h x : Int) (c : Bool) (w : World) : (Op.equalIn 10000 33 (.agg #[.int .i64 t, .int .i64 h, .int .i64 x, .bool c]) (.agg #[.int .i64 t, .int .i64 h, .int .i64 x, .bool c])).run Try.prog w = .ok true w := by
  have u3 := Try.underlying3
  have a3 := Try.isAgg3
  have z3 := Try.sizeOf3
  have u4 := Try.underlying4
  have a4 := Try.isAgg4
  have z4 := Try.sizeOf4
  have hS : Try.prog.underlying 33 = some (.struct (Try.prog.fieldsOf 33)) := by kernel_rfl
  have hp : Try.prog.stoodInHeld 33 = false := by kernel_rfl
  rw [show (10000 : Nat) = 9999 + 1 from rfl, run_equalIn_agg w 9999 33 _ _ hS hp]
  simp only [Program.fieldsOf, Try.underlying33]
  go_simp

set_option maxHeartbeats 4000000 in
set_option maxRecDepth 100000 in
theorem same_any {w : World} {p q N most most' : Nat} {m : GM.M} (hg : GMem w p N most m) (hm : GM.Good most m) (hr : RMem w q N most' m) :
    Calls Try.prog 14 #[.pointer (some ⟨p, 0, none⟩), .pointer (some ⟨q, 0, none⟩)] w fun e w' => e = .returned (.bool true) ∧ Below w.heap.size w w' := by
  have HG : Hid (∀ W, Below w.heap.size w W → GMem W p N most m) := fun W hW => hg.on hW
  have HR : Hid (∀ W, Below w.heap.size w W → RMem W q N most' m) := fun W hW => hr.on hW
  have HGD : Hid (GM.Good most m) := hm
  have c0 := hr.c0
  have C1 : Hid (∀ W, Below w.heap.size w W → Calls Try.prog 34 #[.pointer (some ⟨p, 0, none⟩)] W fun e w' => e = .returned (.int .i64 (N : Nat)) ∧ Below w.heap.size w w') := fun W hW => (vertices_any (HG.out W hW)).mono (by
    rintro e w' ⟨rfl, rfl⟩
    exact ⟨rfl, hW⟩)
  have C2 : Hid (∀ W, Below w.heap.size w W → Calls Try.prog 21 #[.pointer (some ⟨p, 0, none⟩)] W fun e w' => e = .returned (.int .i64 (GM.cnt m : Nat)) ∧ Below w.heap.size w w') := fun W hW => (len_any (HG.out W hW) HGD.out).mono (by
    rintro e w' ⟨rfl, hb⟩
    exact ⟨rfl, below_on hW hb⟩)
  have C3 : Hid (∀ W, Below w.heap.size w W → Calls Try.prog 35 #[.pointer (some ⟨q, 0, none⟩)] W fun e w' => e = .returned (.int .i64 (GM.cnt m : Nat)) ∧ Below w.heap.size w w') := fun W hW => (rlen_any (HR.out W hW)).mono (by
    rintro e w' ⟨rfl, hb⟩
    exact ⟨rfl, below_on hW hb⟩)
  have C4 : Hid (∀ W, Below w.heap.size w W → Calls Try.prog 22 #[.pointer (some ⟨p, 0, none⟩)] W fun e w' => ∃ a c, e = .returned (.slice a (GM.cnt m) c) ∧ Row .i64 w' (.slice a (GM.cnt m) c) (GM.iids m 64) ∧ Below w.heap.size w w') := fun W hW => (ids_any (HG.out W hW) HGD.out).mono (by
    rintro e w' ⟨r, rfl, ho, hb⟩
    obtain ⟨a, c, er, -⟩ := ho.at
    have hl : (GM.iids m 64).length = GM.cnt m := GM.iids_len m 64
    rw [hl] at er
    subst er
    exact ⟨a, c, rfl, ho.row, below_on hW hb⟩)
  have C5 : Hid (∀ W, Below w.heap.size w W → ∀ v, Row .i64 W v (GM.iids m 64) → Calls Try.prog 37 #[.pointer (some ⟨q, 0, none⟩)] W fun e w' => ∃ a c, e = .returned (.slice a (GM.cnt m) c) ∧ Row .i64 w' (.slice a (GM.cnt m) c) (GM.iids m 64) ∧ Row .i64 w' v (GM.iids m 64) ∧ Below w.heap.size w w') := fun W hW v hv => (rids_any (HR.out W hW)).mono (by
    rintro e w' ⟨r, rfl, ho, hb⟩
    obtain ⟨a, c, er, -⟩ := ho.at
    have hl : (GM.iids m 64).length = GM.cnt m := GM.iids_len m 64
    rw [hl] at er
    subst er
    exact ⟨a, c, rfl, ho.row, hv.below hb, below_on hW hb⟩)
  have C6 : Hid (∀ W u v, Row .i64 W u (GM.iids m 64) → Row .i64 W v (GM.iids m 64) → Below w.heap.size w W → Calls Try.prog 36 #[u, v] W fun e w' => e = .returned (.bool true) ∧ Below w.heap.size w w') := fun W u v hu hv hW => (ints_any u v _ _ W hu hv).mono (by
    rintro e w' ⟨rfl, hb⟩
    exact ⟨ret_bool (by simp), below_on hW hb⟩)
  have HC0 : Hid (∀ W, Below w.heap.size w W → W.cell? ⟨q, 0, none⟩ = some (.int .i64 (N : Nat))) := fun W hW => (HR.out W hW).c0
  have hd : Below w.heap.size w w.drew := (Below.refl _ _).drew
  have CA : Hid (∀ W (id : Int), Below w.heap.size w W → Calls Try.prog 38 #[.pointer (some ⟨p, 0, none⟩), .int .i64 id] W fun e w' => e = .returned (.tuple #[arcV (GM.look m id).1, .bool (GM.look m id).2]) ∧ Below w.heap.size w w') := fun W id hW => (arc_any (HG.out W hW) HGD.out id).mono (by
    rintro e w' ⟨rfl, hb⟩
    exact ⟨rfl, below_on hW hb⟩)
  have CB : Hid (∀ W (id : Int), Below w.heap.size w W → Calls Try.prog 24 #[.pointer (some ⟨q, 0, none⟩), .int .i64 id] W fun e w' => e = .returned (.tuple #[arcV (GM.look m id).1, .bool (GM.look m id).2]) ∧ Below W.heap.size W w') := fun W id hW => rarc_any (HR.out W hW) id
  clear hg hr hm HG HR HGD
  generalize GM.iids m 64 = L at *
  generalize GM.cnt m = C at *
  go_enter Try.func14, Try.ntmps14
  go_upto_region 1 with fail
  go_cut [31] (fun s wx => s = .bool false ∧ Below w.heap.size w wx)
  case first =>
    clear CA CB
    go_region_held3 (fun w' => w'.cell? ⟨q, 0, none⟩ = some (.int .i64 (N : Nat))) (go_keep) (first
      | (go_at_call 36; refine (C6.out _ _ _ hr5 hr5' hb5).mono ?_; rintro e w6 ⟨rfl, hb6⟩; have g6 := HC0.out _ hb6)
      | (go_at_call 37; refine (C5.out _ hb4 _ hr4).mono ?_; rintro e w5 ⟨a5, cp5, rfl, hr5', hr5, hb5⟩; have g5 := HC0.out _ hb5)
      | (go_at_call 22; refine (C4.out _ hb3).mono ?_; rintro e w4 ⟨a4, cp4, rfl, hr4, hb4⟩; have g4 := HC0.out _ hb4)
      | (go_at_call 35; refine (C3.out _ hb2).mono ?_; rintro e w3 ⟨rfl, hb3⟩; have g3 := HC0.out _ hb3)
      | (go_at_call 21; refine (C2.out _ hb1).mono ?_; rintro e w2 ⟨rfl, hb2⟩; have g2 := HC0.out _ hb2)
      | (go_at_call 34; refine (C1.out _ hd).mono ?_; rintro e w1 ⟨rfl, hb1⟩; have g1 := HC0.out _ hb1))
    all_goals
      go_wp2_with fail
      go_meet
      exact ⟨rfl, hb6⟩
  case rest =>
    obtain ⟨rfl, hb6⟩ := hcut
    clear C1 C2 C3 C4 C5 C6 c0 HC0 hd
    go_wp2_with fail
    go_loopw [5] (fun iv wr => ∃ (k : Nat) (j : Int), k ≤ 66 ∧ j = (k : Int) - 1 ∧ iv = .int .i64 j ∧ Below w.heap.size w wr) (fun iv _ => (65 - intOf iv).toNat)
    case atStart => exact ⟨0, -1, Nat.zero_le _, rfl, rfl, hb6⟩
    case round =>
      obtain ⟨k, j, hk, hj, rfl, hbr⟩ := hrel
      clear hb6
      by_cases hlt : k < 66
      · have j64 : j ≤ 64 := by omega
        have j0 : -1 ≤ j := by omega
        have ca := CA.out wr j hbr
        have HB0 : Hid (∀ W, Below w.heap.size w W → Calls Try.prog 24 #[.pointer (some ⟨q, 0, none⟩), .int .i64 j] W fun e w' => e = .returned (.tuple #[arcV (GM.look m j).1, .bool (GM.look m j).2]) ∧ Below W.heap.size W w') := fun W hW => CB.out W j hW
        generalize (GM.look m j).2 = b at *
        generalize (GM.look m j).1 = a at *
        obtain ⟨t, h, x, c⟩ := a
        unfold arcV at ca HB0
        dsimp only at ca HB0
        have HJ : Hid (k < 66 ∧ j = (k : Int) - 1) := ⟨hlt, hj⟩
        clear hj hlt hk hbr
        go_wp2_with fail
        refine ca.mono ?_
        rintro e w2 ⟨rfl, hb2⟩
        have hb3 : Below w.heap.size w (w2.alloc (.cells #[.int .i64 t, .int .i64 h, .int .i64 x, .bool c] 33)) := below_new hb2 _
        obtain ⟨a0, a1, a2, a3⟩ := arcIn_new w2 t h x c
        simp only [Nat.zero_add] at a1 a2 a3
        dsimp only at a0 a1 a2 a3
        have hsz : w2.heap.size < (w2.alloc (.cells #[.int .i64 t, .int .i64 h, .int .i64 x, .bool c] 33)).heap.size := by simp
        have HA : Hid (ArcIn (w2.alloc (.cells #[.int .i64 t, .int .i64 h, .int .i64 x, .bool c] 33)) w2.heap.size 0 ⟨t, h, x, c⟩) := arcIn_new w2 t h x c
        clear ca a0 a1 a2 a3
        go_wp2_with fail
        generalize w2.alloc (.cells #[.int .i64 t, .int .i64 h, .int .i64 x, .bool c] 33) = w3 at *
        refine (HB0.out w3 hb3).mono ?_
        rintro e w4 ⟨rfl, hb4⟩
        have hA4 : ArcIn (w4.alloc (.cells #[.int .i64 t, .int .i64 h, .int .i64 x, .bool c] 33)) w2.heap.size 0 ⟨t, h, x, c⟩ := HA.out.same (fun j => (below_new hb4 (.cells #[.int .i64 t, .int .i64 h, .int .i64 x, .bool c] 33)).cell (p := ⟨w2.heap.size, j, none⟩) hsz)
        have hb5 : Below w.heap.size w (w4.alloc (.cells #[.int .i64 t, .int .i64 h, .int .i64 x, .bool c] 33)) := below_new (below_on hb3 hb4) _
        obtain ⟨a0, a1, a2, a3⟩ := hA4
        obtain ⟨d0, d1, d2, d3⟩ := arcIn_new w4 t h x c
        simp only [Nat.zero_add] at a1 a2 a3 d1 d2 d3
        dsimp only at a0 a1 a2 a3 d0 d1 d2 d3
        have heq := fun w => eqArc t h x c w
        have HB5 : Hid (Below w.heap.size w (w4.alloc (.cells #[.int .i64 t, .int .i64 h, .int .i64 x, .bool c] 33))) := hb5
        clear hb2 hb3 hb4 hb5 HB0 CA CB hsz HA
        go_upto_region 8 with fail
        generalize w4.alloc (.cells #[.int .i64 t, .int .i64 h, .int .i64 x, .bool c] 33) = w5 at *
        go_wp2_with (simp only [heq])
        go_roundw
        case rel => exact ⟨k + 1, j + 1, by have := HJ.out; omega, by have := HJ.out; omega, by go_num, HB5.out⟩
        case measure => simp [intOf]; omega
      · obtain rfl : k = 66 := by omega
        obtain rfl : j = 65 := by omega
        have HB : Hid (Below w.heap.size w wr) := hbr
        clear hbr CA CB
        go_wp2_with fail
        go_ret
        exact ⟨rfl, HB.out⟩
end Go.Proofs.Ythoihkkabgedgaa
