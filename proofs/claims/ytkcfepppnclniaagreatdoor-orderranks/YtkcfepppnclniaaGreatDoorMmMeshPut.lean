/-
  MeshPut, MeshLeave.
-/
import Derived.Test.YtkcfepppnclniaaGreatDoorMmMeshMem
import Derived.Deep.DeepCutAuto
import Derived.Laws.Tables
import Derived.Deep.QuietTactic
import Derived.BigQuiet
section
/-
  The walks of Put, the program's and the document's.
-/
namespace Go.Proofs.YtkcfepppnclniaaGreatDoor
open Go.RowKit

set_option maxHeartbeats 1000000 in
theorem xput_any {w : World} {p N : Nat} {D : Nat → Nat → Int} (hg : XMem w p N D) (hm : XM.Mesh N D) (hN : N ≤ 24) (u v x : Int) :
    Calls Tryz.prog 14 #[.pointer (some ⟨p, 0, none⟩), .int .i64 u, .int .i64 v, .int .i64 x] w fun e w' => e = .returned (.int .i64 (XM.putCode N u v x)) ∧ XMem w' p N (XM.put N D u v x) ∧ XM.Mesh N (XM.put N D u v x) ∧ Keeps (fun b => b = p) w w' := by
  have hu := xhasVertex_any hg u
  have hv := xhasVertex_any hg v
  have HX : Hid (XMem w p N D) := hg
  have HM : Hid (XM.Mesh N D) := hm
  by_cases hc : GM.vert N u = true ∧ GM.vert N v = true ∧ u ≠ v ∧ 1 ≤ x ∧ x ≤ 4611686018427387906
  · have HM2 : Hid (XM.Mesh N (XM.put N D u v x)) := XM.put_mesh hm u v x
    have HC : Hid (XM.putCode N u v x = 0) := if_pos hc
    have HD : Hid (XM.put N D u v x = NM.set2 D u.toNat v.toNat x) := if_pos (if_pos hc)
    obtain ⟨e1, e2, h3, h4, h5⟩ := hc
    rw [e1] at hu
    rw [e2] at hv
    obtain ⟨i, rfl, hi⟩ := XM.vert_nat e1
    obtain ⟨j, rfl, hj⟩ := XM.vert_nat e2
    have c := hg.c i j (by omega) (by omega)
    have f := hg.fz (1 + i * 24 + j)
    have i24 : (i : Int) < 24 := by omega
    have j24 : (j : Int) < 24 := by omega
    have hne : ((i : Int) == (j : Int)) = false := beq_eq_false_iff_ne.2 h3
    have h4' : ¬ x < 1 := by omega
    have h5' : ¬ 4611686018427387906 < x := by omega
    have HIJ : Hid (i < 24 ∧ j < 24) := ⟨by omega, by omega⟩
    clear hg e1 e2 h3 h4 h5 hi hj hN hm
    go_enter Tryz.func14, Tryz.ntmps14
    go_wp2_with fail
    refine hu.mono ?_
    rintro e w' ⟨rfl, rfl⟩
    clear hu
    go_wp2_with fail
    refine hv.mono ?_
    rintro e w' ⟨rfl, rfl⟩
    clear hv
    go_wp2_with fail
    go_ret
    refine ⟨ret_int HC.out.symm, ?_, HM2.out, Keeps.setCell (F := fun b => b = p) (Keeps.refl _ _) (.inl rfl) _⟩
    rw [HD.out, Int.toNat_natCast, Int.toNat_natCast]
    exact HX.out.set HIJ.out.1 HIJ.out.2 x
  · have HC : Hid (XM.putCode N u v x = 1) := if_neg hc
    have HD : Hid (XM.put N D u v x = D) := if_neg (fun e => by rw [HC.out] at e; cases e)
    clear hm
    cases e1 : GM.vert N u with
    | false =>
      rw [e1] at hu
      clear hg hv hc e1 hN
      go_enter Tryz.func14, Tryz.ntmps14
      go_wp2_with fail
      refine hu.mono ?_
      rintro e w' ⟨rfl, rfl⟩
      clear hu
      go_wp2_with fail
      go_ret
      exact ⟨ret_int HC.out.symm, by rw [HD.out]; exact HX.out, by rw [HD.out]; exact HM.out, Keeps.refl _ _⟩
    | true =>
      rw [e1] at hu
      cases e2 : GM.vert N v with
      | false =>
        rw [e2] at hv
        clear hg hc e1 e2 hN
        go_enter Tryz.func14, Tryz.ntmps14
        go_wp2_with fail
        refine hu.mono ?_
        rintro e w' ⟨rfl, rfl⟩
        clear hu
        go_wp2_with fail
        refine hv.mono ?_
        rintro e w' ⟨rfl, rfl⟩
        clear hv
        go_wp2_with fail
        go_ret
        exact ⟨ret_int HC.out.symm, by rw [HD.out]; exact HX.out, by rw [HD.out]; exact HM.out, Keeps.refl _ _⟩
      | true =>
        rw [e2] at hv
        by_cases h3 : u = v
        · subst h3
          clear hg hc e1 e2 hN
          go_enter Tryz.func14, Tryz.ntmps14
          go_wp2_with fail
          refine hu.mono ?_
          rintro e w' ⟨rfl, rfl⟩
          clear hu
          go_wp2_with fail
          refine hv.mono ?_
          rintro e w' ⟨rfl, rfl⟩
          clear hv
          go_wp2_with fail
          go_ret
          exact ⟨ret_int HC.out.symm, by rw [HD.out]; exact HX.out, by rw [HD.out]; exact HM.out, Keeps.refl _ _⟩
        · have hne : (u == v) = false := beq_eq_false_iff_ne.2 h3
          by_cases h4 : x < 1
          · clear hg hc e1 e2 h3 hN
            go_enter Tryz.func14, Tryz.ntmps14
            go_wp2_with fail
            refine hu.mono ?_
            rintro e w' ⟨rfl, rfl⟩
            clear hu
            go_wp2_with fail
            refine hv.mono ?_
            rintro e w' ⟨rfl, rfl⟩
            clear hv
            go_wp2_with fail
            go_ret
            exact ⟨ret_int HC.out.symm, by rw [HD.out]; exact HX.out, by rw [HD.out]; exact HM.out, Keeps.refl _ _⟩
          · have h5 : 4611686018427387906 < x := Decidable.byContradiction fun h => hc ⟨e1, e2, h3, by omega, by omega⟩
            clear hg hc e1 e2 h3 hN
            go_enter Tryz.func14, Tryz.ntmps14
            go_wp2_with fail
            refine hu.mono ?_
            rintro e w' ⟨rfl, rfl⟩
            clear hu
            go_wp2_with fail
            refine hv.mono ?_
            rintro e w' ⟨rfl, rfl⟩
            clear hv
            go_wp2_with fail
            go_ret
            exact ⟨ret_int HC.out.symm, by rw [HD.out]; exact HX.out, by rw [HD.out]; exact HM.out, Keeps.refl _ _⟩
end Go.Proofs.YtkcfepppnclniaaGreatDoor
end

section
/-
  The walks of leave, New and Copy.
-/
namespace Go.Proofs.YtkcfepppnclniaaGreatDoor
open Go.RowKit

set_option maxHeartbeats 2000000 in
theorem leave_any {w : World} {p N : Nat} {D : Nat → Nat → Int} (hg : XMem w p N D) (v : Nat) (hv : v < 24) :
    Calls Tryz.prog 43 #[.pointer (some ⟨p, 0, none⟩), .int .i64 v] w fun e w' => (∃ r, e = .returned r) ∧ XMem w' p N (XM.leave D v) ∧ Keeps (fun b => b = p) w w' := by
  have HG : Hid (XMem w p N (XM.leaveTo D v 0)) := by
    show XMem _ _ _ _
    rw [XM.leaveTo_zero]
    exact hg
  clear hg
  have v24 : (v : Int) < 24 := by omega
  go_enter Tryz.func43, Tryz.ntmps43
  go_wp2_with fail
  go_loopw [5] (fun iv wr => ∃ k : Nat, k ≤ 24 ∧ iv = .int .i64 k ∧ XMem wr p N (XM.leaveTo D v k) ∧ Keeps (fun b => b = p) w wr) (fun iv _ => 24 - (intOf iv).toNat)
  case atStart => exact ⟨0, by omega, rfl, HG.out, Keeps.refl _ _⟩
  case round =>
    clear HG
    obtain ⟨k, hk, rfl, hX, hK⟩ := hrel
    by_cases hlt : k < 24
    · have k24 : (k : Int) < 24 := by omega
      have c1 := hX.c v k hv hlt
      have c2 := hX.c k v hlt hv
      have f1 := hX.fz (1 + v * 24 + k)
      have f2 := hX.fz (1 + k * 24 + v)
      have H1 : Hid (XMem (((wr.setCell ⟨p, 1 + v * 24 + k, none⟩ (.int .i64 4611686018427387906)).setCell ⟨p, 1 + k * 24 + v, none⟩ (.int .i64 4611686018427387906)).drew) p N (XM.leaveTo D v (k + 1))) := by
        have := ((hX.set hv hlt 4611686018427387906).set hlt hv 4611686018427387906).drew
        rw [XM.leaveTo_step] at this
        exact this
      have HK1 : Hid (Keeps (fun b => b = p) w (((wr.setCell ⟨p, 1 + v * 24 + k, none⟩ (.int .i64 4611686018427387906)).setCell ⟨p, 1 + k * 24 + v, none⟩ (.int .i64 4611686018427387906)).drew)) := ((hK.setCell (.inl rfl) _).setCell (.inl rfl) _).drew
      have g1 := (hX.set hv hlt 4611686018427387906).c k v hlt hv
      have g2 := (hX.set hlt hv 4611686018427387906).c v k hv hlt
      have e1 := (hX.set hv hlt 4611686018427387906).fz (1 + k * 24 + v)
      have e2 := (hX.set hlt hv 4611686018427387906).fz (1 + v * 24 + k)
      generalize NM.set2 (XM.leaveTo D v k) v k 4611686018427387906 k v = y1 at g1
      generalize NM.set2 (XM.leaveTo D v k) k v 4611686018427387906 v k = y2 at g2
      clear hX hK
      go_upto_region 3 with fail
      go_region
      all_goals
        go_wp2_with fail
        exact ⟨⟨k + 1, by omega, by go_num, H1.out, HK1.out⟩, by simp [intOf]; omega⟩
    · obtain rfl : k = 24 := by omega
      have HX : Hid (XMem wr p N (XM.leave D v)) := hX.congr (fun s t hs ht => XM.leaveTo_all D v hv s t hs ht)
      have HK : Hid (Keeps (fun b => b = p) w wr) := hK
      clear hX hK hlt hk
      go_wp2_with fail
      go_end0
      exact ⟨⟨_, rfl⟩, HX.out, HK.out⟩
/-- What New comes to on its way. -/
def tabL (k : Nat) : Nat → Nat → Int := fun u w => if u < k ∨ w < k then 4611686018427387906 else 0
theorem tabL_zero : tabL 0 = fun _ _ => 0 := by
  funext u w
  unfold tabL
  rw [if_neg (by omega)]
theorem tabL_step (k : Nat) : XM.leave (tabL k) k = tabL (k + 1) := by
  funext u w
  simp only [XM.leave, tabL]
  repeat' split
  all_goals first | rfl | omega
theorem tabL_all (s t : Nat) (hs : s < 24) (_ht : t < 24) : tabL 24 s t = XM.empty s t := by
  unfold tabL XM.empty
  rw [if_pos (by omega)]
def tabR (s t : Nat) : Nat → Nat → Int := fun u w => if u < s ∨ u = s ∧ w < t then 4611686018427387906 else 0
theorem tabR_zero : tabR 0 0 = fun _ _ => 0 := by
  funext u w
  unfold tabR
  rw [if_neg (by omega)]
theorem tabR_step (s t : Nat) : NM.set2 (tabR s t) s t 4611686018427387906 = tabR s (t + 1) := by
  funext u w
  simp only [NM.set2, tabR]
  repeat' split
  all_goals first | rfl | omega
theorem tabR_row (s u w : Nat) (hw : w < 24) : tabR s 24 u w = tabR (s + 1) 0 u w := by
  unfold tabR
  repeat' split
  all_goals first | rfl | omega
theorem tabR_all (s t : Nat) (hs : s < 24) (_ht : t < 24) : tabR 24 0 s t = XM.empty s t := by
  unfold tabR XM.empty
  rw [if_pos (by omega)]
set_option maxHeartbeats 2000000 in
theorem xnew_ok (N : Nat) (h1 : 1 ≤ N) (h2 : N ≤ 24) (w : World) :
    Calls Tryz.prog 13 #[.int .i64 N] w fun e w' => ∃ p, e = .returned (.tuple #[.pointer (some ⟨p, 0, none⟩), .int .i64 0]) ∧ p = w.heap.size ∧ XMem w' p N XM.empty ∧ Below w.heap.size w w' := by
  have a1 : ¬ (N : Int) < 1 := by omega
  have a2 : ¬ (24 : Int) < N := by omega
  have hz := zeroXP
  have hs := zX_size
  have hne := zX_ne
  have hst := zX_set N
  have HL : Hid (∀ W D (v : Nat), v < 24 → XMem W w.heap.size N D → Calls Tryz.prog 43 #[.pointer (some ⟨w.heap.size, 0, none⟩), .int .i64 v] W fun e w' => (∃ r, e = .returned r) ∧ XMem w' w.heap.size N (XM.leave D v) ∧ Keeps (fun b => b = w.heap.size) W w') := fun W D v hv hX => leave_any hX v hv
  have HN : Hid (XMem (w.alloc (.cells (xCells N (fun _ _ => 0)).toArray 86)) w.heap.size N (tabL 0)) := by
    show XMem _ _ _ _
    rw [tabL_zero]
    exact xmem_new _ _ _ _
  have HB : Hid (Below w.heap.size w (w.alloc (.cells (xCells N (fun _ _ => 0)).toArray 86))) := (Below.refl _ _).alloc (Nat.le_refl _) _
  generalize zX = Z at *
  clear h1 h2
  go_enter Tryz.func13, Tryz.ntmps13
  go_wp2_with (simp only [hz])
  clear hz hs hne
  generalize w.alloc (.cells (xCells N (fun _ _ => 0)).toArray 86) = w1 at *
  go_wp2_with fail
  go_loopw [15] (fun iv wr => ∃ k : Nat, k ≤ 24 ∧ iv = .int .i64 k ∧ XMem wr w.heap.size N (tabL k) ∧ Below w.heap.size w wr) (fun iv _ => 24 - (intOf iv).toNat)
  case atStart => exact ⟨0, by omega, rfl, HN.out, HB.out⟩
  case round =>
    clear HN HB
    obtain ⟨k, hk, rfl, hX, hB⟩ := hrel
    have HB : Hid (Below w.heap.size w wr) := hB
    by_cases hlt : k < 24
    · have k24 : (k : Int) < 24 := by omega
      have hl := HL.out wr (tabL k) k hlt hX
      rw [tabL_step] at hl
      clear hX hB
      go_wp2_with fail
      refine hl.mono ?_
      rintro e w2 ⟨⟨r, rfl⟩, hX2, hK2⟩
      have HX : Hid (XMem w2 w.heap.size N (tabL (k + 1))) := hX2
      have HB2 : Hid (Below w.heap.size w w2) := HB.out.trans (hK2.below (fun b hb => by omega) HB.out.size)
      clear hX2 hK2 hl
      go_wp2_with fail
      go_roundw
      case rel => exact ⟨k + 1, by omega, by go_num, HX.out, HB2.out⟩
      case measure => simp [intOf]; omega
    · obtain rfl : k = 24 := by omega
      have HX : Hid (XMem wr w.heap.size N XM.empty) := hX.congr tabL_all
      clear hX hlt hk hB
      go_wp2_with fail
      go_ret2
      exact ⟨w.heap.size, rfl, rfl, HX.out, HB.out⟩
set_option maxHeartbeats 1000000 in
theorem xnew_no (n : Int) (hn : ¬ (1 ≤ n ∧ n ≤ 24)) (w : World) :
    Calls Tryz.prog 13 #[.int .i64 n] w fun e w' => e = .returned (.tuple #[.pointer none, .int .i64 1]) ∧ w' = w := by
  by_cases h : n < 1
  all_goals by_cases h2 : 24 < n
  all_goals first
    | (exfalso; omega)
    | (clear hn
       go_enter Tryz.func13, Tryz.ntmps13
       go_wp2
       go_ret2
       exact ⟨rfl, rfl⟩)
set_option maxHeartbeats 2000000 in
theorem xrnew_any (N : Nat) (w : World) :
    Calls Tryz.prog 68 #[.int .i64 N] w fun e w' => ∃ p, e = .returned (.pointer (some ⟨p, 0, none⟩)) ∧ p = w.heap.size ∧ XMem w' p N XM.empty ∧ Below w.heap.size w w' := by
  have hz := zeroXR
  have hs := zX_size
  have hne := zX_ne
  have hst := zX_set N
  have HN : Hid (XMem (w.alloc (.cells (xCells N (fun _ _ => 0)).toArray 108)) w.heap.size N (tabR 0 0)) := by
    show XMem _ _ _ _
    rw [tabR_zero]
    exact xmem_new _ _ _ _
  have HB : Hid (Below w.heap.size w (w.alloc (.cells (xCells N (fun _ _ => 0)).toArray 108))) := (Below.refl _ _).alloc (Nat.le_refl _) _
  generalize zX = Z at *
  go_enter Tryz.func68, Tryz.ntmps68
  go_wp2_with (simp only [hz])
  clear hz hs hne
  generalize w.alloc (.cells (xCells N (fun _ _ => 0)).toArray 108) = w1 at *
  go_wp2_with fail
  go_loopw [4] (fun iv wr => ∃ s : Nat, s ≤ 24 ∧ iv = .int .i64 s ∧ XMem wr w.heap.size N (tabR s 0) ∧ Below w.heap.size w wr) (fun iv _ => 24 - (intOf iv).toNat)
  case atStart => exact ⟨0, by omega, rfl, HN.out, HB.out⟩
  case round =>
    clear HN HB
    obtain ⟨s, hs, rfl, hX, hB⟩ := hrel
    have HB : Hid (Below w.heap.size w wr) := hB
    have HX : Hid (XMem wr w.heap.size N (tabR s 0)) := hX
    clear hX hB
    by_cases hlt : s < 24
    · have s24 : (s : Int) < 24 := by omega
      go_wp2_with fail
      go_loopw [5] (fun jv wr' => ∃ t : Nat, t ≤ 24 ∧ jv = .int .i64 t ∧ XMem wr' w.heap.size N (tabR s t) ∧ Below w.heap.size w wr') (fun jv _ => 24 - (intOf jv).toNat)
      case atStart => exact ⟨0, by omega, rfl, HX.out, HB.out⟩
      case round =>
        clear HX HB
        rename_i wr0 hwr0
        obtain ⟨t, ht, rfl, hX, hB⟩ := hrel
        have HB : Hid (Below w.heap.size w wr) := hB
        by_cases htl : t < 24
        · have t24 : (t : Int) < 24 := by omega
          have ck := hX.c s t hlt htl
          have fk := hX.fz (1 + s * 24 + t)
          have HX1 : Hid (XMem (wr.setCell ⟨w.heap.size, 1 + s * 24 + t, none⟩ (.int .i64 4611686018427387906)) w.heap.size N (tabR s (t + 1))) := by
            show XMem _ _ _ _
            rw [← tabR_step]
            exact hX.set hlt htl _
          have HB1 : Hid (Below w.heap.size w (wr.setCell ⟨w.heap.size, 1 + s * 24 + t, none⟩ (.int .i64 4611686018427387906))) := hB.setCell (p := ⟨w.heap.size, 1 + s * 24 + t, none⟩) (Nat.le_refl _) _
          clear hX hB
          go_wp2_with fail
          go_roundw
          case rel => exact ⟨t + 1, by omega, by go_num, HX1.out, HB1.out⟩
          case measure => simp [intOf]; omega
        · obtain rfl : t = 24 := by omega
          have HX1 : Hid (XMem wr w.heap.size N (tabR (s + 1) 0)) := hX.congr (fun u v _ hv => tabR_row s u v hv)
          clear hX hB
          go_wp2_with fail
          go_roundw
          case rel => exact ⟨s + 1, by omega, by go_num, HX1.out, HB.out⟩
          case measure => simp [intOf]; omega
    · obtain rfl : s = 24 := by omega
      have HX1 : Hid (XMem wr w.heap.size N XM.empty) := HX.out.congr tabR_all
      go_wp2_with fail
      go_ret
      exact ⟨w.heap.size, rfl, rfl, HX1.out, HB.out⟩
end Go.Proofs.YtkcfepppnclniaaGreatDoor
end
