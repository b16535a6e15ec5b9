/-
  The walks of Put, the program's and the document's.
-/
import Derived.Test.YtmkpcidgiobpeaaMmMeshA
namespace Go.Proofs.Ytmkpcidgiobpeaa
open Go.RowKit

set_option maxHeartbeats 1000000 in
theorem xput_any {w : World} {p N : Nat} {D : Nat → Nat → Int} (hg : XMem w p N D) (hm : XM.Mesh N D) (hN : N ≤ 24) (u v x : Int) :
    Calls Try.prog 23 #[.pointer (some ⟨p, 0, none⟩), .int .i64 u, .int .i64 v, .int .i64 x] w fun e w' => e = .returned (.int .i64 (XM.putCode N u v x)) ∧ XMem w' p N (XM.put N D u v x) ∧ XM.Mesh N (XM.put N D u v x) ∧ Keeps (fun b => b = p) w w' := by
  have hu := xhasVertex_any hg u
  have hv := xhasVertex_any hg v
  have HX : Hid (XMem w p N D) := hg
  have HM : Hid (XM.Mesh N D) := hm
  by_cases hc : GM.vert N u = true ∧ GM.vert N v = true ∧ u ≠ v ∧ 1 ≤ x ∧ x ≤ 4611686018427387906
  · have HM2 : Hid (XM.Mesh N (XM.put N D u v x)) := XM.put_mesh hm u v x
    have HC : Hid (XM.putCode N u v x = 0) := if_pos hc
    have HD : Hid (XM.put N D u v x = NM.set2 D u.toNat v.toNat x) := if_pos (if_pos hc)
    obtain ⟨e1, e2, h3, h4, h5⟩ := hc
    rw [e1] at hu
    rw [e2] at hv
    obtain ⟨i, rfl, hi⟩ := XM.vert_nat e1
    obtain ⟨j, rfl, hj⟩ := XM.vert_nat e2
    have c := hg.c i j (by omega) (by omega)
    have f := hg.fz (1 + i * 24 + j)
    have i24 : (i : Int) < 24 := by omega
    have j24 : (j : Int) < 24 := by omega
    have hne : ((i : Int) == (j : Int)) = false := beq_eq_false_iff_ne.2 h3
    have h4' : ¬ x < 1 := by omega
    have h5' : ¬ 4611686018427387906 < x := by omega
    have HIJ : Hid (i < 24 ∧ j < 24) := ⟨by omega, by omega⟩
    clear hg e1 e2 h3 h4 h5 hi hj hN hm
    go_enter Try.func23, Try.ntmps23
    go_wp2_with fail
    refine hu.mono ?_
    rintro e w' ⟨rfl, rfl⟩
    clear hu
    go_wp2_with fail
    refine hv.mono ?_
    rintro e w' ⟨rfl, rfl⟩
    clear hv
    go_wp2_with fail
    go_ret
    refine ⟨ret_int HC.out.symm, ?_, HM2.out, Keeps.setCell (F := fun b => b = p) (Keeps.refl _ _) (.inl rfl) _⟩
    rw [HD.out, Int.toNat_natCast, Int.toNat_natCast]
    exact HX.out.set HIJ.out.1 HIJ.out.2 x
  · have HC : Hid (XM.putCode N u v x = 1) := if_neg hc
    have HD : Hid (XM.put N D u v x = D) := if_neg (fun e => by rw [HC.out] at e; cases e)
    clear hm
    cases e1 : GM.vert N u with
    | false =>
      rw [e1] at hu
      clear hg hv hc e1 hN
      go_enter Try.func23, Try.ntmps23
      go_wp2_with fail
      refine hu.mono ?_
      rintro e w' ⟨rfl, rfl⟩
      clear hu
      go_wp2_with fail
      go_ret
      exact ⟨ret_int HC.out.symm, by rw [HD.out]; exact HX.out, by rw [HD.out]; exact HM.out, Keeps.refl _ _⟩
    | true =>
      rw [e1] at hu
      cases e2 : GM.vert N v with
      | false =>
        rw [e2] at hv
        clear hg hc e1 e2 hN
        go_enter Try.func23, Try.ntmps23
        go_wp2_with fail
        refine hu.mono ?_
        rintro e w' ⟨rfl, rfl⟩
        clear hu
        go_wp2_with fail
        refine hv.mono ?_
        rintro e w' ⟨rfl, rfl⟩
        clear hv
        go_wp2_with fail
        go_ret
        exact ⟨ret_int HC.out.symm, by rw [HD.out]; exact HX.out, by rw [HD.out]; exact HM.out, Keeps.refl _ _⟩
      | true =>
        rw [e2] at hv
        by_cases h3 : u = v
        · subst h3
          clear hg hc e1 e2 hN
          go_enter Try.func23, Try.ntmps23
          go_wp2_with fail
          refine hu.mono ?_
          rintro e w' ⟨rfl, rfl⟩
          clear hu
          go_wp2_with fail
          refine hv.mono ?_
          rintro e w' ⟨rfl, rfl⟩
          clear hv
          go_wp2_with fail
          go_ret
          exact ⟨ret_int HC.out.symm, by rw [HD.out]; exact HX.out, by rw [HD.out]; exact HM.out, Keeps.refl _ _⟩
        · have hne : (u == v) = false := beq_eq_false_iff_ne.2 h3
          by_cases h4 : x < 1
          · clear hg hc e1 e2 h3 hN
            go_enter Try.func23, Try.ntmps23
            go_wp2_with fail
            refine hu.mono ?_
            rintro e w' ⟨rfl, rfl⟩
            clear hu
            go_wp2_with fail
            refine hv.mono ?_
            rintro e w' ⟨rfl, rfl⟩
            clear hv
            go_wp2_with fail
            go_ret
            exact ⟨ret_int HC.out.symm, by rw [HD.out]; exact HX.out, by rw [HD.out]; exact HM.out, Keeps.refl _ _⟩
          · have h5 : 4611686018427387906 < x := Decidable.byContradiction fun h => hc ⟨e1, e2, h3, by omega, by omega⟩
            clear hg hc e1 e2 h3 hN
            go_enter Try.func23, Try.ntmps23
            go_wp2_with fail
            refine hu.mono ?_
            rintro e w' ⟨rfl, rfl⟩
            clear hu
            go_wp2_with fail
            refine hv.mono ?_
            rintro e w' ⟨rfl, rfl⟩
            clear hv
            go_wp2_with fail
            go_ret
            exact ⟨ret_int HC.out.symm, by rw [HD.out]; exact HX.out, by rw [HD.out]; exact HM.out, Keeps.refl _ _⟩
set_option maxHeartbeats 1000000 in
theorem rput_any {w : World} {p N : Nat} {D : Nat → Nat → Int} (hg : XMem w p N D) (hm : XM.Mesh N D) (hN : N ≤ 24) (u v x : Int) :
    Calls Try.prog 26 #[.pointer (some ⟨p, 0, none⟩), .int .i64 u, .int .i64 v, .int .i64 x] w fun e w' => e = .returned (.int .i64 (XM.putCode N u v x)) ∧ XMem w' p N (XM.put N D u v x) ∧ XM.Mesh N (XM.put N D u v x) ∧ Keeps (fun b => b = p) w w' := by
  have hu := xvertex_any hg u
  have hv := xvertex_any hg v
  have HX : Hid (XMem w p N D) := hg
  have HM : Hid (XM.Mesh N D) := hm
  by_cases hc : GM.vert N u = true ∧ GM.vert N v = true ∧ u ≠ v ∧ 1 ≤ x ∧ x ≤ 4611686018427387906
  · have HM2 : Hid (XM.Mesh N (XM.put N D u v x)) := XM.put_mesh hm u v x
    have HC : Hid (XM.putCode N u v x = 0) := if_pos hc
    have HD : Hid (XM.put N D u v x = NM.set2 D u.toNat v.toNat x) := if_pos (if_pos hc)
    obtain ⟨e1, e2, h3, h4, h5⟩ := hc
    rw [e1] at hu
    rw [e2] at hv
    obtain ⟨i, rfl, hi⟩ := XM.vert_nat e1
    obtain ⟨j, rfl, hj⟩ := XM.vert_nat e2
    have c := hg.c i j (by omega) (by omega)
    have f := hg.fz (1 + i * 24 + j)
    have i24 : (i : Int) < 24 := by omega
    have j24 : (j : Int) < 24 := by omega
    have hne : ((i : Int) == (j : Int)) = false := beq_eq_false_iff_ne.2 h3
    have h4' : ¬ x < 1 := by omega
    have h5' : ¬ 4611686018427387906 < x := by omega
    have HIJ : Hid (i < 24 ∧ j < 24) := ⟨by omega, by omega⟩
    clear hg e1 e2 h3 h4 h5 hi hj hN hm
    go_enter Try.func26, Try.ntmps26
    go_wp2_with fail
    refine hu.mono ?_
    rintro e w' ⟨rfl, rfl⟩
    clear hu
    go_wp2_with fail
    refine hv.mono ?_
    rintro e w' ⟨rfl, rfl⟩
    clear hv
    go_wp2_with fail
    go_ret
    refine ⟨ret_int HC.out.symm, ?_, HM2.out, Keeps.setCell (F := fun b => b = p) (Keeps.refl _ _) (.inl rfl) _⟩
    rw [HD.out, Int.toNat_natCast, Int.toNat_natCast]
    exact HX.out.set HIJ.out.1 HIJ.out.2 x
  · have HC : Hid (XM.putCode N u v x = 1) := if_neg hc
    have HD : Hid (XM.put N D u v x = D) := if_neg (fun e => by rw [HC.out] at e; cases e)
    clear hm
    cases e1 : GM.vert N u with
    | false =>
      rw [e1] at hu
      clear hg hv hc e1 hN
      go_enter Try.func26, Try.ntmps26
      go_wp2_with fail
      refine hu.mono ?_
      rintro e w' ⟨rfl, rfl⟩
      clear hu
      go_wp2_with fail
      go_ret
      exact ⟨ret_int HC.out.symm, by rw [HD.out]; exact HX.out, by rw [HD.out]; exact HM.out, Keeps.refl _ _⟩
    | true =>
      rw [e1] at hu
      cases e2 : GM.vert N v with
      | false =>
        rw [e2] at hv
        clear hg hc e1 e2 hN
        go_enter Try.func26, Try.ntmps26
        go_wp2_with fail
        refine hu.mono ?_
        rintro e w' ⟨rfl, rfl⟩
        clear hu
        go_wp2_with fail
        refine hv.mono ?_
        rintro e w' ⟨rfl, rfl⟩
        clear hv
        go_wp2_with fail
        go_ret
        exact ⟨ret_int HC.out.symm, by rw [HD.out]; exact HX.out, by rw [HD.out]; exact HM.out, Keeps.refl _ _⟩
      | true =>
        rw [e2] at hv
        by_cases h3 : u = v
        · subst h3
          clear hg hc e1 e2 hN
          go_enter Try.func26, Try.ntmps26
          go_wp2_with fail
          refine hu.mono ?_
          rintro e w' ⟨rfl, rfl⟩
          clear hu
          go_wp2_with fail
          refine hv.mono ?_
          rintro e w' ⟨rfl, rfl⟩
          clear hv
          go_wp2_with fail
          go_ret
          exact ⟨ret_int HC.out.symm, by rw [HD.out]; exact HX.out, by rw [HD.out]; exact HM.out, Keeps.refl _ _⟩
        · have hne : (u == v) = false := beq_eq_false_iff_ne.2 h3
          by_cases h4 : x < 1
          · clear hg hc e1 e2 h3 hN
            go_enter Try.func26, Try.ntmps26
            go_wp2_with fail
            refine hu.mono ?_
            rintro e w' ⟨rfl, rfl⟩
            clear hu
            go_wp2_with fail
            refine hv.mono ?_
            rintro e w' ⟨rfl, rfl⟩
            clear hv
            go_wp2_with fail
            go_ret
            exact ⟨ret_int HC.out.symm, by rw [HD.out]; exact HX.out, by rw [HD.out]; exact HM.out, Keeps.refl _ _⟩
          · have h5 : 4611686018427387906 < x := Decidable.byContradiction fun h => hc ⟨e1, e2, h3, by omega, by omega⟩
            clear hg hc e1 e2 h3 hN
            go_enter Try.func26, Try.ntmps26
            go_wp2_with fail
            refine hu.mono ?_
            rintro e w' ⟨rfl, rfl⟩
            clear hu
            go_wp2_with fail
            refine hv.mono ?_
            rintro e w' ⟨rfl, rfl⟩
            clear hv
            go_wp2_with fail
            go_ret
            exact ⟨ret_int HC.out.symm, by rw [HD.out]; exact HX.out, by rw [HD.out]; exact HM.out, Keeps.refl _ _⟩
end Go.Proofs.Ytmkpcidgiobpeaa
