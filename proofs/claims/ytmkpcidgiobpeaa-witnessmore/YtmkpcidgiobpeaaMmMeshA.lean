/-
  The walks of mesh's smaller functions, and the document's: New, Put, At, Vertices, Copy, leave.
-/
import Derived.Test.YtmkpcidgiobpeaaMmMeshMem
namespace Go.Proofs.Ytmkpcidgiobpeaa
open Go.RowKit

set_option maxHeartbeats 400000 in
theorem xhasVertex_any {w : World} {p N : Nat} {D : Nat → Nat → Int} (hg : XMem w p N D) (v : Int) :
    Calls Try.prog 40 #[.pointer (some ⟨p, 0, none⟩), .int .i64 v] w fun e w' => e = .returned (.bool (GM.vert N v)) ∧ w' = w := by
  have c0 := hg.c0
  clear hg
  by_cases h : 0 ≤ v
  all_goals
    go_enter Try.func40, Try.ntmps40
    go_wp2
    all_goals go_ret
    all_goals refine ⟨ret_bool ?_, rfl⟩
    all_goals unfold GM.vert
    all_goals simp
    all_goals omega
set_option maxHeartbeats 400000 in
theorem xvertex_any {w : World} {p N : Nat} {D : Nat → Nat → Int} (hg : XMem w p N D) (v : Int) :
    Calls Try.prog 11 #[.pointer (some ⟨p, 0, none⟩), .int .i64 v] w fun e w' => e = .returned (.bool (GM.vert N v)) ∧ w' = w := by
  have c0 := hg.c0
  clear hg
  by_cases h : 0 ≤ v
  all_goals
    go_enter Try.func11, Try.ntmps11
    go_wp2
    all_goals go_ret
    all_goals refine ⟨ret_bool ?_, rfl⟩
    all_goals unfold GM.vert
    all_goals simp
    all_goals omega
set_option maxHeartbeats 400000 in
theorem xvertices_any {w : World} {p N : Nat} {D : Nat → Nat → Int} (hg : XMem w p N D) :
    Calls Try.prog 42 #[.pointer (some ⟨p, 0, none⟩)] w fun e w' => e = .returned (.int .i64 (N : Nat)) ∧ w' = w := by
  have c0 := hg.c0
  clear hg
  go_enter Try.func42, Try.ntmps42
  go_wp2
  go_ret
  exact ⟨rfl, rfl⟩
set_option maxHeartbeats 1000000 in
/-- The program's At. -/
theorem xat_any {w : World} {p N : Nat} {D : Nat → Nat → Int} (hg : XMem w p N D) (hN : N ≤ 24) (u v : Int) :
    Calls Try.prog 36 #[.pointer (some ⟨p, 0, none⟩), .int .i64 u, .int .i64 v] w fun e w' => e = .returned (.int .i64 (XM.atE N D u v)) ∧ w' = w := by
  have hu := xhasVertex_any hg u
  have hv := xhasVertex_any hg v
  have HE : Hid (XM.atE N D u v = if GM.vert N u = true ∧ GM.vert N v = true then D u.toNat v.toNat else 4611686018427387906) := rfl
  cases e1 : GM.vert N u with
  | false =>
    rw [e1] at hu HE
    clear hg hv
    go_enter Try.func36, Try.ntmps36
    go_wp2_with fail
    refine hu.mono ?_
    rintro e w' ⟨rfl, rfl⟩
    clear hu
    go_wp2_with fail
    go_ret
    exact ⟨ret_int (by rw [HE.out]; simp), rfl⟩
  | true =>
    rw [e1] at hu HE
    obtain ⟨i, rfl, hi⟩ := XM.vert_nat e1
    cases e2 : GM.vert N v with
    | false =>
      rw [e2] at hv HE
      clear hg e1
      go_enter Try.func36, Try.ntmps36
      go_wp2_with fail
      refine hu.mono ?_
      rintro e w' ⟨rfl, rfl⟩
      clear hu
      go_wp2_with fail
      refine hv.mono ?_
      rintro e w' ⟨rfl, rfl⟩
      clear hv
      go_wp2_with fail
      go_ret
      exact ⟨ret_int (by rw [HE.out]; simp), rfl⟩
    | true =>
      rw [e2] at hv HE
      obtain ⟨j, rfl, hj⟩ := XM.vert_nat e2
      have c := hg.c i j (by omega) (by omega)
      have i24 : (i : Int) < 24 := by omega
      have j24 : (j : Int) < 24 := by omega
      clear hg e1 e2
      go_enter Try.func36, Try.ntmps36
      go_wp2_with fail
      refine hu.mono ?_
      rintro e w' ⟨rfl, rfl⟩
      clear hu
      go_wp2_with fail
      refine hv.mono ?_
      rintro e w' ⟨rfl, rfl⟩
      clear hv
      go_wp2_with fail
      go_ret
      exact ⟨ret_int (by rw [HE.out]; simp), rfl⟩
set_option maxHeartbeats 1000000 in
/-- The document's At. -/
theorem rat_any {w : World} {p N : Nat} {D : Nat → Nat → Int} (hg : XMem w p N D) (hm : XM.Mesh N D) (hN : N ≤ 24) (u v : Int) :
    Calls Try.prog 34 #[.pointer (some ⟨p, 0, none⟩), .int .i64 u, .int .i64 v] w fun e w' => e = .returned (.int .i64 (XM.atE N D u v)) ∧ w' = w := by
  have hu := xvertex_any hg u
  have hv := xvertex_any hg v
  have HE : Hid (XM.atE N D u v = if GM.vert N u = true ∧ GM.vert N v = true then D u.toNat v.toNat else 4611686018427387906) := rfl
  have HS : Hid (u = v → XM.atE N D u v = 4611686018427387906) := fun e => by rw [e]; exact XM.atE_self hm v
  clear hm
  cases e1 : GM.vert N u with
  | false =>
    rw [e1] at hu HE
    clear hg hv
    go_enter Try.func34, Try.ntmps34
    go_wp2_with fail
    refine hu.mono ?_
    rintro e w' ⟨rfl, rfl⟩
    clear hu
    go_wp2_with fail
    go_ret
    exact ⟨ret_int (by rw [HE.out]; simp), rfl⟩
  | true =>
    rw [e1] at hu HE
    obtain ⟨i, rfl, hi⟩ := XM.vert_nat e1
    cases e2 : GM.vert N v with
    | false =>
      rw [e2] at hv HE
      clear hg e1
      go_enter Try.func34, Try.ntmps34
      go_wp2_with fail
      refine hu.mono ?_
      rintro e w' ⟨rfl, rfl⟩
      clear hu
      go_wp2_with fail
      refine hv.mono ?_
      rintro e w' ⟨rfl, rfl⟩
      clear hv
      go_wp2_with fail
      go_ret
      exact ⟨ret_int (by rw [HE.out]; simp), rfl⟩
    | true =>
      rw [e2] at hv HE
      obtain ⟨j, rfl, hj⟩ := XM.vert_nat e2
      by_cases hij : i = j
      · subst hij
        have HS2 : Hid (XM.atE N D i i = 4611686018427387906) := HS.out rfl
        clear hg e1 e2 HS
        go_enter Try.func34, Try.ntmps34
        go_wp2_with fail
        refine hu.mono ?_
        rintro e w' ⟨rfl, rfl⟩
        clear hu
        go_wp2_with fail
        refine hv.mono ?_
        rintro e w' ⟨rfl, rfl⟩
        clear hv
        go_wp2_with fail
        go_ret
        exact ⟨ret_int HS2.out.symm, rfl⟩
      · have c := hg.c i j (by omega) (by omega)
        have i24 : (i : Int) < 24 := by omega
        have j24 : (j : Int) < 24 := by omega
        have hne : ((i : Int) == (j : Int)) = false := beq_eq_false_iff_ne.2 (by omega)
        clear hg e1 e2 hij
        go_enter Try.func34, Try.ntmps34
        go_wp2_with fail
        refine hu.mono ?_
        rintro e w' ⟨rfl, rfl⟩
        clear hu
        go_wp2_with fail
        refine hv.mono ?_
        rintro e w' ⟨rfl, rfl⟩
        clear hv
        go_wp2_with fail
        go_ret
        exact ⟨ret_int (by rw [HE.out]; simp), rfl⟩
end Go.Proofs.Ytmkpcidgiobpeaa
