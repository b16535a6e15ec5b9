/-
  MeshMem, MeshA.
-/
import Derived.Test.YtkcfepppnclniaaMmMeshDefs
import Derived.Test.YtkcfepppnclniaaMmGraphMem
section
/-
  A mesh of the program's, and the document's, in memory: how many vertices, and the table, in one block.
-/
namespace Go.Proofs.Ytkcfepppnclniaa
open Go.RowKit

/-- The mesh of N vertices and steps D lies in block p. -/
structure XMem (w : World) (p N : Nat) (D : Nat → Nat → Int) : Prop where
  c0 : w.cell? ⟨p, 0, none⟩ = some (.int .i64 (N : Nat))
  c : ∀ s t, s < 24 → t < 24 → w.cell? ⟨p, 1 + s * 24 + t, none⟩ = some (.int .i64 (D s t))
  fz : ∀ j, w.frozen? ⟨p, j, none⟩ = false
def xCells (N : Nat) (D : Nat → Nat → Int) : List Value := .int .i64 (N : Nat) :: tabCells D
theorem xCells_len (N : Nat) (D : Nat → Nat → Int) : (xCells N D).length = 577 := by simp [xCells, tabCells_len]
theorem xCells_one (N : Nat) (D : Nat → Nat → Int) : ∀ v ∈ xCells N D, v.oneCell' = true := by
  intro v hv
  rcases List.mem_cons.1 hv with rfl | hv
  · rfl
  · exact tabCells_one D v hv
section
variable {w w' : World} {p N : Nat} {D D' : Nat → Nat → Int}
theorem XMem.lt (h : XMem w p N D) : p < w.heap.size := cell_lt h.c0
theorem XMem.of_block (h : XMem w p N D) (hb : w'.heap[p]? = w.heap[p]?) : XMem w' p N D :=
  ⟨(World.cell?_of_block (a := ⟨p, 0, none⟩) hb).trans h.c0, fun s t hs ht => (World.cell?_of_block (a := ⟨p, 1 + s * 24 + t, none⟩) hb).trans (h.c s t hs ht), fun j => (World.frozen?_of_block (a := ⟨p, j, none⟩) hb).trans (h.fz j)⟩
theorem XMem.on (h : XMem w p N D) (hb : Below w.heap.size w w') : XMem w' p N D := h.of_block (hb.block p h.lt)
theorem XMem.kept {F : Nat → Prop} (h : XMem w p N D) (hk : Keeps F w w') (hF : ¬ F p) : XMem w' p N D := h.of_block (hk.block p h.lt hF)
theorem XMem.below (h : XMem w p N D) {B : Nat} (hp : p < B) (hb : Below B w w') : XMem w' p N D := h.of_block (hb.block p hp)
theorem XMem.drew (h : XMem w p N D) : XMem w.drew p N D := ⟨h.c0, h.c, h.fz⟩
theorem XMem.congr (h : XMem w p N D) (e : ∀ s t, s < 24 → t < 24 → D s t = D' s t) : XMem w p N D' := ⟨h.c0, fun s t hs ht => by rw [← e s t hs ht]; exact h.c s t hs ht, h.fz⟩
theorem XMem.set (h : XMem w p N D) {s t : Nat} (hs : s < 24) (ht : t < 24) (x : Int) : XMem (w.setCell ⟨p, 1 + s * 24 + t, none⟩ (.int .i64 x)) p N (NM.set2 D s t x) where
  c0 := (cell_other _ (by omega)).trans h.c0
  c s' t' hs' ht' := by
    unfold NM.set2
    by_cases e : s' = s ∧ t' = t
    · obtain ⟨rfl, rfl⟩ := e
      rw [if_pos ⟨rfl, rfl⟩]
      exact World.cell?_setCell_same _ _ _ (h.c s' t' hs' ht')
    · rw [if_neg e, cell_other _ (by omega)]
      exact h.c s' t' hs' ht'
  fz j := by simpa using h.fz j
theorem XMem.cells (h : XMem w p N D) : ∀ j v, (xCells N D)[j]? = some v → w.cell? ((⟨p, 0, none⟩ : Addr).add j) = some v := by
  intro j v hv
  have ea : (⟨p, 0, none⟩ : Addr).add j = ⟨p, j, none⟩ := by rw [Addr.add_lit]; simp
  rw [ea]
  have e0 : (xCells N D)[0]? = some (.int .i64 (N : Nat)) := rfl
  have e1 : ∀ i, (xCells N D)[i + 1]? = (tabCells D)[i]? := fun i => List.getElem?_cons_succ
  cases j with
  | zero =>
    rw [e0] at hv
    rw [← Option.some.inj hv]
    exact h.c0
  | succ j =>
    have hv' : (tabCells D)[j]? = some v := (e1 j).symm.trans hv
    clear hv e0 e1
    have hj : j < 576 := by have := (List.getElem?_eq_some_iff.1 hv').1; rwa [tabCells_len] at this
    have h1 := h.c (j / 24) (j % 24) (by omega) (by omega)
    have h2 := tabCells_get D (s := j / 24) (t := j % 24) (by omega) (by omega)
    rw [show 1 + j / 24 * 24 + j % 24 = j + 1 by omega] at h1
    rw [show j / 24 * 24 + j % 24 = j by omega] at h2
    rw [h1, ← h2, hv']
/-- The table alone. -/
theorem XMem.tab (h : XMem w p N D) : ∀ j v, (tabCells D)[j]? = some v → w.cell? ((⟨p, 1, none⟩ : Addr).add j) = some v := by
  intro j v hv
  have h1 := h.cells (j + 1) v ((show (xCells N D)[j + 1]? = (tabCells D)[j]? from List.getElem?_cons_succ).trans hv)
  rw [Addr.add_lit] at h1 ⊢
  rw [show 1 + j = 0 + (j + 1) by omega]
  exact h1
end
theorem frozen_new (w : World) (cs : Array Value) (t : TypeId) (j : Nat) : (w.alloc (.cells cs t)).frozen? ⟨w.heap.size, j, none⟩ = false := by simp
theorem xmem_new (w : World) (N : Nat) (D : Nat → Nat → Int) (t : TypeId) : XMem (w.alloc (.cells (xCells N D).toArray t)) w.heap.size N D where
  c0 := by
    rw [World.cell?_alloc_new, List.getElem?_toArray]
    unfold xCells
    exact List.getElem?_cons_zero
  c s t' hs ht := by
    rw [World.cell?_alloc_new, List.getElem?_toArray, show 1 + s * 24 + t' = (s * 24 + t') + 1 by omega]
    unfold xCells
    rw [List.getElem?_cons_succ]
    exact tabCells_get D hs ht
  fz j := frozen_new w _ t j
def zX : Array Value := (xCells 0 (fun _ _ => 0)).toArray
theorem zeroXP (w : World) : (zeroValue 68).run Try.prog w = .ok (.agg zX) w := by kernel_rfl
theorem zeroXR (w : World) : (zeroValue 40).run Try.prog w = .ok (.agg zX) w := by kernel_rfl
theorem zX_size : zX.size = 577 := by simp [zX, xCells_len]
theorem zX_ne : (zX = #[]) = False := eq_false (fun h => by have := congrArg Array.size h; rw [zX_size] at this; cases this)
theorem set_head (a b : Value) (T : List Value) : (a :: T).toArray.setIfInBounds 0 b = (b :: T).toArray := by simp
theorem zX_set (N : Nat) : zX.setIfInBounds 0 (.int .i64 (N : Nat)) = (xCells N (fun _ _ => 0)).toArray := set_head _ _ _
theorem infoXP : (Try.prog.info? 68).map (·.size) = some 577 := by kernel_rfl
theorem infoXR : (Try.prog.info? 40).map (·.size) = some 577 := by kernel_rfl
end Go.Proofs.Ytkcfepppnclniaa
end

section
/-
  The walks of mesh's smaller functions, and the document's: New, Put, At, Vertices, Copy, leave.
-/
namespace Go.Proofs.Ytkcfepppnclniaa
open Go.RowKit

set_option maxHeartbeats 400000 in
theorem xhasVertex_any {w : World} {p N : Nat} {D : Nat → Nat → Int} (hg : XMem w p N D) (v : Int) :
    Calls Try.prog 30 #[.pointer (some ⟨p, 0, none⟩), .int .i64 v] w fun e w' => e = .returned (.bool (GM.vert N v)) ∧ w' = w := by
  have c0 := hg.c0
  clear hg
  by_cases h : 0 ≤ v
  all_goals
    go_enter Try.func30, Try.ntmps30
    go_wp2
    all_goals go_ret
    all_goals refine ⟨ret_bool ?_, rfl⟩
    all_goals unfold GM.vert
    all_goals simp
    all_goals omega
set_option maxHeartbeats 400000 in
theorem xvertex_any {w : World} {p N : Nat} {D : Nat → Nat → Int} (hg : XMem w p N D) (v : Int) :
    Calls Try.prog 10 #[.pointer (some ⟨p, 0, none⟩), .int .i64 v] w fun e w' => e = .returned (.bool (GM.vert N v)) ∧ w' = w := by
  have c0 := hg.c0
  clear hg
  by_cases h : 0 ≤ v
  all_goals
    go_enter Try.func10, Try.ntmps10
    go_wp2
    all_goals go_ret
    all_goals refine ⟨ret_bool ?_, rfl⟩
    all_goals unfold GM.vert
    all_goals simp
    all_goals omega
set_option maxHeartbeats 400000 in
theorem xvertices_any {w : World} {p N : Nat} {D : Nat → Nat → Int} (hg : XMem w p N D) :
    Calls Try.prog 31 #[.pointer (some ⟨p, 0, none⟩)] w fun e w' => e = .returned (.int .i64 (N : Nat)) ∧ w' = w := by
  have c0 := hg.c0
  clear hg
  go_enter Try.func31, Try.ntmps31
  go_wp2
  go_ret
  exact ⟨rfl, rfl⟩
set_option maxHeartbeats 1000000 in
/-- The program's At. -/
theorem xat_any {w : World} {p N : Nat} {D : Nat → Nat → Int} (hg : XMem w p N D) (hN : N ≤ 24) (u v : Int) :
    Calls Try.prog 33 #[.pointer (some ⟨p, 0, none⟩), .int .i64 u, .int .i64 v] w fun e w' => e = .returned (.int .i64 (XM.atE N D u v)) ∧ w' = w := by
  have hu := xhasVertex_any hg u
  have hv := xhasVertex_any hg v
  have HE : Hid (XM.atE N D u v = if GM.vert N u = true ∧ GM.vert N v = true then D u.toNat v.toNat else 4611686018427387906) := rfl
  cases e1 : GM.vert N u with
  | false =>
    rw [e1] at hu HE
    clear hg hv
    go_enter Try.func33, Try.ntmps33
    go_wp2_with fail
    refine hu.mono ?_
    rintro e w' ⟨rfl, rfl⟩
    clear hu
    go_wp2_with fail
    go_ret
    exact ⟨ret_int (by rw [HE.out]; simp), rfl⟩
  | true =>
    rw [e1] at hu HE
    obtain ⟨i, rfl, hi⟩ := XM.vert_nat e1
    cases e2 : GM.vert N v with
    | false =>
      rw [e2] at hv HE
      clear hg e1
      go_enter Try.func33, Try.ntmps33
      go_wp2_with fail
      refine hu.mono ?_
      rintro e w' ⟨rfl, rfl⟩
      clear hu
      go_wp2_with fail
      refine hv.mono ?_
      rintro e w' ⟨rfl, rfl⟩
      clear hv
      go_wp2_with fail
      go_ret
      exact ⟨ret_int (by rw [HE.out]; simp), rfl⟩
    | true =>
      rw [e2] at hv HE
      obtain ⟨j, rfl, hj⟩ := XM.vert_nat e2
      have c := hg.c i j (by omega) (by omega)
      have i24 : (i : Int) < 24 := by omega
      have j24 : (j : Int) < 24 := by omega
      clear hg e1 e2
      go_enter Try.func33, Try.ntmps33
      go_wp2_with fail
      refine hu.mono ?_
      rintro e w' ⟨rfl, rfl⟩
      clear hu
      go_wp2_with fail
      refine hv.mono ?_
      rintro e w' ⟨rfl, rfl⟩
      clear hv
      go_wp2_with fail
      go_ret
      exact ⟨ret_int (by rw [HE.out]; simp), rfl⟩
set_option maxHeartbeats 1000000 in
/-- The document's At. -/
theorem rat_any {w : World} {p N : Nat} {D : Nat → Nat → Int} (hg : XMem w p N D) (hm : XM.Mesh N D) (hN : N ≤ 24) (u v : Int) :
    Calls Try.prog 28 #[.pointer (some ⟨p, 0, none⟩), .int .i64 u, .int .i64 v] w fun e w' => e = .returned (.int .i64 (XM.atE N D u v)) ∧ w' = w := by
  have hu := xvertex_any hg u
  have hv := xvertex_any hg v
  have HE : Hid (XM.atE N D u v = if GM.vert N u = true ∧ GM.vert N v = true then D u.toNat v.toNat else 4611686018427387906) := rfl
  have HS : Hid (u = v → XM.atE N D u v = 4611686018427387906) := fun e => by rw [e]; exact XM.atE_self hm v
  clear hm
  cases e1 : GM.vert N u with
  | false =>
    rw [e1] at hu HE
    clear hg hv
    go_enter Try.func28, Try.ntmps28
    go_wp2_with fail
    refine hu.mono ?_
    rintro e w' ⟨rfl, rfl⟩
    clear hu
    go_wp2_with fail
    go_ret
    exact ⟨ret_int (by rw [HE.out]; simp), rfl⟩
  | true =>
    rw [e1] at hu HE
    obtain ⟨i, rfl, hi⟩ := XM.vert_nat e1
    cases e2 : GM.vert N v with
    | false =>
      rw [e2] at hv HE
      clear hg e1
      go_enter Try.func28, Try.ntmps28
      go_wp2_with fail
      refine hu.mono ?_
      rintro e w' ⟨rfl, rfl⟩
      clear hu
      go_wp2_with fail
      refine hv.mono ?_
      rintro e w' ⟨rfl, rfl⟩
      clear hv
      go_wp2_with fail
      go_ret
      exact ⟨ret_int (by rw [HE.out]; simp), rfl⟩
    | true =>
      rw [e2] at hv HE
      obtain ⟨j, rfl, hj⟩ := XM.vert_nat e2
      by_cases hij : i = j
      · subst hij
        have HS2 : Hid (XM.atE N D i i = 4611686018427387906) := HS.out rfl
        clear hg e1 e2 HS
        go_enter Try.func28, Try.ntmps28
        go_wp2_with fail
        refine hu.mono ?_
        rintro e w' ⟨rfl, rfl⟩
        clear hu
        go_wp2_with fail
        refine hv.mono ?_
        rintro e w' ⟨rfl, rfl⟩
        clear hv
        go_wp2_with fail
        go_ret
        exact ⟨ret_int HS2.out.symm, rfl⟩
      · have c := hg.c i j (by omega) (by omega)
        have i24 : (i : Int) < 24 := by omega
        have j24 : (j : Int) < 24 := by omega
        have hne : ((i : Int) == (j : Int)) = false := beq_eq_false_iff_ne.2 (by omega)
        clear hg e1 e2 hij
        go_enter Try.func28, Try.ntmps28
        go_wp2_with fail
        refine hu.mono ?_
        rintro e w' ⟨rfl, rfl⟩
        clear hu
        go_wp2_with fail
        refine hv.mono ?_
        rintro e w' ⟨rfl, rfl⟩
        clear hv
        go_wp2_with fail
        go_ret
        exact ⟨ret_int (by rw [HE.out]; simp), rfl⟩
end Go.Proofs.Ytkcfepppnclniaa
end
