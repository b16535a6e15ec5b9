/-
  MeshMem, MeshA, MeshSeq.
-/
import Derived.Test.YtkcfepppnclniaaGreatDoorMmMeshDefs
import Derived.Test.YtkcfepppnclniaaGreatDoorMmGraphA
import Derived.Test.YtkcfepppnclniaaGreatDoorMmRangeQ
import Derived.Laws.EntriesVeiled
section
/-
  A mesh of the program's, and the document's, in memory: how many vertices, and the table, in one block.
-/
namespace Go.Proofs.YtkcfepppnclniaaGreatDoor
open Go.RowKit

/-- The mesh of N vertices and steps D lies in block p. -/
structure XMem (w : World) (p N : Nat) (D : Nat → Nat → Int) : Prop where
  c0 : w.cell? ⟨p, 0, none⟩ = some (.int .i64 (N : Nat))
  c : ∀ s t, s < 24 → t < 24 → w.cell? ⟨p, 1 + s * 24 + t, none⟩ = some (.int .i64 (D s t))
  fz : ∀ j, w.frozen? ⟨p, j, none⟩ = false
def xCells (N : Nat) (D : Nat → Nat → Int) : List Value := .int .i64 (N : Nat) :: tabCells D
theorem xCells_len (N : Nat) (D : Nat → Nat → Int) : (xCells N D).length = 577 := by simp [xCells, tabCells_len]
theorem xCells_one (N : Nat) (D : Nat → Nat → Int) : ∀ v ∈ xCells N D, v.oneCell' = true := by
  intro v hv
  rcases List.mem_cons.1 hv with rfl | hv
  · rfl
  · exact tabCells_one D v hv
section
variable {w w' : World} {p N : Nat} {D D' : Nat → Nat → Int}
theorem XMem.lt (h : XMem w p N D) : p < w.heap.size := cell_lt h.c0
theorem XMem.of_block (h : XMem w p N D) (hb : w'.heap[p]? = w.heap[p]?) : XMem w' p N D :=
  ⟨(World.cell?_of_block (a := ⟨p, 0, none⟩) hb).trans h.c0, fun s t hs ht => (World.cell?_of_block (a := ⟨p, 1 + s * 24 + t, none⟩) hb).trans (h.c s t hs ht), fun j => (World.frozen?_of_block (a := ⟨p, j, none⟩) hb).trans (h.fz j)⟩
theorem XMem.on (h : XMem w p N D) (hb : Below w.heap.size w w') : XMem w' p N D := h.of_block (hb.block p h.lt)
theorem XMem.kept {F : Nat → Prop} (h : XMem w p N D) (hk : Keeps F w w') (hF : ¬ F p) : XMem w' p N D := h.of_block (hk.block p h.lt hF)
theorem XMem.below (h : XMem w p N D) {B : Nat} (hp : p < B) (hb : Below B w w') : XMem w' p N D := h.of_block (hb.block p hp)
theorem XMem.drew (h : XMem w p N D) : XMem w.drew p N D := ⟨h.c0, h.c, h.fz⟩
theorem XMem.congr (h : XMem w p N D) (e : ∀ s t, s < 24 → t < 24 → D s t = D' s t) : XMem w p N D' := ⟨h.c0, fun s t hs ht => by rw [← e s t hs ht]; exact h.c s t hs ht, h.fz⟩
theorem XMem.set (h : XMem w p N D) {s t : Nat} (hs : s < 24) (ht : t < 24) (x : Int) : XMem (w.setCell ⟨p, 1 + s * 24 + t, none⟩ (.int .i64 x)) p N (NM.set2 D s t x) where
  c0 := (cell_other _ (by omega)).trans h.c0
  c s' t' hs' ht' := by
    unfold NM.set2
    by_cases e : s' = s ∧ t' = t
    · obtain ⟨rfl, rfl⟩ := e
      rw [if_pos ⟨rfl, rfl⟩]
      exact World.cell?_setCell_same _ _ _ (h.c s' t' hs' ht')
    · rw [if_neg e, cell_other _ (by omega)]
      exact h.c s' t' hs' ht'
  fz j := by simpa using h.fz j
theorem XMem.cells (h : XMem w p N D) : ∀ j v, (xCells N D)[j]? = some v → w.cell? ((⟨p, 0, none⟩ : Addr).add j) = some v := by
  intro j v hv
  have ea : (⟨p, 0, none⟩ : Addr).add j = ⟨p, j, none⟩ := by rw [Addr.add_lit]; simp
  rw [ea]
  have e0 : (xCells N D)[0]? = some (.int .i64 (N : Nat)) := rfl
  have e1 : ∀ i, (xCells N D)[i + 1]? = (tabCells D)[i]? := fun i => List.getElem?_cons_succ
  cases j with
  | zero =>
    rw [e0] at hv
    rw [← Option.some.inj hv]
    exact h.c0
  | succ j =>
    have hv' : (tabCells D)[j]? = some v := (e1 j).symm.trans hv
    clear hv e0 e1
    have hj : j < 576 := by have := (List.getElem?_eq_some_iff.1 hv').1; rwa [tabCells_len] at this
    have h1 := h.c (j / 24) (j % 24) (by omega) (by omega)
    have h2 := tabCells_get D (s := j / 24) (t := j % 24) (by omega) (by omega)
    rw [show 1 + j / 24 * 24 + j % 24 = j + 1 by omega] at h1
    rw [show j / 24 * 24 + j % 24 = j by omega] at h2
    rw [h1, ← h2, hv']
/-- The table alone. -/
theorem XMem.tab (h : XMem w p N D) : ∀ j v, (tabCells D)[j]? = some v → w.cell? ((⟨p, 1, none⟩ : Addr).add j) = some v := by
  intro j v hv
  have h1 := h.cells (j + 1) v ((show (xCells N D)[j + 1]? = (tabCells D)[j]? from List.getElem?_cons_succ).trans hv)
  rw [Addr.add_lit] at h1 ⊢
  rw [show 1 + j = 0 + (j + 1) by omega]
  exact h1
end
theorem frozen_new (w : World) (cs : Array Value) (t : TypeId) (j : Nat) : (w.alloc (.cells cs t)).frozen? ⟨w.heap.size, j, none⟩ = false := by simp
theorem xmem_new (w : World) (N : Nat) (D : Nat → Nat → Int) (t : TypeId) : XMem (w.alloc (.cells (xCells N D).toArray t)) w.heap.size N D where
  c0 := by
    rw [World.cell?_alloc_new, List.getElem?_toArray]
    unfold xCells
    exact List.getElem?_cons_zero
  c s t' hs ht := by
    rw [World.cell?_alloc_new, List.getElem?_toArray, show 1 + s * 24 + t' = (s * 24 + t') + 1 by omega]
    unfold xCells
    rw [List.getElem?_cons_succ]
    exact tabCells_get D hs ht
  fz j := frozen_new w _ t j
def zX : Array Value := (xCells 0 (fun _ _ => 0)).toArray
theorem zeroXP (w : World) : (zeroValue 86).run Tryz.prog w = .ok (.agg zX) w := by kernel_rfl
theorem zeroXR (w : World) : (zeroValue 108).run Tryz.prog w = .ok (.agg zX) w := by kernel_rfl
theorem zX_size : zX.size = 577 := by simp [zX, xCells_len]
theorem zX_ne : (zX = #[]) = False := eq_false (fun h => by have := congrArg Array.size h; rw [zX_size] at this; cases this)
theorem set_head (a b : Value) (T : List Value) : (a :: T).toArray.setIfInBounds 0 b = (b :: T).toArray := by simp
theorem zX_set (N : Nat) : zX.setIfInBounds 0 (.int .i64 (N : Nat)) = (xCells N (fun _ _ => 0)).toArray := set_head _ _ _
theorem infoXP : (Tryz.prog.info? 86).map (·.size) = some 577 := by kernel_rfl
theorem infoXR : (Tryz.prog.info? 108).map (·.size) = some 577 := by kernel_rfl
end Go.Proofs.YtkcfepppnclniaaGreatDoor
end

section
/-
  The walks of mesh's smaller functions, and the document's: New, Put, At, Vertices, Copy, leave.
-/
namespace Go.Proofs.YtkcfepppnclniaaGreatDoor
open Go.RowKit

set_option maxHeartbeats 400000 in
theorem xhasVertex_any {w : World} {p N : Nat} {D : Nat → Nat → Int} (hg : XMem w p N D) (v : Int) :
    Calls Tryz.prog 44 #[.pointer (some ⟨p, 0, none⟩), .int .i64 v] w fun e w' => e = .returned (.bool (GM.vert N v)) ∧ w' = w := by
  have c0 := hg.c0
  clear hg
  by_cases h : 0 ≤ v
  all_goals
    go_enter Tryz.func44, Tryz.ntmps44
    go_wp2
    all_goals go_ret
    all_goals refine ⟨ret_bool ?_, rfl⟩
    all_goals unfold GM.vert
    all_goals simp
    all_goals omega
set_option maxHeartbeats 400000 in
theorem xvertex_any {w : World} {p N : Nat} {D : Nat → Nat → Int} (hg : XMem w p N D) (v : Int) :
    Calls Tryz.prog 92 #[.pointer (some ⟨p, 0, none⟩), .int .i64 v] w fun e w' => e = .returned (.bool (GM.vert N v)) ∧ w' = w := by
  have c0 := hg.c0
  clear hg
  by_cases h : 0 ≤ v
  all_goals
    go_enter Tryz.func92, Tryz.ntmps92
    go_wp2
    all_goals go_ret
    all_goals refine ⟨ret_bool ?_, rfl⟩
    all_goals unfold GM.vert
    all_goals simp
    all_goals omega
set_option maxHeartbeats 400000 in
theorem xvertices_any {w : World} {p N : Nat} {D : Nat → Nat → Int} (hg : XMem w p N D) :
    Calls Tryz.prog 22 #[.pointer (some ⟨p, 0, none⟩)] w fun e w' => e = .returned (.int .i64 (N : Nat)) ∧ w' = w := by
  have c0 := hg.c0
  clear hg
  go_enter Tryz.func22, Tryz.ntmps22
  go_wp2
  go_ret
  exact ⟨rfl, rfl⟩
set_option maxHeartbeats 1000000 in
/-- The program's At. -/
theorem xat_any {w : World} {p N : Nat} {D : Nat → Nat → Int} (hg : XMem w p N D) (hN : N ≤ 24) (u v : Int) :
    Calls Tryz.prog 64 #[.pointer (some ⟨p, 0, none⟩), .int .i64 u, .int .i64 v] w fun e w' => e = .returned (.int .i64 (XM.atE N D u v)) ∧ w' = w := by
  have hu := xhasVertex_any hg u
  have hv := xhasVertex_any hg v
  have HE : Hid (XM.atE N D u v = if GM.vert N u = true ∧ GM.vert N v = true then D u.toNat v.toNat else 4611686018427387906) := rfl
  cases e1 : GM.vert N u with
  | false =>
    rw [e1] at hu HE
    clear hg hv
    go_enter Tryz.func64, Tryz.ntmps64
    go_wp2_with fail
    refine hu.mono ?_
    rintro e w' ⟨rfl, rfl⟩
    clear hu
    go_wp2_with fail
    go_ret
    exact ⟨ret_int (by rw [HE.out]; simp), rfl⟩
  | true =>
    rw [e1] at hu HE
    obtain ⟨i, rfl, hi⟩ := XM.vert_nat e1
    cases e2 : GM.vert N v with
    | false =>
      rw [e2] at hv HE
      clear hg e1
      go_enter Tryz.func64, Tryz.ntmps64
      go_wp2_with fail
      refine hu.mono ?_
      rintro e w' ⟨rfl, rfl⟩
      clear hu
      go_wp2_with fail
      refine hv.mono ?_
      rintro e w' ⟨rfl, rfl⟩
      clear hv
      go_wp2_with fail
      go_ret
      exact ⟨ret_int (by rw [HE.out]; simp), rfl⟩
    | true =>
      rw [e2] at hv HE
      obtain ⟨j, rfl, hj⟩ := XM.vert_nat e2
      have c := hg.c i j (by omega) (by omega)
      have i24 : (i : Int) < 24 := by omega
      have j24 : (j : Int) < 24 := by omega
      clear hg e1 e2
      go_enter Tryz.func64, Tryz.ntmps64
      go_wp2_with fail
      refine hu.mono ?_
      rintro e w' ⟨rfl, rfl⟩
      clear hu
      go_wp2_with fail
      refine hv.mono ?_
      rintro e w' ⟨rfl, rfl⟩
      clear hv
      go_wp2_with fail
      go_ret
      exact ⟨ret_int (by rw [HE.out]; simp), rfl⟩
set_option maxHeartbeats 1000000 in
/-- The document's At. -/
theorem rat_any {w : World} {p N : Nat} {D : Nat → Nat → Int} (hg : XMem w p N D) (hm : XM.Mesh N D) (hN : N ≤ 24) (u v : Int) :
    Calls Tryz.prog 71 #[.pointer (some ⟨p, 0, none⟩), .int .i64 u, .int .i64 v] w fun e w' => e = .returned (.int .i64 (XM.atE N D u v)) ∧ w' = w := by
  have hu := xvertex_any hg u
  have hv := xvertex_any hg v
  have HE : Hid (XM.atE N D u v = if GM.vert N u = true ∧ GM.vert N v = true then D u.toNat v.toNat else 4611686018427387906) := rfl
  have HS : Hid (u = v → XM.atE N D u v = 4611686018427387906) := fun e => by rw [e]; exact XM.atE_self hm v
  clear hm
  cases e1 : GM.vert N u with
  | false =>
    rw [e1] at hu HE
    clear hg hv
    go_enter Tryz.func71, Tryz.ntmps71
    go_wp2_with fail
    refine hu.mono ?_
    rintro e w' ⟨rfl, rfl⟩
    clear hu
    go_wp2_with fail
    go_ret
    exact ⟨ret_int (by rw [HE.out]; simp), rfl⟩
  | true =>
    rw [e1] at hu HE
    obtain ⟨i, rfl, hi⟩ := XM.vert_nat e1
    cases e2 : GM.vert N v with
    | false =>
      rw [e2] at hv HE
      clear hg e1
      go_enter Tryz.func71, Tryz.ntmps71
      go_wp2_with fail
      refine hu.mono ?_
      rintro e w' ⟨rfl, rfl⟩
      clear hu
      go_wp2_with fail
      refine hv.mono ?_
      rintro e w' ⟨rfl, rfl⟩
      clear hv
      go_wp2_with fail
      go_ret
      exact ⟨ret_int (by rw [HE.out]; simp), rfl⟩
    | true =>
      rw [e2] at hv HE
      obtain ⟨j, rfl, hj⟩ := XM.vert_nat e2
      by_cases hij : i = j
      · subst hij
        have HS2 : Hid (XM.atE N D i i = 4611686018427387906) := HS.out rfl
        clear hg e1 e2 HS
        go_enter Tryz.func71, Tryz.ntmps71
        go_wp2_with fail
        refine hu.mono ?_
        rintro e w' ⟨rfl, rfl⟩
        clear hu
        go_wp2_with fail
        refine hv.mono ?_
        rintro e w' ⟨rfl, rfl⟩
        clear hv
        go_wp2_with fail
        go_ret
        exact ⟨ret_int HS2.out.symm, rfl⟩
      · have c := hg.c i j (by omega) (by omega)
        have i24 : (i : Int) < 24 := by omega
        have j24 : (j : Int) < 24 := by omega
        have hne : ((i : Int) == (j : Int)) = false := beq_eq_false_iff_ne.2 (by omega)
        clear hg e1 e2 hij
        go_enter Tryz.func71, Tryz.ntmps71
        go_wp2_with fail
        refine hu.mono ?_
        rintro e w' ⟨rfl, rfl⟩
        clear hu
        go_wp2_with fail
        refine hv.mono ?_
        rintro e w' ⟨rfl, rfl⟩
        clear hv
        go_wp2_with fail
        go_ret
        exact ⟨ret_int (by rw [HE.out]; simp), rfl⟩
end Go.Proofs.YtkcfepppnclniaaGreatDoor
end

section
/-
  Out and In, gone through: each step at a vertex, by rising vertices.
-/
namespace Go.Proofs.YtkcfepppnclniaaGreatDoor
open Go.RowKit Go.Shelf
attribute [local go_sem] Oper.semAt_some

/-- A vertex and how long the step is, as the loop's variables. -/
def stepV (x : Nat × Int) : Array Value := #[.int .i64 (x.1 : Nat), .int .i64 x.2]
/-- What the iterator reads: its mesh, its function, what that has. -/
structure Reads (F p N : Nat) (D : Nat → Nat → Int) (v : Int) (B : Nat) (A : World) : Prop where
  m : Boxed A B 45 (.pointer (some ⟨p, 0, none⟩))
  v : Boxed A (B + 1) 3 (.int .i64 v)
  mm : Boxed A (B + 1 + 1) 45 (.pointer (some ⟨p, 0, none⟩))
  f : Boxed A (B + 1 + 1 + 1) 60 (.func (.func F) #[] #[.pointer (some ⟨B, 0, none⟩), .pointer (some ⟨B + 1, 0, none⟩)])
  x : XMem A p N D
theorem Reads.same {F p N : Nat} {D : Nat → Nat → Int} {v : Int} {B : Nat} {A A' : World} (h : Reads F p N D v B A) (hp : A'.heap[p]? = A.heap[p]?) (hb : ∀ b, B ≤ b → b < B + 4 → A'.heap[b]? = A.heap[b]?) : Reads F p N D v B A' :=
  ⟨(hb B (by omega) (by omega)).trans h.m, (hb (B + 1) (by omega) (by omega)).trans h.v, (hb (B + 1 + 1) (by omega) (by omega)).trans h.mm, (hb (B + 1 + 1 + 1) (by omega) (by omega)).trans h.f, h.x.of_block hp⟩
theorem Reads.lt {F p N : Nat} {D : Nat → Nat → Int} {v : Int} {B : Nat} {A : World} (h : Reads F p N D v B A) : p < A.heap.size ∧ B + 4 ≤ A.heap.size := by
  have h1 := h.x.lt
  have h2 := h.f.lt
  exact ⟨h1, by omega⟩
theorem Reads.below {F p N : Nat} {D : Nat → Nat → Int} {v : Int} {B : Nat} {A A' : World} (h : Reads F p N D v B A) (hb : Below A.heap.size A A') : Reads F p N D v B A' := h.same (hb.block _ h.lt.1) (fun b _ h2 => hb.block b (by have := h.lt.2; omega))
theorem Reads.kept {F p N : Nat} {D : Nat → Nat → Int} {v : Int} {B : Nat} {A A' : World} {K : Nat → Prop} (h : Reads F p N D v B A) (hb : Keeps K A A') (hp : ¬ K p) (hn : ∀ b, B ≤ b → b < B + 4 → ¬ K b) : Reads F p N D v B A' := h.same (hb.block _ h.lt.1 hp) (fun b h1 h2 => hb.block b (by have := h.lt.2; omega) (hn b h1 h2))

set_option maxHeartbeats 400000 in
theorem outOne_any {w : World} {p N B : Nat} {D : Nat → Nat → Int} {v : Int} (hN : N ≤ 24) (h : Reads 63 p N D v B w) (k : Int) :
    Calls Tryz.prog 63 #[.int .i64 k, .pointer (some ⟨B, 0, none⟩), .pointer (some ⟨B + 1, 0, none⟩)] w fun e w' => e = .returned (.int .i64 (XM.dirE N D v false k)) ∧ w' = w := by
  have hc := xat_any h.x hN v k
  have h1 := h.m.cell
  have h2 := h.v.cell
  clear h
  go_enter Tryz.func63, Tryz.ntmps63
  go_wp2_with fail
  refine hc.mono ?_
  rintro e w' ⟨rfl, rfl⟩
  clear hc
  go_wp2_with fail
  go_ret
  exact ⟨rfl, rfl⟩
set_option maxHeartbeats 400000 in
theorem inOne_any {w : World} {p N B : Nat} {D : Nat → Nat → Int} {v : Int} (hN : N ≤ 24) (h : Reads 65 p N D v B w) (k : Int) :
    Calls Tryz.prog 65 #[.int .i64 k, .pointer (some ⟨B, 0, none⟩), .pointer (some ⟨B + 1, 0, none⟩)] w fun e w' => e = .returned (.int .i64 (XM.dirE N D v true k)) ∧ w' = w := by
  have hc := xat_any h.x hN k v
  have h1 := h.m.cell
  have h2 := h.v.cell
  clear h
  go_enter Tryz.func65, Tryz.ntmps65
  go_wp2_with fail
  refine hc.mono ?_
  rintro e w' ⟨rfl, rfl⟩
  clear hc
  go_wp2_with fail
  go_ret
  exact ⟨rfl, rfl⟩
/-- What Out (In) lays. -/
def iterW (F p : Nat) (v : Int) (W : World) : World := (((W.alloc (.cells #[.pointer (some ⟨p, 0, none⟩)] 45)).alloc (.cells #[.int .i64 v] 3)).alloc (.cells #[.pointer (some ⟨p, 0, none⟩)] 45)).alloc (.cells #[.func (.func F) #[] #[.pointer (some ⟨W.heap.size, 0, none⟩), .pointer (some ⟨W.heap.size + 1, 0, none⟩)]] 60)
def iterV (B : Nat) : Value := .func (.func 88) #[] #[.pointer (some ⟨B + 1 + 1, 0, none⟩), .pointer (some ⟨B + 1 + 1 + 1, 0, none⟩)]
theorem iterW_reads {w : World} {p N : Nat} {D : Nat → Nat → Int} (h : XMem w p N D) (F : Nat) (v : Int) : Reads F p N D v w.heap.size (iterW F p v w) ∧ Below w.heap.size w (iterW F p v w) ∧ (iterW F p v w).heap.size = w.heap.size + 4 := by
  have s1 : (w.alloc (.cells #[.pointer (some ⟨p, 0, none⟩)] 45)).heap.size = w.heap.size + 1 := by simp
  have b1 := Boxed.new w 45 (.pointer (some ⟨p, 0, none⟩))
  have l1 : Below w.heap.size w (w.alloc (.cells #[.pointer (some ⟨p, 0, none⟩)] 45)) := (Below.refl _ _).alloc (Nat.le_refl _) _
  unfold iterW
  generalize w.alloc (.cells #[.pointer (some ⟨p, 0, none⟩)] 45) = w1 at *
  have s2 : (w1.alloc (.cells #[.int .i64 v] 3)).heap.size = w.heap.size + 1 + 1 := by simp [s1]
  have b2 := Boxed.new w1 3 (.int .i64 v)
  have b1 := b1.alloc (.cells #[.int .i64 v] 3)
  have l2 : Below w.heap.size w (w1.alloc (.cells #[.int .i64 v] 3)) := l1.alloc (by omega) _
  rw [s1] at b2
  generalize w1.alloc (.cells #[.int .i64 v] 3) = w2 at *
  have s3 : (w2.alloc (.cells #[.pointer (some ⟨p, 0, none⟩)] 45)).heap.size = w.heap.size + 1 + 1 + 1 := by simp [s2]
  have b3 := Boxed.new w2 45 (.pointer (some ⟨p, 0, none⟩))
  have b1 := b1.alloc (.cells #[.pointer (some ⟨p, 0, none⟩)] 45)
  have b2 := b2.alloc (.cells #[.pointer (some ⟨p, 0, none⟩)] 45)
  have l3 : Below w.heap.size w (w2.alloc (.cells #[.pointer (some ⟨p, 0, none⟩)] 45)) := l2.alloc (by omega) _
  rw [s2] at b3
  generalize w2.alloc (.cells #[.pointer (some ⟨p, 0, none⟩)] 45) = w3 at *
  have b4 := Boxed.new w3 60 (.func (.func F) #[] #[.pointer (some ⟨w.heap.size, 0, none⟩), .pointer (some ⟨w.heap.size + 1, 0, none⟩)])
  rw [s3] at b4
  have l4 : Below w.heap.size w (w3.alloc (.cells #[.func (.func F) #[] #[.pointer (some ⟨w.heap.size, 0, none⟩), .pointer (some ⟨w.heap.size + 1, 0, none⟩)]] 60)) := l3.alloc (by omega) _
  exact ⟨⟨b1.alloc _, b2.alloc _, b3.alloc _, b4, h.on l4⟩, l4, by simp [s3]⟩
set_option maxHeartbeats 400000 in
theorem thoseX_any (p F : Nat) (caps : Array Value) (w : World) :
    Calls Tryz.prog 62 #[.pointer (some ⟨p, 0, none⟩), .func (.func F) #[] caps] w fun e w' => e = .returned (.func (.func 88) #[] #[.pointer (some ⟨w.heap.size, 0, none⟩), .pointer (some ⟨w.heap.size + 1, 0, none⟩)]) ∧
      w' = (w.alloc (.cells #[.pointer (some ⟨p, 0, none⟩)] 45)).alloc (.cells #[.func (.func F) #[] caps] 60) := by
  go_enter Tryz.func62, Tryz.ntmps62
  go_wp2_with fail
  go_ret
  exact ⟨rfl, rfl⟩
set_option maxHeartbeats 400000 in
theorem outX_any (p : Nat) (v : Int) (w : World) :
    Calls Tryz.prog 28 #[.pointer (some ⟨p, 0, none⟩), .int .i64 v] w fun e w' => e = .returned (iterV w.heap.size) ∧ w' = iterW 63 p v w := by
  have hc := thoseX_any p 63 #[.pointer (some ⟨w.heap.size, 0, none⟩), .pointer (some ⟨w.heap.size + 1, 0, none⟩)] ((w.alloc (.cells #[.pointer (some ⟨p, 0, none⟩)] 45)).alloc (.cells #[.int .i64 v] 3))
  go_enter Tryz.func28, Tryz.ntmps28
  go_wp2_with fail
  refine hc.mono ?_
  rintro e w' ⟨rfl, rfl⟩
  clear hc
  go_wp2_with fail
  go_ret
  exact ⟨by simp [iterV], rfl⟩
set_option maxHeartbeats 400000 in
theorem inX_any (p : Nat) (v : Int) (w : World) :
    Calls Tryz.prog 29 #[.pointer (some ⟨p, 0, none⟩), .int .i64 v] w fun e w' => e = .returned (iterV w.heap.size) ∧ w' = iterW 65 p v w := by
  have hc := thoseX_any p 65 #[.pointer (some ⟨w.heap.size, 0, none⟩), .pointer (some ⟨w.heap.size + 1, 0, none⟩)] ((w.alloc (.cells #[.pointer (some ⟨p, 0, none⟩)] 45)).alloc (.cells #[.int .i64 v] 3))
  go_enter Tryz.func29, Tryz.ntmps29
  go_wp2_with fail
  refine hc.mono ?_
  rintro e w' ⟨rfl, rfl⟩
  clear hc
  go_wp2_with fail
  go_ret
  exact ⟨by simp [iterV], rfl⟩
set_option maxRecDepth 100000 in
set_option maxHeartbeats 2000000 in
theorem those_goes (n : Nat) (_hn : 1 ≤ n) (F B p N : Nat) (hN : N ≤ 24) (D : Nat → Nat → Int) (v : Int) (back : Bool) (hef : ∀ args w, (callFunc F args).run Tryz.prog w = .ok (.enter F args) w)
    (hcl : ∀ (W : World) (k : Nat), Reads F p N D v B W → Calls Tryz.prog F #[.int .i64 k, .pointer (some ⟨B, 0, none⟩), .pointer (some ⟨B + 1, 0, none⟩)] W fun e w' => e = .returned (.int .i64 (XM.dirE N D v back k)) ∧ w' = W) :
    GoesQ n Tryz.prog 88 #[.pointer (some ⟨B + 1 + 1, 0, none⟩), .pointer (some ⟨B + 1 + 1 + 1, 0, none⟩)] stepV (XM.steps N D v back N) (Reads F p N D v B) := by
  intro l J Jx W hR hY h0
  have HR : Hid (∀ s A, J s A → Reads F p N D v B A) := hR
  have HY : Hid (∀ pre x W1, J pre W1 → pre ++ [x] <+: XM.steps N D v back N → YieldAt Fence.wide (n - 1) Tryz.prog l (stepV x) W1 fun e W' => (e = .returned (.bool true) ∧ J (pre ++ [x]) W') ∨ (e = .returned (.bool false) ∧ Jx (pre ++ [x]) W')) := hY
  have H0 : Hid (J [] W) := h0
  have HCL : Hid (∀ (W : World) (k : Nat), Reads F p N D v B W → Calls Tryz.prog F #[.int .i64 k, .pointer (some ⟨B, 0, none⟩), .pointer (some ⟨B + 1, 0, none⟩)] W fun e w' => e = .returned (.int .i64 (XM.dirE N D v back k)) ∧ w' = W) := hcl
  have r0 := hR _ _ h0
  have c1 := r0.mm.cell
  have c0 := r0.x.c0
  clear hR hY h0 hcl r0
  refine callsIn_of_wp Tryz.func88 rfl trivial ?_ rfl
  simp only [Tryz.ntmps88, List.size_toArray, List.length_cons, List.length_nil, Nat.reduceAdd, Nat.reduceSub, Array.replicate_succ, Array.replicate_zero, List.push_toArray, List.append_toArray, List.nil_append, List.cons_append]
  gi_wp2_with fail
  clear c1 c0
  gi_loopw [10] (fun iv wr => ∃ k : Nat, k ≤ N ∧ iv = .int .i64 k ∧ J (XM.steps N D v back k) wr) (fun iv _ => N - (intOf iv).toNat)
  case atStart => exact ⟨0, Nat.zero_le _, rfl, H0.out⟩
  case round =>
    obtain ⟨k, hk, rfl, hJs⟩ := hrel
    by_cases hlt : k < N
    · have r1 := HR.out _ _ hJs
      have c2 := r1.f.cell
      have hcl := HCL.out wr k r1
      have HJS : Hid (J (XM.steps N D v back k) wr) := hJs
      have HSK : Hid (XM.dirE N D v back (k : Nat) = 4611686018427387906 → XM.steps N D v back (k + 1) = XM.steps N D v back k) := XM.steps_skip
      have HTK : Hid (XM.dirE N D v back (k : Nat) ≠ 4611686018427387906 → XM.steps N D v back (k + 1) = XM.steps N D v back k ++ [(k, XM.dirE N D v back (k : Nat))]) := XM.steps_take
      have HP : Hid (XM.steps N D v back (k + 1) <+: XM.steps N D v back N) := XM.steps_pre (by omega)
      have kN : (k : Int) < (N : Int) := by omega
      clear hJs r1
      generalize XM.dirE N D v back (k : Nat) = d at *
      gi_wp2_with fail
      refine ⟨trivial, (callsIn_wide.2 hcl).mono ?_⟩
      rintro e w2 ⟨rfl, rfl⟩
      clear hcl
      by_cases hd : d = 4611686018427387906
      · have HA : Hid (XM.steps N D v back (k + 1) = XM.steps N D v back k) := HSK.out hd
        clear HSK HTK
        subst hd
        gi_wp2_with fail
        refine ⟨(fun _ h => by cases h), ?_⟩
        gi_wp2_with fail
        go_roundw
        case rel => exact ⟨k + 1, by omega, by go_num, by rw [HA.out]; exact HJS.out⟩
        case measure => simp [intOf]; omega
      · have HA : Hid (XM.steps N D v back (k + 1) = XM.steps N D v back k ++ [(k, d)]) := HTK.out hd
        have HYX : Hid (YieldAt Fence.wide (n - 1) Tryz.prog l #[.int .i64 (k : Nat), .int .i64 d] w2 fun e W' => (e = .returned (.bool true) ∧ J (XM.steps N D v back (k + 1)) W') ∨ (e = .returned (.bool false) ∧ Jx (XM.steps N D v back (k + 1)) W')) := by
          have := HY.out _ (k, d) w2 HJS.out (by rw [← HA.out]; exact HP.out)
          show YieldAt _ _ _ _ _ _ _
          rw [HA.out]
          exact this
        have hd' : (d != 4611686018427387906) = true := by simp [hd]
        obtain ⟨fn, tmps, assign, body, hy, hRd⟩ := HYX.out
        clear HSK HTK HYX HA hd
        gi_wp2_with fail
        refine hRd.mono ?_
        rintro e W4 (⟨rfl, hJ4⟩ | ⟨rfl, hJx4⟩)
        · have HJ4 : Hid (J (XM.steps N D v back (k + 1)) W4) := hJ4
          clear hJ4 hy hRd
          gi_wp2_with fail
          go_roundw
          case rel => exact ⟨k + 1, by omega, by go_num, HJ4.out⟩
          case measure => simp [intOf]; omega
        · have HJ4 : Hid (Jx (XM.steps N D v back (k + 1)) W4) := hJx4
          clear hJx4 hy hRd
          gi_wp2_with fail
          (try simp only [Exit.inBlock, Exit.then]); refine bodyPost_ret (results_none rfl _ _ _) rfl ?_
          exact ⟨⟨_, rfl⟩, .inr ⟨_, HP.out, HJ4.out⟩⟩
    · obtain rfl : k = N := by omega
      clear hN
      have HJS : Hid (J (XM.steps k D v back k) wr) := hJs
      clear hJs hlt hk
      gi_wp2_with fail
      go_end0
      exact ⟨⟨_, rfl⟩, .inl HJS.out⟩
theorem out_goes (n : Nat) (hn : 1 ≤ n) (B p N : Nat) (hN : N ≤ 24) (D : Nat → Nat → Int) (v : Int) : GoesQ n Tryz.prog 88 #[.pointer (some ⟨B + 1 + 1, 0, none⟩), .pointer (some ⟨B + 1 + 1 + 1, 0, none⟩)] stepV (XM.steps N D v false N) (Reads 63 p N D v B) :=
  those_goes n hn _ B p N hN D v false (enters_of Tryz.func63 (by kernel_rfl) rfl) fun _ k h => outOne_any hN h k
theorem in_goes (n : Nat) (hn : 1 ≤ n) (B p N : Nat) (hN : N ≤ 24) (D : Nat → Nat → Int) (v : Int) : GoesQ n Tryz.prog 88 #[.pointer (some ⟨B + 1 + 1, 0, none⟩), .pointer (some ⟨B + 1 + 1 + 1, 0, none⟩)] stepV (XM.steps N D v true N) (Reads 65 p N D v B) :=
  those_goes n hn _ B p N hN D v true (enters_of Tryz.func65 (by kernel_rfl) rfl) fun _ k h => inOne_any hN h k
end Go.Proofs.YtkcfepppnclniaaGreatDoor
end
