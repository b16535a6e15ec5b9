/-
  What the laws on contracted vertices lean on: one vertex behind the other, how far it stays, which are gone.
-/
import Derived.Test.YtleckkpfnjpbiaaMeshCon
import Derived.Test.YtleckkpfnjpbiaaMeshAll
import Derived.Test.YtleckkpfnjpbiaaMeshMade
import Derived.Test.YtleckkpfnjpbiaaMeshLawS
import Derived.Test.YtleckkpfnjpbiaaMeshAwake
import Derived.Deep.MidRow
namespace Go.Proofs.Ytleckkpfnjpbiaa
open Go.RowKit

namespace XM
/-- One number: the vertex is contracted, if it is one. -/
def conOne (N : Nat) (D : Nat → Nat → Int) (z : Int) : Nat → Nat → Int := if GM.vert N z = true then con D z.toNat else D
theorem conOne_yes {N : Nat} (D : Nat → Nat → Int) {v : Nat} (h : v < N) : conOne N D (v : Nat) = con D v := by
  unfold conOne
  rw [if_pos (show GM.vert N (v : Nat) = true from decide_eq_true (by omega)), Int.toNat_natCast]
theorem conOne_no {N : Nat} (D : Nat → Nat → Int) {z : Int} (h : GM.vert N z = false) : conOne N D z = D := by
  unfold conOne
  rw [if_neg (by rw [h]; decide)]
theorem conOne_mesh {N : Nat} {D : Nat → Nat → Int} (h : Mesh N D) (z : Int) : Mesh N (conOne N D z) := by
  unfold conOne
  split
  · exact h.con
  · exact h
/-- The first k of a list, one behind the other. -/
def cons (N : Nat) (D : Nat → Nat → Int) (zs : List Int) : Nat → Nat → Nat → Int
  | 0 => D
  | k + 1 => conOne N (cons N D zs k) (zs[k]?.getD (-1))
theorem cons_mesh {N : Nat} {D : Nat → Nat → Int} (h : Mesh N D) (zs : List Int) : ∀ k, Mesh N (cons N D zs k)
  | 0 => h
  | k + 1 => conOne_mesh (cons_mesh h zs k) _
/-- Which are gone. -/
def goneS (N : Nat) (zs : List Int) : Nat → Nat → Bool
  | 0 => fun _ => false
  | k + 1 => fun i => goneS N zs k i || (GM.vert N (zs[k]?.getD (-1)) && decide ((i : Int) = zs[k]?.getD (-1)))
theorem goneS_yes {N : Nat} {zs : List Int} {k v : Nat} (hv : v < N) (h : zs[k]?.getD (-1) = (v : Int)) (i : Nat) : goneS N zs (k + 1) i = if i = v then true else goneS N zs k i := by
  show (goneS N zs k i || _) = _
  rw [h, show GM.vert N (v : Int) = true from decide_eq_true (by omega), Bool.true_and]
  by_cases e : i = v
  · rw [if_pos e, e]; simp
  · rw [if_neg e, decide_eq_false (by omega), Bool.or_false]
theorem goneS_no {N : Nat} {zs : List Int} {k : Nat} (h : GM.vert N (zs[k]?.getD (-1)) = false) : goneS N zs (k + 1) = goneS N zs k := by
  funext i
  show (goneS N zs k i || _) = _
  rw [h]
  simp
/-- From each that is left to each other one it is as far as the table says. -/
def FarAll (N : Nat) (E : Nat → Nat → Int) (g : Nat → Bool) (T : Nat → Nat → Int) : Prop := ∀ u b : Nat, u < N → b < N → g u = false → g b = false → Far E N u b (T u b)
theorem FarAll.same {N : Nat} {E : Nat → Nat → Int} {g : Nat → Bool} {T T' : Nat → Nat → Int} (h : FarAll N E g T) (h' : ∀ a b : Nat, a < N → b < N → Far E N a b (T' a b)) {u b : Nat} (hu : u < N) (hb : b < N) (gu : g u = false) (gb : g b = false) : T' u b = T u b := (h' u b hu hb).unique (h u b hu hb gu gb)
theorem far_cons {N : Nat} {D : Nat → Nat → Int} (h : Mesh N D) (zs : List Int) {T : Nat → Nat → Int} (hT : ∀ a b : Nat, a < N → b < N → Far D N a b (T a b)) : ∀ k, FarAll N (cons N D zs k) (goneS N zs k) T
  | 0 => fun u b hu hb _ _ => hT u b hu hb
  | k + 1 => fun u b hu hb gu gb => by
    have ih := far_cons h zs hT k
    show Far (conOne N (cons N D zs k) (zs[k]?.getD (-1))) N u b (T u b)
    cases hz : GM.vert N (zs[k]?.getD (-1)) with
    | false =>
      rw [goneS_no hz] at gu gb
      rw [conOne_no _ hz]
      exact ih u b hu hb gu gb
    | true =>
      obtain ⟨v, hv, hvN⟩ := vert_nat hz
      rw [goneS_yes hvN hv] at gu gb
      rw [hv, conOne_yes _ hvN]
      split at gu
      · cases gu
      · split at gb
        · cases gb
        · rename_i h1 h2
          exact (ih u b hu hb gu gb).con (cons_mesh h zs k).ok hvN h1 h2
end XM
theorem frozen_setCells (b : Nat) : ∀ (vs : List Value) (o : Nat) (w : World) (x : Addr), (w.setCells b o vs).frozen? x = w.frozen? x
  | [], _, _, _ => rfl
  | v :: vs, o, w, x => (frozen_setCells b vs (o + 1) (w.setCell ⟨b, o, none⟩ v) x).trans (by simp)
/-- A mesh that is laid over a whole block. -/
theorem xmem_laid {w : World} {b N : Nat} {D : Nat → Nat → Int} (ht : w.there b 0 577) (hf : ∀ j, w.frozen? ⟨b, j, none⟩ = false) : XMem (w.setCells b 0 (xCells N D)) b N D := by
  have hr : (w.setCells b 0 (xCells N D)).rangeAt b 0 (xCells N D) := World.rangeAt_setCells_same w b 0 _ (by rw [xCells_len]; exact ht)
  refine ⟨?_, fun s t hs ht' => ?_, fun j => (frozen_setCells b _ 0 w _).trans (hf j)⟩
  · have := hr 0 (.int .i64 (N : Nat)) List.getElem?_cons_zero
    rwa [Nat.zero_add] at this
  · have := hr (s * 24 + t + 1) (.int .i64 (D s t)) (by unfold xCells; rw [List.getElem?_cons_succ]; exact tabCells_get D hs ht')
    rwa [show 0 + (s * 24 + t + 1) = 1 + s * 24 + t by omega] at this
theorem XMem.range {w : World} {b N : Nat} {D : Nat → Nat → Int} (h : XMem w b N D) : w.rangeAt b 0 (xCells N D) := fun j v hv => by
  have := h.cells j v hv
  rw [Addr.add_lit] at this
  exact this
/-- A block of a mesh just laid, still zero. -/
theorem there_new (w : World) (t : TypeId) : (w.alloc (.cells zX t)).there w.heap.size 0 577 ∧ ∀ j, (w.alloc (.cells zX t)).frozen? ⟨w.heap.size, j, none⟩ = false := by
  have hf : ∀ j, (w.alloc (.cells zX t)).frozen? ⟨w.heap.size, j, none⟩ = false := fun j => frozen_new w _ t j
  refine ⟨fun j hj => ⟨?_, hf _⟩, hf⟩
  rw [World.cell?_alloc_new, Nat.zero_add, Array.getElem?_eq_getElem (by rw [zX_size]; exact hj)]
  rfl
theorem there_on {w w' : World} {b : Nat} (hl : b < w.heap.size) (h : w.there b 0 577 ∧ ∀ j, w.frozen? ⟨b, j, none⟩ = false) (hb : Below w.heap.size w w') : w'.there b 0 577 ∧ ∀ j, w'.frozen? ⟨b, j, none⟩ = false := by
  have e1 : ∀ j, w'.cell? ⟨b, j, none⟩ = w.cell? ⟨b, j, none⟩ := fun j => World.cell?_of_block (a := ⟨b, j, none⟩) (hb.block b hl)
  have e2 : ∀ j, w'.frozen? ⟨b, j, none⟩ = w.frozen? ⟨b, j, none⟩ := fun j => World.frozen?_of_block (a := ⟨b, j, none⟩) (hb.block b hl)
  exact ⟨fun j hj => ⟨by rw [e1]; exact (h.1 j hj).1, by rw [e2]; exact (h.1 j hj).2⟩, fun j => (e2 j).trans (h.2 j)⟩
/-- The copy by an assignment is laid beside the copy by a call. -/
theorem was_laid {w2 wa : World} {c g N : Nat} {D : Nat → Nat → Int} (hb : Below w2.heap.size w2 wa) (hc : XMem wa c N D) (hne : c ≠ g) (hg : w2.heap.size ≤ g) (h : wa.there g 0 577 ∧ ∀ j, wa.frozen? ⟨g, j, none⟩ = false) :
    Below w2.heap.size w2 (wa.setCells g 0 (xCells N D)) ∧ XMem (wa.setCells g 0 (xCells N D)) c N D ∧ XMem (wa.setCells g 0 (xCells N D)) g N D :=
  ⟨hb.trans ((keeps_setCells g _ 0 wa).below (fun b hb => by omega) hb.size), hc.kept (keeps_setCells g _ 0 wa) hne, xmem_laid h.1 h.2⟩
/-- Truth values, one a vertex. -/
structure GoM (w : World) (b : Nat) (g : Nat → Bool) : Prop where
  c : ∀ i, i < 24 → w.cell? ⟨b, i, none⟩ = some (.bool (g i))
  fz : ∀ j, w.frozen? ⟨b, j, none⟩ = false
section
variable {w w' : World} {b : Nat} {g g' : Nat → Bool}
theorem GoM.lt (h : GoM w b g) : b < w.heap.size := cell_lt (h.c 0 (by decide))
theorem GoM.of_block (h : GoM w b g) (hb : w'.heap[b]? = w.heap[b]?) : GoM w' b g := ⟨fun i hi => (World.cell?_of_block (a := ⟨b, i, none⟩) hb).trans (h.c i hi), fun j => (World.frozen?_of_block (a := ⟨b, j, none⟩) hb).trans (h.fz j)⟩
theorem GoM.on (h : GoM w b g) (hb : Below w.heap.size w w') : GoM w' b g := h.of_block (hb.block b h.lt)
theorem GoM.kept {F : Nat → Prop} (h : GoM w b g) (hk : Keeps F w w') (hF : ¬ F b) : GoM w' b g := h.of_block (hk.block b h.lt hF)
theorem GoM.set (h : GoM w b g) {v : Nat} (hv : v < 24) (hg : ∀ i, g' i = if i = v then true else g i) : GoM (w.setCell ⟨b, v, none⟩ (.bool true)) b g' := by
  refine ⟨fun i hi => ?_, fun j => by simpa using h.fz j⟩
  rw [hg i]
  by_cases e : i = v
  · rw [if_pos e, e]
    exact World.cell?_setCell_same _ _ _ (h.c v hv)
  · rw [if_neg e, cell_other _ (by omega)]
    exact h.c i hi
end
theorem goM_new (w : World) (cs : Array Value) (hcs : cs = (List.replicate 24 (Value.bool false)).toArray) (t : TypeId) : GoM (w.alloc (.cells cs t)) w.heap.size (fun _ => false) := by
  subst hcs
  refine ⟨fun i hi => ?_, fun j => frozen_new w _ t j⟩
  rw [World.cell?_alloc_new, List.getElem?_toArray, List.getElem?_replicate, if_pos hi]
/-- All that the law has while vertices are contracted: both meshes, both copies, how far it was, which are gone. -/
structure CI (w1 : World) (p q cb gb fb nb N : Nat) (D : Nat → Nat → Int) (T : Nat → Nat → Int) (E1 E2 : Nat → Nat → Int) (g : Nat → Bool) (W : World) : Prop where
  s : St w1 w1.heap.size p q N E1 E2 W
  xc : XMem W cb N D
  xg : XMem W gb N D
  f : TMem W fb T
  n : GoM W nb g
/-- How the blocks lie. -/
structure CL (w1 : World) (p q cb gb fb nb : Nat) : Prop where
  pc : p < cb
  qc : q < cb
  pg : p < gb
  qg : q < gb
  cf : cb < fb
  gf : gb < fb
  fn : fb < nb
section
variable {w1 : World} {p q cb gb fb nb N : Nat} {D : Nat → Nat → Int} {T : Nat → Nat → Int} {E1 E2 E' : Nat → Nat → Int} {g g' : Nat → Bool} {W W' : World}
theorem CI.on (h : CI w1 p q cb gb fb nb N D T E1 E2 g W) (hb : Below W.heap.size W W') : CI w1 p q cb gb fb nb N D T E1 E2 g W' := ⟨h.s.on hb, h.xc.on hb, h.xg.on hb, h.f.on hb, h.n.on hb⟩
theorem CI.left (h : CI w1 p q cb gb fb nb N D T E1 E2 g W) (hl : CL w1 p q cb gb fb nb) (hk : Keeps (fun b => b = p) W W') (hX : XMem W' p N E') : CI w1 p q cb gb fb nb N D T E' E2 g W' := by
  have := hl.pc
  have := hl.pg
  have := hl.cf
  have := hl.fn
  exact ⟨h.s.left hk hX, h.xc.kept hk (by omega), h.xg.kept hk (by omega), h.f.of_block (hk.block _ h.f.lt (by omega)), h.n.kept hk (by omega)⟩
theorem CI.right (h : CI w1 p q cb gb fb nb N D T E1 E2 g W) (hl : CL w1 p q cb gb fb nb) (hk : Keeps (fun b => b = q) W W') (hX : XMem W' q N E') : CI w1 p q cb gb fb nb N D T E1 E' g W' := by
  have := hl.qc
  have := hl.qg
  have := hl.cf
  have := hl.fn
  exact ⟨h.s.right hk hX, h.xc.kept hk (by omega), h.xg.kept hk (by omega), h.f.of_block (hk.block _ h.f.lt (by omega)), h.n.kept hk (by omega)⟩
theorem CI.go (h : CI w1 p q cb gb fb nb N D T E1 E2 g W) (hl : CL w1 p q cb gb fb nb) {v : Nat} (hv : v < 24) (hg : ∀ i, g' i = if i = v then true else g i) : CI w1 p q cb gb fb nb N D T E1 E2 g' (W.setCell ⟨nb, v, none⟩ (.bool true)) := by
  have l1 := hl.pc
  have l2 := hl.qc
  have l3 := hl.cf
  have l4 := hl.gf
  have l5 := hl.fn
  have hk := keeps_set W nb v (.bool true)
  refine ⟨⟨h.s.xp.kept hk (by omega), h.s.xq.kept hk (by omega), h.s.lp, h.s.lq, h.s.ne, h.s.bel.trans (hk.below (fun b hb => ?_) (Nat.le_trans h.s.sz h.s.bel.size)), h.s.sz⟩, h.xc.kept hk (by omega), h.xg.kept hk (by omega), h.f.of_block (hk.block _ h.f.lt (by omega)), h.n.set hv hg⟩
  have := h.s.lp
  omega
end
end Go.Proofs.Ytleckkpfnjpbiaa
