/-
  A list of detours in memory: each is a link, of five cells.
-/
import Derived.Test.YtleckkpfnjpbiaaMeshSeq
import Derived.Test.YtleckkpfnjpbiaaGraphIds
namespace Go.Proofs.Ytleckkpfnjpbiaa
open Go.RowKit

def detCells (mid : Int) (d : XM.Det) : List Value := [.int .i64 (d.u : Nat), .int .i64 (d.w : Nat), .int .i64 d.x, .int .i64 (-1), .int .i64 mid]
def linkCells (mid : Int) (ds : List XM.Det) : List Value := ds.flatMap (detCells mid)
/-- A slice of the call's own under which the detours lie. -/
def OwnL (w : World) (B : Nat) (v : Value) (mid : Int) (ds : List XM.Det) : Prop := w.ownsRow B 68 5 v ds.length (linkCells mid ds)
/-- A detour's five cells. -/
def DetIn (w : World) (b o : Nat) (mid : Int) (d : XM.Det) : Prop := w.cell? ⟨b, o, none⟩ = some (.int .i64 (d.u : Nat)) ∧ w.cell? ⟨b, o + 1, none⟩ = some (.int .i64 (d.w : Nat)) ∧ w.cell? ⟨b, o + 2, none⟩ = some (.int .i64 d.x) ∧ w.cell? ⟨b, o + 3, none⟩ = some (.int .i64 (-1)) ∧ w.cell? ⟨b, o + 4, none⟩ = some (.int .i64 mid)
def noDet : XM.Det := ⟨0, 0, 0⟩
theorem linkCells_len (mid : Int) : ∀ ds : List XM.Det, (linkCells mid ds).length = ds.length * 5
  | [] => rfl
  | d :: ds => by
    have := linkCells_len mid ds
    unfold linkCells at *
    rw [List.flatMap_cons, List.length_append, this, List.length_cons]
    simp [detCells]
    omega
theorem linkCells_snoc (mid : Int) (ds : List XM.Det) (d : XM.Det) : linkCells mid (ds ++ [d]) = linkCells mid ds ++ detCells mid d := by
  unfold linkCells
  rw [List.flatMap_append]
  simp
theorem linkCells_get (mid : Int) : ∀ (ds : List XM.Det) (i : Nat), i < ds.length → ∀ r, r < 5 → (linkCells mid ds)[i * 5 + r]? = (detCells mid (ds[i]?.getD noDet))[r]?
  | [], i, h, _, _ => by simp at h
  | d :: ds, i, h, r, hr => by
    have e : linkCells mid (d :: ds) = detCells mid d ++ linkCells mid ds := by simp [linkCells]
    have hl : (detCells mid d).length = 5 := rfl
    rw [e]
    cases i with
    | zero =>
      rw [List.getElem?_append_left (by omega)]
      simp
    | succ i =>
      rw [List.getElem?_append_right (by omega), hl, show (i + 1) * 5 + r - 5 = i * 5 + r by omega]
      rw [linkCells_get mid ds i (by simpa using h) r hr]
      simp
theorem detCells_one (mid : Int) (d : XM.Det) : ∀ v ∈ detCells mid d, v.oneCell' = true := by
  intro v hv
  simp only [detCells, List.mem_cons, List.not_mem_nil, or_false] at hv
  rcases hv with rfl | rfl | rfl | rfl | rfl <;> rfl
section
variable {w w' : World} {B : Nat} {v : Value} {mid : Int} {ds : List XM.Det}
theorem OwnL.nil (w : World) (B : Nat) (mid : Int) : OwnL w B (.slice none 0 0) mid [] := World.ownsRow_nil _ _ _ _
theorem OwnL.block (h : OwnL w B v mid ds) : ∀ g, v.ownBlock = some g → B ≤ g ∧ g < w.heap.size := fun g hg => World.ownsRow.lt h g hg
theorem OwnL.on (h : OwnL w B v mid ds) (hb : Below w.heap.size w w') : OwnL w' B v mid ds := below_row h hb
theorem OwnL.kept {F : Nat → Prop} (h : OwnL w B v mid ds) (hk : Keeps F w w') (hF : ∀ g, v.ownBlock = some g → ¬ F g) : OwnL w' B v mid ds := hk.row h hF
theorem OwnL.alloc (h : OwnL w B v mid ds) (o : Obj) : OwnL (w.alloc o) B v mid ds := World.ownsRow.alloc h o
theorem OwnL.base_le {B' : Nat} (h : OwnL w B v mid ds) (hb : B' ≤ B) : OwnL w B' v mid ds := row_base h hb
/-- What the slice's value is, and its cells. -/
theorem OwnL.at (h : OwnL w B v mid ds) : ∃ ao cap, v = .slice ao ds.length cap ∧ (ds.length ≤ cap ∧ cap ≤ maxLen) ∧ (0 < ds.length → ∃ b, ao = some ⟨b, 0, none⟩ ∧ b < w.heap.size ∧ ∀ i, i < ds.length → DetIn w b (i * 5) mid (ds[i]?.getD noDet)) := by
  have h0 := h
  rcases h.2 with ⟨rfl, hn⟩ | ⟨g, cap, cur, rfl, hb, hg, hc, hm, hcs, ht⟩
  · exact ⟨none, 0, by rw [hn], ⟨by omega, by simp [maxLen]⟩, fun hp => by omega⟩
  · refine ⟨some ⟨g, 0, none⟩, cap, rfl, ⟨hc, hm⟩, fun _ => ⟨g, rfl, (Array.getElem?_eq_some_iff.1 hg).1, fun i hi => ?_⟩⟩
    have hcell : ∀ j u, (linkCells mid ds)[j]? = some u → w.cell? ((⟨g, 0, none⟩ : Addr).add j) = some u := World.ownsRow.cells h0 (g := g) rfl
    have each : ∀ r, r < 5 → ∀ u, (detCells mid (ds[i]?.getD noDet))[r]? = some u → w.cell? ⟨g, i * 5 + r, none⟩ = some u := fun r hr u hu => by
      have := hcell (i * 5 + r) u ((linkCells_get mid ds i hi r hr).trans hu)
      rw [Addr.add_lit, Nat.zero_add] at this
      exact this
    exact ⟨each 0 (by omega) _ rfl, each 1 (by omega) _ rfl, each 2 (by omega) _ rfl, each 3 (by omega) _ rfl, each 4 (by omega) _ rfl⟩
end
theorem DetIn.on {w w' : World} {b o : Nat} {mid : Int} {d : XM.Det} (h : DetIn w b o mid d) (hb : Below w.heap.size w w') : DetIn w' b o mid d :=
  ⟨(hb.cell (p := ⟨b, _, none⟩) (cell_lt h.1)).trans h.1, (hb.cell (p := ⟨b, _, none⟩) (cell_lt h.2.1)).trans h.2.1, (hb.cell (p := ⟨b, _, none⟩) (cell_lt h.2.2.1)).trans h.2.2.1, (hb.cell (p := ⟨b, _, none⟩) (cell_lt h.2.2.2.1)).trans h.2.2.2.1, (hb.cell (p := ⟨b, _, none⟩) (cell_lt h.2.2.2.2)).trans h.2.2.2.2⟩
theorem cell_new5 (w : World) (a b c d e : Value) (t : TypeId) : ∀ j u, [a, b, c, d, e][j]? = some u → (w.alloc (.cells #[a, b, c, d, e] t)).cell? ((⟨w.heap.size, 0, none⟩ : Addr).add j) = some u := by
  intro j u h
  rw [Addr.add_lit, Nat.zero_add, World.cell?_alloc_new, List.getElem?_toArray]
  exact h
def zLink : Value := .agg #[.int .i64 0, .int .i64 0, .int .i64 0, .int .i64 0, .int .i64 0]
theorem infoLink : (Try.prog.info? 68).map (fun i => (i.zero, i.size, i.bytes)) = some (some zLink, 5, 40) := by kernel_rfl
end Go.Proofs.Ytleckkpfnjpbiaa
