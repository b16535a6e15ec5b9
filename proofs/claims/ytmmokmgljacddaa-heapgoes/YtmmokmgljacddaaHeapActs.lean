/-
  A list of acts that came in: its cells.
-/
import Derived.Test.YtmmokmgljacddaaBase
import Derived.OpenShut
namespace Go.Proofs.Ytmmokmgljacddaa
open Go.RowKit

/-- The value is a slice under which the acts lie, each in three cells. -/
def Acts (w : World) (v : Value) (xs : List (Int × Int × Int)) : Prop := ∃ ao cap, v = .slice ao xs.length cap ∧ xs.length ≤ maxLen ∧
  (0 < xs.length → ∃ b o, ao = some ⟨b, o, none⟩ ∧ b < w.heap.size ∧ ∀ i, i < xs.length → w.cell? ⟨b, o + i * 3, none⟩ = some (.int .i64 (xs[i]?.getD (0, 0, 0)).1) ∧ w.cell? ⟨b, o + i * 3 + 1, none⟩ = some (.int .i64 (xs[i]?.getD (0, 0, 0)).2.1) ∧ w.cell? ⟨b, o + i * 3 + 2, none⟩ = some (.int .i64 (xs[i]?.getD (0, 0, 0)).2.2))

section
variable {H : Type} {enc : TypeId × Value → H} {w : World} {base : Nat} {spare : Nat → Bool} {held : Bool}
theorem act_cells {n : Nat} {cs : List Value} {y : DataW H × List MemPlace} (h : DataW.trod enc Try.prog w base spare held n 31 cs = some y) : ∃ x : Int × Int × Int, cs = [.int .i64 x.1, .int .i64 x.2.1, .int .i64 x.2.2] := by
  obtain ⟨xs, m, _, _, hl, hxl, hf⟩ := DataW.trod_struct Try.underlying31 h
  have hc : Try.prog.cellsOf 31 = 3 := by kernel_rfl
  have hc3 : Try.prog.cellsOf 3 = 1 := by kernel_rfl
  rw [hc] at hl
  have f0 : DataW.trod enc Try.prog w base spare held m 3 ((cs.drop 0).take (Try.prog.cellsOf 3)) = xs[0]? := hf 0 _ rfl
  have f1 : DataW.trod enc Try.prog w base spare held m 3 ((cs.drop 1).take (Try.prog.cellsOf 3)) = xs[1]? := hf 1 _ rfl
  have f2 : DataW.trod enc Try.prog w base spare held m 3 ((cs.drop 2).take (Try.prog.cellsOf 3)) = xs[2]? := hf 2 _ rfl
  rw [hc3] at f0 f1 f2
  have hx : xs.length = 3 := hxl
  rw [List.getElem?_eq_getElem (by omega)] at f0 f1 f2
  obtain ⟨a, ha, _⟩ := DataW.trod_int Try.underlying3 f0
  obtain ⟨b, hb, _⟩ := DataW.trod_int Try.underlying3 f1
  obtain ⟨c, hcc, _⟩ := DataW.trod_int Try.underlying3 f2
  match cs, hl with
  | [u, v, x], _ =>
    simp at ha hb hcc
    exact ⟨(a, b, c), by rw [ha, hb, hcc]⟩
theorem acts_of_open {fuel len cap : Nat} {bo : Option Addr} {x : DataW H × List MemPlace} (h : DataW.trod enc Try.prog w base spare held fuel 22 [.slice bo len cap] = some x) : ∃ xs, Acts w (.slice bo len cap) xs := by
  rcases DataW.trod_slice Try.underlying22 h with ⟨h0, _⟩ | ⟨a, len', cap', elems, rest, n, _, hcs, _, _, hl, hm, hlen, hel, _⟩
  · simp at h0
    obtain ⟨rfl, rfl, rfl⟩ := h0
    exact ⟨[], none, 0, rfl, by simp, fun h => by simp at h⟩
  · simp at hcs
    obtain ⟨rfl, rfl, rfl⟩ := hcs
    have hc : Try.prog.cellsOf 31 = 3 := by kernel_rfl
    rw [hc] at hel
    have each : ∀ i, i < len → ∃ x : Int × Int × Int, w.cell? (a.add (i * 3)) = some (.int .i64 x.1) ∧ w.cell? ((a.add (i * 3)).add 1) = some (.int .i64 x.2.1) ∧ w.cell? ((a.add (i * 3)).add 2) = some (.int .i64 x.2.2) := by
      intro i hi
      have h1 := hel i hi
      rw [List.getElem?_eq_getElem (by omega), Option.bind_eq_some_iff] at h1
      obtain ⟨cs, h2, h3⟩ := h1
      obtain ⟨x, rfl⟩ := act_cells h3
      obtain ⟨_, _, h4⟩ := World.cells?_some h2
      have g0 := h4 0 (by omega)
      have g1 := h4 1 (by omega)
      have g2 := h4 2 (by omega)
      refine ⟨x, ?_, by simpa using g1, by simpa using g2⟩
      have e : (a.add (i * 3)).add 0 = a.add (i * 3) := by simp [Addr.add]
      rw [e] at g0
      simpa using g0
    let f : Nat → Int × Int × Int := fun i => if h : i < len then Classical.choose (each i h) else (0, 0, 0)
    have hf : ∀ i, i < len → w.cell? (a.add (i * 3)) = some (.int .i64 (f i).1) ∧ w.cell? ((a.add (i * 3)).add 1) = some (.int .i64 (f i).2.1) ∧ w.cell? ((a.add (i * 3)).add 2) = some (.int .i64 (f i).2.2) := by
      intro i hi
      have e : f i = Classical.choose (each i hi) := by simp only [f, dif_pos hi]
      rw [e]
      exact Classical.choose_spec (each i hi)
    clear_value f
    refine ⟨(List.range len).map f, some a, cap, by simp, by simp; omega, fun hp => ?_⟩
    simp only [List.length_map, List.length_range] at hp ⊢
    obtain ⟨b, o, spot⟩ := a
    have h0 := (hf 0 hp).1
    have hspot : spot = none := by simpa [Addr.add] using World.cell?_spot h0
    subst hspot
    refine ⟨b, o, rfl, by have := cell_lt h0; simpa [Addr.add] using this, fun i hi => ?_⟩
    obtain ⟨g0, g1, g2⟩ := hf i hi
    simp only [Addr.add_lit] at g0 g1 g2
    have e : ((List.range len).map f)[i]?.getD (0, 0, 0) = f i := by simp [hi]
    rw [e]
    exact ⟨g0, g1, g2⟩
end
end Go.Proofs.Ytmmokmgljacddaa
