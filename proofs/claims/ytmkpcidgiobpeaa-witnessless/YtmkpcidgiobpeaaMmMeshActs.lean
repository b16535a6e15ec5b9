/-
  A list of steps that came in: its cells.
-/
import Derived.Test.YtmkpcidgiobpeaaMmMeshPut
import Derived.OpenShut
import Derived.WideShapes
namespace Go.Proofs.Ytmkpcidgiobpeaa
set_option maxRecDepth 100000
open Go.RowKit

/-- A step that is put. -/
structure Stp where
  u : Int
  w : Int
  x : Int
def stpAt (xs : List Stp) (i : Nat) : Stp := xs[i]?.getD ⟨0, 0, 0⟩
/-- A step's three cells. -/
def StpIn (w : World) (b o : Nat) (s : Stp) : Prop := w.cell? ⟨b, o, none⟩ = some (.int .i64 s.u) ∧ w.cell? ⟨b, o + 1, none⟩ = some (.int .i64 s.w) ∧ w.cell? ⟨b, o + 2, none⟩ = some (.int .i64 s.x)
/-- The value is a slice under which the steps lie, each in three cells. -/
def Stps (w : World) (v : Value) (xs : List Stp) : Prop := ∃ ao cap, v = .slice ao xs.length cap ∧ (xs.length ≤ cap ∧ cap ≤ maxLen) ∧
  (0 < xs.length → ∃ b o, ao = some ⟨b, o, none⟩ ∧ b < w.heap.size ∧ ∀ i, i < xs.length → StpIn w b (o + i * 3) (stpAt xs i))
theorem StpIn.on {w W : World} {b o : Nat} {s : Stp} (h : StpIn w b o s) (hb : Below w.heap.size w W) : StpIn W b o s :=
  ⟨(hb.cell (p := ⟨b, _, none⟩) (cell_lt h.1)).trans h.1, (hb.cell (p := ⟨b, _, none⟩) (cell_lt h.2.1)).trans h.2.1, (hb.cell (p := ⟨b, _, none⟩) (cell_lt h.2.2)).trans h.2.2⟩
theorem Stps.on {w W : World} {v : Value} {xs : List Stp} (h : Stps w v xs) (hb : Below w.heap.size w W) : Stps W v xs := by
  obtain ⟨ao, cap, rfl, h1, h2⟩ := h
  refine ⟨ao, cap, rfl, h1, fun hp => ?_⟩
  obtain ⟨b, o, rfl, hl, hc⟩ := h2 hp
  exact ⟨b, o, rfl, Nat.lt_of_lt_of_le hl hb.size, fun i hi => (hc i hi).on hb⟩
section
variable {H : Type} {enc : TypeId × Value → H} {w : World} {base : Nat} {spare : Nat → Bool} {held : Bool}
theorem stp_cells {n : Nat} {cs : List Value} {y : DataW H × List MemPlace} (h : DataW.trod enc Try.prog w base spare held n 66 cs = some y) : ∃ s : Stp, cs = [.int .i64 s.u, .int .i64 s.w, .int .i64 s.x] := by
  obtain ⟨xs, m, _, _, hl, hxl, hf⟩ := DataW.trod_struct Try.underlying66 h
  have hc : Try.prog.cellsOf 66 = 3 := by kernel_rfl
  have hc3 : Try.prog.cellsOf 3 = 1 := by kernel_rfl
  rw [hc] at hl
  have f0 : DataW.trod enc Try.prog w base spare held m 3 ((cs.drop 0).take (Try.prog.cellsOf 3)) = xs[0]? := hf 0 _ rfl
  have f1 : DataW.trod enc Try.prog w base spare held m 3 ((cs.drop 1).take (Try.prog.cellsOf 3)) = xs[1]? := hf 1 _ rfl
  have f2 : DataW.trod enc Try.prog w base spare held m 3 ((cs.drop 2).take (Try.prog.cellsOf 3)) = xs[2]? := hf 2 _ rfl
  rw [hc3] at f0 f1 f2
  have hx : xs.length = 3 := hxl
  rw [List.getElem?_eq_getElem (by omega)] at f0 f1 f2
  obtain ⟨a, ha, _⟩ := DataW.trod_int Try.underlying3 f0
  obtain ⟨b, hb, _⟩ := DataW.trod_int Try.underlying3 f1
  obtain ⟨c, hcc, _⟩ := DataW.trod_int Try.underlying3 f2
  match cs, hl with
  | [u, v, x], _ =>
    simp at ha hb hcc
    exact ⟨⟨a, b, c⟩, by rw [ha, hb, hcc]⟩
theorem stps_of_open {fuel len cap : Nat} {bo : Option Addr} {x : DataW H × List MemPlace} (h : DataW.trod enc Try.prog w base spare held fuel 22 [.slice bo len cap] = some x) : ∃ xs, Stps w (.slice bo len cap) xs := by
  rcases DataW.trod_slice Try.underlying22 h with ⟨h0, _⟩ | ⟨a, len', cap', elems, rest, n, _, hcs, _, _, hl, hm, hlen, hel, _⟩
  · simp at h0
    obtain ⟨rfl, rfl, rfl⟩ := h0
    exact ⟨[], none, 0, rfl, by simp [maxLen], fun h => by simp at h⟩
  · simp at hcs
    obtain ⟨rfl, rfl, rfl⟩ := hcs
    have hc : Try.prog.cellsOf 66 = 3 := by kernel_rfl
    rw [hc] at hel
    have each : ∀ i, i < len → ∃ s : Stp, w.cell? (a.add (i * 3)) = some (.int .i64 s.u) ∧ w.cell? ((a.add (i * 3)).add 1) = some (.int .i64 s.w) ∧ w.cell? ((a.add (i * 3)).add 2) = some (.int .i64 s.x) := by
      intro i hi
      have h1 := hel i hi
      rw [List.getElem?_eq_getElem (by omega), Option.bind_eq_some_iff] at h1
      obtain ⟨cs, h2, h3⟩ := h1
      obtain ⟨s, rfl⟩ := stp_cells h3
      obtain ⟨_, _, h4⟩ := World.cells?_some h2
      have g0 := h4 0 (by omega)
      have g1 := h4 1 (by omega)
      have g2 := h4 2 (by omega)
      refine ⟨s, ?_, by simpa using g1, by simpa using g2⟩
      have e : (a.add (i * 3)).add 0 = a.add (i * 3) := by simp [Addr.add]
      rw [e] at g0
      simpa using g0
    let f : Nat → Stp := fun i => if h : i < len then Classical.choose (each i h) else ⟨0, 0, 0⟩
    have hf : ∀ i, i < len → w.cell? (a.add (i * 3)) = some (.int .i64 (f i).u) ∧ w.cell? ((a.add (i * 3)).add 1) = some (.int .i64 (f i).w) ∧ w.cell? ((a.add (i * 3)).add 2) = some (.int .i64 (f i).x) := by
      intro i hi
      have e : f i = Classical.choose (each i hi) := by simp only [f, dif_pos hi]
      rw [e]
      exact Classical.choose_spec (each i hi)
    clear_value f
    refine ⟨(List.range len).map f, some a, cap, by simp, by simp; omega, fun hp => ?_⟩
    simp only [List.length_map, List.length_range] at hp ⊢
    obtain ⟨b, o, spot⟩ := a
    have h0 := (hf 0 hp).1
    have hspot : spot = none := by simpa [Addr.add] using World.cell?_spot h0
    subst hspot
    refine ⟨b, o, rfl, by have := cell_lt h0; simpa [Addr.add] using this, fun i hi => ?_⟩
    obtain ⟨g0, g1, g2⟩ := hf i hi
    simp only [Addr.add_lit] at g0 g1 g2
    have e : stpAt ((List.range len).map f) i = f i := by simp [stpAt, hi]
    rw [e]
    exact ⟨g0, g1, g2⟩
end
end Go.Proofs.Ytmkpcidgiobpeaa
