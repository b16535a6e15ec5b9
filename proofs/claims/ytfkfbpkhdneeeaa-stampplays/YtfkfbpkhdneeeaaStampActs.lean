/-
  A list of acts that came in: its cells.
-/
import Derived.Test.YtfkfbpkhdneeeaaBase
import Derived.OpenShut
namespace Go.Proofs.Ytfkfbpkhdneeeaa
open Go.RowKit

/-- An act: its kind, its place, its thing, how often. -/
structure Deed where
  kind : Int
  place : Int
  thing : Int
  times : Int
def noDeed : Deed := ⟨0, 0, 0, 0⟩
def deedAt (xs : List Deed) (i : Nat) : Deed := xs[i]?.getD noDeed
/-- An act's four cells. -/
def DeedIn (w : World) (b o : Nat) (x : Deed) : Prop := w.cell? ⟨b, o, none⟩ = some (.int .i64 x.kind) ∧ w.cell? ⟨b, o + 1, none⟩ = some (.int .i64 x.place) ∧ w.cell? ⟨b, o + 2, none⟩ = some (.int .i64 x.thing) ∧ w.cell? ⟨b, o + 3, none⟩ = some (.int .u16 x.times) ∧ 0 ≤ x.times ∧ x.times ≤ 65535
/-- The value is a slice under which the acts lie, each in four cells. -/
def Acts (w : World) (v : Value) (xs : List Deed) : Prop := ∃ ao cap, v = .slice ao xs.length cap ∧ xs.length ≤ maxLen ∧
  (0 < xs.length → ∃ b o, ao = some ⟨b, o, none⟩ ∧ b < w.heap.size ∧ ∀ i, i < xs.length → DeedIn w b (o + i * 4) (deedAt xs i))

section
variable {H : Type} {enc : TypeId × Value → H} {w : World} {base : Nat} {spare : Nat → Bool} {held : Bool}
theorem act_cells {n : Nat} {cs : List Value} {y : DataW H × List MemPlace} (h : DataW.trod enc Try.prog w base spare held n 32 cs = some y) : ∃ x : Deed, cs = [.int .i64 x.kind, .int .i64 x.place, .int .i64 x.thing, .int .u16 x.times] ∧ 0 ≤ x.times ∧ x.times ≤ 65535 := by
  obtain ⟨xs, m, _, _, hl, hxl, hf⟩ := DataW.trod_struct Try.underlying32 h
  have hc : Try.prog.cellsOf 32 = 4 := by kernel_rfl
  have hc3 : Try.prog.cellsOf 3 = 1 := by kernel_rfl
  have hc4 : Try.prog.cellsOf 30 = 1 := by kernel_rfl
  rw [hc] at hl
  have f0 : DataW.trod enc Try.prog w base spare held m 3 ((cs.drop 0).take (Try.prog.cellsOf 3)) = xs[0]? := hf 0 _ rfl
  have f1 : DataW.trod enc Try.prog w base spare held m 3 ((cs.drop 1).take (Try.prog.cellsOf 3)) = xs[1]? := hf 1 _ rfl
  have f2 : DataW.trod enc Try.prog w base spare held m 3 ((cs.drop 2).take (Try.prog.cellsOf 3)) = xs[2]? := hf 2 _ rfl
  have f3 : DataW.trod enc Try.prog w base spare held m 30 ((cs.drop 3).take (Try.prog.cellsOf 30)) = xs[3]? := hf 3 _ rfl
  rw [hc3] at f0 f1 f2
  rw [hc4] at f3
  have hx : xs.length = 4 := hxl
  rw [List.getElem?_eq_getElem (by omega)] at f0 f1 f2 f3
  obtain ⟨a, ha, _⟩ := DataW.trod_int Try.underlying3 f0
  obtain ⟨b, hb, _⟩ := DataW.trod_int Try.underlying3 f1
  obtain ⟨c, hcc, _⟩ := DataW.trod_int Try.underlying3 f2
  obtain ⟨d, hd, _, wd⟩ := DataW.trod_int Try.underlying30 f3
  have bd := bounds_u16 wd
  match cs, hl with
  | [u, v, x, y], _ =>
    simp at ha hb hcc hd
    exact ⟨⟨a, b, c, d⟩, by rw [ha, hb, hcc, hd], bd.1, bd.2⟩
theorem acts_of_open {fuel len cap : Nat} {bo : Option Addr} {x : DataW H × List MemPlace} (h : DataW.trod enc Try.prog w base spare held fuel 22 [.slice bo len cap] = some x) : ∃ xs, Acts w (.slice bo len cap) xs := by
  rcases DataW.trod_slice Try.underlying22 h with ⟨h0, _⟩ | ⟨a, len', cap', elems, rest, n, _, hcs, _, _, hl, hm, hlen, hel, _⟩
  · simp at h0
    obtain ⟨rfl, rfl, rfl⟩ := h0
    exact ⟨[], none, 0, rfl, by simp, fun h => by simp at h⟩
  · simp at hcs
    obtain ⟨rfl, rfl, rfl⟩ := hcs
    have hc : Try.prog.cellsOf 32 = 4 := by kernel_rfl
    rw [hc] at hel
    have each : ∀ i, i < len → ∃ x : Deed, w.cell? (a.add (i * 4)) = some (.int .i64 x.kind) ∧ w.cell? ((a.add (i * 4)).add 1) = some (.int .i64 x.place) ∧ w.cell? ((a.add (i * 4)).add 2) = some (.int .i64 x.thing) ∧ w.cell? ((a.add (i * 4)).add 3) = some (.int .u16 x.times) ∧ 0 ≤ x.times ∧ x.times ≤ 65535 := by
      intro i hi
      have h1 := hel i hi
      rw [List.getElem?_eq_getElem (by omega), Option.bind_eq_some_iff] at h1
      obtain ⟨cs, h2, h3⟩ := h1
      obtain ⟨x, rfl, b0, b1⟩ := act_cells h3
      obtain ⟨_, _, h4⟩ := World.cells?_some h2
      have g0 := h4 0 (by omega)
      have g1 := h4 1 (by omega)
      have g2 := h4 2 (by omega)
      have g3 := h4 3 (by omega)
      refine ⟨x, ?_, by simpa using g1, by simpa using g2, by simpa using g3, b0, b1⟩
      have e : (a.add (i * 4)).add 0 = a.add (i * 4) := by simp [Addr.add]
      rw [e] at g0
      simpa using g0
    let f : Nat → Deed := fun i => if h : i < len then Classical.choose (each i h) else noDeed
    have hf : ∀ i, i < len → w.cell? (a.add (i * 4)) = some (.int .i64 (f i).kind) ∧ w.cell? ((a.add (i * 4)).add 1) = some (.int .i64 (f i).place) ∧ w.cell? ((a.add (i * 4)).add 2) = some (.int .i64 (f i).thing) ∧ w.cell? ((a.add (i * 4)).add 3) = some (.int .u16 (f i).times) ∧ 0 ≤ (f i).times ∧ (f i).times ≤ 65535 := by
      intro i hi
      have e : f i = Classical.choose (each i hi) := by simp only [f, dif_pos hi]
      rw [e]
      exact Classical.choose_spec (each i hi)
    clear_value f
    refine ⟨(List.range len).map f, some a, cap, by simp, by simp; omega, fun hp => ?_⟩
    simp only [List.length_map, List.length_range] at hp ⊢
    obtain ⟨b, o, spot⟩ := a
    have h0 := (hf 0 hp).1
    have hspot : spot = none := by simpa [Addr.add] using World.cell?_spot h0
    subst hspot
    refine ⟨b, o, rfl, by have := cell_lt h0; simpa [Addr.add] using this, fun i hi => ?_⟩
    obtain ⟨g0, g1, g2, g3, g4⟩ := hf i hi
    simp only [Addr.add_lit] at g0 g1 g2 g3
    have e : deedAt ((List.range len).map f) i = f i := by simp [deedAt, hi]
    rw [e]
    exact ⟨g0, g1, g2, g3, g4⟩
end
end Go.Proofs.Ytfkfbpkhdneeeaa
