/-
  A list of changes that came in: its cells; one change by value.
-/
import Derived.Test.YtleckkpfnjpbiaaGraphOps
import Derived.OpenShut
import Derived.WideShapes
namespace Go.Proofs.Ytleckkpfnjpbiaa
set_option maxRecDepth 100000
open Go.RowKit

def chgAt (xs : List Chg) (i : Nat) : Chg := xs[i]?.getD noChg
/-- A change's six cells. -/
def ChgIn (w : World) (b o : Nat) (x : Chg) : Prop := w.cell? ⟨b, o, none⟩ = some (.int .i64 x.kind) ∧ w.cell? ⟨b, o + 1, none⟩ = some (.int .i64 x.id) ∧ w.cell? ⟨b, o + 2, none⟩ = some (.int .i64 x.arc.tail) ∧ w.cell? ⟨b, o + 3, none⟩ = some (.int .i64 x.arc.head) ∧ w.cell? ⟨b, o + 4, none⟩ = some (.int .i64 x.arc.weight) ∧ w.cell? ⟨b, o + 5, none⟩ = some (.bool x.arc.closed)
/-- The value is a slice under which the changes lie, each in six cells. -/
def Chgs (w : World) (v : Value) (xs : List Chg) : Prop := ∃ ao cap, v = .slice ao xs.length cap ∧ xs.length ≤ maxLen ∧
  (0 < xs.length → ∃ b o, ao = some ⟨b, o, none⟩ ∧ b < w.heap.size ∧ ∀ i, i < xs.length → ChgIn w b (o + i * 6) (chgAt xs i))

theorem Chgs.on {w W : World} {v : Value} {xs : List Chg} (h : Chgs w v xs) (hb : Below w.heap.size w W) : Chgs W v xs := by
  obtain ⟨ao, cap, rfl, h1, h2⟩ := h
  refine ⟨ao, cap, rfl, h1, fun hp => ?_⟩
  obtain ⟨b, o, rfl, hl, hc⟩ := h2 hp
  refine ⟨b, o, rfl, Nat.lt_of_lt_of_le hl hb.size, fun i hi => ?_⟩
  obtain ⟨x0, x1, x2, x3, x4, x5⟩ := hc i hi
  exact ⟨(hb.cell (p := ⟨b, _, none⟩) hl).trans x0, (hb.cell (p := ⟨b, _, none⟩) hl).trans x1, (hb.cell (p := ⟨b, _, none⟩) hl).trans x2, (hb.cell (p := ⟨b, _, none⟩) hl).trans x3, (hb.cell (p := ⟨b, _, none⟩) hl).trans x4, (hb.cell (p := ⟨b, _, none⟩) hl).trans x5⟩

section
variable {H : Type} {enc : TypeId × Value → H} {w : World} {base : Nat} {spare : Nat → Bool} {held : Bool}
theorem arc_cells {n : Nat} {cs : List Value} {y : DataW H × List MemPlace} (h : DataW.trod enc Try.prog w base spare held n 83 cs = some y) : ∃ a : Arc, cs = [.int .i64 a.tail, .int .i64 a.head, .int .i64 a.weight, .bool a.closed] := by
  obtain ⟨xs, m, _, _, hl, hxl, hf⟩ := DataW.trod_struct Try.underlying83 h
  have hc : Try.prog.cellsOf 83 = 4 := by kernel_rfl
  have hc3 : Try.prog.cellsOf 3 = 1 := by kernel_rfl
  have hc4 : Try.prog.cellsOf 4 = 1 := by kernel_rfl
  rw [hc] at hl
  have f0 : DataW.trod enc Try.prog w base spare held m 3 ((cs.drop 0).take (Try.prog.cellsOf 3)) = xs[0]? := hf 0 _ rfl
  have f1 : DataW.trod enc Try.prog w base spare held m 3 ((cs.drop 1).take (Try.prog.cellsOf 3)) = xs[1]? := hf 1 _ rfl
  have f2 : DataW.trod enc Try.prog w base spare held m 3 ((cs.drop 2).take (Try.prog.cellsOf 3)) = xs[2]? := hf 2 _ rfl
  have f3 : DataW.trod enc Try.prog w base spare held m 4 ((cs.drop 3).take (Try.prog.cellsOf 4)) = xs[3]? := hf 3 _ rfl
  rw [hc3] at f0 f1 f2
  rw [hc4] at f3
  have hx : xs.length = 4 := hxl
  rw [List.getElem?_eq_getElem (by omega)] at f0 f1 f2 f3
  obtain ⟨a, ha, _⟩ := DataW.trod_int Try.underlying3 f0
  obtain ⟨b, hb, _⟩ := DataW.trod_int Try.underlying3 f1
  obtain ⟨c, hcc, _⟩ := DataW.trod_int Try.underlying3 f2
  obtain ⟨d, hd, _⟩ := DataW.trod_bool Try.underlying4 f3
  match cs, hl with
  | [u, v, x, y], _ =>
    simp at ha hb hcc hd
    exact ⟨⟨a, b, c, d⟩, by rw [ha, hb, hcc, hd]⟩
theorem chg_cells {n : Nat} {cs : List Value} {y : DataW H × List MemPlace} (h : DataW.trod enc Try.prog w base spare held n 85 cs = some y) : ∃ x : Chg, cs = [.int .i64 x.kind, .int .i64 x.id, .int .i64 x.arc.tail, .int .i64 x.arc.head, .int .i64 x.arc.weight, .bool x.arc.closed] := by
  obtain ⟨xs, m, _, _, hl, hxl, hf⟩ := DataW.trod_struct Try.underlying85 h
  have hc : Try.prog.cellsOf 85 = 6 := by kernel_rfl
  have hc3 : Try.prog.cellsOf 3 = 1 := by kernel_rfl
  have hc4 : Try.prog.cellsOf 83 = 4 := by kernel_rfl
  rw [hc] at hl
  have f0 : DataW.trod enc Try.prog w base spare held m 3 ((cs.drop 0).take (Try.prog.cellsOf 3)) = xs[0]? := hf 0 _ rfl
  have f1 : DataW.trod enc Try.prog w base spare held m 3 ((cs.drop 1).take (Try.prog.cellsOf 3)) = xs[1]? := hf 1 _ rfl
  have f2 : DataW.trod enc Try.prog w base spare held m 83 ((cs.drop 2).take (Try.prog.cellsOf 83)) = xs[2]? := hf 2 _ rfl
  rw [hc3] at f0 f1
  rw [hc4] at f2
  have hx : xs.length = 3 := hxl
  rw [List.getElem?_eq_getElem (by omega)] at f0 f1 f2
  obtain ⟨a, ha, _⟩ := DataW.trod_int Try.underlying3 f0
  obtain ⟨b, hb, _⟩ := DataW.trod_int Try.underlying3 f1
  obtain ⟨c, hcc⟩ := arc_cells f2
  match cs, hl with
  | [u, v, x, y, z, t], _ =>
    simp at ha hb hcc
    exact ⟨⟨a, b, c⟩, by rw [ha, hb, hcc.1, hcc.2.1, hcc.2.2.1, hcc.2.2.2]⟩
/-- A change that came in by value. -/
theorem chg_of_open {r : Reach} {b0 : Nat} {v : Value} {d : DataW H} {p : List MemPlace} (hv : Value.okWide Try.prog w r b0 85 v) (h : DataW.Trod enc Try.prog w base spare held 85 v d p) : ∃ x : Chg, v = chgV x := by
  obtain ⟨cs, rfl, -⟩ := Go.WideShapes.okWide_struct Try.underlying85 hv
  obtain ⟨fuel, hf⟩ := h
  obtain ⟨x, hx⟩ := chg_cells hf
  refine ⟨x, ?_⟩
  unfold chgV
  have : cs.toList = [.int .i64 x.kind, .int .i64 x.id, .int .i64 x.arc.tail, .int .i64 x.arc.head, .int .i64 x.arc.weight, .bool x.arc.closed] := hx
  congr 1
  exact Array.toList_inj.1 this
theorem chgs_of_open {fuel len cap : Nat} {bo : Option Addr} {x : DataW H × List MemPlace} (h : DataW.trod enc Try.prog w base spare held fuel 39 [.slice bo len cap] = some x) : ∃ xs, Chgs w (.slice bo len cap) xs := by
  rcases DataW.trod_slice Try.underlying39 h with ⟨h0, _⟩ | ⟨a, len', cap', elems, rest, n, _, hcs, _, _, hl, hm, hlen, hel, _⟩
  · simp at h0
    obtain ⟨rfl, rfl, rfl⟩ := h0
    exact ⟨[], none, 0, rfl, by simp, fun h => by simp at h⟩
  · simp at hcs
    obtain ⟨rfl, rfl, rfl⟩ := hcs
    have hc : Try.prog.cellsOf 85 = 6 := by kernel_rfl
    rw [hc] at hel
    have each : ∀ i, i < len → ∃ x : Chg, w.cell? (a.add (i * 6)) = some (.int .i64 x.kind) ∧ w.cell? ((a.add (i * 6)).add 1) = some (.int .i64 x.id) ∧ w.cell? ((a.add (i * 6)).add 2) = some (.int .i64 x.arc.tail) ∧ w.cell? ((a.add (i * 6)).add 3) = some (.int .i64 x.arc.head) ∧ w.cell? ((a.add (i * 6)).add 4) = some (.int .i64 x.arc.weight) ∧ w.cell? ((a.add (i * 6)).add 5) = some (.bool x.arc.closed) := by
      intro i hi
      have h1 := hel i hi
      rw [List.getElem?_eq_getElem (by omega), Option.bind_eq_some_iff] at h1
      obtain ⟨cs, h2, h3⟩ := h1
      obtain ⟨x, rfl⟩ := chg_cells h3
      obtain ⟨_, _, h4⟩ := World.cells?_some h2
      have g0 := h4 0 (by omega)
      have g1 := h4 1 (by omega)
      have g2 := h4 2 (by omega)
      have g3 := h4 3 (by omega)
      have g4 := h4 4 (by omega)
      have g5 := h4 5 (by omega)
      refine ⟨x, ?_, by simpa using g1, by simpa using g2, by simpa using g3, by simpa using g4, by simpa using g5⟩
      have e : (a.add (i * 6)).add 0 = a.add (i * 6) := by simp [Addr.add]
      rw [e] at g0
      simpa using g0
    let f : Nat → Chg := fun i => if h : i < len then Classical.choose (each i h) else noChg
    have hf : ∀ i, i < len → w.cell? (a.add (i * 6)) = some (.int .i64 (f i).kind) ∧ w.cell? ((a.add (i * 6)).add 1) = some (.int .i64 (f i).id) ∧ w.cell? ((a.add (i * 6)).add 2) = some (.int .i64 (f i).arc.tail) ∧ w.cell? ((a.add (i * 6)).add 3) = some (.int .i64 (f i).arc.head) ∧ w.cell? ((a.add (i * 6)).add 4) = some (.int .i64 (f i).arc.weight) ∧ w.cell? ((a.add (i * 6)).add 5) = some (.bool (f i).arc.closed) := by
      intro i hi
      have e : f i = Classical.choose (each i hi) := by simp only [f, dif_pos hi]
      rw [e]
      exact Classical.choose_spec (each i hi)
    clear_value f
    refine ⟨(List.range len).map f, some a, cap, by simp, by simp; omega, fun hp => ?_⟩
    simp only [List.length_map, List.length_range] at hp ⊢
    obtain ⟨b, o, spot⟩ := a
    have h0 := (hf 0 hp).1
    have hspot : spot = none := by simpa [Addr.add] using World.cell?_spot h0
    subst hspot
    refine ⟨b, o, rfl, by have := cell_lt h0; simpa [Addr.add] using this, fun i hi => ?_⟩
    obtain ⟨g0, g1, g2, g3, g4, g5⟩ := hf i hi
    simp only [Addr.add_lit] at g0 g1 g2 g3 g4 g5
    have e : chgAt ((List.range len).map f) i = f i := by simp [chgAt, hi]
    rw [e]
    exact ⟨g0, g1, g2, g3, g4, g5⟩
end
end Go.Proofs.Ytleckkpfnjpbiaa
