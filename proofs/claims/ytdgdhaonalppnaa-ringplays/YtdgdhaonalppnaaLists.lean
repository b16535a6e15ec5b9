/-
  Lists of texts and of truth values that came in: their cells.
-/
import Derived.Test.YtdgdhaonalppnaaMem
import Derived.SliceStrings
import Derived.Deep.Grids
namespace Go.Proofs.Ytdgdhaonalppnaa
open Go.RowKit

/-- The truth value at a place. -/
def bat (l : List Bool) (i : Nat) : Bool := l[i]?.getD false

/-- The text at a place. -/
def tx (ss : List ByteArray) (i : Nat) : ByteArray := ss[i]?.getD (⟨#[]⟩ : ByteArray)
/-- The value is a slice under which the texts lie. -/
def Texts (w : World) (v : Value) (ss : List ByteArray) : Prop := ∃ ao cap, v = .slice ao ss.length cap ∧ ss.length ≤ maxLen ∧
  (0 < ss.length → ∃ b o, ao = some ⟨b, o, none⟩ ∧ b < w.heap.size ∧ ∀ i, i < ss.length → w.cell? ⟨b, o + i, none⟩ = some (.string (tx ss i)))
theorem texts_of_open {H : Type} {enc : TypeId × Value → H} {w : World} {base : Nat} {spare : Nat → Bool} {held : Bool} {fuel len cap : Nat} {bo : Option Addr} {x : DataW H × List MemPlace}
    (h : DataW.trod enc Try.prog w base spare held fuel 37 [.slice bo len cap] = some x) : ∃ ss, Texts w (.slice bo len cap) ss := by
  rcases Go.ChangeShapes.open_strings Try.underlying37 Try.underlying9 (by kernel_rfl) h with ⟨hcs, _⟩ | ⟨a, len', cap', ss, hcs, _, hl, hm, hz, _, hcell, _⟩
  · simp at hcs
    obtain ⟨rfl, rfl, rfl⟩ := hcs
    exact ⟨[], none, 0, rfl, by simp, fun h => by simp at h⟩
  · simp at hcs
    obtain ⟨rfl, rfl, rfl⟩ := hcs
    have hle : len ≤ ss.length := by
      rw [hz]
      split <;> omega
    have hlt : (ss.take len).length = len := by rw [List.length_take]; omega
    refine ⟨ss.take len, some a, cap, by rw [hlt], by rw [hlt]; omega, fun hp => ?_⟩
    rw [hlt] at hp ⊢
    obtain ⟨b, o, spot⟩ := a
    have h0 := hcell 0 (by omega)
    have hspot : spot = none := by simpa [Addr.add] using World.cell?_spot h0
    subst hspot
    refine ⟨b, o, rfl, by have := cell_lt h0; simpa [Addr.add] using this, fun i hi => ?_⟩
    have := hcell i (by omega)
    rw [Addr.add_lit] at this
    rw [this]
    unfold tx
    rw [List.getElem?_take_of_lt hi, List.getD_eq_getElem?_getD]
    rfl
/-- The value is a slice under which the truth values lie. -/
def Bools (w : World) (v : Value) (bs : List Bool) : Prop := ∃ ao cap, v = .slice ao bs.length cap ∧ bs.length ≤ maxLen ∧
  (0 < bs.length → ∃ b o, ao = some ⟨b, o, none⟩ ∧ b < w.heap.size ∧ ∀ i, i < bs.length → w.cell? ⟨b, o + i, none⟩ = some (.bool (bat bs i)))
theorem bools_of_open {H : Type} {enc : TypeId × Value → H} {w : World} {base : Nat} {held : Bool} {fuel len cap : Nat} {bo : Option Addr} {x : DataW H × List MemPlace}
    (h : DataW.trod enc Try.prog w base (fun _ => true) held fuel 23 [.slice bo len cap] = some x) : ∃ bs, Bools w (.slice bo len cap) bs := by
  rcases Go.Deep.open_bools Try.underlying23 Try.underlying4 (by kernel_rfl) h with ⟨hcs, _⟩ | ⟨a, len', cap', f, hcs, _, hl, hm, _, hcell⟩
  · simp at hcs
    obtain ⟨rfl, rfl, rfl⟩ := hcs
    exact ⟨[], none, 0, rfl, by simp, fun h => by simp at h⟩
  · simp at hcs
    obtain ⟨rfl, rfl, rfl⟩ := hcs
    refine ⟨(List.range len).map f, some a, cap, by simp, by simp; omega, fun hp => ?_⟩
    simp only [List.length_map, List.length_range] at hp ⊢
    obtain ⟨b, o, spot⟩ := a
    have h0 := hcell 0 (by omega)
    have hspot : spot = none := by simpa [Addr.add] using World.cell?_spot h0
    subst hspot
    refine ⟨b, o, rfl, by have := cell_lt h0; simpa [Addr.add] using this, fun i hi => ?_⟩
    have := hcell i (by omega)
    rw [Addr.add_lit] at this
    rw [this]
    simp [bat, hi]
end Go.Proofs.Ytdgdhaonalppnaa
