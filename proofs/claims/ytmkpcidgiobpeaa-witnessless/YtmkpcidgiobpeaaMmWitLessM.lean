/-
  What the law WitnessLess leans on (layer 13): of two searches the one is where the other begins, and touches nothing else.
-/
import Derived.Test.YtmkpcidgiobpeaaMmWitAwake
import Derived.Test.YtmkpcidgiobpeaaMmWitBits
import Derived.Test.YtmkpcidgiobpeaaMmMeshMade
namespace Go.Proofs.Ytmkpcidgiobpeaa
open Go.RowKit
namespace WM
section
variable {N : Nat} {D : Nat → Nat → Int} {s : Nat} {W : Nat → Bool} {X : Int} {L M P : List (Nat × Int)} {T T2 : Nat}
theorem rises_at (h : Seq N D s W X L) {i : Nat} (hi : i + 1 < L.length) : (dsL L)[i]?.getD 0 ≤ (dsL L)[i + 1]?.getD 0 := by
  have h1 := List.pairwise_iff_getElem.1 h.rises i (i + 1) (by omega) hi (by omega)
  unfold dsL
  rw [List.getElem?_map, List.getElem?_map, List.getElem?_eq_getElem (by omega), List.getElem?_eq_getElem hi]
  exact h1
theorem touched_less (h2 : TT N D W P T2) (h : TT N D W M T) (hp : P <+: M) : BM.less T2 T = 0 := by
  refine BM.ext (BM.less_lt _ _) (by decide) (fun i hi => ?_)
  rw [BM.less_bit _ _ hi, Nat.zero_testBit]
  cases e : T2.testBit i with
  | false => rfl
  | true =>
    rw [← has_bit hi, h2.2 i] at e
    have e2 := (h.2 i).2 (Tch.pre hp e)
    rw [has_bit hi] at e2
    rw [e2]
    rfl
theorem vs_take (hp : P <+: M) : vsL P = (vsL M).take P.length := by
  unfold vsL
  rw [← List.map_take, ← List.prefix_iff_eq_take.1 hp]
theorem has_without (O s : Nat) (hs : s < 64) : BM.has (BM.less O (BM.only (s : Int))) (s : Int) = false := by
  rw [has_bit hs, BM.without_bit _ _ hs]
  simp
end
end WM
/-- The first so many numbers of a row. -/
theorem rowAt_take {k : IntKind} {w : World} {a : Option Addr} {cap : Nat} {zs : List Int} (h : RowAt k w a cap zs) {n : Nat} (hn : n ≤ zs.length) : Row k w (.slice a n cap) (zs.take n) := by
  obtain ⟨h1, h2, h3, h4⟩ := h
  have hl : (zs.take n).length = n := by rw [List.length_take]; omega
  refine ⟨a, cap, by rw [hl], by rw [hl]; omega, h2, fun e => ?_, fun h0 => ?_⟩
  · have h5 := h3 e
    first
      | exact h5
      | (obtain ⟨h6, h7⟩ := h5
         exact ⟨h6, by rw [h7]; simp⟩)
  · obtain ⟨b, o, e, hc⟩ := h4 (by rw [hl] at h0; omega)
    refine ⟨b, o, e, fun i hi => ?_⟩
    rw [hl] at hi
    rw [hc i (by omega), List.getElem?_take, if_pos hi]
end Go.Proofs.Ytmkpcidgiobpeaa
