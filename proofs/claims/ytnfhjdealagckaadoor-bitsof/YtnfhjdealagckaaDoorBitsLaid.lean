/-
  What the listed package-level variable gives the walks, and a start that fits.
-/
import Derived.Test.YtnfhjdealagckaaDoorBitsWalks
import Derived.Test.YtnfhjdealagckaaDoorRows
import Derived.ProofKit
import Derived.LaidMore
import Derived.Stop.LaidErr
import Derived.Lib.LaidTab
namespace Go.Proofs.YtnfhjdealagckaaDoor
open Go.ChangeShapes Go.WideShapes Go.ChangeAt Go.RowKit

theorem own : ownKnob Tryd.prog.godebug = none := by kernel_rfl
theorem laidOut : laidOutB Tryd.prog = true := by kernel_rfl
theorem gTab : Tryd.prog.globalNamed "math/bits.deBruijn64tab" = some 0 := by kernel_rfl
theorem gTabType : (Tryd.prog.globals[0]?).map (·.type) = some 43 := by kernel_rfl
theorem tabData : (Rows.laid_math_bits_deBruijn64tab : DataW Unit) = Lib.tabData .u8 (Lib.deBruijn64tab.map (fun n : Nat => (n : Int))) := by rfl

theorem size_of_var {W : World} {n : String} {g : Nat} {cs : Array Value} (hg : Tryd.prog.globalNamed n = some g) (hv : W.var? Tryd.prog n = some cs) : g < W.heap.size := by
  unfold World.var? at hv
  simp only [hg, Option.bind_some] at hv
  rcases Nat.lt_or_ge g W.heap.size with h' | h'
  · exact h'
  · simp [Array.getElem?_eq_none h'] at hv

theorem ready_of_laid {W : World} (h : laidMetH Tryd.prog Rows.bitsTellsRow.laid W) : Ready W := by
  rw [MakeChecks.laidMetH_plain _ _ _ (by kernel_rfl)] at h
  have h1 : laidMet Tryd.prog _ W := h
  have hs : 0 < W.heap.size := by
    obtain ⟨ps, ⟨g0, t0, cs0, f0, p0, q0, hg0, ht0, hv0, _⟩, _⟩ := h1
    obtain rfl := Option.some.inj (gTab.symm.trans hg0)
    exact size_of_var hg0 hv0
  have ht := Lib.tabIs_of_head gTab gTabType Tryd.underlying43 Tryd.underlying5 (by kernel_rfl) (by kernel_rfl) (by rw [← tabData]; exact h1)
  refine ⟨hs, fun j hj => ?_⟩
  have hc := World.var?_cell gTab ht j
  rw [hc]
  have hl : (Lib.deBruijn64tab).length = 64 := by decide
  simp [List.getD_eq_getElem?_getD, hl, hj]

theorem door_met (os : Os) (args : Array Value) : laidMetH Tryd.prog Rows.bitsTellsRow.laid ((World.doorLaid Tryd.prog 400 os).forCall (fun _ _ => 0) ⟨#[], args, []⟩).memory :=
  laidMetH_of_parts3 (fuel := 8) (laidMet_of_run' 8 (by kernel_rfl) (by kernel_rfl)) (by kernel_rfl) (by kernel_rfl)
end Go.Proofs.YtnfhjdealagckaaDoor
