/-
  No cell of these rows narrows 'for every input' (looked for: loops, veiled, ifaces, maps, wideKeys, modest, calm, conditions, laid).
  DERIVED. THE GIVEN ROWS OF THIS SEAT. 5 by the template 'for every input the law returns true; each argument reads behind the call as it read before'; 0 by the template 'total and deterministic' (their statements: YtmkpcidgiobpeaaTotals.lean).
  GIVEN WITH THE SEED: the statements are not yours to turn. If you find one false, say at which input.
  Laid BY PROGRAM, IN A SANDBOX (cutbox-rows.mjs): the forced cells as the released guide's own fill.sh prints them over the translation 69706c056c9a56a8… (all of the seat's roots in one cut). By AI agents, Wed Nov 11 2026. No macro, syntax, notation, axiom, sorry.
-/
import Derived.Test.YtmkpcidgiobpeaaChecked
import GoSem.Claim
import GoSem.ClaimJoined
import GoSem.ClaimMapViews
import Derived.JoinedTies
import Derived.KernelRfl
namespace Go.Proofs.Ytmkpcidgiobpeaa
/- THE CELL 'sum', in the pinned program and in every row, IS THE sha256 OF THE DUMP (.gsa) THAT YtmkpcidgiobpeaaProg.lean LOADS. Nothing in Lean hashes anything: it is a label: what it is worth is what the hold of that sum in a sandbox is worth. -/
noncomputable def Try.pinned : Pinned := { name := "ytmkpcidgiobpeaa", sum := "69706c056c9a56a88ea1dcd1d960c9ed440615b4351ff379a81a566d0e19cc07", checked := Try.checked }
namespace Rows
def none {H : Type} : Left H := { results := [], args := [] }

/-- 'ringroadlaw13.WitnessSearches': WHATEVER THE INPUT: true; the input reads as it did. -/
def witnessSearchesSpec : ChangeSpec := { name := "witnessSearches", fn := fun _ => fun
  | [d1, d2, d3, d4, d5, d6] => { results := [.lit (.bool true)], args := [d1, d2, d3, d4, d5, d6] }
  | _ => none }
def witnessSearchesRow : OpenClaim := { program := "ytmkpcidgiobpeaa", sum := "69706c056c9a56a88ea1dcd1d960c9ed440615b4351ff379a81a566d0e19cc07", func := "ringroad/ringroadlaw13.WitnessSearches", spec := "witnessSearches", unfollowed := true, recurses := true, apart := false }
def WitnessSearchesSaid : Prop := witnessSearchesRow.holds Try.pinned (OpenSpec.ofChange witnessSearchesSpec)

/-- ITS FALSE NEIGHBOUR: 'it returns false'. Refute it at one input. -/
def witnessSearchesWrong : ChangeSpec := { name := "witnessSearches", fn := fun _ => fun
  | [d1, d2, d3, d4, d5, d6] => { results := [.lit (.bool false)], args := [d1, d2, d3, d4, d5, d6] }
  | _ => none }
def WitnessSearchesWrongFalsely : Prop := witnessSearchesRow.holds Try.pinned (OpenSpec.ofChange witnessSearchesWrong)

/-- 'ringroadlaw13.WitnessSpares': WHATEVER THE INPUT: true; the input reads as it did. -/
def witnessSparesSpec : ChangeSpec := { name := "witnessSpares", fn := fun _ => fun
  | [d1, d2, d3, d4, d5, d6] => { results := [.lit (.bool true)], args := [d1, d2, d3, d4, d5, d6] }
  | _ => none }
def witnessSparesRow : OpenClaim := { program := "ytmkpcidgiobpeaa", sum := "69706c056c9a56a88ea1dcd1d960c9ed440615b4351ff379a81a566d0e19cc07", func := "ringroad/ringroadlaw13.WitnessSpares", spec := "witnessSpares", unfollowed := true, recurses := true, apart := false }
def WitnessSparesSaid : Prop := witnessSparesRow.holds Try.pinned (OpenSpec.ofChange witnessSparesSpec)

/-- ITS FALSE NEIGHBOUR: 'it returns false'. Refute it at one input. -/
def witnessSparesWrong : ChangeSpec := { name := "witnessSpares", fn := fun _ => fun
  | [d1, d2, d3, d4, d5, d6] => { results := [.lit (.bool false)], args := [d1, d2, d3, d4, d5, d6] }
  | _ => none }
def WitnessSparesWrongFalsely : Prop := witnessSparesRow.holds Try.pinned (OpenSpec.ofChange witnessSparesWrong)

/-- 'ringroadlaw13.WitnessLess': WHATEVER THE INPUT: true; the input reads as it did. -/
def witnessLessSpec : ChangeSpec := { name := "witnessLess", fn := fun _ => fun
  | [d1, d2, d3, d4, d5] => { results := [.lit (.bool true)], args := [d1, d2, d3, d4, d5] }
  | _ => none }
def witnessLessRow : OpenClaim := { program := "ytmkpcidgiobpeaa", sum := "69706c056c9a56a88ea1dcd1d960c9ed440615b4351ff379a81a566d0e19cc07", func := "ringroad/ringroadlaw13.WitnessLess", spec := "witnessLess", unfollowed := true, recurses := true, apart := false }
def WitnessLessSaid : Prop := witnessLessRow.holds Try.pinned (OpenSpec.ofChange witnessLessSpec)

/-- ITS FALSE NEIGHBOUR: 'it returns false'. Refute it at one input. -/
def witnessLessWrong : ChangeSpec := { name := "witnessLess", fn := fun _ => fun
  | [d1, d2, d3, d4, d5] => { results := [.lit (.bool false)], args := [d1, d2, d3, d4, d5] }
  | _ => none }
def WitnessLessWrongFalsely : Prop := witnessLessRow.holds Try.pinned (OpenSpec.ofChange witnessLessWrong)

/-- 'ringroadlaw13.WitnessFar': WHATEVER THE INPUT: true; the input reads as it did. -/
def witnessFarSpec : ChangeSpec := { name := "witnessFar", fn := fun _ => fun
  | [d1, d2, d3] => { results := [.lit (.bool true)], args := [d1, d2, d3] }
  | _ => none }
def witnessFarRow : OpenClaim := { program := "ytmkpcidgiobpeaa", sum := "69706c056c9a56a88ea1dcd1d960c9ed440615b4351ff379a81a566d0e19cc07", func := "ringroad/ringroadlaw13.WitnessFar", spec := "witnessFar", unfollowed := true, recurses := true, apart := false }
def WitnessFarSaid : Prop := witnessFarRow.holds Try.pinned (OpenSpec.ofChange witnessFarSpec)

/-- ITS FALSE NEIGHBOUR: 'it returns false'. Refute it at one input. -/
def witnessFarWrong : ChangeSpec := { name := "witnessFar", fn := fun _ => fun
  | [d1, d2, d3] => { results := [.lit (.bool false)], args := [d1, d2, d3] }
  | _ => none }
def WitnessFarWrongFalsely : Prop := witnessFarRow.holds Try.pinned (OpenSpec.ofChange witnessFarWrong)

/-- 'ringroadlaw13.WitnessMore': WHATEVER THE INPUT: true; the input reads as it did. -/
def witnessMoreSpec : ChangeSpec := { name := "witnessMore", fn := fun _ => fun
  | [d1, d2, d3, d4, d5, d6, d7] => { results := [.lit (.bool true)], args := [d1, d2, d3, d4, d5, d6, d7] }
  | _ => none }
def witnessMoreRow : OpenClaim := { program := "ytmkpcidgiobpeaa", sum := "69706c056c9a56a88ea1dcd1d960c9ed440615b4351ff379a81a566d0e19cc07", func := "ringroad/ringroadlaw13.WitnessMore", spec := "witnessMore", unfollowed := true, recurses := true, apart := false }
def WitnessMoreSaid : Prop := witnessMoreRow.holds Try.pinned (OpenSpec.ofChange witnessMoreSpec)

/-- ITS FALSE NEIGHBOUR: 'it returns false'. Refute it at one input. -/
def witnessMoreWrong : ChangeSpec := { name := "witnessMore", fn := fun _ => fun
  | [d1, d2, d3, d4, d5, d6, d7] => { results := [.lit (.bool false)], args := [d1, d2, d3, d4, d5, d6, d7] }
  | _ => none }
def WitnessMoreWrongFalsely : Prop := witnessMoreRow.holds Try.pinned (OpenSpec.ofChange witnessMoreWrong)

/- THE SECOND FORM. 'bulk': how many values and letters a reading holds, each counted each time it is reached (what is shared counts as often as it is met; a slice's spare places count too). A statement '..UptoSaid' is the law's where the arguments, and the package variables that the reading takes, are together of bulk at most 1048576: NARROWER than '..Said'. Prove '..Said' where nothing that the law and all that it calls make is longer than what came in: it says more and counts as full. Else prove '..UptoSaid'. A law counts once. -/
mutual
def uptoBulk {H : Type} : DataW H → Nat
  | .lit (.string bytes) => bytes.length + 1
  | .lit _ => 1
  | .nil => 1
  | .ptr d => uptoBulk d + 1
  | .slice elems spare => uptoBulkAll elems + uptoBulkAll spare + 1
  | .agg parts => uptoBulkAll parts + 1
  | .iface _ d => uptoBulk d + 1
  | .map entries => uptoBulkEntries entries + 1
  | .held _ => 1
def uptoBulkAll {H : Type} : List (DataW H) → Nat
  | [] => 0
  | d :: r => uptoBulk d + uptoBulkAll r
def uptoBulkEntries {H : Type} : List (Lit × DataW H) → Nat
  | [] => 0
  | x :: r => uptoBulkEntry x + uptoBulkEntries r
def uptoBulkEntry {H : Type} : Lit × DataW H → Nat
  | (.string bytes, d) => bytes.length + uptoBulk d + 1
  | (_, d) => uptoBulk d + 1
 end
def uptoSmall : (H : Type) → List (DataW H) → Bool := fun _ ds => decide (uptoBulkAll ds ≤ 1048576)
def OpenSpec.upto (s : _root_.Go.ChangeSpec) : _root_.Go.OpenSpec := { _root_.Go.OpenSpec.ofChange s with cond := some uptoSmall }

/-- 'ringroadlaw13.WitnessSearches', WHERE WHAT IT READS IS OF BULK AT MOST 1048576: true; the input reads as it did. -/
def witnessSearchesUptoRow : OpenClaim := { program := "ytmkpcidgiobpeaa", sum := "69706c056c9a56a88ea1dcd1d960c9ed440615b4351ff379a81a566d0e19cc07", func := "ringroad/ringroadlaw13.WitnessSearches", spec := "witnessSearches", unfollowed := true, recurses := true, apart := false, narrowed := true }
def WitnessSearchesUptoSaid : Prop := witnessSearchesUptoRow.holds Try.pinned (OpenSpec.upto witnessSearchesSpec)

/-- 'ringroadlaw13.WitnessSpares', WHERE WHAT IT READS IS OF BULK AT MOST 1048576: true; the input reads as it did. -/
def witnessSparesUptoRow : OpenClaim := { program := "ytmkpcidgiobpeaa", sum := "69706c056c9a56a88ea1dcd1d960c9ed440615b4351ff379a81a566d0e19cc07", func := "ringroad/ringroadlaw13.WitnessSpares", spec := "witnessSpares", unfollowed := true, recurses := true, apart := false, narrowed := true }
def WitnessSparesUptoSaid : Prop := witnessSparesUptoRow.holds Try.pinned (OpenSpec.upto witnessSparesSpec)

/-- 'ringroadlaw13.WitnessLess', WHERE WHAT IT READS IS OF BULK AT MOST 1048576: true; the input reads as it did. -/
def witnessLessUptoRow : OpenClaim := { program := "ytmkpcidgiobpeaa", sum := "69706c056c9a56a88ea1dcd1d960c9ed440615b4351ff379a81a566d0e19cc07", func := "ringroad/ringroadlaw13.WitnessLess", spec := "witnessLess", unfollowed := true, recurses := true, apart := false, narrowed := true }
def WitnessLessUptoSaid : Prop := witnessLessUptoRow.holds Try.pinned (OpenSpec.upto witnessLessSpec)

/-- 'ringroadlaw13.WitnessFar', WHERE WHAT IT READS IS OF BULK AT MOST 1048576: true; the input reads as it did. -/
def witnessFarUptoRow : OpenClaim := { program := "ytmkpcidgiobpeaa", sum := "69706c056c9a56a88ea1dcd1d960c9ed440615b4351ff379a81a566d0e19cc07", func := "ringroad/ringroadlaw13.WitnessFar", spec := "witnessFar", unfollowed := true, recurses := true, apart := false, narrowed := true }
def WitnessFarUptoSaid : Prop := witnessFarUptoRow.holds Try.pinned (OpenSpec.upto witnessFarSpec)

/-- 'ringroadlaw13.WitnessMore', WHERE WHAT IT READS IS OF BULK AT MOST 1048576: true; the input reads as it did. -/
def witnessMoreUptoRow : OpenClaim := { program := "ytmkpcidgiobpeaa", sum := "69706c056c9a56a88ea1dcd1d960c9ed440615b4351ff379a81a566d0e19cc07", func := "ringroad/ringroadlaw13.WitnessMore", spec := "witnessMore", unfollowed := true, recurses := true, apart := false, narrowed := true }
def WitnessMoreUptoSaid : Prop := witnessMoreUptoRow.holds Try.pinned (OpenSpec.upto witnessMoreSpec)

end Rows
end Go.Proofs.Ytmkpcidgiobpeaa
