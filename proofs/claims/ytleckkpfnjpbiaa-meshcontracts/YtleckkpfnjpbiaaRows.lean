/-
  No cell of these rows narrows 'for every input' (looked for: loops, veiled, ifaces, maps, wideKeys, modest, calm, conditions, laid).
  DERIVED. THE GIVEN ROWS OF THIS SEAT. 4 by the template 'for every input the law returns true; each argument reads behind the call as it read before'; 0 by the template 'total and deterministic' (their statements: YtleckkpfnjpbiaaTotals.lean).
  GIVEN WITH THE SEED: the statements are not yours to turn. If you find one false, say at which input.
  Laid BY PROGRAM, IN A SANDBOX (cutbox-rows.mjs): the forced cells as the released guide's own fill.sh prints them over the translation edd89f941901b6b4… (all of the seat's roots in one cut). By AI agents, Wed Nov 11 2026. No macro, syntax, notation, axiom, sorry.
-/
import Derived.Test.YtleckkpfnjpbiaaChecked
import GoSem.Claim
import GoSem.ClaimJoined
import GoSem.ClaimMapViews
import Derived.JoinedTies
import Derived.KernelRfl
namespace Go.Proofs.Ytleckkpfnjpbiaa
/- THE CELL 'sum', in the pinned program and in every row, IS THE sha256 OF THE DUMP (.gsa) THAT YtleckkpfnjpbiaaProg.lean LOADS. Nothing in Lean hashes anything: it is a label: what it is worth is what the hold of that sum in a sandbox is worth. -/
noncomputable def Try.pinned : Pinned := { name := "ytleckkpfnjpbiaa", sum := "edd89f941901b6b4e72e0c4924a7ff75432c5e8eee5c83862d032bfbd85a4d0d", checked := Try.checked }
namespace Rows
def none {H : Type} : Left H := { results := [], args := [] }

/-- 'ringroadlaw12.MeshPuts': WHATEVER THE INPUT: true; the input reads as it did. -/
def meshPutsSpec : ChangeSpec := { name := "meshPuts", fn := fun _ => fun
  | [d1, d2, d3, d4] => { results := [.lit (.bool true)], args := [d1, d2, d3, d4] }
  | _ => none }
def meshPutsRow : OpenClaim := { program := "ytleckkpfnjpbiaa", sum := "edd89f941901b6b4e72e0c4924a7ff75432c5e8eee5c83862d032bfbd85a4d0d", func := "ringroad/ringroadlaw12.MeshPuts", spec := "meshPuts", unfollowed := true, recurses := true, apart := false }
def MeshPutsSaid : Prop := meshPutsRow.holds Try.pinned (OpenSpec.ofChange meshPutsSpec)

/-- ITS FALSE NEIGHBOUR: 'it returns false'. Refute it at one input. -/
def meshPutsWrong : ChangeSpec := { name := "meshPuts", fn := fun _ => fun
  | [d1, d2, d3, d4] => { results := [.lit (.bool false)], args := [d1, d2, d3, d4] }
  | _ => none }
def MeshPutsWrongFalsely : Prop := meshPutsRow.holds Try.pinned (OpenSpec.ofChange meshPutsWrong)

/-- 'ringroadlaw12.MeshOf': WHATEVER THE INPUT: true; the input reads as it did. -/
def meshOfSpec : ChangeSpec := { name := "meshOf", fn := fun _ => fun
  | [d1, d2] => { results := [.lit (.bool true)], args := [d1, d2] }
  | _ => none }
def meshOfRow : OpenClaim := { program := "ytleckkpfnjpbiaa", sum := "edd89f941901b6b4e72e0c4924a7ff75432c5e8eee5c83862d032bfbd85a4d0d", func := "ringroad/ringroadlaw12.MeshOf", spec := "meshOf", unfollowed := true, recurses := true, apart := false }
def MeshOfSaid : Prop := meshOfRow.holds Try.pinned (OpenSpec.ofChange meshOfSpec)

/-- ITS FALSE NEIGHBOUR: 'it returns false'. Refute it at one input. -/
def meshOfWrong : ChangeSpec := { name := "meshOf", fn := fun _ => fun
  | [d1, d2] => { results := [.lit (.bool false)], args := [d1, d2] }
  | _ => none }
def MeshOfWrongFalsely : Prop := meshOfRow.holds Try.pinned (OpenSpec.ofChange meshOfWrong)

/-- 'ringroadlaw12.MeshContracts': WHATEVER THE INPUT: true; the input reads as it did. -/
def meshContractsSpec : ChangeSpec := { name := "meshContracts", fn := fun _ => fun
  | [d1, d2, d3] => { results := [.lit (.bool true)], args := [d1, d2, d3] }
  | _ => none }
def meshContractsRow : OpenClaim := { program := "ytleckkpfnjpbiaa", sum := "edd89f941901b6b4e72e0c4924a7ff75432c5e8eee5c83862d032bfbd85a4d0d", func := "ringroad/ringroadlaw12.MeshContracts", spec := "meshContracts", unfollowed := true, recurses := true, apart := false }
def MeshContractsSaid : Prop := meshContractsRow.holds Try.pinned (OpenSpec.ofChange meshContractsSpec)

/-- ITS FALSE NEIGHBOUR: 'it returns false'. Refute it at one input. -/
def meshContractsWrong : ChangeSpec := { name := "meshContracts", fn := fun _ => fun
  | [d1, d2, d3] => { results := [.lit (.bool false)], args := [d1, d2, d3] }
  | _ => none }
def MeshContractsWrongFalsely : Prop := meshContractsRow.holds Try.pinned (OpenSpec.ofChange meshContractsWrong)

/-- 'ringroadlaw12.MeshLast': WHATEVER THE INPUT: true; the input reads as it did. -/
def meshLastSpec : ChangeSpec := { name := "meshLast", fn := fun _ => fun
  | [d1, d2, d3, d4, d5] => { results := [.lit (.bool true)], args := [d1, d2, d3, d4, d5] }
  | _ => none }
def meshLastRow : OpenClaim := { program := "ytleckkpfnjpbiaa", sum := "edd89f941901b6b4e72e0c4924a7ff75432c5e8eee5c83862d032bfbd85a4d0d", func := "ringroad/ringroadlaw12.MeshLast", spec := "meshLast", unfollowed := true, recurses := true, apart := false }
def MeshLastSaid : Prop := meshLastRow.holds Try.pinned (OpenSpec.ofChange meshLastSpec)

/-- ITS FALSE NEIGHBOUR: 'it returns false'. Refute it at one input. -/
def meshLastWrong : ChangeSpec := { name := "meshLast", fn := fun _ => fun
  | [d1, d2, d3, d4, d5] => { results := [.lit (.bool false)], args := [d1, d2, d3, d4, d5] }
  | _ => none }
def MeshLastWrongFalsely : Prop := meshLastRow.holds Try.pinned (OpenSpec.ofChange meshLastWrong)

/- THE SECOND FORM. 'bulk': how many values and letters a reading holds, each counted each time it is reached (what is shared counts as often as it is met; a slice's spare places count too). A statement '..UptoSaid' is the law's where the arguments, and the package variables that the reading takes, are together of bulk at most 1048576: NARROWER than '..Said'. Prove '..Said' where nothing that the law and all that it calls make is longer than what came in: it says more and counts as full. Else prove '..UptoSaid'. A law counts once. -/
mutual
def uptoBulk {H : Type} : DataW H → Nat
  | .lit (.string bytes) => bytes.length + 1
  | .lit _ => 1
  | .nil => 1
  | .ptr d => uptoBulk d + 1
  | .slice elems spare => uptoBulkAll elems + uptoBulkAll spare + 1
  | .agg parts => uptoBulkAll parts + 1
  | .iface _ d => uptoBulk d + 1
  | .map entries => uptoBulkEntries entries + 1
  | .held _ => 1
def uptoBulkAll {H : Type} : List (DataW H) → Nat
  | [] => 0
  | d :: r => uptoBulk d + uptoBulkAll r
def uptoBulkEntries {H : Type} : List (Lit × DataW H) → Nat
  | [] => 0
  | x :: r => uptoBulkEntry x + uptoBulkEntries r
def uptoBulkEntry {H : Type} : Lit × DataW H → Nat
  | (.string bytes, d) => bytes.length + uptoBulk d + 1
  | (_, d) => uptoBulk d + 1
 end
def uptoSmall : (H : Type) → List (DataW H) → Bool := fun _ ds => decide (uptoBulkAll ds ≤ 1048576)
def OpenSpec.upto (s : _root_.Go.ChangeSpec) : _root_.Go.OpenSpec := { _root_.Go.OpenSpec.ofChange s with cond := some uptoSmall }

/-- 'ringroadlaw12.MeshPuts', WHERE WHAT IT READS IS OF BULK AT MOST 1048576: true; the input reads as it did. -/
def meshPutsUptoRow : OpenClaim := { program := "ytleckkpfnjpbiaa", sum := "edd89f941901b6b4e72e0c4924a7ff75432c5e8eee5c83862d032bfbd85a4d0d", func := "ringroad/ringroadlaw12.MeshPuts", spec := "meshPuts", unfollowed := true, recurses := true, apart := false, narrowed := true }
def MeshPutsUptoSaid : Prop := meshPutsUptoRow.holds Try.pinned (OpenSpec.upto meshPutsSpec)

/-- 'ringroadlaw12.MeshOf', WHERE WHAT IT READS IS OF BULK AT MOST 1048576: true; the input reads as it did. -/
def meshOfUptoRow : OpenClaim := { program := "ytleckkpfnjpbiaa", sum := "edd89f941901b6b4e72e0c4924a7ff75432c5e8eee5c83862d032bfbd85a4d0d", func := "ringroad/ringroadlaw12.MeshOf", spec := "meshOf", unfollowed := true, recurses := true, apart := false, narrowed := true }
def MeshOfUptoSaid : Prop := meshOfUptoRow.holds Try.pinned (OpenSpec.upto meshOfSpec)

/-- 'ringroadlaw12.MeshContracts', WHERE WHAT IT READS IS OF BULK AT MOST 1048576: true; the input reads as it did. -/
def meshContractsUptoRow : OpenClaim := { program := "ytleckkpfnjpbiaa", sum := "edd89f941901b6b4e72e0c4924a7ff75432c5e8eee5c83862d032bfbd85a4d0d", func := "ringroad/ringroadlaw12.MeshContracts", spec := "meshContracts", unfollowed := true, recurses := true, apart := false, narrowed := true }
def MeshContractsUptoSaid : Prop := meshContractsUptoRow.holds Try.pinned (OpenSpec.upto meshContractsSpec)

/-- 'ringroadlaw12.MeshLast', WHERE WHAT IT READS IS OF BULK AT MOST 1048576: true; the input reads as it did. -/
def meshLastUptoRow : OpenClaim := { program := "ytleckkpfnjpbiaa", sum := "edd89f941901b6b4e72e0c4924a7ff75432c5e8eee5c83862d032bfbd85a4d0d", func := "ringroad/ringroadlaw12.MeshLast", spec := "meshLast", unfollowed := true, recurses := true, apart := false, narrowed := true }
def MeshLastUptoSaid : Prop := meshLastUptoRow.holds Try.pinned (OpenSpec.upto meshLastSpec)

end Rows
end Go.Proofs.Ytleckkpfnjpbiaa
