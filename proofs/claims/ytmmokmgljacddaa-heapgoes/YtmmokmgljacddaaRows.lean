/-
  No cell of these rows narrows 'for every input' (looked for: loops, veiled, ifaces, maps, wideKeys, modest, calm, conditions, laid).
  DERIVED. THE GIVEN ROWS OF THIS SEAT. 5 by the template 'for every input the law returns true; each argument reads behind the call as it read before'; 0 by the template 'total and deterministic' (their statements: YtmmokmgljacddaaTotals.lean).
  GIVEN WITH THE SEED: the statements are not yours to turn. If you find one false, say at which input.
  Laid BY PROGRAM, IN A SANDBOX (cutbox-rows.mjs): the forced cells as the released guide's own fill.sh prints them over the translation 3a0a68a010108b9a… (all of the seat's roots in one cut). By AI agents, Wed Nov 11 2026. No macro, syntax, notation, axiom, sorry.
-/
import Derived.Test.YtmmokmgljacddaaChecked
import GoSem.Claim
import GoSem.ClaimJoined
import GoSem.ClaimMapViews
import Derived.JoinedTies
import Derived.KernelRfl
namespace Go.Proofs.Ytmmokmgljacddaa
/- THE CELL 'sum', in the pinned program and in every row, IS THE sha256 OF THE DUMP (.gsa) THAT YtmmokmgljacddaaProg.lean LOADS. Nothing in Lean hashes anything: it is a label: what it is worth is what the hold of that sum in a sandbox is worth. -/
noncomputable def Try.pinned : Pinned := { name := "ytmmokmgljacddaa", sum := "3a0a68a010108b9a6ec1aeae42ebed58317562e491c4fb24f69f943cc6135c14", checked := Try.checked }
namespace Rows
def none {H : Type} : Left H := { results := [], args := [] }

/-- 'ringroadlaw04.HeapPlays': WHATEVER THE INPUT: true; the input reads as it did. -/
def heapPlaysSpec : ChangeSpec := { name := "heapPlays", fn := fun _ => fun
  | [d1, d2] => { results := [.lit (.bool true)], args := [d1, d2] }
  | _ => none }
def heapPlaysRow : OpenClaim := { program := "ytmmokmgljacddaa", sum := "3a0a68a010108b9a6ec1aeae42ebed58317562e491c4fb24f69f943cc6135c14", func := "ringroad/ringroadlaw04.HeapPlays", spec := "heapPlays", apart := false }
def HeapPlaysSaid : Prop := heapPlaysRow.holds Try.pinned (OpenSpec.ofChange heapPlaysSpec)

/-- ITS FALSE NEIGHBOUR: 'it returns false'. Refute it at one input. -/
def heapPlaysWrong : ChangeSpec := { name := "heapPlays", fn := fun _ => fun
  | [d1, d2] => { results := [.lit (.bool false)], args := [d1, d2] }
  | _ => none }
def HeapPlaysWrongFalsely : Prop := heapPlaysRow.holds Try.pinned (OpenSpec.ofChange heapPlaysWrong)

/-- 'ringroadlaw04.HeapGoes': WHATEVER THE INPUT: true; the input reads as it did. -/
def heapGoesSpec : ChangeSpec := { name := "heapGoes", fn := fun _ => fun
  | [d1, d2, d3] => { results := [.lit (.bool true)], args := [d1, d2, d3] }
  | _ => none }
def heapGoesRow : OpenClaim := { program := "ytmmokmgljacddaa", sum := "3a0a68a010108b9a6ec1aeae42ebed58317562e491c4fb24f69f943cc6135c14", func := "ringroad/ringroadlaw04.HeapGoes", spec := "heapGoes", unfollowed := true, recurses := true, apart := false }
def HeapGoesSaid : Prop := heapGoesRow.holds Try.pinned (OpenSpec.ofChange heapGoesSpec)

/-- ITS FALSE NEIGHBOUR: 'it returns false'. Refute it at one input. -/
def heapGoesWrong : ChangeSpec := { name := "heapGoes", fn := fun _ => fun
  | [d1, d2, d3] => { results := [.lit (.bool false)], args := [d1, d2, d3] }
  | _ => none }
def HeapGoesWrongFalsely : Prop := heapGoesRow.holds Try.pinned (OpenSpec.ofChange heapGoesWrong)

/-- 'ringroadlaw04.HeapSorts': WHATEVER THE INPUT: true; the input reads as it did. -/
def heapSortsSpec : ChangeSpec := { name := "heapSorts", fn := fun _ => fun
  | [d] => { results := [.lit (.bool true)], args := [d] }
  | _ => none }
def heapSortsRow : OpenClaim := { program := "ytmmokmgljacddaa", sum := "3a0a68a010108b9a6ec1aeae42ebed58317562e491c4fb24f69f943cc6135c14", func := "ringroad/ringroadlaw04.HeapSorts", spec := "heapSorts", apart := false }
def HeapSortsSaid : Prop := heapSortsRow.holds Try.pinned (OpenSpec.ofChange heapSortsSpec)

/-- ITS FALSE NEIGHBOUR: 'it returns false'. Refute it at one input. -/
def heapSortsWrong : ChangeSpec := { name := "heapSorts", fn := fun _ => fun
  | [d] => { results := [.lit (.bool false)], args := [d] }
  | _ => none }
def HeapSortsWrongFalsely : Prop := heapSortsRow.holds Try.pinned (OpenSpec.ofChange heapSortsWrong)

/-- 'ringroadlaw04.HeapTexts': WHATEVER THE INPUT: true; the input reads as it did. -/
def heapTextsSpec : ChangeSpec := { name := "heapTexts", fn := fun _ => fun
  | [d] => { results := [.lit (.bool true)], args := [d] }
  | _ => none }
def heapTextsRow : OpenClaim := { program := "ytmmokmgljacddaa", sum := "3a0a68a010108b9a6ec1aeae42ebed58317562e491c4fb24f69f943cc6135c14", func := "ringroad/ringroadlaw04.HeapTexts", spec := "heapTexts", apart := false }
def HeapTextsSaid : Prop := heapTextsRow.holds Try.pinned (OpenSpec.ofChange heapTextsSpec)

/-- ITS FALSE NEIGHBOUR: 'it returns false'. Refute it at one input. -/
def heapTextsWrong : ChangeSpec := { name := "heapTexts", fn := fun _ => fun
  | [d] => { results := [.lit (.bool false)], args := [d] }
  | _ => none }
def HeapTextsWrongFalsely : Prop := heapTextsRow.holds Try.pinned (OpenSpec.ofChange heapTextsWrong)

/-- 'ringroadlaw04.HeapLessens': WHATEVER THE INPUT: true; the input reads as it did. -/
def heapLessensSpec : ChangeSpec := { name := "heapLessens", fn := fun _ => fun
  | [d1, d2] => { results := [.lit (.bool true)], args := [d1, d2] }
  | _ => none }
def heapLessensRow : OpenClaim := { program := "ytmmokmgljacddaa", sum := "3a0a68a010108b9a6ec1aeae42ebed58317562e491c4fb24f69f943cc6135c14", func := "ringroad/ringroadlaw04.HeapLessens", spec := "heapLessens", apart := false }
def HeapLessensSaid : Prop := heapLessensRow.holds Try.pinned (OpenSpec.ofChange heapLessensSpec)

/-- ITS FALSE NEIGHBOUR: 'it returns false'. Refute it at one input. -/
def heapLessensWrong : ChangeSpec := { name := "heapLessens", fn := fun _ => fun
  | [d1, d2] => { results := [.lit (.bool false)], args := [d1, d2] }
  | _ => none }
def HeapLessensWrongFalsely : Prop := heapLessensRow.holds Try.pinned (OpenSpec.ofChange heapLessensWrong)

/- THE SECOND FORM. 'bulk': how many values and letters a reading holds, each counted each time it is reached (what is shared counts as often as it is met; a slice's spare places count too). A statement '..UptoSaid' is the law's where the arguments, and the package variables that the reading takes, are together of bulk at most 1048576: NARROWER than '..Said'. Prove '..Said' where nothing that the law and all that it calls make is longer than what came in: it says more and counts as full. Else prove '..UptoSaid'. A law counts once. -/
mutual
def uptoBulk {H : Type} : DataW H → Nat
  | .lit (.string bytes) => bytes.length + 1
  | .lit _ => 1
  | .nil => 1
  | .ptr d => uptoBulk d + 1
  | .slice elems spare => uptoBulkAll elems + uptoBulkAll spare + 1
  | .agg parts => uptoBulkAll parts + 1
  | .iface _ d => uptoBulk d + 1
  | .map entries => uptoBulkEntries entries + 1
  | .held _ => 1
def uptoBulkAll {H : Type} : List (DataW H) → Nat
  | [] => 0
  | d :: r => uptoBulk d + uptoBulkAll r
def uptoBulkEntries {H : Type} : List (Lit × DataW H) → Nat
  | [] => 0
  | x :: r => uptoBulkEntry x + uptoBulkEntries r
def uptoBulkEntry {H : Type} : Lit × DataW H → Nat
  | (.string bytes, d) => bytes.length + uptoBulk d + 1
  | (_, d) => uptoBulk d + 1
 end
def uptoSmall : (H : Type) → List (DataW H) → Bool := fun _ ds => decide (uptoBulkAll ds ≤ 1048576)
def OpenSpec.upto (s : _root_.Go.ChangeSpec) : _root_.Go.OpenSpec := { _root_.Go.OpenSpec.ofChange s with cond := some uptoSmall }

/-- 'ringroadlaw04.HeapPlays', WHERE WHAT IT READS IS OF BULK AT MOST 1048576: true; the input reads as it did. -/
def heapPlaysUptoRow : OpenClaim := { program := "ytmmokmgljacddaa", sum := "3a0a68a010108b9a6ec1aeae42ebed58317562e491c4fb24f69f943cc6135c14", func := "ringroad/ringroadlaw04.HeapPlays", spec := "heapPlays", apart := false, narrowed := true }
def HeapPlaysUptoSaid : Prop := heapPlaysUptoRow.holds Try.pinned (OpenSpec.upto heapPlaysSpec)

/-- 'ringroadlaw04.HeapGoes', WHERE WHAT IT READS IS OF BULK AT MOST 1048576: true; the input reads as it did. -/
def heapGoesUptoRow : OpenClaim := { program := "ytmmokmgljacddaa", sum := "3a0a68a010108b9a6ec1aeae42ebed58317562e491c4fb24f69f943cc6135c14", func := "ringroad/ringroadlaw04.HeapGoes", spec := "heapGoes", unfollowed := true, recurses := true, apart := false, narrowed := true }
def HeapGoesUptoSaid : Prop := heapGoesUptoRow.holds Try.pinned (OpenSpec.upto heapGoesSpec)

/-- 'ringroadlaw04.HeapSorts', WHERE WHAT IT READS IS OF BULK AT MOST 1048576: true; the input reads as it did. -/
def heapSortsUptoRow : OpenClaim := { program := "ytmmokmgljacddaa", sum := "3a0a68a010108b9a6ec1aeae42ebed58317562e491c4fb24f69f943cc6135c14", func := "ringroad/ringroadlaw04.HeapSorts", spec := "heapSorts", apart := false, narrowed := true }
def HeapSortsUptoSaid : Prop := heapSortsUptoRow.holds Try.pinned (OpenSpec.upto heapSortsSpec)

/-- 'ringroadlaw04.HeapTexts', WHERE WHAT IT READS IS OF BULK AT MOST 1048576: true; the input reads as it did. -/
def heapTextsUptoRow : OpenClaim := { program := "ytmmokmgljacddaa", sum := "3a0a68a010108b9a6ec1aeae42ebed58317562e491c4fb24f69f943cc6135c14", func := "ringroad/ringroadlaw04.HeapTexts", spec := "heapTexts", apart := false, narrowed := true }
def HeapTextsUptoSaid : Prop := heapTextsUptoRow.holds Try.pinned (OpenSpec.upto heapTextsSpec)

/-- 'ringroadlaw04.HeapLessens', WHERE WHAT IT READS IS OF BULK AT MOST 1048576: true; the input reads as it did. -/
def heapLessensUptoRow : OpenClaim := { program := "ytmmokmgljacddaa", sum := "3a0a68a010108b9a6ec1aeae42ebed58317562e491c4fb24f69f943cc6135c14", func := "ringroad/ringroadlaw04.HeapLessens", spec := "heapLessens", apart := false, narrowed := true }
def HeapLessensUptoSaid : Prop := heapLessensUptoRow.holds Try.pinned (OpenSpec.upto heapLessensSpec)

end Rows
end Go.Proofs.Ytmmokmgljacddaa
