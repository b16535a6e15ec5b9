/-
  No cell of these rows narrows 'for every input' (looked for: loops, veiled, ifaces, maps, wideKeys, modest, calm, conditions, laid).
  DERIVED. THE GIVEN ROWS OF THIS SEAT. 3 by the template 'for every input the law returns true; each argument reads behind the call as it read before'; 0 by the template 'total and deterministic' (their statements: YtmamligiopbefaaTotals.lean).
  GIVEN WITH THE SEED: the statements are not yours to turn. If you find one false, say at which input.
  Laid BY PROGRAM, IN A SANDBOX (cutbox-rows.mjs): the forced cells as the released guide's own fill.sh prints them over the translation a567975adac63c77… (all of the seat's roots in one cut). By AI agents, Wed Nov 11 2026. No macro, syntax, notation, axiom, sorry.
-/
import Derived.Test.YtmamligiopbefaaChecked
import GoSem.Claim
import GoSem.ClaimJoined
import GoSem.ClaimMapViews
import Derived.JoinedTies
import Derived.KernelRfl
namespace Go.Proofs.Ytmamligiopbefaa
/- THE CELL 'sum', in the pinned program and in every row, IS THE sha256 OF THE DUMP (.gsa) THAT YtmamligiopbefaaProg.lean LOADS. Nothing in Lean hashes anything: it is a label: what it is worth is what the hold of that sum in a sandbox is worth. -/
noncomputable def Try.pinned : Pinned := { name := "ytmamligiopbefaa", sum := "a567975adac63c778983f526f62b6dc2e3f18ab1ad1d7310e2f4744340d04ded", checked := Try.checked }
namespace Rows
def none {H : Type} : Left H := { results := [], args := [] }

/-- 'ringroadlaw11.BothDists': WHATEVER THE INPUT: true; the input reads as it did. -/
def bothDistsSpec : ChangeSpec := { name := "bothDists", fn := fun _ => fun
  | [d1, d2] => { results := [.lit (.bool true)], args := [d1, d2] }
  | _ => none }
def bothDistsRow : OpenClaim := { program := "ytmamligiopbefaa", sum := "a567975adac63c778983f526f62b6dc2e3f18ab1ad1d7310e2f4744340d04ded", func := "ringroad/ringroadlaw11.BothDists", spec := "bothDists", unfollowed := true, recurses := true, apart := false }
def BothDistsSaid : Prop := bothDistsRow.holds Try.pinned (OpenSpec.ofChange bothDistsSpec)

/-- ITS FALSE NEIGHBOUR: 'it returns false'. Refute it at one input. -/
def bothDistsWrong : ChangeSpec := { name := "bothDists", fn := fun _ => fun
  | [d1, d2] => { results := [.lit (.bool false)], args := [d1, d2] }
  | _ => none }
def BothDistsWrongFalsely : Prop := bothDistsRow.holds Try.pinned (OpenSpec.ofChange bothDistsWrong)

/-- 'ringroadlaw11.BothPaths': WHATEVER THE INPUT: true; the input reads as it did. -/
def bothPathsSpec : ChangeSpec := { name := "bothPaths", fn := fun _ => fun
  | [d1, d2, d3, d4] => { results := [.lit (.bool true)], args := [d1, d2, d3, d4] }
  | _ => none }
def bothPathsRow : OpenClaim := { program := "ytmamligiopbefaa", sum := "a567975adac63c778983f526f62b6dc2e3f18ab1ad1d7310e2f4744340d04ded", func := "ringroad/ringroadlaw11.BothPaths", spec := "bothPaths", unfollowed := true, recurses := true, apart := false }
def BothPathsSaid : Prop := bothPathsRow.holds Try.pinned (OpenSpec.ofChange bothPathsSpec)

/-- ITS FALSE NEIGHBOUR: 'it returns false'. Refute it at one input. -/
def bothPathsWrong : ChangeSpec := { name := "bothPaths", fn := fun _ => fun
  | [d1, d2, d3, d4] => { results := [.lit (.bool false)], args := [d1, d2, d3, d4] }
  | _ => none }
def BothPathsWrongFalsely : Prop := bothPathsRow.holds Try.pinned (OpenSpec.ofChange bothPathsWrong)

/-- 'ringroadlaw11.BothAgree': WHATEVER THE INPUT: true; the input reads as it did. -/
def bothAgreeSpec : ChangeSpec := { name := "bothAgree", fn := fun _ => fun
  | [d1, d2, d3, d4] => { results := [.lit (.bool true)], args := [d1, d2, d3, d4] }
  | _ => none }
def bothAgreeRow : OpenClaim := { program := "ytmamligiopbefaa", sum := "a567975adac63c778983f526f62b6dc2e3f18ab1ad1d7310e2f4744340d04ded", func := "ringroad/ringroadlaw11.BothAgree", spec := "bothAgree", unfollowed := true, recurses := true, apart := false }
def BothAgreeSaid : Prop := bothAgreeRow.holds Try.pinned (OpenSpec.ofChange bothAgreeSpec)

/-- ITS FALSE NEIGHBOUR: 'it returns false'. Refute it at one input. -/
def bothAgreeWrong : ChangeSpec := { name := "bothAgree", fn := fun _ => fun
  | [d1, d2, d3, d4] => { results := [.lit (.bool false)], args := [d1, d2, d3, d4] }
  | _ => none }
def BothAgreeWrongFalsely : Prop := bothAgreeRow.holds Try.pinned (OpenSpec.ofChange bothAgreeWrong)

/- THE SECOND FORM. 'bulk': how many values and letters a reading holds, each counted each time it is reached (what is shared counts as often as it is met; a slice's spare places count too). A statement '..UptoSaid' is the law's where the arguments, and the package variables that the reading takes, are together of bulk at most 1048576: NARROWER than '..Said'. Prove '..Said' where nothing that the law and all that it calls make is longer than what came in: it says more and counts as full. Else prove '..UptoSaid'. A law counts once. -/
mutual
def uptoBulk {H : Type} : DataW H → Nat
  | .lit (.string bytes) => bytes.length + 1
  | .lit _ => 1
  | .nil => 1
  | .ptr d => uptoBulk d + 1
  | .slice elems spare => uptoBulkAll elems + uptoBulkAll spare + 1
  | .agg parts => uptoBulkAll parts + 1
  | .iface _ d => uptoBulk d + 1
  | .map entries => uptoBulkEntries entries + 1
  | .held _ => 1
def uptoBulkAll {H : Type} : List (DataW H) → Nat
  | [] => 0
  | d :: r => uptoBulk d + uptoBulkAll r
def uptoBulkEntries {H : Type} : List (Lit × DataW H) → Nat
  | [] => 0
  | x :: r => uptoBulkEntry x + uptoBulkEntries r
def uptoBulkEntry {H : Type} : Lit × DataW H → Nat
  | (.string bytes, d) => bytes.length + uptoBulk d + 1
  | (_, d) => uptoBulk d + 1
 end
def uptoSmall : (H : Type) → List (DataW H) → Bool := fun _ ds => decide (uptoBulkAll ds ≤ 1048576)
def OpenSpec.upto (s : _root_.Go.ChangeSpec) : _root_.Go.OpenSpec := { _root_.Go.OpenSpec.ofChange s with cond := some uptoSmall }

/-- 'ringroadlaw11.BothDists', WHERE WHAT IT READS IS OF BULK AT MOST 1048576: true; the input reads as it did. -/
def bothDistsUptoRow : OpenClaim := { program := "ytmamligiopbefaa", sum := "a567975adac63c778983f526f62b6dc2e3f18ab1ad1d7310e2f4744340d04ded", func := "ringroad/ringroadlaw11.BothDists", spec := "bothDists", unfollowed := true, recurses := true, apart := false, narrowed := true }
def BothDistsUptoSaid : Prop := bothDistsUptoRow.holds Try.pinned (OpenSpec.upto bothDistsSpec)

/-- 'ringroadlaw11.BothPaths', WHERE WHAT IT READS IS OF BULK AT MOST 1048576: true; the input reads as it did. -/
def bothPathsUptoRow : OpenClaim := { program := "ytmamligiopbefaa", sum := "a567975adac63c778983f526f62b6dc2e3f18ab1ad1d7310e2f4744340d04ded", func := "ringroad/ringroadlaw11.BothPaths", spec := "bothPaths", unfollowed := true, recurses := true, apart := false, narrowed := true }
def BothPathsUptoSaid : Prop := bothPathsUptoRow.holds Try.pinned (OpenSpec.upto bothPathsSpec)

/-- 'ringroadlaw11.BothAgree', WHERE WHAT IT READS IS OF BULK AT MOST 1048576: true; the input reads as it did. -/
def bothAgreeUptoRow : OpenClaim := { program := "ytmamligiopbefaa", sum := "a567975adac63c778983f526f62b6dc2e3f18ab1ad1d7310e2f4744340d04ded", func := "ringroad/ringroadlaw11.BothAgree", spec := "bothAgree", unfollowed := true, recurses := true, apart := false, narrowed := true }
def BothAgreeUptoSaid : Prop := bothAgreeUptoRow.holds Try.pinned (OpenSpec.upto bothAgreeSpec)

end Rows
end Go.Proofs.Ytmamligiopbefaa
