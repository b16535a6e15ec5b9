/-
  No cell of these rows narrows 'for every input' (looked for: loops, veiled, ifaces, maps, wideKeys, modest, calm, conditions, laid).
  DERIVED. THE GIVEN ROWS OF THIS SEAT. 3 by the template 'for every input the law returns true; each argument reads behind the call as it read before'; 0 by the template 'total and deterministic' (their statements: YtfkfbpkhdneeeaaTotals.lean).
  GIVEN WITH THE SEED: the statements are not yours to turn. If you find one false, say at which input.
  Laid BY PROGRAM, IN A SANDBOX (cutbox-rows.mjs): the forced cells as the released guide's own fill.sh prints them over the translation bd10d808796c91af… (all of the seat's roots in one cut). By AI agents, Wed Nov 11 2026. No macro, syntax, notation, axiom, sorry.
-/
import Derived.Test.YtfkfbpkhdneeeaaChecked
import GoSem.Claim
import GoSem.ClaimJoined
import GoSem.ClaimMapViews
import Derived.JoinedTies
import Derived.KernelRfl
namespace Go.Proofs.Ytfkfbpkhdneeeaa
/- THE CELL 'sum', in the pinned program and in every row, IS THE sha256 OF THE DUMP (.gsa) THAT YtfkfbpkhdneeeaaProg.lean LOADS. Nothing in Lean hashes anything: it is a label: what it is worth is what the hold of that sum in a sandbox is worth. -/
noncomputable def Try.pinned : Pinned := { name := "ytfkfbpkhdneeeaa", sum := "bd10d808796c91af35614ff980f558937d0dae0d2c0a0e348eeab35451e1c550", checked := Try.checked }
namespace Rows
def none {H : Type} : Left H := { results := [], args := [] }

/-- 'ringroadlaw05.StampPlays': WHATEVER THE INPUT: true; the input reads as it did. -/
def stampPlaysSpec : ChangeSpec := { name := "stampPlays", fn := fun _ => fun
  | [d1, d2] => { results := [.lit (.bool true)], args := [d1, d2] }
  | _ => none }
def stampPlaysRow : OpenClaim := { program := "ytfkfbpkhdneeeaa", sum := "bd10d808796c91af35614ff980f558937d0dae0d2c0a0e348eeab35451e1c550", func := "ringroad/ringroadlaw05.StampPlays", spec := "stampPlays", apart := false }
def StampPlaysSaid : Prop := stampPlaysRow.holds Try.pinned (OpenSpec.ofChange stampPlaysSpec)

/-- ITS FALSE NEIGHBOUR: 'it returns false'. Refute it at one input. -/
def stampPlaysWrong : ChangeSpec := { name := "stampPlays", fn := fun _ => fun
  | [d1, d2] => { results := [.lit (.bool false)], args := [d1, d2] }
  | _ => none }
def StampPlaysWrongFalsely : Prop := stampPlaysRow.holds Try.pinned (OpenSpec.ofChange stampPlaysWrong)

/-- 'ringroadlaw05.StampGoes': WHATEVER THE INPUT: true; the input reads as it did. -/
def stampGoesSpec : ChangeSpec := { name := "stampGoes", fn := fun _ => fun
  | [d1, d2, d3] => { results := [.lit (.bool true)], args := [d1, d2, d3] }
  | _ => none }
def stampGoesRow : OpenClaim := { program := "ytfkfbpkhdneeeaa", sum := "bd10d808796c91af35614ff980f558937d0dae0d2c0a0e348eeab35451e1c550", func := "ringroad/ringroadlaw05.StampGoes", spec := "stampGoes", unfollowed := true, recurses := true, apart := false }
def StampGoesSaid : Prop := stampGoesRow.holds Try.pinned (OpenSpec.ofChange stampGoesSpec)

/-- ITS FALSE NEIGHBOUR: 'it returns false'. Refute it at one input. -/
def stampGoesWrong : ChangeSpec := { name := "stampGoes", fn := fun _ => fun
  | [d1, d2, d3] => { results := [.lit (.bool false)], args := [d1, d2, d3] }
  | _ => none }
def StampGoesWrongFalsely : Prop := stampGoesRow.holds Try.pinned (OpenSpec.ofChange stampGoesWrong)

/-- 'ringroadlaw05.StampSets': WHATEVER THE INPUT: true; the input reads as it did. -/
def stampSetsSpec : ChangeSpec := { name := "stampSets", fn := fun _ => fun
  | [d1, d2, d3, d4, d5] => { results := [.lit (.bool true)], args := [d1, d2, d3, d4, d5] }
  | _ => none }
def stampSetsRow : OpenClaim := { program := "ytfkfbpkhdneeeaa", sum := "bd10d808796c91af35614ff980f558937d0dae0d2c0a0e348eeab35451e1c550", func := "ringroad/ringroadlaw05.StampSets", spec := "stampSets", apart := false }
def StampSetsSaid : Prop := stampSetsRow.holds Try.pinned (OpenSpec.ofChange stampSetsSpec)

/-- ITS FALSE NEIGHBOUR: 'it returns false'. Refute it at one input. -/
def stampSetsWrong : ChangeSpec := { name := "stampSets", fn := fun _ => fun
  | [d1, d2, d3, d4, d5] => { results := [.lit (.bool false)], args := [d1, d2, d3, d4, d5] }
  | _ => none }
def StampSetsWrongFalsely : Prop := stampSetsRow.holds Try.pinned (OpenSpec.ofChange stampSetsWrong)

/- THE SECOND FORM. 'bulk': how many values and letters a reading holds, each counted each time it is reached (what is shared counts as often as it is met; a slice's spare places count too). A statement '..UptoSaid' is the law's where the arguments, and the package variables that the reading takes, are together of bulk at most 1048576: NARROWER than '..Said'. Prove '..Said' where nothing that the law and all that it calls make is longer than what came in: it says more and counts as full. Else prove '..UptoSaid'. A law counts once. -/
mutual
def uptoBulk {H : Type} : DataW H → Nat
  | .lit (.string bytes) => bytes.length + 1
  | .lit _ => 1
  | .nil => 1
  | .ptr d => uptoBulk d + 1
  | .slice elems spare => uptoBulkAll elems + uptoBulkAll spare + 1
  | .agg parts => uptoBulkAll parts + 1
  | .iface _ d => uptoBulk d + 1
  | .map entries => uptoBulkEntries entries + 1
  | .held _ => 1
def uptoBulkAll {H : Type} : List (DataW H) → Nat
  | [] => 0
  | d :: r => uptoBulk d + uptoBulkAll r
def uptoBulkEntries {H : Type} : List (Lit × DataW H) → Nat
  | [] => 0
  | x :: r => uptoBulkEntry x + uptoBulkEntries r
def uptoBulkEntry {H : Type} : Lit × DataW H → Nat
  | (.string bytes, d) => bytes.length + uptoBulk d + 1
  | (_, d) => uptoBulk d + 1
 end
def uptoSmall : (H : Type) → List (DataW H) → Bool := fun _ ds => decide (uptoBulkAll ds ≤ 1048576)
def OpenSpec.upto (s : _root_.Go.ChangeSpec) : _root_.Go.OpenSpec := { _root_.Go.OpenSpec.ofChange s with cond := some uptoSmall }

/-- 'ringroadlaw05.StampPlays', WHERE WHAT IT READS IS OF BULK AT MOST 1048576: true; the input reads as it did. -/
def stampPlaysUptoRow : OpenClaim := { program := "ytfkfbpkhdneeeaa", sum := "bd10d808796c91af35614ff980f558937d0dae0d2c0a0e348eeab35451e1c550", func := "ringroad/ringroadlaw05.StampPlays", spec := "stampPlays", apart := false, narrowed := true }
def StampPlaysUptoSaid : Prop := stampPlaysUptoRow.holds Try.pinned (OpenSpec.upto stampPlaysSpec)

/-- 'ringroadlaw05.StampGoes', WHERE WHAT IT READS IS OF BULK AT MOST 1048576: true; the input reads as it did. -/
def stampGoesUptoRow : OpenClaim := { program := "ytfkfbpkhdneeeaa", sum := "bd10d808796c91af35614ff980f558937d0dae0d2c0a0e348eeab35451e1c550", func := "ringroad/ringroadlaw05.StampGoes", spec := "stampGoes", unfollowed := true, recurses := true, apart := false, narrowed := true }
def StampGoesUptoSaid : Prop := stampGoesUptoRow.holds Try.pinned (OpenSpec.upto stampGoesSpec)

/-- 'ringroadlaw05.StampSets', WHERE WHAT IT READS IS OF BULK AT MOST 1048576: true; the input reads as it did. -/
def stampSetsUptoRow : OpenClaim := { program := "ytfkfbpkhdneeeaa", sum := "bd10d808796c91af35614ff980f558937d0dae0d2c0a0e348eeab35451e1c550", func := "ringroad/ringroadlaw05.StampSets", spec := "stampSets", apart := false, narrowed := true }
def StampSetsUptoSaid : Prop := stampSetsUptoRow.holds Try.pinned (OpenSpec.upto stampSetsSpec)

end Rows
end Go.Proofs.Ytfkfbpkhdneeeaa
