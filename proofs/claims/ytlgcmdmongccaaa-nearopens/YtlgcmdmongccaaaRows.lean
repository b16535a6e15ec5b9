/-
  No cell of these rows narrows 'for every input' (looked for: loops, veiled, ifaces, maps, wideKeys, modest, calm, conditions, laid).
  DERIVED. THE GIVEN ROWS OF THIS SEAT. 4 by the template 'for every input the law returns true; each argument reads behind the call as it read before'; 0 by the template 'total and deterministic' (their statements: YtlgcmdmongccaaaTotals.lean).
  GIVEN WITH THE SEED: the statements are not yours to turn. If you find one false, say at which input.
  Laid BY PROGRAM, IN A SANDBOX (cutbox-rows.mjs): the forced cells as the released guide's own fill.sh prints them over the translation d317d9aaeca0bb2f… (all of the seat's roots in one cut). By AI agents, Wed Nov 11 2026. No macro, syntax, notation, axiom, sorry.
-/
import Derived.Test.YtlgcmdmongccaaaChecked
import GoSem.Claim
import GoSem.ClaimJoined
import GoSem.ClaimMapViews
import Derived.JoinedTies
import Derived.KernelRfl
namespace Go.Proofs.Ytlgcmdmongccaaa
/- THE CELL 'sum', in the pinned program and in every row, IS THE sha256 OF THE DUMP (.gsa) THAT YtlgcmdmongccaaaProg.lean LOADS. Nothing in Lean hashes anything: it is a label: what it is worth is what the hold of that sum in a sandbox is worth. -/
noncomputable def Try.pinned : Pinned := { name := "ytlgcmdmongccaaa", sum := "d317d9aaeca0bb2fb7a5d413ee6599823c6a1c2f7d7d0ed0975392619550afbb", checked := Try.checked }
namespace Rows
def none {H : Type} : Left H := { results := [], args := [] }

/-- 'ringroadlaw10.NearTells': WHATEVER THE INPUT: true; the input reads as it did. -/
def nearTellsSpec : ChangeSpec := { name := "nearTells", fn := fun _ => fun
  | [d1, d2, d3] => { results := [.lit (.bool true)], args := [d1, d2, d3] }
  | _ => none }
def nearTellsRow : OpenClaim := { program := "ytlgcmdmongccaaa", sum := "d317d9aaeca0bb2fb7a5d413ee6599823c6a1c2f7d7d0ed0975392619550afbb", func := "ringroad/ringroadlaw10.NearTells", spec := "nearTells", unfollowed := true, recurses := true, apart := false }
def NearTellsSaid : Prop := nearTellsRow.holds Try.pinned (OpenSpec.ofChange nearTellsSpec)

/-- ITS FALSE NEIGHBOUR: 'it returns false'. Refute it at one input. -/
def nearTellsWrong : ChangeSpec := { name := "nearTells", fn := fun _ => fun
  | [d1, d2, d3] => { results := [.lit (.bool false)], args := [d1, d2, d3] }
  | _ => none }
def NearTellsWrongFalsely : Prop := nearTellsRow.holds Try.pinned (OpenSpec.ofChange nearTellsWrong)

/-- 'ringroadlaw10.NearPaths': WHATEVER THE INPUT: true; the input reads as it did. -/
def nearPathsSpec : ChangeSpec := { name := "nearPaths", fn := fun _ => fun
  | [d1, d2, d3, d4] => { results := [.lit (.bool true)], args := [d1, d2, d3, d4] }
  | _ => none }
def nearPathsRow : OpenClaim := { program := "ytlgcmdmongccaaa", sum := "d317d9aaeca0bb2fb7a5d413ee6599823c6a1c2f7d7d0ed0975392619550afbb", func := "ringroad/ringroadlaw10.NearPaths", spec := "nearPaths", unfollowed := true, recurses := true, apart := false }
def NearPathsSaid : Prop := nearPathsRow.holds Try.pinned (OpenSpec.ofChange nearPathsSpec)

/-- ITS FALSE NEIGHBOUR: 'it returns false'. Refute it at one input. -/
def nearPathsWrong : ChangeSpec := { name := "nearPaths", fn := fun _ => fun
  | [d1, d2, d3, d4] => { results := [.lit (.bool false)], args := [d1, d2, d3, d4] }
  | _ => none }
def NearPathsWrongFalsely : Prop := nearPathsRow.holds Try.pinned (OpenSpec.ofChange nearPathsWrong)

/-- 'ringroadlaw10.NearThird': WHATEVER THE INPUT: true; the input reads as it did. -/
def nearThirdSpec : ChangeSpec := { name := "nearThird", fn := fun _ => fun
  | [d1, d2, d3] => { results := [.lit (.bool true)], args := [d1, d2, d3] }
  | _ => none }
def nearThirdRow : OpenClaim := { program := "ytlgcmdmongccaaa", sum := "d317d9aaeca0bb2fb7a5d413ee6599823c6a1c2f7d7d0ed0975392619550afbb", func := "ringroad/ringroadlaw10.NearThird", spec := "nearThird", unfollowed := true, recurses := true, apart := false }
def NearThirdSaid : Prop := nearThirdRow.holds Try.pinned (OpenSpec.ofChange nearThirdSpec)

/-- ITS FALSE NEIGHBOUR: 'it returns false'. Refute it at one input. -/
def nearThirdWrong : ChangeSpec := { name := "nearThird", fn := fun _ => fun
  | [d1, d2, d3] => { results := [.lit (.bool false)], args := [d1, d2, d3] }
  | _ => none }
def NearThirdWrongFalsely : Prop := nearThirdRow.holds Try.pinned (OpenSpec.ofChange nearThirdWrong)

/-- 'ringroadlaw10.NearOpens': WHATEVER THE INPUT: true; the input reads as it did. -/
def nearOpensSpec : ChangeSpec := { name := "nearOpens", fn := fun _ => fun
  | [d1, d2, d3, d4] => { results := [.lit (.bool true)], args := [d1, d2, d3, d4] }
  | _ => none }
def nearOpensRow : OpenClaim := { program := "ytlgcmdmongccaaa", sum := "d317d9aaeca0bb2fb7a5d413ee6599823c6a1c2f7d7d0ed0975392619550afbb", func := "ringroad/ringroadlaw10.NearOpens", spec := "nearOpens", unfollowed := true, recurses := true, apart := false }
def NearOpensSaid : Prop := nearOpensRow.holds Try.pinned (OpenSpec.ofChange nearOpensSpec)

/-- ITS FALSE NEIGHBOUR: 'it returns false'. Refute it at one input. -/
def nearOpensWrong : ChangeSpec := { name := "nearOpens", fn := fun _ => fun
  | [d1, d2, d3, d4] => { results := [.lit (.bool false)], args := [d1, d2, d3, d4] }
  | _ => none }
def NearOpensWrongFalsely : Prop := nearOpensRow.holds Try.pinned (OpenSpec.ofChange nearOpensWrong)

/- THE SECOND FORM. 'bulk': how many values and letters a reading holds, each counted each time it is reached (what is shared counts as often as it is met; a slice's spare places count too). A statement '..UptoSaid' is the law's where the arguments, and the package variables that the reading takes, are together of bulk at most 1048576: NARROWER than '..Said'. Prove '..Said' where nothing that the law and all that it calls make is longer than what came in: it says more and counts as full. Else prove '..UptoSaid'. A law counts once. -/
mutual
def uptoBulk {H : Type} : DataW H → Nat
  | .lit (.string bytes) => bytes.length + 1
  | .lit _ => 1
  | .nil => 1
  | .ptr d => uptoBulk d + 1
  | .slice elems spare => uptoBulkAll elems + uptoBulkAll spare + 1
  | .agg parts => uptoBulkAll parts + 1
  | .iface _ d => uptoBulk d + 1
  | .map entries => uptoBulkEntries entries + 1
  | .held _ => 1
def uptoBulkAll {H : Type} : List (DataW H) → Nat
  | [] => 0
  | d :: r => uptoBulk d + uptoBulkAll r
def uptoBulkEntries {H : Type} : List (Lit × DataW H) → Nat
  | [] => 0
  | x :: r => uptoBulkEntry x + uptoBulkEntries r
def uptoBulkEntry {H : Type} : Lit × DataW H → Nat
  | (.string bytes, d) => bytes.length + uptoBulk d + 1
  | (_, d) => uptoBulk d + 1
 end
def uptoSmall : (H : Type) → List (DataW H) → Bool := fun _ ds => decide (uptoBulkAll ds ≤ 1048576)
def OpenSpec.upto (s : _root_.Go.ChangeSpec) : _root_.Go.OpenSpec := { _root_.Go.OpenSpec.ofChange s with cond := some uptoSmall }

/-- 'ringroadlaw10.NearTells', WHERE WHAT IT READS IS OF BULK AT MOST 1048576: true; the input reads as it did. -/
def nearTellsUptoRow : OpenClaim := { program := "ytlgcmdmongccaaa", sum := "d317d9aaeca0bb2fb7a5d413ee6599823c6a1c2f7d7d0ed0975392619550afbb", func := "ringroad/ringroadlaw10.NearTells", spec := "nearTells", unfollowed := true, recurses := true, apart := false, narrowed := true }
def NearTellsUptoSaid : Prop := nearTellsUptoRow.holds Try.pinned (OpenSpec.upto nearTellsSpec)

/-- 'ringroadlaw10.NearPaths', WHERE WHAT IT READS IS OF BULK AT MOST 1048576: true; the input reads as it did. -/
def nearPathsUptoRow : OpenClaim := { program := "ytlgcmdmongccaaa", sum := "d317d9aaeca0bb2fb7a5d413ee6599823c6a1c2f7d7d0ed0975392619550afbb", func := "ringroad/ringroadlaw10.NearPaths", spec := "nearPaths", unfollowed := true, recurses := true, apart := false, narrowed := true }
def NearPathsUptoSaid : Prop := nearPathsUptoRow.holds Try.pinned (OpenSpec.upto nearPathsSpec)

/-- 'ringroadlaw10.NearThird', WHERE WHAT IT READS IS OF BULK AT MOST 1048576: true; the input reads as it did. -/
def nearThirdUptoRow : OpenClaim := { program := "ytlgcmdmongccaaa", sum := "d317d9aaeca0bb2fb7a5d413ee6599823c6a1c2f7d7d0ed0975392619550afbb", func := "ringroad/ringroadlaw10.NearThird", spec := "nearThird", unfollowed := true, recurses := true, apart := false, narrowed := true }
def NearThirdUptoSaid : Prop := nearThirdUptoRow.holds Try.pinned (OpenSpec.upto nearThirdSpec)

/-- 'ringroadlaw10.NearOpens', WHERE WHAT IT READS IS OF BULK AT MOST 1048576: true; the input reads as it did. -/
def nearOpensUptoRow : OpenClaim := { program := "ytlgcmdmongccaaa", sum := "d317d9aaeca0bb2fb7a5d413ee6599823c6a1c2f7d7d0ed0975392619550afbb", func := "ringroad/ringroadlaw10.NearOpens", spec := "nearOpens", unfollowed := true, recurses := true, apart := false, narrowed := true }
def NearOpensUptoSaid : Prop := nearOpensUptoRow.holds Try.pinned (OpenSpec.upto nearOpensSpec)

end Rows
end Go.Proofs.Ytlgcmdmongccaaa
