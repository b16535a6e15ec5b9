/-
  What Out and In lean on: those, and a round within a round.
-/
import Derived.Test.YthoihkkabgedgaaGraphBest
import Derived.Laws.EntriesVeiled
namespace Go.Proofs.Ythoihkkabgedgaa
open Go.RowKit Go.Shelf
attribute [local go_sem] Oper.semAt_some

/-- A number, as the loop's variable. -/
def oneNum (i : Nat) : Array Value := #[.int .i64 (i : Nat)]
/-- Where no depth is asked, and whichever round it stands in. -/
theorem roundIn_in {m m' : Nat} {P : Program} {l l' : Nat} {f : FuncId} {tmps : Array Value} {assign body : Code} {w : World} {R : Ending → World → Prop} (h : RoundIn Fence.wide m P l f tmps assign body w R) : RoundIn (Fence.wide.inRound l') m' P l f tmps assign body w R := ⟨h.1, fun c cs _ => h.2 c cs (room_wide _)⟩
set_option maxHeartbeats 400000 in
theorem those_any (p : Nat) (F : Nat) (caps : Array Value) (w : World) :
    Calls Try.prog 54 #[.pointer (some ⟨p, 0, none⟩), .func (.func F) #[] caps] w fun e w' => e = .returned (.func (.func 58) #[] #[.pointer (some ⟨w.heap.size, 0, none⟩), .pointer (some ⟨w.heap.size + 1, 0, none⟩)]) ∧
      w' = (w.alloc (.cells #[.pointer (some ⟨p, 0, none⟩)] 24)).alloc (.cells #[.func (.func F) #[] caps] 78) := by
  go_enter Try.func54, Try.ntmps54
  go_wp2_with fail
  go_ret
  exact ⟨rfl, rfl⟩
end Go.Proofs.Ythoihkkabgedgaa
