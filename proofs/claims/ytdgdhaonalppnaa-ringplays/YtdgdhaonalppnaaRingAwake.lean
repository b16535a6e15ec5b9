/-
  The laws' own awake.
-/
import Derived.Test.YtdgdhaonalppnaaRingOI
namespace Go.Proofs.Ytdgdhaonalppnaa
open Go.RowKit

namespace RA
section
variable {w : World} {B p : Nat} {F : Nat → Prop}
theorem n0 (w : World) : Calls Try.prog 8 #[.int .i64 2] w fun e w' => ∃ p F, e = .returned (.tuple #[.pointer (some ⟨p, 0, none⟩), .int .i64 0]) ∧ ObjI w' w.heap.size p 2 [] F ∧ Below w.heap.size w w' := oI_new 2 (by decide) (by decide) w
theorem p1 (h : ObjI w B p 2 [] F) : Calls Try.prog 11 #[.pointer (some ⟨p, 0, none⟩), .int .i64 1] w fun e w' => e = .returned (.tuple #[.int .i64 0, .bool false]) ∧ ObjI w' B p 2 [1] F ∧ Keeps F w w' := oI_push h 1
theorem p2 (h : ObjI w B p 2 [1] F) : Calls Try.prog 11 #[.pointer (some ⟨p, 0, none⟩), .int .i64 2] w fun e w' => e = .returned (.tuple #[.int .i64 0, .bool false]) ∧ ObjI w' B p 2 [1, 2] F ∧ Keeps F w w' := oI_push h 2
theorem p3 (h : ObjI w B p 2 [1, 2] F) : Calls Try.prog 11 #[.pointer (some ⟨p, 0, none⟩), .int .i64 3] w fun e w' => e = .returned (.tuple #[.int .i64 1, .bool true]) ∧ ObjI w' B p 2 [2, 3] F ∧ Keeps F w w' := oI_push h 3
theorem o3 (h : ObjI w B p 2 [2, 3] F) : Calls Try.prog 9 #[.pointer (some ⟨p, 0, none⟩)] w fun e w' => e = .returned (.tuple #[.int .i64 3, .bool true]) ∧ ObjI w' B p 2 [2] F ∧ Keeps F w w' := oI_pop h
theorem t2 (h : ObjI w B p 2 [2] F) : Calls Try.prog 13 #[.pointer (some ⟨p, 0, none⟩)] w fun e w' => e = .returned (.tuple #[.int .i64 2, .bool true]) ∧ Below w.heap.size w w' := oI_top h
theorem l2 (h : ObjI w B p 2 [2] F) : Calls Try.prog 15 #[.pointer (some ⟨p, 0, none⟩)] w fun e w' => e = .returned (.int .i64 1) ∧ w' = w := oI_len h
theorem r2 (h : ObjI w B p 2 [2] F) : Calls Try.prog 16 #[.pointer (some ⟨p, 0, none⟩)] w fun e w' => e = .returned (.int .i64 2) ∧ w' = w := oI_room h
end
end RA
set_option maxHeartbeats 4000000 in
set_option maxRecDepth 100000 in
theorem awake_any (w : World) : Calls Try.prog 7 #[] w fun e w' => e = .returned (.bool true) ∧ Below w.heap.size w w' := by
  have n1 := RA.n0 w
  go_enter Try.func7, Try.ntmps7
  go_wp2_with fail
  refine n1.mono ?_
  rintro e w1 ⟨p, F, rfl, h1, b1⟩
  have n2 := RI.new_bad 33 (by decide) w1
  clear n1
  go_wp2_with fail
  refine n2.mono ?_
  rintro e w1 ⟨rfl, rfl⟩
  clear n2
  have s1 := RA.p1 h1
  go_wp2_with fail
  refine s1.mono ?_
  rintro e w2 ⟨rfl, h2, k2⟩
  have b2 := b1.trans (h1.rest k2)
  clear s1 h1 b1 k2
  have s2 := RA.p2 h2
  go_wp2_with fail
  refine s2.mono ?_
  rintro e w3 ⟨rfl, h3, k3⟩
  have b3 := b2.trans (h2.rest k3)
  clear s2 h2 b2 k3
  have s3 := RA.p3 h3
  go_wp2_with fail
  refine s3.mono ?_
  rintro e w4 ⟨rfl, h4, k4⟩
  have b4 := b3.trans (h3.rest k4)
  clear s3 h3 b3 k4
  have s4 := RA.o3 h4
  go_wp2_with fail
  refine s4.mono ?_
  rintro e w5 ⟨rfl, h5, k5⟩
  have b5 := b4.trans (h4.rest k5)
  clear s4 h4 b4 k5
  have s5 := RA.t2 h5
  go_wp2_with fail
  refine s5.mono ?_
  rintro e w6 ⟨rfl, k6⟩
  have h6 := h5.below k6
  have b6 := b5.trans (k6.mono b5.size)
  clear s5 h5 b5 k6
  have l6 := RA.l2 h6
  have r6 := RA.r2 h6
  go_wp2_with fail
  refine l6.mono ?_
  rintro e w7 ⟨rfl, rfl⟩
  clear l6
  go_wp2_with fail
  refine r6.mono ?_
  rintro e w8 ⟨rfl, rfl⟩
  go_wp2_with fail
  go_ret
  exact ⟨rfl, b6⟩
end Go.Proofs.Ytdgdhaonalppnaa
