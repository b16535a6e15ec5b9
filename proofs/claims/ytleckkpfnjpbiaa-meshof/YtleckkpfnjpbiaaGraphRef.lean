/-
  The walks of the reference's graph: Ids, Len, its changes, and the law's DoRef.
-/
import Derived.Test.YtleckkpfnjpbiaaGraphIds
import Derived.Test.YtleckkpfnjpbiaaGraphOps
namespace Go.Proofs.Ytleckkpfnjpbiaa
open Go.RowKit

set_option maxHeartbeats 1000000 in
set_option maxRecDepth 100000 in
theorem rids_any {w : World} {q N most : Nat} {m : GM.M} (hg : RMem w q N most m) :
    Calls Try.prog 62 #[.pointer (some ⟨q, 0, none⟩)] w fun e w' => ∃ r, e = .returned r ∧ Own .i64 3 w' w.heap.size r (GM.iids m 64) ∧ Below w.heap.size w w' := by
  obtain ⟨i0, hi, hz0, hz1, hz2⟩ := info_parts info3
  have HG : Hid (∀ W, Below w.heap.size w W → RMem W q N most m) := fun W hW => hg.on hW
  clear hg
  go_enter Try.func62, Try.ntmps62
  go_wp2_with fail
  go_loopw [3, 4] (fun sv iv wr => ∃ k : Nat, k ≤ 64 ∧ iv = .int .i64 k ∧ Own .i64 3 wr w.heap.size sv (GM.iids m k) ∧ Below w.heap.size w wr) (fun _ iv _ => 64 - (intOf iv).toNat)
  case atStart => exact ⟨0, Nat.zero_le _, rfl, Own.nil _ _ _ _, Below.refl _ _⟩
  case round =>
    obtain ⟨k, hk, rfl, ho, hb⟩ := hrel
    have HO : Hid (Own .i64 3 wr w.heap.size u3 (GM.iids m k)) := ho
    have HB : Hid (Below w.heap.size w wr) := hb
    by_cases hlt : k < 64
    · have ct := (HG.out wr hb).tk k hlt
      have k64 : (k : Int) < 64 := by omega
      have HL : Hid ((GM.iids m k).length ≤ k) := by
        show _ ≤ _
        rw [GM.iids_len]
        exact GM.ids_le m k
      clear ho hb
      cases hs : GM.is m k with
      | false =>
        rw [hs] at ct
        have HI : Hid (GM.iids m (k + 1) = GM.iids m k) := GM.iids_skip hs
        clear hs
        go_wp2_with fail
        go_roundw
        case rel => exact ⟨k + 1, by omega, by go_num, by rw [HI.out]; exact HO.out, HB.out⟩
        case measure => simp [intOf]; omega
      | true =>
        rw [hs] at ct
        have HI : Hid (GM.iids m (k + 1) = GM.iids m k ++ [(k : Int)]) := GM.iids_take hs
        clear hs
        go_wp2_with (at_builtin; refine wpList_append_row _ rfl _ _ 47 rfl .i64 w.heap.size 3 i0 8 Try.underlying47 hi hz0 hz1 hz2 _ (GM.iids m k) rfl (HO.out.alloc _) (some ⟨wr.heap.size, 0, none⟩) 1 1 [(k : Int)] rfl rfl (rowAt_lit1 _ _ _ _) (by have := HL.out; unfold maxLen; simp; omega) (by have := HL.out; simp; omega) (by have := HB.out.size; simp; omega) ?_)
        intro v2 w2 hown2 hgrow2 _
        have hb2 : Below w.heap.size w w2 := (HB.out.alloc HB.out.size _).grown hgrow2 (by have := HB.out.size; simp; omega) (fun g hg => HO.out.block g hg)
        have HO2 : Hid (Own .i64 3 w2 w.heap.size v2 (GM.iids m (k + 1))) := by
          show Own _ _ _ _ _ _
          rw [HI.out]
          exact hown2
        have HB2 : Hid (Below w.heap.size w w2) := hb2
        clear hown2 hgrow2 hb2 ct
        go_wp2_with fail
        go_roundw
        case rel => exact ⟨k + 1, by omega, by go_num, HO2.out, HB2.out⟩
        case measure => simp [intOf]; omega
    · obtain rfl : k = 64 := by omega
      clear ho hb
      go_wp2_with fail
      go_ret
      exact ⟨_, rfl, HO.out, HB.out⟩
end Go.Proofs.Ytleckkpfnjpbiaa
