/-
  The walks of the document's Three and Spared (layer 13).
-/
import Derived.Test.YtmkpcidgiobpeaaMmWitSearch
namespace Go.Proofs.Ytmkpcidgiobpeaa
open Go.RowKit
/-- Three unlike vertices. -/
def WM.three (N : Nat) (u v w : Int) : Bool := GM.vert N u && GM.vert N v && GM.vert N w && decide (u ≠ v) && decide (v ≠ w) && decide (w ≠ u)
theorem WM.three_nat {N : Nat} {u v w : Int} (h : WM.three N u v w = true) : ∃ a b c : Nat, u = a ∧ v = b ∧ w = c ∧ a < N ∧ b < N ∧ c < N ∧ a ≠ b ∧ b ≠ c ∧ c ≠ a := by
  unfold WM.three at h
  simp only [Bool.and_eq_true, decide_eq_true_eq] at h
  obtain ⟨⟨⟨⟨⟨h1, h2⟩, h3⟩, h4⟩, h5⟩, h6⟩ := h
  obtain ⟨a, rfl, ha⟩ := XM.vert_nat h1
  obtain ⟨b, rfl, hb⟩ := XM.vert_nat h2
  obtain ⟨c, rfl, hc⟩ := XM.vert_nat h3
  exact ⟨a, b, c, rfl, rfl, rfl, ha, hb, hc, by omega, by omega, by omega⟩
set_option maxHeartbeats 1000000 in
theorem rthree_any {W : World} {p N : Nat} {D : Nat → Nat → Int} (hg : XMem W p N D) (u v w : Int) :
    Calls Try.prog 16 #[.pointer (some ⟨p, 0, none⟩), .int .i64 u, .int .i64 v, .int .i64 w] W fun e w' => e = .returned (.bool (WM.three N u v w)) ∧ w' = W := by
  have hu := xvertex_any hg u
  have hv := xvertex_any hg v
  have hw := xvertex_any hg w
  have HT : Hid (WM.three N u v w = (GM.vert N u && GM.vert N v && GM.vert N w && decide (u ≠ v) && decide (v ≠ w) && decide (w ≠ u))) := rfl
  generalize GM.vert N u = bu at *
  generalize GM.vert N v = bv at *
  generalize GM.vert N w = bw at *
  generalize WM.three N u v w = ans at *
  clear hg
  cases bu with
  | false =>
    go_enter Try.func16, Try.ntmps16
    go_wp2_with fail
    refine hu.mono ?_
    rintro e w' ⟨rfl, rfl⟩
    go_wp2_with fail
    go_ret
    exact ⟨ret_bool (by rw [HT.out]; simp), rfl⟩
  | true =>
    cases bv with
    | false =>
      go_enter Try.func16, Try.ntmps16
      go_wp2_with fail
      refine hu.mono ?_
      rintro e w' ⟨rfl, rfl⟩
      go_wp2_with fail
      refine hv.mono ?_
      rintro e w' ⟨rfl, rfl⟩
      go_wp2_with fail
      go_ret
      exact ⟨ret_bool (by rw [HT.out]; simp), rfl⟩
    | true =>
      cases bw with
      | false =>
        go_enter Try.func16, Try.ntmps16
        go_wp2_with fail
        refine hu.mono ?_
        rintro e w' ⟨rfl, rfl⟩
        go_wp2_with fail
        refine hv.mono ?_
        rintro e w' ⟨rfl, rfl⟩
        go_wp2_with fail
        refine hw.mono ?_
        rintro e w' ⟨rfl, rfl⟩
        go_wp2_with fail
        go_ret
        exact ⟨ret_bool (by rw [HT.out]; simp), rfl⟩
      | true =>
        have h1 : (u == v) = decide (u = v) := rfl
        by_cases e1 : u = v
        · have HA : Hid (ans = false) := by
            show _ = _
            rw [HT.out, e1]
            simp
          have n1 : (u != v) = false := by simp [e1]
          clear e1 HT h1
          go_enter Try.func16, Try.ntmps16
          go_wp2_with fail
          refine hu.mono ?_
          rintro e w' ⟨rfl, rfl⟩
          go_wp2_with fail
          refine hv.mono ?_
          rintro e w' ⟨rfl, rfl⟩
          go_wp2_with fail
          refine hw.mono ?_
          rintro e w' ⟨rfl, rfl⟩
          go_wp2_with fail
          go_ret
          exact ⟨ret_bool HA.out.symm, rfl⟩
        · by_cases e2 : v = w
          · have HA : Hid (ans = false) := by
              show _ = _
              rw [HT.out, e2]
              simp
            have n1 : (u != v) = true := by simp [e1]
            have n2 : (v != w) = false := by simp [e2]
            clear e1 e2 HT h1
            go_enter Try.func16, Try.ntmps16
            go_wp2_with fail
            refine hu.mono ?_
            rintro e w' ⟨rfl, rfl⟩
            go_wp2_with fail
            refine hv.mono ?_
            rintro e w' ⟨rfl, rfl⟩
            go_wp2_with fail
            refine hw.mono ?_
            rintro e w' ⟨rfl, rfl⟩
            go_wp2_with fail
            go_ret
            exact ⟨ret_bool HA.out.symm, rfl⟩
          · have HA : Hid (ans = (w != u)) := by
              show _ = _
              rw [HT.out]
              by_cases e3 : w = u
              · simp [e3]
              · simp [e1, e2, e3]
            have n1 : (u != v) = true := by simp [e1]
            have n2 : (v != w) = true := by simp [e2]
            clear e1 e2 HT h1
            go_enter Try.func16, Try.ntmps16
            go_wp2_with fail
            refine hu.mono ?_
            rintro e w' ⟨rfl, rfl⟩
            go_wp2_with fail
            refine hv.mono ?_
            rintro e w' ⟨rfl, rfl⟩
            go_wp2_with fail
            refine hw.mono ?_
            rintro e w' ⟨rfl, rfl⟩
            go_wp2_with fail
            go_ret
            exact ⟨ret_bool HA.out.symm, rfl⟩
end Go.Proofs.Ytmkpcidgiobpeaa
