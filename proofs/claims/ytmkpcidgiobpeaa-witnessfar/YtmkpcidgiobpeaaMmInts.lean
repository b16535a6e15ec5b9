/-
  The reference's Ints: are two rows of integers alike? Rows of calls, each over the world that the last one left.
-/
import Derived.Test.YtmkpcidgiobpeaaMmMem
namespace Go.Proofs.Ytmkpcidgiobpeaa
open Go.RowKit

theorem take_one (zs : List Int) (k : Nat) (hk : k < zs.length) : zs.take (k + 1) = zs.take k ++ [zs[k]] := by
  rw [List.take_add_one, List.getElem?_eq_getElem hk]
  rfl
theorem below_new {w W : World} (h : Below w.heap.size w W) (o : Obj) : Below w.heap.size w (W.alloc o) := h.alloc h.size o
theorem below_on {w W W' : World} (h : Below w.heap.size w W) (h' : Below W.heap.size W W') : Below w.heap.size w W' := h.trans (h'.mono h.size)
theorem take_eq {zs ys : List Int} {k : Nat} (hz : k < zs.length) (hy : k < ys.length) (h : zs.take k = ys.take k) (e : zs[k] = ys[k]) : zs.take (k + 1) = ys.take (k + 1) := by
  rw [take_one zs k hz, take_one ys k hy, h, e]
set_option maxHeartbeats 1000000 in
/-- The reference's Ints. -/
theorem ints_any (u v : Value) (zs ys : List Int) (w : World) (hu : Row .i64 w u zs) (hv : Row .i64 w v ys) :
    Calls Try.prog 19 #[u, v] w fun e w' => e = .returned (.bool (decide (zs = ys))) ∧ Below w.heap.size w w' := by
  obtain ⟨a, cap, rfl, hat⟩ := hu
  obtain ⟨a2, cap2, rfl, hat2⟩ := hv
  have hml : zs.length ≤ 9223372036854775807 := by have := hat.1; have := hat.2.1; unfold maxLen at this; omega
  by_cases hl : zs.length = ys.length
  · have HA : Hid (RowAt .i64 w a cap zs) := hat
    have HB : Hid (RowAt .i64 w a2 cap2 ys) := hat2
    obtain ⟨n, hn⟩ : ∃ n, n = zs.length := ⟨_, rfl⟩
    have HN : Hid (n = zs.length) := hn
    have HN2 : Hid (n = ys.length) := hn.trans hl
    have h1 := hat.1
    have h2 := hat2.1
    rw [← hl] at h2 ⊢
    rw [← hn] at h1 h2 hml ⊢
    clear hat hat2 hl hn
    go_enter Try.func19, Try.ntmps19
    go_wp2_with fail
    go_loopw [5] (fun i wr => ∃ k : Nat, k ≤ n ∧ i = .int .i64 k ∧ Hid (zs.take k = ys.take k) ∧ Below w.heap.size w wr) (fun i _ => n - (intOf i).toNat)
    case atStart => exact ⟨0, Nat.zero_le _, rfl, rfl, Below.refl _ _⟩
    case round =>
      obtain ⟨k, hk, rfl, HK, hbr⟩ := hrel
      by_cases hlt : k < n
      · have hz : k < zs.length := by rw [← HN.out]; exact hlt
        have hy : k < ys.length := by rw [← HN2.out]; exact hlt
        obtain ⟨b, o, rfl, hc⟩ := (HA.out.below hbr).2.2.2 (by omega)
        obtain ⟨b2, o2, rfl, hc2⟩ := (HB.out.below hbr).2.2.2 (by omega)
        have hck := hc k hz
        have hck2 := hc2 k hy
        rw [List.getElem?_eq_getElem hz, Option.getD_some] at hck
        rw [List.getElem?_eq_getElem hy, Option.getD_some] at hck2
        have HE : Hid (zs[k] = ys[k] → zs.take (k + 1) = ys.take (k + 1)) := fun e => take_eq hz hy HK.out e
        have HD : Hid (zs[k] ≠ ys[k] → zs ≠ ys) := by
          intro e e'
          subst e'
          exact e rfl
        clear hc hc2 HK
        generalize zs[k] = z at *
        generalize ys[k] = y at *
        have hi0 : (0 : Int) ≤ (k : Int) := by omega
        have hi1 : (k : Int) < (n : Int) := by omega
        clear hz hy
        by_cases hzy : z = y
        · subst hzy
          have HK2 : Hid (zs.take (k + 1) = ys.take (k + 1)) := HE.out rfl
          go_wp2_with fail
          go_region
          go_wp2_with fail
          go_roundw
          case rel => exact ⟨k + 1, by omega, by simp, HK2, below_drewN hbr _⟩
          case measure => simp [intOf]; omega
        · have HD2 : Hid (zs ≠ ys) := HD.out hzy
          go_wp2_with fail
          go_region
          go_wp2_with fail
          go_ret
          exact ⟨ret_bool (by rw [decide_eq_false HD2.out]), below_drewN hbr _⟩
      · obtain rfl : k = n := by omega
        have HD2 : Hid (zs = ys) := by
          have := HK.out
          rw [List.take_of_length_le (by rw [← HN.out]; omega), List.take_of_length_le (by rw [← HN2.out]; omega)] at this
          exact this
        clear HK
        go_wp2_with fail
        go_ret
        exact ⟨ret_bool (by rw [decide_eq_true HD2.out]), hbr⟩
  · have hne : decide (zs = ys) = false := decide_eq_false (fun e => hl (by rw [e]))
    rw [hne]
    have hl' : ¬ (zs.length : Int) = (ys.length : Int) := by omega
    clear hat hat2
    go_enter Try.func19, Try.ntmps19
    go_wp2_with fail
    go_ret
    exact ⟨rfl, Below.refl _ _⟩
end Go.Proofs.Ytmkpcidgiobpeaa
