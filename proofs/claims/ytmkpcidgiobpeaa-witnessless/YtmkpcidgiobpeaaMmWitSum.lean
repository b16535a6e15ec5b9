/-
  The walks of layer 13's document: the least sum, and three unlike vertices.
-/
import Derived.Test.YtmkpcidgiobpeaaMmWitRef
namespace Go.Proofs.Ytmkpcidgiobpeaa
open Go.RowKit
theorem below_on' {b : Nat} {w w0 W : World} (h : Below b w w0) (h' : Below w0.heap.size w0 W) (hb : b < w0.heap.size) : Below b w W := h.trans (h'.mono (Nat.le_of_lt hb))
set_option maxHeartbeats 1000000 in
/-- The least sum of how far it is to a settled one, and the step from that. -/
theorem rsum_any {w : World} {p N : Nat} {D : Nat → Nat → Int} (hg : XMem w p N D) (hm : XM.Mesh N D) (hN : N ≤ 24) (L : List (Nat × Int)) (sv dv tv : Value) (hs : Row .i64 w sv (WM.vsL L)) (hd : Row .i64 w dv (WM.dsL L)) (v : Nat) :
    Calls Try.prog 32 #[.pointer (some ⟨p, 0, none⟩), .agg #[sv, dv, tv], .int .i64 v] w fun e w' => e = .returned (.int .i64 (WM.sum D L v)) ∧ Below w.heap.size w w' := by
  obtain ⟨a, cap, rfl, hat⟩ := hs
  obtain ⟨a2, cap2, rfl, hat2⟩ := hd
  have HA : Hid (RowAt .i64 w a cap (WM.vsL L)) := hat
  have HB : Hid (RowAt .i64 w a2 cap2 (WM.dsL L)) := hat2
  have h1 := hat.1
  have h2 := hat.2.1
  have h12 := hat2.1
  have h22 := hat2.2.1
  rw [WM.vsL_len] at h1 ⊢
  rw [WM.dsL_len] at h12 ⊢
  have hml : L.length ≤ 9223372036854775807 := by unfold maxLen at h2; omega
  have HAT : Hid (∀ W, Below w.heap.size w W → ∀ a b : Nat, Calls Try.prog 34 #[.pointer (some ⟨p, 0, none⟩), .int .i64 a, .int .i64 b] W fun e w' => e = .returned (.int .i64 (D a b)) ∧ w' = W) := fun W hW a b => by
    have := rat_any (hg.on hW) hm hN (a : Int) (b : Int)
    rwa [XM.atE_nat hm a b] at this
  obtain ⟨n, hn⟩ : ∃ n, n = L.length := ⟨_, rfl⟩
  have HST : Hid (∀ k : Nat, k < n → ∃ (u : Nat) (d : Int), (WM.vsL L)[k]?.getD 0 = (u : Int) ∧ (WM.dsL L)[k]?.getD 0 = d ∧ WM.sum D (L.take (k + 1)) v = WM.low (WM.sum D (L.take k) v) (DM.two d (D u v))) := fun k h => by
    have hk : k < L.length := by omega
    refine ⟨L[k].1, L[k].2, ?_, ?_, WM.sum_take D L v k hk⟩
    · unfold WM.vsL
      rw [List.getElem?_map, List.getElem?_eq_getElem hk]
      rfl
    · unfold WM.dsL
      rw [List.getElem?_map, List.getElem?_eq_getElem hk]
      rfl
  have HEND : Hid (L.take n = L) := by
    show _ = _
    rw [hn, List.take_length]
  rw [← hn] at h1 h12 hml ⊢
  have HLV : Hid ((WM.vsL L).length = n) := by
    show _ = _
    rw [WM.vsL_len, hn]
  have HLD : Hid ((WM.dsL L).length = n) := by
    show _ = _
    rw [WM.dsL_len, hn]
  have hw0 : ∃ w0, w0 = w.alloc (.cells #[.slice a n cap, .slice a2 n cap2, tv] 41) ∧ Below w.heap.size w w0 ∧ w0.cell? ⟨w.heap.size, 0, none⟩ = some (.slice a n cap) ∧ w0.cell? ⟨w.heap.size, 1, none⟩ = some (.slice a2 n cap2) ∧ w.heap.size < w0.heap.size := ⟨_, rfl, (Below.refl _ _).alloc (Nat.le_refl _) _, by unfold World.cell?; rw [heap_alloc_new]; rfl, by unfold World.cell?; rw [heap_alloc_new]; rfl, by simp⟩
  obtain ⟨LS, hLS⟩ : ∃ LS : Nat → List (Nat × Int), LS = fun k => L.take k := ⟨_, rfl⟩
  have HS0 : Hid (WM.sum D (LS 0) v = 4611686018427387906) := by
    show _ = _
    rw [hLS]
    rfl
  have HSN : Hid (WM.sum D (LS n) v = WM.sum D L v) := by
    show _ = _
    rw [hLS]
    show WM.sum D (L.take n) v = _
    rw [HEND.out]
  have HST2 : Hid (∀ k : Nat, k < n → ∃ (u : Nat) (d : Int), (WM.vsL L)[k]?.getD 0 = (u : Int) ∧ (WM.dsL L)[k]?.getD 0 = d ∧ WM.sum D (LS (k + 1)) v = WM.low (WM.sum D (LS k) v) (DM.two d (D u v))) := by
    rw [hLS]
    exact HST.out
  clear hat hat2 hg hm hn HST HEND hLS
  generalize WM.sum D L v = SL at *
  generalize hSS : (fun k => WM.sum D (LS k) v) = SS at *
  have HSS : Hid (∀ k, WM.sum D (LS k) v = SS k) := fun k => by rw [← hSS]
  clear hSS
  go_enter Try.func32, Try.ntmps32
  go_wp2_with fail
  obtain ⟨w0, hw0, hb0, c00, c01, hs0⟩ := hw0
  rw [← hw0]
  clear hw0
  generalize hbb : w.heap.size = b0 at *
  have HBB : Hid (w.heap.size = b0) := hbb
  have HB0 : Hid (Below b0 w w0) := hb0
  have HC0 : Hid (∀ W, Below w0.heap.size w0 W → W.cell? ⟨b0, 0, none⟩ = some (.slice a n cap)) := fun W hW => by rw [hW.cell (p := ⟨b0, 0, none⟩) hs0]; exact c00
  have HC1 : Hid (∀ W, Below w0.heap.size w0 W → W.cell? ⟨b0, 1, none⟩ = some (.slice a2 n cap2)) := fun W hW => by rw [hW.cell (p := ⟨b0, 1, none⟩) hs0]; exact c01
  have HS0L : Hid (b0 < w0.heap.size) := hs0
  clear hbb hb0 c00 c01 hs0
  go_loopw [7, 8] (fun lv iv wr => ∃ k : Nat, k ≤ n ∧ iv = .int .i64 k ∧ lv = .int .i64 (SS k) ∧ Below w0.heap.size w0 wr) (fun _ iv _ => n - (intOf iv).toNat)
  case atStart => exact ⟨0, Nat.zero_le _, rfl, by rw [← HSS.out, HS0.out], Below.refl _ _⟩
  case round =>
    obtain ⟨k, hk, rfl, rfl, hB⟩ := hrel
    have HB2 : Hid (Below w0.heap.size w0 wr) := hB
    have HBb : Hid (Below b0 w wr) := below_on' HB0.out hB HS0L.out
    have HBw : Hid (Below w.heap.size w wr) := by
      rw [HBB.out]
      exact HBb.out
    have d0 := HC0.out wr hB
    have d1 := HC1.out wr hB
    by_cases hlt : k < n
    · obtain ⟨b, o, rfl, hc⟩ := (HA.out.below HBw.out).2.2.2 (by rw [HLV.out]; omega)
      obtain ⟨b2, o2, rfl, hc2⟩ := (HB.out.below HBw.out).2.2.2 (by rw [HLD.out]; omega)
      have hck := hc k (by rw [HLV.out]; exact hlt)
      have hck2 := hc2 k (by rw [HLD.out]; exact hlt)
      obtain ⟨u, d, e1, e2, e3⟩ := HST2.out k hlt
      rw [e1] at hck
      rw [e2] at hck2
      rw [HSS.out, HSS.out] at e3
      have HE : Hid (SS (k + 1) = WM.low (SS k) (DM.two d (D u v))) := e3
      have hi0 : (0 : Int) ≤ (k : Int) := by omega
      have hi1 : (k : Int) < (n : Int) := by omega
      clear hc hc2 e1 e2 e3 HST2 hB
      have HATD : Hid (∀ q, Calls Try.prog 34 #[.pointer (some ⟨p, 0, none⟩), .int .i64 u, .int .i64 v] (wr.drewN q) fun e w' => e = .returned (.int .i64 (D u v)) ∧ w' = wr.drewN q) := fun q => HAT.out (wr.drewN q) (below_drewN HBb.out q) u v
      go_wp2_with fail
      go_quiet ((first
        | (go_at_call 37; exact Calls.quiet_of_same (two_any _ _ _))
        | (go_at_call 34; exact Calls.quiet_of_same (HATD.out _))))
      have HW : Hid (Below w0.heap.size w0 (wr.drewN nq)) := below_drewN HB2.out nq
      clear d0 d1
      generalize wr.drewN nq = wq at *
      have HL : Hid (WM.low (SS k) (DM.two d (D u v)) = if DM.two d (D u v) < SS k then DM.two d (D u v) else SS k) := rfl
      generalize DM.two d (D u v) = x at *
      by_cases hx : x < SS k
      · have HE2 : Hid (SS (k + 1) = x) := by
          show _ = _
          rw [HE.out, HL.out, if_pos hx]
        go_wp2_with fail
        go_roundw
        case rel => exact ⟨k + 1, by omega, by go_num, by rw [HE2.out], HW.out⟩
        case measure => simp [intOf]; omega
      · have HE2 : Hid (SS (k + 1) = SS k) := by
          show _ = _
          rw [HE.out, HL.out, if_neg hx]
        go_wp2_with fail
        go_roundw
        case rel => exact ⟨k + 1, by omega, by go_num, by rw [HE2.out], HW.out⟩
        case measure => simp [intOf]; omega
    · obtain rfl : k = n := by omega
      have HE : Hid (SS k = SL) := (HSS.out k).symm.trans HSN.out
      clear hB
      go_wp2_with fail
      go_ret
      exact ⟨ret_int HE.out, by rw [HBB.out]; exact HBb.out⟩
end Go.Proofs.Ytmkpcidgiobpeaa
