/-
  WitRef, WitSum, WitPick.
-/
import Derived.Test.YtkcfepppnclniaaMmMeshMem
import Derived.Test.YtkcfepppnclniaaMmWalkDist
import Derived.Test.YtkcfepppnclniaaMmWitMath
import Derived.Test.YtkcfepppnclniaaMmMeshPut
import Derived.Deep.DeepCutAuto
import Derived.Laws.Tables
import Derived.Deep.QuietTactic
import Derived.BigQuiet
import Derived.Maps.AppendAt
section
/-
  The walks of layer 13's document, of its small calls: has, sum, Three; layer 3's Has.
-/
namespace Go.Proofs.Ytkcfepppnclniaa
open Go.RowKit
namespace WM
def vsL (L : List (Nat × Int)) : List Int := L.map (fun x => ((x.1 : Nat) : Int))
def dsL (L : List (Nat × Int)) : List Int := L.map (·.2)
theorem vsL_len (L : List (Nat × Int)) : (vsL L).length = L.length := by simp [vsL]
theorem dsL_len (L : List (Nat × Int)) : (dsL L).length = L.length := by simp [dsL]
theorem vsL_snoc (L : List (Nat × Int)) (x : Nat × Int) : vsL (L ++ [x]) = vsL L ++ [((x.1 : Nat) : Int)] := by simp [vsL]
theorem dsL_snoc (L : List (Nat × Int)) (x : Nat × Int) : dsL (L ++ [x]) = dsL L ++ [x.2] := by simp [dsL]
theorem vsL_mem (L : List (Nat × Int)) (v : Nat) : decide ((v : Int) ∈ vsL L) = has L v := by
  rw [Bool.eq_iff_iff, decide_eq_true_iff, has_iff]
  unfold vsL
  rw [List.mem_map]
  constructor
  · rintro ⟨x, h1, h2⟩
    exact ⟨x, h1, by omega⟩
  · rintro ⟨x, h1, h2⟩
    exact ⟨x, h1, by omega⟩
theorem sum_take (D : Nat → Nat → Int) (L : List (Nat × Int)) (v k : Nat) (h : k < L.length) : sum D (L.take (k + 1)) v = low (sum D (L.take k) v) (DM.two L[k].2 (D L[k].1 v)) := by
  rw [List.take_succ_eq_append_getElem h, sum_snoc]
end WM
set_option maxHeartbeats 400000 in
/-- Layer 3's document: Has. -/
theorem rhas3_any (s : Nat) (x : Int) (hs : s < 18446744073709551616) (w : World) :
    Calls Try.prog 59 #[.int .u64 s, .int .i64 x] w fun e w' => e = .returned (.bool (BM.has s x)) ∧ w' = w := by
  by_cases h : 0 ≤ x ∧ x < 64
  · obtain ⟨n, rfl⟩ : ∃ n : Nat, x = n := ⟨x.toNat, by omega⟩
    have hn : n < 64 := by omega
    have e : BM.has s (n : Int) = s.testBit n := by unfold BM.has; rw [decide_eq_true h, Bool.true_and, Int.toNat_natCast]
    rw [e]
    clear e h
    go_enter Try.func59, Try.ntmps59
    go_wp2_with fail
    go_loop [0, 5] (fun sv i => ∃ k : Nat, k ≤ n ∧ i = .int .i64 k ∧ sv = .int .u64 (s / 2 ^ k : Nat)) (fun _ i => n - (intOf i).toNat)
    case atStart => exact ⟨0, Nat.zero_le _, rfl, by simp⟩
    case round =>
      obtain ⟨k, hk, rfl, rfl⟩ := hrel
      have hq : s / 2 ^ k < 18446744073709551616 := Nat.lt_of_le_of_lt (Nat.div_le_self _ _) hs
      have HS : Hid (s / 2 ^ (k + 1) = s / 2 ^ k / 2) := by show _ = _; rw [Nat.pow_succ, Nat.div_div_eq_div_mul]
      have HT : Hid (k = n → s.testBit n = decide (s / 2 ^ k % 2 = 1)) := fun e => by rw [e, Nat.testBit_eq_decide_div_mod_eq]
      generalize s / 2 ^ k = q at *
      by_cases hlt : k < n
      · go_wp2_with fail
        go_round
        case rel => exact ⟨k + 1, by omega, by simp, by rw [HS.out]; simp⟩
        case measure => simp [intOf]; omega
      · go_wp2_with fail
        go_ret
        refine ⟨ret_bool ?_, rfl⟩
        rw [HT.out (by omega), Bool.eq_iff_iff]
        simp
        omega
  · have e : BM.has s x = false := by simp [BM.has]; omega
    rw [e]
    go_enter Try.func59, Try.ntmps59
    by_cases h0 : x < 0
    · go_wp2_with fail
      go_ret
      exact ⟨rfl, rfl⟩
    · have h64 : 64 ≤ x := by omega
      go_wp2_with fail
      go_ret
      exact ⟨rfl, rfl⟩
set_option maxHeartbeats 400000 in
/-- Is a number in a list? -/
theorem rhas13_any (v : Value) (zs : List Int) (n : Int) (w : World) (hrow : Row .i64 w v zs) :
    Calls Try.prog 43 #[v, .int .i64 n] w fun e w' => e = .returned (.bool (decide (n ∈ zs))) ∧ w' = w := by
  obtain ⟨a, cap, rfl, h1, h2, h3, h4⟩ := hrow
  have hml : zs.length ≤ 9223372036854775807 := by unfold maxLen at h2; omega
  go_enter Try.func43, Try.ntmps43
  go_wp2_with fail
  go_loop [5] (fun i => ∃ k : Nat, k ≤ zs.length ∧ i = .int .i64 k ∧ Hid (n ∉ zs.take k)) (fun i => zs.length - (intOf i).toNat)
  case atStart => exact ⟨0, Nat.zero_le _, rfl, by simp [Hid]⟩
  case round =>
    obtain ⟨k, hk, rfl, HN⟩ := hrel
    by_cases hlt : k < zs.length
    · obtain ⟨b, o, rfl, hc⟩ := h4 (by omega)
      have hck := hc k hlt
      rw [List.getElem?_eq_getElem hlt, Option.getD_some] at hck
      have HY : Hid (zs[k] = n → n ∈ zs) := fun e => e ▸ List.getElem_mem hlt
      have HO : Hid (zs[k] ≠ n → n ∉ zs.take (k + 1)) := fun e => by
        rw [take_one zs k hlt, List.mem_append]
        rintro (h | h)
        · exact HN.out h
        · exact e (List.mem_singleton.1 h).symm
      clear hc HN
      have hi0 : (0 : Int) ≤ (k : Int) := by omega
      have hi1 : (k : Int) < (zs.length : Int) := by omega
      generalize zs[k] = z at *
      by_cases hz : z = n
      · have HE : Hid (n ∈ zs) := HY.out hz
        subst hz
        clear HY HO
        go_wp2_with fail
        go_ret
        exact ⟨ret_bool (by rw [decide_eq_true HE.out]), rfl⟩
      · have HE : Hid (n ∉ zs.take (k + 1)) := HO.out hz
        have hzb : (z == n) = false := beq_eq_false_iff_ne.2 hz
        clear HY HO hz
        go_wp2_with fail
        go_round
        case rel => exact ⟨k + 1, by omega, by simp, HE⟩
        case measure => simp [intOf]; omega
    · obtain rfl : k = zs.length := by omega
      have HE : Hid (n ∉ zs) := by
        have := HN.out
        rwa [List.take_length] at this
      go_wp2_with fail
      go_ret
      exact ⟨ret_bool (by rw [decide_eq_false HE.out]), rfl⟩
end Go.Proofs.Ytkcfepppnclniaa
end

section
/-
  The walks of layer 13's document: the least sum, and three unlike vertices.
-/
namespace Go.Proofs.Ytkcfepppnclniaa
open Go.RowKit
theorem below_on' {b : Nat} {w w0 W : World} (h : Below b w w0) (h' : Below w0.heap.size w0 W) (hb : b < w0.heap.size) : Below b w W := h.trans (h'.mono (Nat.le_of_lt hb))
set_option maxHeartbeats 1000000 in
/-- The least sum of how far it is to a settled one, and the step from that. -/
theorem rsum_any {w : World} {p N : Nat} {D : Nat → Nat → Int} (hg : XMem w p N D) (hm : XM.Mesh N D) (hN : N ≤ 24) (L : List (Nat × Int)) (sv dv tv : Value) (hs : Row .i64 w sv (WM.vsL L)) (hd : Row .i64 w dv (WM.dsL L)) (v : Nat) :
    Calls Try.prog 60 #[.pointer (some ⟨p, 0, none⟩), .agg #[sv, dv, tv], .int .i64 v] w fun e w' => e = .returned (.int .i64 (WM.sum D L v)) ∧ Below w.heap.size w w' := by
  obtain ⟨a, cap, rfl, hat⟩ := hs
  obtain ⟨a2, cap2, rfl, hat2⟩ := hd
  have HA : Hid (RowAt .i64 w a cap (WM.vsL L)) := hat
  have HB : Hid (RowAt .i64 w a2 cap2 (WM.dsL L)) := hat2
  have h1 := hat.1
  have h2 := hat.2.1
  have h12 := hat2.1
  have h22 := hat2.2.1
  rw [WM.vsL_len] at h1 ⊢
  rw [WM.dsL_len] at h12 ⊢
  have hml : L.length ≤ 9223372036854775807 := by unfold maxLen at h2; omega
  have HAT : Hid (∀ W, Below w.heap.size w W → ∀ a b : Nat, Calls Try.prog 28 #[.pointer (some ⟨p, 0, none⟩), .int .i64 a, .int .i64 b] W fun e w' => e = .returned (.int .i64 (D a b)) ∧ w' = W) := fun W hW a b => by
    have := rat_any (hg.on hW) hm hN (a : Int) (b : Int)
    rwa [XM.atE_nat hm a b] at this
  obtain ⟨n, hn⟩ : ∃ n, n = L.length := ⟨_, rfl⟩
  have HST : Hid (∀ k : Nat, k < n → ∃ (u : Nat) (d : Int), (WM.vsL L)[k]?.getD 0 = (u : Int) ∧ (WM.dsL L)[k]?.getD 0 = d ∧ WM.sum D (L.take (k + 1)) v = WM.low (WM.sum D (L.take k) v) (DM.two d (D u v))) := fun k h => by
    have hk : k < L.length := by omega
    refine ⟨L[k].1, L[k].2, ?_, ?_, WM.sum_take D L v k hk⟩
    · unfold WM.vsL
      rw [List.getElem?_map, List.getElem?_eq_getElem hk]
      rfl
    · unfold WM.dsL
      rw [List.getElem?_map, List.getElem?_eq_getElem hk]
      rfl
  have HEND : Hid (L.take n = L) := by
    show _ = _
    rw [hn, List.take_length]
  rw [← hn] at h1 h12 hml ⊢
  have HLV : Hid ((WM.vsL L).length = n) := by
    show _ = _
    rw [WM.vsL_len, hn]
  have HLD : Hid ((WM.dsL L).length = n) := by
    show _ = _
    rw [WM.dsL_len, hn]
  have hw0 : ∃ w0, w0 = w.alloc (.cells #[.slice a n cap, .slice a2 n cap2, tv] 83) ∧ Below w.heap.size w w0 ∧ w0.cell? ⟨w.heap.size, 0, none⟩ = some (.slice a n cap) ∧ w0.cell? ⟨w.heap.size, 1, none⟩ = some (.slice a2 n cap2) ∧ w.heap.size < w0.heap.size := ⟨_, rfl, (Below.refl _ _).alloc (Nat.le_refl _) _, by unfold World.cell?; rw [heap_alloc_new]; rfl, by unfold World.cell?; rw [heap_alloc_new]; rfl, by simp⟩
  obtain ⟨LS, hLS⟩ : ∃ LS : Nat → List (Nat × Int), LS = fun k => L.take k := ⟨_, rfl⟩
  have HS0 : Hid (WM.sum D (LS 0) v = 4611686018427387906) := by
    show _ = _
    rw [hLS]
    rfl
  have HSN : Hid (WM.sum D (LS n) v = WM.sum D L v) := by
    show _ = _
    rw [hLS]
    show WM.sum D (L.take n) v = _
    rw [HEND.out]
  have HST2 : Hid (∀ k : Nat, k < n → ∃ (u : Nat) (d : Int), (WM.vsL L)[k]?.getD 0 = (u : Int) ∧ (WM.dsL L)[k]?.getD 0 = d ∧ WM.sum D (LS (k + 1)) v = WM.low (WM.sum D (LS k) v) (DM.two d (D u v))) := by
    rw [hLS]
    exact HST.out
  clear hat hat2 hg hm hn HST HEND hLS
  generalize WM.sum D L v = SL at *
  generalize hSS : (fun k => WM.sum D (LS k) v) = SS at *
  have HSS : Hid (∀ k, WM.sum D (LS k) v = SS k) := fun k => by rw [← hSS]
  clear hSS
  go_enter Try.func60, Try.ntmps60
  go_wp2_with fail
  obtain ⟨w0, hw0, hb0, c00, c01, hs0⟩ := hw0
  rw [← hw0]
  clear hw0
  generalize hbb : w.heap.size = b0 at *
  have HBB : Hid (w.heap.size = b0) := hbb
  have HB0 : Hid (Below b0 w w0) := hb0
  have HC0 : Hid (∀ W, Below w0.heap.size w0 W → W.cell? ⟨b0, 0, none⟩ = some (.slice a n cap)) := fun W hW => by rw [hW.cell (p := ⟨b0, 0, none⟩) hs0]; exact c00
  have HC1 : Hid (∀ W, Below w0.heap.size w0 W → W.cell? ⟨b0, 1, none⟩ = some (.slice a2 n cap2)) := fun W hW => by rw [hW.cell (p := ⟨b0, 1, none⟩) hs0]; exact c01
  have HS0L : Hid (b0 < w0.heap.size) := hs0
  clear hbb hb0 c00 c01 hs0
  go_loopw [7, 8] (fun lv iv wr => ∃ k : Nat, k ≤ n ∧ iv = .int .i64 k ∧ lv = .int .i64 (SS k) ∧ Below w0.heap.size w0 wr) (fun _ iv _ => n - (intOf iv).toNat)
  case atStart => exact ⟨0, Nat.zero_le _, rfl, by rw [← HSS.out, HS0.out], Below.refl _ _⟩
  case round =>
    obtain ⟨k, hk, rfl, rfl, hB⟩ := hrel
    have HB2 : Hid (Below w0.heap.size w0 wr) := hB
    have HBb : Hid (Below b0 w wr) := below_on' HB0.out hB HS0L.out
    have HBw : Hid (Below w.heap.size w wr) := by
      rw [HBB.out]
      exact HBb.out
    have d0 := HC0.out wr hB
    have d1 := HC1.out wr hB
    by_cases hlt : k < n
    · obtain ⟨b, o, rfl, hc⟩ := (HA.out.below HBw.out).2.2.2 (by rw [HLV.out]; omega)
      obtain ⟨b2, o2, rfl, hc2⟩ := (HB.out.below HBw.out).2.2.2 (by rw [HLD.out]; omega)
      have hck := hc k (by rw [HLV.out]; exact hlt)
      have hck2 := hc2 k (by rw [HLD.out]; exact hlt)
      obtain ⟨u, d, e1, e2, e3⟩ := HST2.out k hlt
      rw [e1] at hck
      rw [e2] at hck2
      rw [HSS.out, HSS.out] at e3
      have HE : Hid (SS (k + 1) = WM.low (SS k) (DM.two d (D u v))) := e3
      have hi0 : (0 : Int) ≤ (k : Int) := by omega
      have hi1 : (k : Int) < (n : Int) := by omega
      clear hc hc2 e1 e2 e3 HST2 hB
      have HATD : Hid (∀ q, Calls Try.prog 28 #[.pointer (some ⟨p, 0, none⟩), .int .i64 u, .int .i64 v] (wr.drewN q) fun e w' => e = .returned (.int .i64 (D u v)) ∧ w' = wr.drewN q) := fun q => HAT.out (wr.drewN q) (below_drewN HBb.out q) u v
      go_wp2_with fail
      go_quiet ((first
        | (go_at_call 42; exact Calls.quiet_of_same (two_any _ _ _))
        | (go_at_call 28; exact Calls.quiet_of_same (HATD.out _))))
      have HW : Hid (Below w0.heap.size w0 (wr.drewN nq)) := below_drewN HB2.out nq
      clear d0 d1
      generalize wr.drewN nq = wq at *
      have HL : Hid (WM.low (SS k) (DM.two d (D u v)) = if DM.two d (D u v) < SS k then DM.two d (D u v) else SS k) := rfl
      generalize DM.two d (D u v) = x at *
      by_cases hx : x < SS k
      · have HE2 : Hid (SS (k + 1) = x) := by
          show _ = _
          rw [HE.out, HL.out, if_pos hx]
        go_wp2_with fail
        go_roundw
        case rel => exact ⟨k + 1, by omega, by go_num, by rw [HE2.out], HW.out⟩
        case measure => simp [intOf]; omega
      · have HE2 : Hid (SS (k + 1) = SS k) := by
          show _ = _
          rw [HE.out, HL.out, if_neg hx]
        go_wp2_with fail
        go_roundw
        case rel => exact ⟨k + 1, by omega, by go_num, by rw [HE2.out], HW.out⟩
        case measure => simp [intOf]; omega
    · obtain rfl : k = n := by omega
      have HE : Hid (SS k = SL) := (HSS.out k).symm.trans HSN.out
      clear hB
      go_wp2_with fail
      go_ret
      exact ⟨ret_int HE.out, by rw [HBB.out]; exact HBb.out⟩
end Go.Proofs.Ytkcfepppnclniaa
end

section
/-
  How layer 13's document finds what is settled next: one vertex behind the other; what it keeps in memory meanwhile.
-/
namespace Go.Proofs.Ytkcfepppnclniaa
open Go.RowKit
namespace WM
/-- Of the vertices below k, the one that would be settled next (-1: none), and how far it is. -/
structure Pick (N : Nat) (D : Nat → Nat → Int) (s : Nat) (W : Nat → Bool) (L : List (Nat × Int)) (k : Nat) (x d : Int) : Prop where
  hi : 0 ≤ d ∧ d ≤ 4611686018427387906
  le : ∀ w, w < k → Free N W L w → d ≤ key D s L w
  is : (x = -1 ∧ d = 4611686018427387906) ∨ ∃ v : Nat, x = v ∧ v < k ∧ Free N W L v ∧ key D s L v = d ∧ d < 4611686018427387906 ∧ ∀ w, w < k → Free N W L w → key D s L w = d → v ≤ w
section
variable {N : Nat} {D : Nat → Nat → Int} {s : Nat} {W : Nat → Bool} {L : List (Nat × Int)} {k : Nat} {x d : Int}
theorem Pick.zero (N : Nat) (D : Nat → Nat → Int) (s : Nat) (W : Nat → Bool) (L : List (Nat × Int)) : Pick N D s W L 0 (-1) 4611686018427387906 :=
  ⟨by decide, fun w h => absurd h (by omega), .inl ⟨rfl, rfl⟩⟩
theorem Pick.skip (h : Pick N D s W L k x d) (hf : ¬ Free N W L k) : Pick N D s W L (k + 1) x d := by
  refine ⟨h.hi, fun w hw hfw => ?_, ?_⟩
  · by_cases e : w = k
    · rw [e] at hfw; exact absurd hfw hf
    · exact h.le w (by omega) hfw
  · rcases h.is with e | ⟨v, h1, h2, h3, h4, h5, h6⟩
    · exact .inl e
    · refine .inr ⟨v, h1, by omega, h3, h4, h5, fun w hw hfw he => ?_⟩
      by_cases e : w = k
      · rw [e] at hfw; exact absurd hfw hf
      · exact h6 w (by omega) hfw he
theorem Pick.take (h : Pick N D s W L k x d) (hf : Free N W L k) (hl : key D s L k < d) : Pick N D s W L (k + 1) (k : Nat) (key D s L k) := by
  have hb := key_bd D s L k
  have hh := h.hi
  refine ⟨hb, fun w hw hfw => ?_, .inr ⟨k, rfl, by omega, hf, rfl, by omega, fun w hw hfw he => ?_⟩⟩
  · by_cases e : w = k
    · rw [e]; exact Int.le_refl _
    · have := h.le w (by omega) hfw
      omega
  · by_cases e : w = k
    · omega
    · have := h.le w (by omega) hfw
      omega
theorem Pick.pass (h : Pick N D s W L k x d) (hl : ¬ key D s L k < d) : Pick N D s W L (k + 1) x d := by
  refine ⟨h.hi, fun w hw hfw => ?_, ?_⟩
  · by_cases e : w = k
    · rw [e]; omega
    · exact h.le w (by omega) hfw
  · rcases h.is with e | ⟨v, h1, h2, h3, h4, h5, h6⟩
    · exact .inl e
    · refine .inr ⟨v, h1, by omega, h3, h4, h5, fun w hw hfw he => ?_⟩
      by_cases e : w = k
      · omega
      · exact h6 w (by omega) hfw he
theorem Pick.none (h : Pick N D s W L N x d) (hx : x < 0) (X : Int) : Stuck N D s W X L := by
  intro v e hn
  have h1 := hn.lt
  have h2 := h.le v hn.free.1 hn.free
  rw [hn.is] at h2
  rcases h.is with ⟨-, e1⟩ | ⟨v, h1, -⟩
  · omega
  · omega
theorem Pick.next (h : Pick N D s W L N x d) (hx : ¬ x < 0) : ∃ v : Nat, x = v ∧ v < N ∧ Next N D s W L v d := by
  rcases h.is with ⟨e1, -⟩ | ⟨v, h1, h2, h3, h4, h5, h6⟩
  · omega
  · exact ⟨v, h1, h2, h3, h4, h5, fun w hw => h.le w hw.1 hw, fun w hw => h6 w hw.1 hw⟩
theorem Pick.far (h : Pick N D s W L N x d) (hx : ¬ x < 0) {X : Int} (hd : X < d) : Stuck N D s W X L := by
  obtain ⟨v, -, -, hn⟩ := h.next hx
  intro u e hu
  obtain ⟨-, rfl⟩ := hn.one hu
  omega
/-- Is it free: as the document asks it. -/
theorem free_iff (hk : k < N) : Free N W L k ↔ has L k = false ∧ W k = false := ⟨fun h => ⟨h.2.2, h.2.1⟩, fun h => ⟨hk, h.2, h.1⟩⟩
end
end WM
/-- 'append' onto a row of the call's own, with where the new one lies. -/
theorem wpList_append_at {P : Program} (w : World) {ops : Array Oper} {rest : List Oper} {o : Oper} {a : Act} {Q : Exit → Act → World → Prop} (hgd : o.guard = none) (s x : Operand) (t : TypeId)
    (ho : o.op = .call { callee := .builtin .append, args := #[s, x], argTypes := #[t, t] })
    (k : IntKind) (base : Nat) (e : TypeId) (i : TypeInfo) (bytes : Nat) (ht : P.underlying t = some (.slice e)) (hi : P.info? e = some i) (hz : i.zero = some (.int k 0)) (hsize : i.size = 1) (hby : i.bytes = bytes)
    (v : Value) (xs : List Int) (hs : a.eval s = v) (hown : Own k e w base v xs) (ad : Addr) (y : Int) (c : Nat) (hx : a.eval x = .slice (some ad) 1 c) (hc : w.cell? ad = some (.int k y))
    (h63 : xs.length + 1 ≤ maxLen) (hbytes : (xs.length + 1) * bytes ≤ 140737488355328) (hbase : base ≤ w.heap.size)
    (h : ∀ v' w', Own k e w' base v' (xs ++ [y]) → w.grownBy w' v.ownBlock → (v'.ownBlock = v.ownBlock ∨ v'.ownBlock = some w.heap.size) → wpList P ops Q rest (a.put o.dst v') w') : wpList P ops Q (o :: rest) a w := by
  refine wpList_plain hgd fun K hK => ?_
  obtain ⟨v', w', hrun, r1, r2, _, r3⟩ := run_append_own_at (P := P) w base t o.type e i (.int k 0) 1 bytes ht hi hz hsize hby rfl (by decide) v xs.length (xs.map (Value.int k)) hown ad 1 c [.int k y] (by simp) (fun j u hj => by
    match j, hj with
    | 0, hj =>
      simp at hj
      subst hj
      simpa [Addr.add] using hc) (fun u hu => by simp at hu; subst hu; rfl) h63 hbytes hbase
  unfold Oper.wp
  simp [execOp, ho, resolve, invoke, builtin, hs, hx, hrun, Result.andThen]
  refine hK _ _ (h v' w' ?_ r2 r3)
  unfold Own
  rw [List.length_append, List.map_append]
  exact r1
end Go.Proofs.Ytkcfepppnclniaa
end
