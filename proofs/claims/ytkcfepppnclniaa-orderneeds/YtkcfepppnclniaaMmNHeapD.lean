/-
  NHeapD, StampMath.
-/
import Derived.Test.YtkcfepppnclniaaMmNHeapBI
import Derived.Test.YtkcfepppnclniaaMmMem
section
/-
  The walks of package heap's sink and Pop, where priorities are numbers.
-/
namespace Go.Proofs.Ytkcfepppnclniaa
namespace HI
open Go.RowKit

set_option maxHeartbeats 2000000 in
theorem sink_any {w : World} {B p bp bc : Nat} {lv : Value} {line : List Nat} {place : List Int} {come : List Int} (h : HMem (Value.int .i64) 3 w B p bp bc lv line place come) {n i : Nat} {m : Nat → Option Int} (hr : HM.RepDn HM.TI 0 n i m line place come) (hmax : line.length ≤ 1000) (hi : i ≤ line.length) :
    Calls Try.prog 67 #[.pointer (some ⟨p, 0, none⟩), .int .i64 i] w fun e w' => e = .returned (.tuple #[]) ∧ ∃ line' place', HMem (Value.int .i64) 3 w' B p bp bc lv line' place' come ∧ HM.Rep HM.TI 0 n m line' place' come ∧ line'.length = line.length ∧ Keeps (foot p bp bc lv) w w' := by
  obtain ⟨ao, cap, hlv⟩ : ∃ ao cap, lv = .slice ao line.length cap := by
    rcases h.lineAt with ⟨rfl, rfl⟩ | ⟨g, cap, rfl, _⟩
    · exact ⟨_, _, rfl⟩
    · exact ⟨_, _, rfl⟩
  have HLV : Hid (lv = .slice ao line.length cap) := hlv
  clear hlv
  go_enter Try.func67, Try.ntmps67
  go_wp2_with fail
  go_loopw [1] (fun iv wr => ∃ (i : Nat) (line' : List Nat) (place' : List Int), iv = .int .i64 (i : Nat) ∧ i ≤ line.length ∧ HMem (Value.int .i64) 3 wr B p bp bc lv line' place' come ∧ HM.RepDn HM.TI 0 n i m line' place' come ∧ line'.length = line.length ∧ Keeps (foot p bp bc lv) w wr) (fun iv _ => line.length - (intOf iv).toNat)
  case atStart => exact ⟨i, line, place, rfl, hi, h, hr, rfl, Keeps.refl _ _⟩
  case round =>
    clear h hr hi
    obtain ⟨k, line', place', rfl, hkl, h', hr', hl', hk'⟩ := hrel
    have H : Hid (HMem (Value.int .i64) 3 wr B p bp bc lv line' place' come) := h'
    have HR : Hid (HM.RepDn HM.TI 0 n k m line' place' come) := hr'
    have HK : Hid (Keeps (foot p bp bc lv) w wr) := hk'
    have HL : Hid (line'.length = line.length) := hl'
    have c0 := h'.c0
    rw [HLV.out] at c0
    have hwf := hr'.1
    have hlc : come.length = n := hr'.2.1
    have hin : ∀ j, j < line'.length → HM.at0 line' j < come.length := fun j hj => by rw [hlc]; exact (hwf.2.1 j hj).1
    clear hr' hk'
    by_cases h1 : 2 * k + 1 < line'.length
    · by_cases h2 : 2 * k + 2 < line'.length
      · -- two below it
        have hc1 := ahead_any h' (2 * k + 1 + 1) (2 * k + 1) h2 h1 (hin _ h2) (hin _ h1)
        have hc2 := fun q => ahead_any (h'.drewN q) (2 * k + 1 + 1) k h2 (by omega) (hin _ h2) (hin _ (by omega))
        have hc3 := fun q => ahead_any (h'.drewN q) (2 * k + 1) k h1 (by omega) (hin _ h1) (hin _ (by omega))
        have hs2 := fun q => swap_any (h'.drewN q) hwf k (2 * k + 1 + 1) (by omega) h2
        have hs1 := fun q => swap_any (h'.drewN q) hwf k (2 * k + 1) (by omega) h1
        rw [show ((2 * k + 1 + 1 : Nat) : Int) = 2 * (k : Int) + 1 + 1 by omega, show ((2 * k + 1 : Nat) : Int) = 2 * (k : Int) + 1 by omega] at hc1
        simp only [show ((2 * k + 1 + 1 : Nat) : Int) = 2 * (k : Int) + 1 + 1 by omega] at hc2 hs2
        simp only [show ((2 * k + 1 : Nat) : Int) = 2 * (k : Int) + 1 by omega] at hc3 hs1
        have HC2 : Hid (∀ q, Calls Try.prog 72 #[.pointer (some ⟨p, 0, none⟩), .int .i64 (2 * (k : Int) + 1 + 1), .int .i64 k] (wr.drewN q) fun e w' => (∃ b, e = .returned (.bool b) ∧ (b = true ↔ HM.R HM.TI (HM.cat 0 come) (HM.at0 line' (2 * k + 1 + 1)) (HM.at0 line' k))) ∧ ∃ q', w' = (wr.drewN q).drewN q') := hc2
        have HC3 : Hid (∀ q, Calls Try.prog 72 #[.pointer (some ⟨p, 0, none⟩), .int .i64 (2 * (k : Int) + 1), .int .i64 k] (wr.drewN q) fun e w' => (∃ b, e = .returned (.bool b) ∧ (b = true ↔ HM.R HM.TI (HM.cat 0 come) (HM.at0 line' (2 * k + 1)) (HM.at0 line' k))) ∧ ∃ q', w' = (wr.drewN q).drewN q') := hc3
        have HS2 : Hid (∀ q, Calls Try.prog 66 #[.pointer (some ⟨p, 0, none⟩), .int .i64 k, .int .i64 (2 * (k : Int) + 1 + 1)] (wr.drewN q) fun e w' => e = .returned (.tuple #[]) ∧ HMem (Value.int .i64) 3 w' B p bp bc lv (HM.swl line' k (2 * k + 1 + 1)) (HM.swp line' place' k (2 * k + 1 + 1)) come ∧ Keeps (foot p bp bc lv) (wr.drewN q) w') := hs2
        have HS1 : Hid (∀ q, Calls Try.prog 66 #[.pointer (some ⟨p, 0, none⟩), .int .i64 k, .int .i64 (2 * (k : Int) + 1)] (wr.drewN q) fun e w' => e = .returned (.tuple #[]) ∧ HMem (Value.int .i64) 3 w' B p bp bc lv (HM.swl line' k (2 * k + 1)) (HM.swp line' place' k (2 * k + 1)) come ∧ Keeps (foot p bp bc lv) (wr.drewN q) w') := hs1
        rw [hl'] at h1 h2
        have h1' : 2 * (k : Int) + 1 < (line.length : Int) := by omega
        have h2' : 2 * (k : Int) + 1 + 1 < (line.length : Int) := by omega
        clear h' hwf hin hl' hc2 hc3 hs1 hs2
        go_wp2_with fail
        refine hc1.mono ?_
        rintro e1 w1 ⟨⟨b, rfl, hbi⟩, q1, rfl⟩
        have HB : Hid (b = true ↔ HM.R HM.TI (HM.cat 0 come) (HM.at0 line' (2 * k + 1 + 1)) (HM.at0 line' (2 * k + 1))) := hbi
        clear hbi hc1
        cases b with
        | true =>
          -- the second one
          go_wp2_with fail
          refine (HC2.out q1).mono ?_
          rintro e2 w2 ⟨⟨b, rfl, hbi⟩, q2, rfl⟩
          have HB2 : Hid (b = true ↔ HM.R HM.TI (HM.cat 0 come) (HM.at0 line' (2 * k + 1 + 1)) (HM.at0 line' k)) := hbi
          clear hbi
          cases b with
          | false =>
            go_wp2_with fail
            (try simp only [Exit.inBlock, Exit.then]); refine bodyPost_ret (results_none rfl _ _ _) rfl ?_
            refine ⟨rfl, line', place', H.out.drewN _, HR.out.done ?_, HL.out, HK.out.drewN⟩
            have n2 : ¬ HM.R HM.TI (HM.cat 0 come) (HM.at0 line' (2 * k + 1 + 1)) (HM.at0 line' k) := fun h => by have := HB2.out.2 h; cases this
            have n1 : HM.R HM.TI (HM.cat 0 come) (HM.at0 line' (2 * k + 1 + 1)) (HM.at0 line' (2 * k + 1)) := HB.out.1 (by trivial)
            rintro x (rfl | rfl) hx
            · exact HM.R.le_tr n2 n1.as
            · exact n2
          | true =>
            have hs := HS2.out (q1 + q2)
            go_wp2_with fail
            refine hs.mono ?_
            rintro e3 w3 ⟨rfl, h3, k3⟩
            have H3 : Hid (HMem (Value.int .i64) 3 w3 B p bp bc lv (HM.swl line' k (2 * k + 1 + 1)) (HM.swp line' place' k (2 * k + 1 + 1)) come) := h3
            have K3 : Hid (Keeps (foot p bp bc lv) (wr.drewN (q1 + q2)) w3) := k3
            clear h3 k3 hs
            go_wp2_with fail
            go_roundw
            case rel =>
              have n1 : HM.R HM.TI (HM.cat 0 come) (HM.at0 line' (2 * k + 1 + 1)) (HM.at0 line' (2 * k + 1)) := HB.out.1 (by trivial)
              have n2 : HM.R HM.TI (HM.cat 0 come) (HM.at0 line' (2 * k + 1 + 1)) (HM.at0 line' k) := HB2.out.1 (by trivial)
              have hll := HL.out
              have hst := HR.out.step (b := 2 * k + 1 + 1) (.inr rfl) (by omega) n2 (by
                rintro x (rfl | rfl) hx
                · exact n1.as
                · exact HM.R.irr)
              exact ⟨2 * k + 1 + 1, _, _, by go_num, by omega, H3.out, hst, by rw [HM.swl_len]; exact hll, HK.out.drewN.trans K3.out (fun x hx => .inl hx)⟩
            case measure => simp [intOf]; omega
        | false =>
          -- the first one
          go_wp2_with fail
          refine (HC3.out q1).mono ?_
          rintro e2 w2 ⟨⟨b, rfl, hbi⟩, q2, rfl⟩
          have HB2 : Hid (b = true ↔ HM.R HM.TI (HM.cat 0 come) (HM.at0 line' (2 * k + 1)) (HM.at0 line' k)) := hbi
          clear hbi
          cases b with
          | false =>
            go_wp2_with fail
            (try simp only [Exit.inBlock, Exit.then]); refine bodyPost_ret (results_none rfl _ _ _) rfl ?_
            refine ⟨rfl, line', place', H.out.drewN _, HR.out.done ?_, HL.out, HK.out.drewN⟩
            have n2 : ¬ HM.R HM.TI (HM.cat 0 come) (HM.at0 line' (2 * k + 1)) (HM.at0 line' k) := fun h => by have := HB2.out.2 h; cases this
            have n1 : ¬ HM.R HM.TI (HM.cat 0 come) (HM.at0 line' (2 * k + 1 + 1)) (HM.at0 line' (2 * k + 1)) := fun h => by have := HB.out.2 h; cases this
            rintro x (rfl | rfl) hx
            · exact n2
            · exact HM.R.le_tr n2 n1
          | true =>
            have hs := HS1.out (q1 + q2)
            go_wp2_with fail
            refine hs.mono ?_
            rintro e3 w3 ⟨rfl, h3, k3⟩
            have H3 : Hid (HMem (Value.int .i64) 3 w3 B p bp bc lv (HM.swl line' k (2 * k + 1)) (HM.swp line' place' k (2 * k + 1)) come) := h3
            have K3 : Hid (Keeps (foot p bp bc lv) (wr.drewN (q1 + q2)) w3) := k3
            clear h3 k3 hs
            go_wp2_with fail
            go_roundw
            case rel =>
              have n1 : ¬ HM.R HM.TI (HM.cat 0 come) (HM.at0 line' (2 * k + 1 + 1)) (HM.at0 line' (2 * k + 1)) := fun h => by have := HB.out.2 h; cases this
              have n2 : HM.R HM.TI (HM.cat 0 come) (HM.at0 line' (2 * k + 1)) (HM.at0 line' k) := HB2.out.1 (by trivial)
              have hll := HL.out
              have hst := HR.out.step (b := 2 * k + 1) (.inl rfl) (by omega) n2 (by
                rintro x (rfl | rfl) hx
                · exact HM.R.irr
                · exact n1)
              exact ⟨2 * k + 1, _, _, by go_num, by omega, H3.out, hst, by rw [HM.swl_len]; exact hll, HK.out.drewN.trans K3.out (fun x hx => .inl hx)⟩
            case measure => simp [intOf]; omega
      · -- one below it
        have hc3 := ahead_any h' (2 * k + 1) k h1 (by omega) (hin _ h1) (hin _ (by omega))
        have hs1 := fun q => swap_any (h'.drewN q) hwf k (2 * k + 1) (by omega) h1
        rw [show ((2 * k + 1 : Nat) : Int) = 2 * (k : Int) + 1 by omega] at hc3
        simp only [show ((2 * k + 1 : Nat) : Int) = 2 * (k : Int) + 1 by omega] at hs1
        have HS1 : Hid (∀ q, Calls Try.prog 66 #[.pointer (some ⟨p, 0, none⟩), .int .i64 k, .int .i64 (2 * (k : Int) + 1)] (wr.drewN q) fun e w' => e = .returned (.tuple #[]) ∧ HMem (Value.int .i64) 3 w' B p bp bc lv (HM.swl line' k (2 * k + 1)) (HM.swp line' place' k (2 * k + 1)) come ∧ Keeps (foot p bp bc lv) (wr.drewN q) w') := hs1
        rw [hl'] at h1 h2
        have h1' : 2 * (k : Int) + 1 < (line.length : Int) := by omega
        have h2' : ¬ 2 * (k : Int) + 1 + 1 < (line.length : Int) := by omega
        have HN : Hid (¬ 2 * k + 2 < line.length) := h2
        clear h' hwf hin hl' hs1 h2
        go_wp2_with fail
        refine hc3.mono ?_
        rintro e2 w2 ⟨⟨b, rfl, hbi⟩, q1, rfl⟩
        have HB2 : Hid (b = true ↔ HM.R HM.TI (HM.cat 0 come) (HM.at0 line' (2 * k + 1)) (HM.at0 line' k)) := hbi
        clear hbi hc3
        cases b with
        | false =>
          go_wp2_with fail
          (try simp only [Exit.inBlock, Exit.then]); refine bodyPost_ret (results_none rfl _ _ _) rfl ?_
          refine ⟨rfl, line', place', H.out.drewN _, HR.out.done ?_, HL.out, HK.out.drewN⟩
          have n2 : ¬ HM.R HM.TI (HM.cat 0 come) (HM.at0 line' (2 * k + 1)) (HM.at0 line' k) := fun h => by have := HB2.out.2 h; cases this
          have hll := HL.out
          rintro x (rfl | rfl) hx
          · exact n2
          · exact absurd hx (by rw [hll]; exact HN.out)
        | true =>
          have hs := HS1.out q1
          go_wp2_with fail
          refine hs.mono ?_
          rintro e3 w3 ⟨rfl, h3, k3⟩
          have H3 : Hid (HMem (Value.int .i64) 3 w3 B p bp bc lv (HM.swl line' k (2 * k + 1)) (HM.swp line' place' k (2 * k + 1)) come) := h3
          have K3 : Hid (Keeps (foot p bp bc lv) (wr.drewN q1) w3) := k3
          clear h3 k3 hs
          go_wp2_with fail
          go_roundw
          case rel =>
            have n2 : HM.R HM.TI (HM.cat 0 come) (HM.at0 line' (2 * k + 1)) (HM.at0 line' k) := HB2.out.1 (by trivial)
            have hll := HL.out
            have hst := HR.out.step (b := 2 * k + 1) (.inl rfl) (by omega) n2 (by
              rintro x (rfl | rfl) hx
              · exact HM.R.irr
              · exact absurd hx (by rw [hll]; exact HN.out))
            exact ⟨2 * k + 1, _, _, by go_num, by omega, H3.out, hst, by rw [HM.swl_len]; exact hll, HK.out.drewN.trans K3.out (fun x hx => .inl hx)⟩
          case measure => simp [intOf]; omega
    · -- none below it
      have HN : Hid (¬ 2 * k + 1 < line'.length) := h1
      have h1' : ¬ 2 * (k : Int) + 1 < (line.length : Int) := by omega
      clear h' hwf hin hl' h1
      go_wp2_with fail
      (try simp only [Exit.inBlock, Exit.then]); refine bodyPost_ret (results_none rfl _ _ _) rfl ?_
      refine ⟨rfl, line', place', H.out, HR.out.done ?_, HL.out, HK.out⟩
      have hnn := HN.out
      rintro x (rfl | rfl) hx
      · exact absurd hx hnn
      · exact absurd hx (by omega)

set_option maxHeartbeats 2000000 in
theorem pop_any {w : World} {B p bp bc : Nat} {lv : Value} {line : List Nat} {place : List Int} {come : List Int} (h : HMem (Value.int .i64) 3 w B p bp bc lv line place come) {n : Nat} {m : Nat → Option Int} (hr : HM.Rep HM.TI 0 n m line place come) (hn : n ≤ 64) :
    Calls Try.prog 53 #[.pointer (some ⟨p, 0, none⟩)] w fun e w' => e = .returned (peekT (Value.int .i64) 0 (HM.firstOf HM.TI m)) ∧
      ∃ lv' line' place' come', HMem (Value.int .i64) 3 w' B p bp bc lv' line' place' come' ∧ HM.Rep HM.TI 0 n (HM.popped HM.TI m) line' place' come' ∧ Keeps (foot p bp bc lv) w w' ∧ (∀ b, foot p bp bc lv' b → foot p bp bc lv b) := by
  have hp := peek_first h hr
  have H0 : Hid (HMem (Value.int .i64) 3 w B p bp bc lv line place come) := h
  have HR0 : Hid (HM.Rep HM.TI 0 n m line place come) := hr
  unfold HM.popped
  by_cases h0 : line.length = 0
  · rw [HM.firstOf_none (hr.empty h0)] at hp ⊢
    simp only [peekT] at hp ⊢
    clear h hr h0
    go_enter Try.func53, Try.ntmps53
    go_wp2_with fail
    refine hp.mono ?_
    rintro e w1 ⟨rfl, hb1⟩
    go_wp2_with fail
    go_ret3
    exact ⟨rfl, lv, line, place, come, H0.out.below hb1, HR0.out, Below.keeps hb1 _, fun b hb => hb⟩
  · obtain ⟨k, hk⟩ : ∃ k, line.length = k + 1 := ⟨line.length - 1, by omega⟩
    rw [HM.firstOf_eq (hr.first (by omega))] at hp ⊢
    simp only [peekT] at hp ⊢
    rcases h.lineAt with ⟨rfl, rfl⟩ | ⟨g, cap, rfl, hcap, hmx⟩
    · simp at hk
    have hpl : place.length = n := hr.1.1
    have hcl : come.length = n := hr.2.1
    have hle := hr.le
    have HD : Hid (HM.RepDn HM.TI 0 n 0 (HM.upd m (HM.at0 line 0) none) ((HM.swl line 0 k).take k) ((HM.swp line place 0 k).set (HM.at0 line 0) (-1)) (come.set (HM.at0 line 0) 0)) := hr.pop (z := 0) hk
    have hfn : HM.at0 line 0 < n := (hr.1.2.1 0 (by omega)).1
    have hwf := hr.1
    have HW : Hid (HM.Wf n line place) := hwf
    have hcap' : cap ≤ 9223372036854775807 := by unfold maxLen at hmx; omega
    have HLN : Hid (line.length = k + 1) := hk
    generalize HM.cat 0 come (HM.at0 line 0) = x at hp ⊢
    generalize HM.at0 line 0 = f at *
    clear h hr h0 hwf
    rw [hk] at hcap
    go_enter Try.func53, Try.ntmps53
    go_wp2_with fail
    refine hp.mono ?_
    rintro e w1 ⟨rfl, hb1⟩
    have h1 := H0.out.below hb1
    have HB1 : Hid (Below w.heap.size w w1) := hb1
    have c0 := h1.c0
    rw [hk] at c0
    have hs := swap_any h1 HW.out 0 k (by omega) (by omega)
    have hsl := HM.swl_len line 0 k
    have hsp := HM.swp_len line place 0 k
    clear h1 hb1 hp
    go_wp2_with fail
    refine hs.mono ?_
    rintro e w2 ⟨rfl, h2, k2⟩
    have H2 : Hid (HMem (Value.int .i64) 3 w2 B p bp bc (.slice (some ⟨g, 0, none⟩) line.length cap) (HM.swl line 0 k) (HM.swp line place 0 k) come) := h2
    have K2 : Hid (Keeps (foot p bp bc (.slice (some ⟨g, 0, none⟩) line.length cap)) w1 w2) := k2
    have hlt : (w2.ownsRow B 3 1 (.slice (some ⟨g, 0, none⟩) k cap) ((HM.swl line 0 k).take k).length (((HM.swl line 0 k).take k).map natV)) := by
      have hlen : ((HM.swl line 0 k).take k).length = k := by rw [List.length_take]; omega
      rw [hlen]
      have := h2.ln
      rw [hk, hsl, hk] at this
      rcases this.2 with ⟨e, _⟩ | ⟨g', cap', cur, e, a1, a2, a3, a4, a5, a6⟩
      · cases e
      · injection e with e1 e2 e3
        injection e1 with e1
        injection e1 with e1
        subst e1 e3
        refine ⟨by rw [List.length_map, hlen, Nat.mul_one], .inr ⟨g, cap, cur, rfl, a1, a2, by omega, a4, a5, ?_⟩⟩
        rw [List.map_take, ← a6, List.take_take]
        congr 1
        omega
    have h3 := h2.setHead hlt (fun b hb => h2.n4 b hb)
    have h4 := h3.setPlace f (-1)
    have c0 := h2.c0
    have fz := h2.fz
    rw [hk] at c0
    obtain ⟨capc1, c1, _⟩ := h3.c1
    obtain ⟨p1, f1⟩ := h3.placeCell (i := f) (by omega)
    rw [hsp, hpl] at c1
    generalize HM.pat (HM.swp line place 0 k) f = y at p1
    have fn : (f : Int) < (n : Int) := by omega
    have H4 : Hid (HMem (Value.int .i64) 3 ((w2.setCell ⟨p, 0, none⟩ (.slice (some ⟨g, 0, none⟩) k cap)).setCell ⟨bp, f, none⟩ (.int .i64 (-1))) B p bp bc (.slice (some ⟨g, 0, none⟩) k cap) ((HM.swl line 0 k).take k) ((HM.swp line place 0 k).set f (-1)) come) := h4
    have n1 := h2.n1
    have kcap : (k : Int) ≤ (cap : Int) := by omega
    clear h2 k2 hlt h3 h4 hs
    go_wp2_with fail
    have K4 : Hid (Keeps (foot p bp bc (.slice (some ⟨g, 0, none⟩) line.length cap)) w ((w2.setCell ⟨p, 0, none⟩ (.slice (some ⟨g, 0, none⟩) k cap)).setCell ⟨bp, f, none⟩ (.int .i64 (-1)))) :=
      (((Below.keeps HB1.out _).trans K2.out (fun x hx => .inl hx)).setCell (p := ⟨p, 0, none⟩) (.inl (.inl rfl)) _).setCell (p := ⟨bp, f, none⟩) (.inl (.inr (.inl rfl))) _
    generalize (w2.setCell ⟨p, 0, none⟩ (.slice (some ⟨g, 0, none⟩) k cap)).setCell ⟨bp, f, none⟩ (.int .i64 (-1)) = w4 at *
    clear c0 fz c1 p1 f1
    have h4 := H4.out
    obtain ⟨capc2, c2, _⟩ := h4.c2
    obtain ⟨p2, f2⟩ := h4.comeCell 0 (i := f) (by omega)
    generalize HM.cat 0 come f = y at p2
    rw [hcl] at c2
    have b1 : p < w4.heap.size := (h4.lt p (.inl rfl)).2
    have b2 : bc < w4.heap.size := (h4.lt bc (.inr (.inr (.inl rfl)))).2
    have h5 : HMem (Value.int .i64) 3 ((w4.setCell ⟨bc, f, none⟩ (.int .i64 0)).alloc (.cells #[.int .i64 0] 3)) B p bp bc (.slice (some ⟨g, 0, none⟩) k cap) ((HM.swl line 0 k).take k) ((HM.swp line place 0 k).set f (-1)) (come.set f 0) := (h4.setCome f 0).below ((Below.refl _ _).alloc (Nat.le_refl _) _)
    have hsi := sink_any (n := n) (m := HM.upd m f none) h5.drew HD.out (by rw [List.length_take]; omega) (Nat.zero_le _)
    have K6 : Hid (Keeps (foot p bp bc (.slice (some ⟨g, 0, none⟩) line.length cap)) w (((w4.setCell ⟨bc, f, none⟩ (.int .i64 0)).alloc (.cells #[.int .i64 0] 3)).drew)) := ((K4.out.setCell (p := ⟨bc, f, none⟩) (.inl (.inr (.inr (.inl rfl)))) _).alloc _).drew
    clear h4 h5
    go_region
    go_wp2_with fail
    refine hsi.mono ?_
    rintro e w7 ⟨rfl, line', place', a1, a2, a3, a4⟩
    go_wp2_with fail
    go_ret3
    exact ⟨rfl, _, line', place', _, a1, a2, K6.out.trans a4 (fun x hx => .inl hx), fun b hb => hb⟩
end HI
end Go.Proofs.Ytkcfepppnclniaa
end

section
/-
  Rows that are emptied at once: what is at each place, as a map; stamps. Nothing of the program.
-/
namespace Go.Proofs.Ytkcfepppnclniaa
namespace SM

def at0 (l : List Nat) (i : Nat) : Nat := l[i]?.getD 0
theorem at0_set (l : List Nat) (i v k : Nat) (h : i < l.length) : at0 (l.set i v) k = if k = i then v else at0 l k := by
  unfold at0
  rw [List.getElem?_set]
  by_cases e : i = k
  · subst e; simp [h]
  · rw [if_neg e, if_neg (fun h => e h.symm)]
theorem at0_rep (n k : Nat) : at0 (List.replicate n 0) k = 0 := by
  unfold at0
  rw [List.getElem?_replicate]
  split <;> rfl
section
variable {α : Type}
def upd (m : Nat → Option α) (k : Nat) (v : Option α) (t : Nat) : Option α := if t = k then v else m t
/-- What is at a place, of any number. -/
def look (m : Nat → Option α) (t : Int) : Option α := if 0 ≤ t then m t.toNat else none
/-- At how many of the first n places something is. -/
def cnt (n : Nat) (m : Nat → Option α) : Nat := ((List.range n).filter (fun t => (m t).isSome)).length
theorem cnt_succ (k : Nat) (m : Nat → Option α) : cnt (k + 1) m = cnt k m + if (m k).isSome then 1 else 0 := by
  unfold cnt
  rw [List.range_succ, List.filter_append]
  by_cases h : (m k).isSome <;> simp [h]
theorem cnt_le (n : Nat) (m : Nat → Option α) : cnt n m ≤ n := by
  have := List.length_filter_le (fun t => (m t).isSome) (List.range n)
  unfold cnt
  simpa using this
theorem cnt_none (n : Nat) : cnt n (fun _ => (none : Option α)) = 0 := by simp [cnt]
theorem cnt_one {m : Nat → Option α} {i : Nat} (hi : ∀ t, (m t).isSome = true ↔ t = i) : ∀ n, cnt n m = if i < n then 1 else 0
  | 0 => by simp [cnt]
  | n + 1 => by
    rw [cnt_succ, cnt_one hi n]
    by_cases e : n = i
    · rw [if_neg (by omega), if_pos ((hi n).2 e), if_pos (by omega)]
    · have h : ¬ (m n).isSome = true := fun h => e ((hi n).1 h)
      rw [if_neg h]
      by_cases h2 : i < n
      · rw [if_pos h2, if_pos (by omega)]
      · rw [if_neg h2, if_neg (by omega)]
/-- What Set answers, and what it leaves. -/
def code (n : Nat) (t : Int) : Int := if 0 ≤ t ∧ t < (n : Int) then 0 else 1
def put (n : Nat) (m : Nat → Option α) (t : Int) (v : α) : Nat → Option α := if 0 ≤ t ∧ t < (n : Int) then upd m t.toNat (some v) else m

/-- The stamps st and the cells xs tell the map m; At: which thing lies at a place of the cells. -/
structure Rep (At : List Value → Nat → α → Prop) (n : Nat) (m : Nat → Option α) (xs : List Value) (st : List Nat) (now : Nat) : Prop where
  len : st.length = n
  lo : 1 ≤ now
  hi : now ≤ 255
  old : ∀ t, t < n → at0 st t ≤ now
  is : ∀ t, t < n → ∃ v, At xs t v ∧ m t = if at0 st t = now then some v else none
  out : ∀ t, n ≤ t → m t = none
variable {At : List Value → Nat → α → Prop} {n : Nat} {m : Nat → Option α} {xs xs' : List Value} {st : List Nat} {now : Nat}
theorem rep_new (n : Nat) {xs : List Value} (h : ∀ t, t < n → ∃ v, At xs t v) : Rep At n (fun _ => none) xs (List.replicate n 0) 1 where
  len := by simp
  lo := by decide
  hi := by decide
  old := fun t _ => by rw [at0_rep]; decide
  is := fun t ht => by
    obtain ⟨v, hv⟩ := h t ht
    exact ⟨v, hv, by rw [at0_rep, if_neg (by decide)]⟩
  out := fun _ _ => rfl
theorem Rep.put (h : Rep At n m xs st now) {k : Nat} (hk : k < n) {v : α} (h1 : At xs' k v) (h2 : ∀ t, t ≠ k → t < n → ∀ u, At xs t u → At xs' t u) : Rep At n (upd m k (some v)) xs' (st.set k now) now where
  len := by simpa using h.len
  lo := h.lo
  hi := h.hi
  old := fun t ht => by
    rw [at0_set _ _ _ _ (by rw [h.len]; exact hk)]
    split
    · exact Nat.le_refl _
    · exact h.old t ht
  is := fun t ht => by
    rw [at0_set _ _ _ _ (by rw [h.len]; exact hk)]
    unfold upd
    by_cases e : t = k
    · subst e
      exact ⟨v, h1, by simp⟩
    · obtain ⟨u, hu, hm⟩ := h.is t ht
      exact ⟨u, h2 t e ht u hu, by rw [if_neg e, if_neg e]; exact hm⟩
  out := fun t ht => by
    unfold upd
    rw [if_neg (by omega)]
    exact h.out t ht
theorem Rep.next (h : Rep At n m xs st now) (hn : now < 255) : Rep At n (fun _ => none) xs st (now + 1) where
  len := h.len
  lo := by omega
  hi := by omega
  old := fun t ht => by have := h.old t ht; omega
  is := fun t ht => by
    obtain ⟨u, hu, _⟩ := h.is t ht
    have := h.old t ht
    exact ⟨u, hu, by rw [if_neg (by omega)]⟩
  out := fun _ _ => rfl
theorem Rep.some (h : Rep At n m xs st now) {k : Nat} (hk : k < n) : (m k).isSome = decide (at0 st k = now) := by
  obtain ⟨v, _, hm⟩ := h.is k hk
  rw [hm]
  by_cases e : at0 st k = now <;> simp [e]
end
end SM
end Go.Proofs.Ytkcfepppnclniaa
end
