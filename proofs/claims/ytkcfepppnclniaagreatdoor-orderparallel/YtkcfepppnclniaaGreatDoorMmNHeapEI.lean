/-
  NHeapEI, NHeapD.
-/
import Derived.Test.YtkcfepppnclniaaGreatDoorMmNHeapCI
import Derived.Deep.RegionWith
import Derived.Deep.RegionHeld3
section
/-
  The walk of package heap's New, where priorities are of type int.
-/
namespace Go.Proofs.YtkcfepppnclniaaGreatDoor
namespace HI
open Go.RowKit

theorem infoC : (Tryz.prog.info? 3).map (fun i => (i.zero, i.size, i.bytes)) = some (some ((Value.int .i64) (0 : Int)), 1, 8) := by kernel_rfl

theorem new_mem {w : World} {B g c n : Nat} {st : TypeId} (h1 : w.ownsRow B 3 1 (.slice (some ⟨g, 0, none⟩) n n) n ((List.replicate n (-1 : Int)).map (Value.int .i64))) (h2 : w.ownsRow B 3 1 (.slice (some ⟨c, 0, none⟩) n n) n ((List.replicate n (0 : Int)).map (Value.int .i64))) (hgc : g ≠ c) (hB : B ≤ w.heap.size) {p : Nat} (hp : p = w.heap.size) :
    HMem (Value.int .i64) 3 (w.alloc (.cells #[.slice none 0 0, .slice (some ⟨g, 0, none⟩) n n, .slice (some ⟨c, 0, none⟩) n n] st)) B p g c (.slice none 0 0) [] (List.replicate n (-1)) (List.replicate n (0 : Int)) := by
  subst hp
  have l1 := (World.ownsRow.lt h1 g rfl).2
  have l2 := (World.ownsRow.lt h2 c rfl).2
  refine ⟨by simp, ⟨n, by simp, ?_⟩, ⟨n, by simp, ?_⟩, by simp, World.ownsRow_nil _ _ _ _, hB, by omega, by omega, hgc, fun g' h => by cases h⟩
  · rw [List.length_replicate]; exact h1.alloc _
  · rw [List.length_replicate]; exact h2.alloc _
theorem rep_new (n : Nat) : HM.Rep HM.TI (0 : Int) n (fun _ => none) [] (List.replicate n (-1)) (List.replicate n (0 : Int)) := by
  refine ⟨⟨by simp, fun i hi => by simp at hi, fun t ht => .inl ?_⟩, by simp, fun k _ hk => by simp at hk, fun t => ?_⟩
  · simp [HM.pat, ht]
  · by_cases ht : t < n
    · simp [HM.pat, ht]
    · rw [if_neg (by omega)]

theorem row_base {w : World} {B B' : Nat} {e : TypeId} {v : Value} {n : Nat} {xs : List Value} (h : w.ownsRow B e 1 v n xs) (hb : B' ≤ B) : w.ownsRow B' e 1 v n xs := by
  refine ⟨h.1, ?_⟩
  rcases h.2 with h' | ⟨g, cap, cur, hv, hg, r⟩
  · exact .inl h'
  · exact .inr ⟨g, cap, cur, hv, Nat.le_trans hb hg, r⟩
theorem made_row (w : World) (B n : Nat) (hB : B ≤ w.heap.size) (hn : n ≤ 64) : (w.alloc (.cells (madeCells #[(Value.int .i64) (0 : Int)] n) 3)).ownsRow B 3 1 (.slice (some ⟨w.heap.size, 0, none⟩) n n) n ((List.replicate n (0 : Int)).map (Value.int .i64)) := by
  have h := World.ownsRow_lit (base := B) (e := 3) (size := 1) w (madeCells #[(Value.int .i64) (0 : Int)] n) n hB (by unfold maxLen; omega) (by rw [size_madeCells]; omega)
  rw [toList_madeCells_one] at h
  simpa using h
theorem below_row {w w' : World} {B : Nat} {e : TypeId} {v : Value} {n : Nat} {xs : List Value} (h : w.ownsRow B e 1 v n xs) (hb : Below w.heap.size w w') : w'.ownsRow B e 1 v n xs := (Below.keeps hb (fun _ => False)).row h (fun _ _ h => h)

set_option maxHeartbeats 2000000 in
theorem new_bad (n : Int) (hn : n < 0 ∨ 64 < n) (w : World) :
    Calls Tryz.prog 98 #[.int .i64 n] w fun e w' => e = .returned (.tuple #[.pointer none, .int .i64 1]) ∧ w' = w := by
  by_cases h0 : n < 0
  · go_enter Tryz.func98, Tryz.ntmps98
    go_wp2_with fail
    go_ret2
    exact ⟨rfl, rfl⟩
  · have h1 : 64 < n := by omega
    clear hn
    go_enter Tryz.func98, Tryz.ntmps98
    go_wp2_with fail
    go_ret2
    exact ⟨rfl, rfl⟩

set_option maxHeartbeats 2000000 in
theorem new_any (n : Nat) (hn : n ≤ 64) (w : World) :
    Calls Tryz.prog 98 #[.int .i64 n] w fun e w' => ∃ p bp bc, e = .returned (.tuple #[.pointer (some ⟨p, 0, none⟩), .int .i64 0]) ∧
      HMem (Value.int .i64) 3 w' w.heap.size p bp bc (.slice none 0 0) [] (List.replicate n (-1)) (List.replicate n (0 : Int)) ∧ Below w.heap.size w w' := by
  have hmk := run_make_row' (P := Tryz.prog) 28 3 ((Value.int .i64) (0 : Int)) 8 Tryz.underlying28 infoC rfl .i64 .i64 n (by omega) (by omega)
  go_enter Tryz.func98, Tryz.ntmps98
  go_wp2_with fail
  go_region_with (go_at_call 108; refine (HN.repeat_any _ n hn _ (by simp)).mono ?_; rintro e w1 ⟨rfl, ho1, hb1⟩)
  all_goals (go_wp2_with fail; go_ret2)
  · have s1 := hb1.size
    have q1 : w1.ownsRow w.heap.size 3 1 (.slice (some ⟨w.heap.size + 1, 0, none⟩) n n) n ((List.replicate n (-1 : Int)).map (Value.int .i64)) := by
      have := row_base ho1 (B' := w.heap.size) (by simp)
      simpa using this
    have b1 : Below w.heap.size w w1 := ((Below.refl _ w).alloc (Nat.le_refl _) _).drew.trans (hb1.mono (B' := w.heap.size) (by simp))
    have s2 : w.heap.size + 1 < w1.heap.size := (World.ownsRow.lt q1 _ rfl).2
    refine ⟨_, w.heap.size + 1, w1.heap.size, rfl, new_mem (q1.alloc _) (made_row w1 w.heap.size n (by omega) hn) (by omega) (by simp; omega) (by simp), (b1.alloc (by omega) _).alloc (by simp; omega) _⟩
  · have s1 := hb1.size
    have q1 : w1.ownsRow w.heap.size 3 1 (.slice (some ⟨w.heap.size + 1 + 1, 0, none⟩) n n) n ((List.replicate n (-1 : Int)).map (Value.int .i64)) := by
      have := row_base ho1 (B' := w.heap.size) (by simp; omega)
      simpa using this
    have b1 : Below w.heap.size w w1 := (((Below.refl _ w).alloc (Nat.le_refl _) _).alloc (by simp) _).drew.trans (hb1.mono (B' := w.heap.size) (by simp; omega))
    have s2 : w.heap.size + 1 + 1 < w1.heap.size := (World.ownsRow.lt q1 _ rfl).2
    have q2 := below_row (made_row (w.alloc (.cells #[.int .i64 (-1)] 3)) w.heap.size n (by simp) hn) (below_of_drew hb1)
    rw [show (w.alloc (.cells #[.int .i64 (-1)] 3)).heap.size = w.heap.size + 1 by simp] at q2
    refine ⟨_, w.heap.size + 1 + 1, w.heap.size + 1, rfl, new_mem q1 q2 (by omega) (by omega) (by simp), b1.alloc (by omega) _⟩
  · have s1 := hb1.size
    have q1 : w1.ownsRow w.heap.size 3 1 (.slice (some ⟨w.heap.size + 1 + 1, 0, none⟩) n n) n ((List.replicate n (-1 : Int)).map (Value.int .i64)) := by
      have := row_base ho1 (B' := w.heap.size) (by simp; omega)
      simpa using this
    have b1 : Below w.heap.size w w1 := (((Below.refl _ w).alloc (Nat.le_refl _) _).alloc (by simp) _).drew.trans (hb1.mono (B' := w.heap.size) (by simp; omega))
    have s2 : w.heap.size + 1 + 1 < w1.heap.size := (World.ownsRow.lt q1 _ rfl).2
    have q2 := below_row ((made_row w w.heap.size n (Nat.le_refl _) hn).alloc (.cells #[.int .i64 (-1)] 3)) (below_of_drew hb1)
    refine ⟨_, w.heap.size + 1 + 1, w.heap.size, rfl, new_mem q1 q2 (by omega) (by omega) (by simp), b1.alloc (by omega) _⟩
end HI
end Go.Proofs.YtkcfepppnclniaaGreatDoor
end

section
/-
  The walks of package heap's sink and Pop, where priorities are numbers.
-/
namespace Go.Proofs.YtkcfepppnclniaaGreatDoor
namespace HI
open Go.RowKit

set_option maxHeartbeats 2000000 in
theorem sink_any {w : World} {B p bp bc : Nat} {lv : Value} {line : List Nat} {place : List Int} {come : List Int} (h : HMem (Value.int .i64) 3 w B p bp bc lv line place come) {n i : Nat} {m : Nat → Option Int} (hr : HM.RepDn HM.TI 0 n i m line place come) (hmax : line.length ≤ 1000) (hi : i ≤ line.length) :
    Calls Tryz.prog 114 #[.pointer (some ⟨p, 0, none⟩), .int .i64 i] w fun e w' => e = .returned (.tuple #[]) ∧ ∃ line' place', HMem (Value.int .i64) 3 w' B p bp bc lv line' place' come ∧ HM.Rep HM.TI 0 n m line' place' come ∧ line'.length = line.length ∧ Keeps (foot p bp bc lv) w w' := by
  obtain ⟨ao, cap, hlv⟩ : ∃ ao cap, lv = .slice ao line.length cap := by
    rcases h.lineAt with ⟨rfl, rfl⟩ | ⟨g, cap, rfl, _⟩
    · exact ⟨_, _, rfl⟩
    · exact ⟨_, _, rfl⟩
  have HLV : Hid (lv = .slice ao line.length cap) := hlv
  clear hlv
  go_enter Tryz.func114, Tryz.ntmps114
  go_wp2_with fail
  go_loopw [1] (fun iv wr => ∃ (i : Nat) (line' : List Nat) (place' : List Int), iv = .int .i64 (i : Nat) ∧ i ≤ line.length ∧ HMem (Value.int .i64) 3 wr B p bp bc lv line' place' come ∧ HM.RepDn HM.TI 0 n i m line' place' come ∧ line'.length = line.length ∧ Keeps (foot p bp bc lv) w wr) (fun iv _ => line.length - (intOf iv).toNat)
  case atStart => exact ⟨i, line, place, rfl, hi, h, hr, rfl, Keeps.refl _ _⟩
  case round =>
    clear h hr hi
    obtain ⟨k, line', place', rfl, hkl, h', hr', hl', hk'⟩ := hrel
    have H : Hid (HMem (Value.int .i64) 3 wr B p bp bc lv line' place' come) := h'
    have HR : Hid (HM.RepDn HM.TI 0 n k m line' place' come) := hr'
    have HK : Hid (Keeps (foot p bp bc lv) w wr) := hk'
    have HL : Hid (line'.length = line.length) := hl'
    have c0 := h'.c0
    rw [HLV.out] at c0
    have hwf := hr'.1
    have hlc : come.length = n := hr'.2.1
    have hin : ∀ j, j < line'.length → HM.at0 line' j < come.length := fun j hj => by rw [hlc]; exact (hwf.2.1 j hj).1
    clear hr' hk'
    by_cases h1 : 2 * k + 1 < line'.length
    · by_cases h2 : 2 * k + 2 < line'.length
      · -- two below it
        have hc1 := ahead_any h' (2 * k + 1 + 1) (2 * k + 1) h2 h1 (hin _ h2) (hin _ h1)
        have hc2 := fun q => ahead_any (h'.drewN q) (2 * k + 1 + 1) k h2 (by omega) (hin _ h2) (hin _ (by omega))
        have hc3 := fun q => ahead_any (h'.drewN q) (2 * k + 1) k h1 (by omega) (hin _ h1) (hin _ (by omega))
        have hs2 := fun q => swap_any (h'.drewN q) hwf k (2 * k + 1 + 1) (by omega) h2
        have hs1 := fun q => swap_any (h'.drewN q) hwf k (2 * k + 1) (by omega) h1
        rw [show ((2 * k + 1 + 1 : Nat) : Int) = 2 * (k : Int) + 1 + 1 by omega, show ((2 * k + 1 : Nat) : Int) = 2 * (k : Int) + 1 by omega] at hc1
        simp only [show ((2 * k + 1 + 1 : Nat) : Int) = 2 * (k : Int) + 1 + 1 by omega] at hc2 hs2
        simp only [show ((2 * k + 1 : Nat) : Int) = 2 * (k : Int) + 1 by omega] at hc3 hs1
        have HC2 : Hid (∀ q, Calls Tryz.prog 121 #[.pointer (some ⟨p, 0, none⟩), .int .i64 (2 * (k : Int) + 1 + 1), .int .i64 k] (wr.drewN q) fun e w' => (∃ b, e = .returned (.bool b) ∧ (b = true ↔ HM.R HM.TI (HM.cat 0 come) (HM.at0 line' (2 * k + 1 + 1)) (HM.at0 line' k))) ∧ ∃ q', w' = (wr.drewN q).drewN q') := hc2
        have HC3 : Hid (∀ q, Calls Tryz.prog 121 #[.pointer (some ⟨p, 0, none⟩), .int .i64 (2 * (k : Int) + 1), .int .i64 k] (wr.drewN q) fun e w' => (∃ b, e = .returned (.bool b) ∧ (b = true ↔ HM.R HM.TI (HM.cat 0 come) (HM.at0 line' (2 * k + 1)) (HM.at0 line' k))) ∧ ∃ q', w' = (wr.drewN q).drewN q') := hc3
        have HS2 : Hid (∀ q, Calls Tryz.prog 113 #[.pointer (some ⟨p, 0, none⟩), .int .i64 k, .int .i64 (2 * (k : Int) + 1 + 1)] (wr.drewN q) fun e w' => e = .returned (.tuple #[]) ∧ HMem (Value.int .i64) 3 w' B p bp bc lv (HM.swl line' k (2 * k + 1 + 1)) (HM.swp line' place' k (2 * k + 1 + 1)) come ∧ Keeps (foot p bp bc lv) (wr.drewN q) w') := hs2
        have HS1 : Hid (∀ q, Calls Tryz.prog 113 #[.pointer (some ⟨p, 0, none⟩), .int .i64 k, .int .i64 (2 * (k : Int) + 1)] (wr.drewN q) fun e w' => e = .returned (.tuple #[]) ∧ HMem (Value.int .i64) 3 w' B p bp bc lv (HM.swl line' k (2 * k + 1)) (HM.swp line' place' k (2 * k + 1)) come ∧ Keeps (foot p bp bc lv) (wr.drewN q) w') := hs1
        rw [hl'] at h1 h2
        have h1' : 2 * (k : Int) + 1 < (line.length : Int) := by omega
        have h2' : 2 * (k : Int) + 1 + 1 < (line.length : Int) := by omega
        clear h' hwf hin hl' hc2 hc3 hs1 hs2
        go_wp2_with fail
        refine hc1.mono ?_
        rintro e1 w1 ⟨⟨b, rfl, hbi⟩, q1, rfl⟩
        have HB : Hid (b = true ↔ HM.R HM.TI (HM.cat 0 come) (HM.at0 line' (2 * k + 1 + 1)) (HM.at0 line' (2 * k + 1))) := hbi
        clear hbi hc1
        cases b with
        | true =>
          -- the second one
          go_wp2_with fail
          refine (HC2.out q1).mono ?_
          rintro e2 w2 ⟨⟨b, rfl, hbi⟩, q2, rfl⟩
          have HB2 : Hid (b = true ↔ HM.R HM.TI (HM.cat 0 come) (HM.at0 line' (2 * k + 1 + 1)) (HM.at0 line' k)) := hbi
          clear hbi
          cases b with
          | false =>
            go_wp2_with fail
            (try simp only [Exit.inBlock, Exit.then]); refine bodyPost_ret (results_none rfl _ _ _) rfl ?_
            refine ⟨rfl, line', place', H.out.drewN _, HR.out.done ?_, HL.out, HK.out.drewN⟩
            have n2 : ¬ HM.R HM.TI (HM.cat 0 come) (HM.at0 line' (2 * k + 1 + 1)) (HM.at0 line' k) := fun h => by have := HB2.out.2 h; cases this
            have n1 : HM.R HM.TI (HM.cat 0 come) (HM.at0 line' (2 * k + 1 + 1)) (HM.at0 line' (2 * k + 1)) := HB.out.1 (by trivial)
            rintro x (rfl | rfl) hx
            · exact HM.R.le_tr n2 n1.as
            · exact n2
          | true =>
            have hs := HS2.out (q1 + q2)
            go_wp2_with fail
            refine hs.mono ?_
            rintro e3 w3 ⟨rfl, h3, k3⟩
            have H3 : Hid (HMem (Value.int .i64) 3 w3 B p bp bc lv (HM.swl line' k (2 * k + 1 + 1)) (HM.swp line' place' k (2 * k + 1 + 1)) come) := h3
            have K3 : Hid (Keeps (foot p bp bc lv) (wr.drewN (q1 + q2)) w3) := k3
            clear h3 k3 hs
            go_wp2_with fail
            go_roundw
            case rel =>
              have n1 : HM.R HM.TI (HM.cat 0 come) (HM.at0 line' (2 * k + 1 + 1)) (HM.at0 line' (2 * k + 1)) := HB.out.1 (by trivial)
              have n2 : HM.R HM.TI (HM.cat 0 come) (HM.at0 line' (2 * k + 1 + 1)) (HM.at0 line' k) := HB2.out.1 (by trivial)
              have hll := HL.out
              have hst := HR.out.step (b := 2 * k + 1 + 1) (.inr rfl) (by omega) n2 (by
                rintro x (rfl | rfl) hx
                · exact n1.as
                · exact HM.R.irr)
              exact ⟨2 * k + 1 + 1, _, _, by go_num, by omega, H3.out, hst, by rw [HM.swl_len]; exact hll, HK.out.drewN.trans K3.out (fun x hx => .inl hx)⟩
            case measure => simp [intOf]; omega
        | false =>
          -- the first one
          go_wp2_with fail
          refine (HC3.out q1).mono ?_
          rintro e2 w2 ⟨⟨b, rfl, hbi⟩, q2, rfl⟩
          have HB2 : Hid (b = true ↔ HM.R HM.TI (HM.cat 0 come) (HM.at0 line' (2 * k + 1)) (HM.at0 line' k)) := hbi
          clear hbi
          cases b with
          | false =>
            go_wp2_with fail
            (try simp only [Exit.inBlock, Exit.then]); refine bodyPost_ret (results_none rfl _ _ _) rfl ?_
            refine ⟨rfl, line', place', H.out.drewN _, HR.out.done ?_, HL.out, HK.out.drewN⟩
            have n2 : ¬ HM.R HM.TI (HM.cat 0 come) (HM.at0 line' (2 * k + 1)) (HM.at0 line' k) := fun h => by have := HB2.out.2 h; cases this
            have n1 : ¬ HM.R HM.TI (HM.cat 0 come) (HM.at0 line' (2 * k + 1 + 1)) (HM.at0 line' (2 * k + 1)) := fun h => by have := HB.out.2 h; cases this
            rintro x (rfl | rfl) hx
            · exact n2
            · exact HM.R.le_tr n2 n1
          | true =>
            have hs := HS1.out (q1 + q2)
            go_wp2_with fail
            refine hs.mono ?_
            rintro e3 w3 ⟨rfl, h3, k3⟩
            have H3 : Hid (HMem (Value.int .i64) 3 w3 B p bp bc lv (HM.swl line' k (2 * k + 1)) (HM.swp line' place' k (2 * k + 1)) come) := h3
            have K3 : Hid (Keeps (foot p bp bc lv) (wr.drewN (q1 + q2)) w3) := k3
            clear h3 k3 hs
            go_wp2_with fail
            go_roundw
            case rel =>
              have n1 : ¬ HM.R HM.TI (HM.cat 0 come) (HM.at0 line' (2 * k + 1 + 1)) (HM.at0 line' (2 * k + 1)) := fun h => by have := HB.out.2 h; cases this
              have n2 : HM.R HM.TI (HM.cat 0 come) (HM.at0 line' (2 * k + 1)) (HM.at0 line' k) := HB2.out.1 (by trivial)
              have hll := HL.out
              have hst := HR.out.step (b := 2 * k + 1) (.inl rfl) (by omega) n2 (by
                rintro x (rfl | rfl) hx
                · exact HM.R.irr
                · exact n1)
              exact ⟨2 * k + 1, _, _, by go_num, by omega, H3.out, hst, by rw [HM.swl_len]; exact hll, HK.out.drewN.trans K3.out (fun x hx => .inl hx)⟩
            case measure => simp [intOf]; omega
      · -- one below it
        have hc3 := ahead_any h' (2 * k + 1) k h1 (by omega) (hin _ h1) (hin _ (by omega))
        have hs1 := fun q => swap_any (h'.drewN q) hwf k (2 * k + 1) (by omega) h1
        rw [show ((2 * k + 1 : Nat) : Int) = 2 * (k : Int) + 1 by omega] at hc3
        simp only [show ((2 * k + 1 : Nat) : Int) = 2 * (k : Int) + 1 by omega] at hs1
        have HS1 : Hid (∀ q, Calls Tryz.prog 113 #[.pointer (some ⟨p, 0, none⟩), .int .i64 k, .int .i64 (2 * (k : Int) + 1)] (wr.drewN q) fun e w' => e = .returned (.tuple #[]) ∧ HMem (Value.int .i64) 3 w' B p bp bc lv (HM.swl line' k (2 * k + 1)) (HM.swp line' place' k (2 * k + 1)) come ∧ Keeps (foot p bp bc lv) (wr.drewN q) w') := hs1
        rw [hl'] at h1 h2
        have h1' : 2 * (k : Int) + 1 < (line.length : Int) := by omega
        have h2' : ¬ 2 * (k : Int) + 1 + 1 < (line.length : Int) := by omega
        have HN : Hid (¬ 2 * k + 2 < line.length) := h2
        clear h' hwf hin hl' hs1 h2
        go_wp2_with fail
        refine hc3.mono ?_
        rintro e2 w2 ⟨⟨b, rfl, hbi⟩, q1, rfl⟩
        have HB2 : Hid (b = true ↔ HM.R HM.TI (HM.cat 0 come) (HM.at0 line' (2 * k + 1)) (HM.at0 line' k)) := hbi
        clear hbi hc3
        cases b with
        | false =>
          go_wp2_with fail
          (try simp only [Exit.inBlock, Exit.then]); refine bodyPost_ret (results_none rfl _ _ _) rfl ?_
          refine ⟨rfl, line', place', H.out.drewN _, HR.out.done ?_, HL.out, HK.out.drewN⟩
          have n2 : ¬ HM.R HM.TI (HM.cat 0 come) (HM.at0 line' (2 * k + 1)) (HM.at0 line' k) := fun h => by have := HB2.out.2 h; cases this
          have hll := HL.out
          rintro x (rfl | rfl) hx
          · exact n2
          · exact absurd hx (by rw [hll]; exact HN.out)
        | true =>
          have hs := HS1.out q1
          go_wp2_with fail
          refine hs.mono ?_
          rintro e3 w3 ⟨rfl, h3, k3⟩
          have H3 : Hid (HMem (Value.int .i64) 3 w3 B p bp bc lv (HM.swl line' k (2 * k + 1)) (HM.swp line' place' k (2 * k + 1)) come) := h3
          have K3 : Hid (Keeps (foot p bp bc lv) (wr.drewN q1) w3) := k3
          clear h3 k3 hs
          go_wp2_with fail
          go_roundw
          case rel =>
            have n2 : HM.R HM.TI (HM.cat 0 come) (HM.at0 line' (2 * k + 1)) (HM.at0 line' k) := HB2.out.1 (by trivial)
            have hll := HL.out
            have hst := HR.out.step (b := 2 * k + 1) (.inl rfl) (by omega) n2 (by
              rintro x (rfl | rfl) hx
              · exact HM.R.irr
              · exact absurd hx (by rw [hll]; exact HN.out))
            exact ⟨2 * k + 1, _, _, by go_num, by omega, H3.out, hst, by rw [HM.swl_len]; exact hll, HK.out.drewN.trans K3.out (fun x hx => .inl hx)⟩
          case measure => simp [intOf]; omega
    · -- none below it
      have HN : Hid (¬ 2 * k + 1 < line'.length) := h1
      have h1' : ¬ 2 * (k : Int) + 1 < (line.length : Int) := by omega
      clear h' hwf hin hl' h1
      go_wp2_with fail
      (try simp only [Exit.inBlock, Exit.then]); refine bodyPost_ret (results_none rfl _ _ _) rfl ?_
      refine ⟨rfl, line', place', H.out, HR.out.done ?_, HL.out, HK.out⟩
      have hnn := HN.out
      rintro x (rfl | rfl) hx
      · exact absurd hx hnn
      · exact absurd hx (by omega)

set_option maxHeartbeats 2000000 in
theorem pop_any {w : World} {B p bp bc : Nat} {lv : Value} {line : List Nat} {place : List Int} {come : List Int} (h : HMem (Value.int .i64) 3 w B p bp bc lv line place come) {n : Nat} {m : Nat → Option Int} (hr : HM.Rep HM.TI 0 n m line place come) (hn : n ≤ 64) :
    Calls Tryz.prog 102 #[.pointer (some ⟨p, 0, none⟩)] w fun e w' => e = .returned (peekT (Value.int .i64) 0 (HM.firstOf HM.TI m)) ∧
      ∃ lv' line' place' come', HMem (Value.int .i64) 3 w' B p bp bc lv' line' place' come' ∧ HM.Rep HM.TI 0 n (HM.popped HM.TI m) line' place' come' ∧ Keeps (foot p bp bc lv) w w' ∧ (∀ b, foot p bp bc lv' b → foot p bp bc lv b) := by
  have hp := peek_first h hr
  have H0 : Hid (HMem (Value.int .i64) 3 w B p bp bc lv line place come) := h
  have HR0 : Hid (HM.Rep HM.TI 0 n m line place come) := hr
  unfold HM.popped
  by_cases h0 : line.length = 0
  · rw [HM.firstOf_none (hr.empty h0)] at hp ⊢
    simp only [peekT] at hp ⊢
    clear h hr h0
    go_enter Tryz.func102, Tryz.ntmps102
    go_wp2_with fail
    refine hp.mono ?_
    rintro e w1 ⟨rfl, hb1⟩
    go_wp2_with fail
    go_ret3
    exact ⟨rfl, lv, line, place, come, H0.out.below hb1, HR0.out, Below.keeps hb1 _, fun b hb => hb⟩
  · obtain ⟨k, hk⟩ : ∃ k, line.length = k + 1 := ⟨line.length - 1, by omega⟩
    rw [HM.firstOf_eq (hr.first (by omega))] at hp ⊢
    simp only [peekT] at hp ⊢
    rcases h.lineAt with ⟨rfl, rfl⟩ | ⟨g, cap, rfl, hcap, hmx⟩
    · simp at hk
    have hpl : place.length = n := hr.1.1
    have hcl : come.length = n := hr.2.1
    have hle := hr.le
    have HD : Hid (HM.RepDn HM.TI 0 n 0 (HM.upd m (HM.at0 line 0) none) ((HM.swl line 0 k).take k) ((HM.swp line place 0 k).set (HM.at0 line 0) (-1)) (come.set (HM.at0 line 0) 0)) := hr.pop (z := 0) hk
    have hfn : HM.at0 line 0 < n := (hr.1.2.1 0 (by omega)).1
    have hwf := hr.1
    have HW : Hid (HM.Wf n line place) := hwf
    have hcap' : cap ≤ 9223372036854775807 := by unfold maxLen at hmx; omega
    have HLN : Hid (line.length = k + 1) := hk
    generalize HM.cat 0 come (HM.at0 line 0) = x at hp ⊢
    generalize HM.at0 line 0 = f at *
    clear h hr h0 hwf
    rw [hk] at hcap
    go_enter Tryz.func102, Tryz.ntmps102
    go_wp2_with fail
    refine hp.mono ?_
    rintro e w1 ⟨rfl, hb1⟩
    have h1 := H0.out.below hb1
    have HB1 : Hid (Below w.heap.size w w1) := hb1
    have c0 := h1.c0
    rw [hk] at c0
    have hs := swap_any h1 HW.out 0 k (by omega) (by omega)
    have hsl := HM.swl_len line 0 k
    have hsp := HM.swp_len line place 0 k
    clear h1 hb1 hp
    go_wp2_with fail
    refine hs.mono ?_
    rintro e w2 ⟨rfl, h2, k2⟩
    have H2 : Hid (HMem (Value.int .i64) 3 w2 B p bp bc (.slice (some ⟨g, 0, none⟩) line.length cap) (HM.swl line 0 k) (HM.swp line place 0 k) come) := h2
    have K2 : Hid (Keeps (foot p bp bc (.slice (some ⟨g, 0, none⟩) line.length cap)) w1 w2) := k2
    have hlt : (w2.ownsRow B 3 1 (.slice (some ⟨g, 0, none⟩) k cap) ((HM.swl line 0 k).take k).length (((HM.swl line 0 k).take k).map natV)) := by
      have hlen : ((HM.swl line 0 k).take k).length = k := by rw [List.length_take]; omega
      rw [hlen]
      have := h2.ln
      rw [hk, hsl, hk] at this
      rcases this.2 with ⟨e, _⟩ | ⟨g', cap', cur, e, a1, a2, a3, a4, a5, a6⟩
      · cases e
      · injection e with e1 e2 e3
        injection e1 with e1
        injection e1 with e1
        subst e1 e3
        refine ⟨by rw [List.length_map, hlen, Nat.mul_one], .inr ⟨g, cap, cur, rfl, a1, a2, by omega, a4, a5, ?_⟩⟩
        rw [List.map_take, ← a6, List.take_take]
        congr 1
        omega
    have h3 := h2.setHead hlt (fun b hb => h2.n4 b hb)
    have h4 := h3.setPlace f (-1)
    have c0 := h2.c0
    have fz := h2.fz
    rw [hk] at c0
    obtain ⟨capc1, c1, _⟩ := h3.c1
    obtain ⟨p1, f1⟩ := h3.placeCell (i := f) (by omega)
    rw [hsp, hpl] at c1
    generalize HM.pat (HM.swp line place 0 k) f = y at p1
    have fn : (f : Int) < (n : Int) := by omega
    have H4 : Hid (HMem (Value.int .i64) 3 ((w2.setCell ⟨p, 0, none⟩ (.slice (some ⟨g, 0, none⟩) k cap)).setCell ⟨bp, f, none⟩ (.int .i64 (-1))) B p bp bc (.slice (some ⟨g, 0, none⟩) k cap) ((HM.swl line 0 k).take k) ((HM.swp line place 0 k).set f (-1)) come) := h4
    have n1 := h2.n1
    have kcap : (k : Int) ≤ (cap : Int) := by omega
    clear h2 k2 hlt h3 h4 hs
    go_wp2_with fail
    have K4 : Hid (Keeps (foot p bp bc (.slice (some ⟨g, 0, none⟩) line.length cap)) w ((w2.setCell ⟨p, 0, none⟩ (.slice (some ⟨g, 0, none⟩) k cap)).setCell ⟨bp, f, none⟩ (.int .i64 (-1)))) :=
      (((Below.keeps HB1.out _).trans K2.out (fun x hx => .inl hx)).setCell (p := ⟨p, 0, none⟩) (.inl (.inl rfl)) _).setCell (p := ⟨bp, f, none⟩) (.inl (.inr (.inl rfl))) _
    generalize (w2.setCell ⟨p, 0, none⟩ (.slice (some ⟨g, 0, none⟩) k cap)).setCell ⟨bp, f, none⟩ (.int .i64 (-1)) = w4 at *
    clear c0 fz c1 p1 f1
    have h4 := H4.out
    obtain ⟨capc2, c2, _⟩ := h4.c2
    obtain ⟨p2, f2⟩ := h4.comeCell 0 (i := f) (by omega)
    generalize HM.cat 0 come f = y at p2
    rw [hcl] at c2
    have b1 : p < w4.heap.size := (h4.lt p (.inl rfl)).2
    have b2 : bc < w4.heap.size := (h4.lt bc (.inr (.inr (.inl rfl)))).2
    have h5 : HMem (Value.int .i64) 3 ((w4.setCell ⟨bc, f, none⟩ (.int .i64 0)).alloc (.cells #[.int .i64 0] 3)) B p bp bc (.slice (some ⟨g, 0, none⟩) k cap) ((HM.swl line 0 k).take k) ((HM.swp line place 0 k).set f (-1)) (come.set f 0) := (h4.setCome f 0).below ((Below.refl _ _).alloc (Nat.le_refl _) _)
    have hsi := sink_any (n := n) (m := HM.upd m f none) h5.drew HD.out (by rw [List.length_take]; omega) (Nat.zero_le _)
    have K6 : Hid (Keeps (foot p bp bc (.slice (some ⟨g, 0, none⟩) line.length cap)) w (((w4.setCell ⟨bc, f, none⟩ (.int .i64 0)).alloc (.cells #[.int .i64 0] 3)).drew)) := ((K4.out.setCell (p := ⟨bc, f, none⟩) (.inl (.inr (.inr (.inl rfl)))) _).alloc _).drew
    clear h4 h5
    go_region
    go_wp2_with fail
    refine hsi.mono ?_
    rintro e w7 ⟨rfl, line', place', a1, a2, a3, a4⟩
    go_wp2_with fail
    go_ret3
    exact ⟨rfl, _, line', place', _, a1, a2, K6.out.trans a4 (fun x hx => .inl hx), fun b hb => hb⟩
end HI
end Go.Proofs.YtkcfepppnclniaaGreatDoor
end
