/-
  NHeapAI, NHeapBI.
-/
import Derived.Test.YtmkpcidgiobpeaaMmNHeapMem
import Derived.BigRegion
import Derived.BigQuiet
import Derived.Deep.DeepCutAuto
import Derived.Deep.QuietTactic
import Derived.Laws.Cover1
section
/-
  The walks of package heap's Len, may, ahead and swap, where priorities are of type int.
-/
namespace Go.Proofs.Ytmkpcidgiobpeaa
namespace HI
open Go.RowKit

theorem drew3 (w : World) (a b c : Nat) : ((w.drewN a).drewN b).drewN c = w.drewN (a + b + c) := by rw [World.drewN_drewN, World.drewN_drewN, Nat.add_assoc]
set_option maxHeartbeats 400000 in
theorem may_any {w : World} {B p bp bc : Nat} {lv : Value} {line : List Nat} {place : List Int} {come : List Int} (h : HMem (Value.int .i64) 3 w B p bp bc lv line place come) (t : Int) :
    Calls Try.prog 56 #[.pointer (some ⟨p, 0, none⟩), .int .i64 t] w fun e w' => e = .returned (.bool (decide (0 ≤ t ∧ t < (place.length : Int)))) ∧ w' = w := by
  obtain ⟨capc1, c1, _⟩ := h.c1
  clear h
  generalize place.length = n at *
  by_cases h0 : 0 ≤ t
  · go_enter Try.func56, Try.ntmps56
    go_wp2_with fail
    go_ret
    exact ⟨ret_bool (by simp [h0]), rfl⟩
  · go_enter Try.func56, Try.ntmps56
    go_wp2_with fail
    go_ret
    exact ⟨ret_bool (by simp; omega), rfl⟩

set_option maxHeartbeats 1000000 in
theorem ahead_any {w : World} {B p bp bc : Nat} {lv : Value} {line : List Nat} {place : List Int} {come : List Int} (h : HMem (Value.int .i64) 3 w B p bp bc lv line place come) (i j : Nat) (hi : i < line.length) (hj : j < line.length)
    (hi' : HM.at0 line i < come.length) (hj' : HM.at0 line j < come.length) :
    Calls Try.prog 65 #[.pointer (some ⟨p, 0, none⟩), .int .i64 i, .int .i64 j] w fun e w' => (∃ b, e = .returned (.bool b) ∧ (b = true ↔ HM.R HM.TI (HM.cat (0 : Int) come) (HM.at0 line i) (HM.at0 line j))) ∧ ∃ q, w' = w.drewN q := by
  rcases h.lineAt with ⟨rfl, rfl⟩ | ⟨g, cap, rfl, _, _⟩
  · simp at hi
  have c0 := h.c0
  obtain ⟨capc2, c2, _⟩ := h.c2
  have ci := (h.lineCell hi).1
  have cj := (h.lineCell hj).1
  have vi := (h.comeCell (0 : Int) hi').1
  have vj := (h.comeCell (0 : Int) hj').1
  clear h
  generalize HM.at0 line i = a at *
  generalize HM.at0 line j = b at *
  have HR : Hid (∀ x : Bool, (x = true ↔ HM.R HM.TI (HM.cat (0 : Int) come) a b) = (x = true ↔ (HM.TI.lt (HM.cat (0 : Int) come a) (HM.cat (0 : Int) come b) = true ∨ (HM.cat (0 : Int) come a = HM.cat (0 : Int) come b ∧ a < b)))) := fun _ => rfl
  generalize HM.cat (0 : Int) come a = x at *
  generalize HM.cat (0 : Int) come b = y at *
  generalize line.length = n at *
  generalize come.length = m at *
  have i1 : (i : Int) < (n : Int) := by omega
  have j1 : (j : Int) < (n : Int) := by omega
  have a1 : (a : Int) < (m : Int) := by omega
  have b1 : (b : Int) < (m : Int) := by omega
  by_cases e : x = y
  · subst e
    go_enter Try.func65, Try.ntmps65
    go_wp2_with fail
    go_quiet (fail)
    go_wp2_with fail
    go_quiet (fail)
    go_wp2_with fail
    go_ret
    refine ⟨⟨_, rfl, ?_⟩, _, rfl⟩
    rw [HR.out]
    simp [HM.TI]
  · go_enter Try.func65, Try.ntmps65
    go_wp2_with fail
    go_quiet (fail)
    go_wp2_with fail
    go_quiet (fail)
    go_wp2_with fail
    go_quiet (fail)
    go_wp2_with fail
    go_ret
    refine ⟨⟨_, rfl, ?_⟩, _, (drew3 _ _ _ _)⟩
    rw [HR.out]
    simp [HM.TI, e]

set_option maxHeartbeats 1000000 in
theorem swap_any {w : World} {B p bp bc : Nat} {lv : Value} {line : List Nat} {place : List Int} {come : List Int} (h : HMem (Value.int .i64) 3 w B p bp bc lv line place come) {n : Nat} (hw : HM.Wf n line place) (i j : Nat) (hi : i < line.length) (hj : j < line.length) :
    Calls Try.prog 60 #[.pointer (some ⟨p, 0, none⟩), .int .i64 i, .int .i64 j] w fun e w' => e = .returned (.tuple #[]) ∧ HMem (Value.int .i64) 3 w' B p bp bc lv (HM.swl line i j) (HM.swp line place i j) come ∧ Keeps (foot p bp bc lv) w w' := by
  rcases h.lineAt with ⟨rfl, rfl⟩ | ⟨g, cap, rfl, hcap, hmax⟩
  · simp at hi
  have hmax' : cap ≤ 9223372036854775807 := by unfold maxLen at hmax; omega
  obtain ⟨n1, n2, n3⟩ := h.n4 g rfl
  have c0 := h.c0
  have ci := (h.lineCell hi).1
  have cj := (h.lineCell hj).1
  have fi := (h.lineCell hi).2
  have fj := (h.lineCell hj).2
  obtain ⟨z, cz⟩ : ∃ z, (w.setCell ⟨g, i, none⟩ (.int .i64 (HM.at0 line j : Nat))).cell? ⟨g, j, none⟩ = some z := ⟨_, ((h.setLine i (HM.at0 line j)).lineCell (i := j) (by simpa using hj)).1⟩
  have H2 := (h.setLine i (HM.at0 line j)).setLine j (HM.at0 line i)
  have H3 : Hid (HMem (Value.int .i64) 3 ((w.setCell ⟨g, i, none⟩ (.int .i64 (HM.at0 line j : Nat))).setCell ⟨g, j, none⟩ (.int .i64 (HM.at0 line i : Nat))) B p bp bc (.slice (some ⟨g, 0, none⟩) line.length cap) (HM.swl line i j) place come) := by
    have e : (((line.set i (HM.at0 line j)).set j (HM.at0 line i)).length) = line.length := by simp
    rw [e] at H2
    exact H2
  have HK : Hid (Keeps (foot p bp bc (.slice (some ⟨g, 0, none⟩) line.length cap)) w ((w.setCell ⟨g, i, none⟩ (.int .i64 (HM.at0 line j : Nat))).setCell ⟨g, j, none⟩ (.int .i64 (HM.at0 line i : Nat)))) :=
    ((Keeps.refl _ w).setCell (p := ⟨g, i, none⟩) (.inl (.inr (.inr (.inr rfl)))) _).setCell (p := ⟨g, j, none⟩) (.inl (.inr (.inr (.inr rfl)))) _
  have hw' := hw.swap hi hj
  have hl := HM.swl_len line i j
  have e1 := (hw'.2.1 i (by omega)).1
  have e2 := (hw'.2.1 j (by omega)).1
  have hpl : place.length = n := hw.1
  have HS : Hid (HM.swp line place i j = (place.set (HM.at0 (HM.swl line i j) i) (i : Int)).set (HM.at0 (HM.swl line i j) j) (j : Int)) := rfl
  generalize HM.swp line place i j = pl' at *
  generalize HM.swl line i j = ln' at *
  clear H2 h hw hw'
  generalize HM.at0 line i = a at *
  generalize HM.at0 line j = b at *
  have i1 : (i : Int) < (line.length : Int) := by omega
  have j1 : (j : Int) < (line.length : Int) := by omega
  go_enter Try.func60, Try.ntmps60
  go_upto_region 0 with fail
  go_cut [6] (fun _ wx => wx = ((w.setCell ⟨g, i, none⟩ (.int .i64 (b : Nat))).setCell ⟨g, j, none⟩ (.int .i64 (a : Nat))).drew)
  case first =>
    go_wp2_with fail
    go_region
    all_goals (go_wp2_with fail; go_meet; rfl)
  case rest =>
  generalize (w.setCell ⟨g, i, none⟩ (.int .i64 (b : Nat))).setCell ⟨g, j, none⟩ (.int .i64 (a : Nat)) = w2 at *
  subst hcut
  have h := H3.out
  clear c0 ci cj fi fj cz H3
  rw [← hl] at h HK i1 j1
  have hi2 : i < ln'.length := by omega
  have hj2 : j < ln'.length := by omega
  have c0 := h.c0
  obtain ⟨capc1, c1, _⟩ := h.c1
  have ci := (h.lineCell hi2).1
  have cj := (h.lineCell hj2).1
  have fa := (h.placeCell (i := HM.at0 ln' i) (by omega))
  have fb := (h.placeCell (i := HM.at0 ln' j) (by omega))
  have fa1 := fa.1
  have fa2 := fa.2
  have fb2 := fb.2
  obtain ⟨z, cz⟩ : ∃ z, (w2.setCell ⟨bp, HM.at0 ln' i, none⟩ (.int .i64 (i : Nat))).cell? ⟨bp, HM.at0 ln' j, none⟩ = some z := ⟨_, ((h.setPlace (HM.at0 ln' i) (i : Int)).placeCell (i := HM.at0 ln' j) (by simp; omega)).1⟩
  have H3 : Hid (HMem (Value.int .i64) 3 ((w2.setCell ⟨bp, HM.at0 ln' i, none⟩ (.int .i64 (i : Nat))).setCell ⟨bp, HM.at0 ln' j, none⟩ (.int .i64 (j : Nat))) B p bp bc (.slice (some ⟨g, 0, none⟩) ln'.length cap) ln' pl' come) := by
    rw [HS.out]
    exact (h.setPlace (HM.at0 ln' i) (i : Int)).setPlace (HM.at0 ln' j) (j : Int)
  clear h fa fb HS
  generalize HM.at0 ln' i = a at *
  generalize HM.at0 ln' j = b at *
  generalize place.length = m at *
  have a1 : (a : Int) < (m : Int) := by omega
  have b1 : (b : Int) < (m : Int) := by omega
  go_wp2_with fail
  go_region
  go_wp2_with fail
  go_end0
  have h4 := H3.out
  have k4 := HK.out
  rw [hl] at h4 k4
  exact ⟨rfl, h4.drew.drew, ((k4.setCell (p := ⟨bp, a, none⟩) (.inl (.inr (.inl rfl))) _).setCell (p := ⟨bp, b, none⟩) (.inl (.inr (.inl rfl))) _).drew.drew⟩
end HI
end Go.Proofs.Ytmkpcidgiobpeaa
end

section
/-
  The walks of package heap's rise, At, Peek and Put, where priorities are of type int.
-/
namespace Go.Proofs.Ytmkpcidgiobpeaa
namespace HI
open Go.RowKit

set_option maxHeartbeats 1000000 in
theorem rise_any {w : World} {B p bp bc : Nat} {lv : Value} {line : List Nat} {place : List Int} {come : List Int} (h : HMem (Value.int .i64) 3 w B p bp bc lv line place come) {n i : Nat} {m : Nat → Option Int} (hr : HM.RepUp HM.TI (0 : Int) n i m line place come) (hmax : line.length ≤ 1000) :
    Calls Try.prog 58 #[.pointer (some ⟨p, 0, none⟩), .int .i64 i] w fun e w' => e = .returned (.tuple #[]) ∧ ∃ line' place', HMem (Value.int .i64) 3 w' B p bp bc lv line' place' come ∧ HM.Rep HM.TI (0 : Int) n m line' place' come ∧ line'.length = line.length ∧ Keeps (foot p bp bc lv) w w' := by
  go_enter Try.func58, Try.ntmps58
  go_wp2_with fail
  go_loopw [1] (fun iv wr => ∃ (i : Nat) (line' : List Nat) (place' : List Int), iv = .int .i64 (i : Nat) ∧ HMem (Value.int .i64) 3 wr B p bp bc lv line' place' come ∧ HM.RepUp HM.TI (0 : Int) n i m line' place' come ∧ line'.length = line.length ∧ Keeps (foot p bp bc lv) w wr) (fun iv _ => (intOf iv).toNat)
  case atStart => exact ⟨i, line, place, rfl, h, hr, rfl, Keeps.refl _ _⟩
  case round =>
    obtain ⟨k, line', place', rfl, h', hr', hl', hk'⟩ := hrel
    have H : Hid (HMem (Value.int .i64) 3 wr B p bp bc lv line' place' come) := h'
    have HR : Hid (HM.RepUp HM.TI (0 : Int) n k m line' place' come) := hr'
    have HK : Hid (Keeps (foot p bp bc lv) w wr) := hk'
    have hb : k < line'.length := hr'.2.2.1
    clear h hr h' hr' hk'
    cases k with
    | zero =>
      go_wp2_with fail
      go_end0
      exact ⟨rfl, line', place', H.out, HR.out.done (.inl rfl), hl', HK.out⟩
    | succ k =>
      obtain ⟨q, hq⟩ : ∃ q, q = k / 2 := ⟨_, rfl⟩
      have e : (k : Int) / 2 = (q : Int) := by omega
      have hql : q < line'.length := by omega
      have hqk : (k + 1 - 1) / 2 = q := by omega
      have hwf := HR.out.1
      have hlc : come.length = n := HR.out.2.1
      have hc := ahead_any H.out (k + 1) q hb hql (by rw [hlc]; exact (hwf.2.1 _ hb).1) (by rw [hlc]; exact (hwf.2.1 _ hql).1)
      have hs := fun q' => swap_any (H.out.drewN q') hwf (k + 1) q hb hql
      have HQ : Hid ((k + 1 - 1) / 2 = q) := hqk
      clear hqk hwf
      rw [show (((k + 1 : Nat)) : Int) = (k : Int) + 1 from rfl] at hc
      rw [show (((k + 1 : Nat)) : Int) = (k : Int) + 1 from rfl] at hs
      clear hq
      go_wp2_with fail
      refine hc.mono ?_
      rintro e1 w1 ⟨⟨b, rfl, hbi⟩, q', rfl⟩
      have HB : Hid (b = true ↔ HM.R HM.TI (HM.cat (0 : Int) come) (HM.at0 line' (k + 1)) (HM.at0 line' q)) := hbi
      clear hbi hc
      cases b with
      | false =>
        clear hs
        go_wp2_with fail
        (try simp only [Exit.inBlock, Exit.then]); refine bodyPost_ret (results_none rfl _ _ _) rfl ?_
        refine ⟨rfl, line', place', H.out.drewN _, HR.out.done (.inr ?_), hl', HK.out.drewN⟩
        rw [HQ.out]
        exact fun hh => by have := HB.out.2 hh; cases this
      | true =>
        have hs := hs q'
        go_wp2_with fail
        refine hs.mono ?_
        rintro e2 w2 ⟨rfl, h2, k2⟩
        have H2 : Hid (HMem (Value.int .i64) 3 w2 B p bp bc lv (HM.swl line' (k + 1) q) (HM.swp line' place' (k + 1) q) come) := h2
        have K2 : Hid (Keeps (foot p bp bc lv) (wr.drewN q') w2) := k2
        clear h2 k2 hs
        go_wp2_with fail
        go_roundw
        case rel =>
          have hst := HR.out.step (by omega) (by rw [HQ.out]; exact HB.out.1 (by trivial))
          rw [HQ.out] at hst
          exact ⟨q, _, _, rfl, H2.out, hst, by rw [HM.swl_len]; exact hl', HK.out.drewN.trans K2.out (fun x hx => .inl hx)⟩
        case measure => simp [intOf]; omega

set_option maxHeartbeats 1000000 in
theorem at_any {w : World} {B p bp bc : Nat} {lv : Value} {line : List Nat} {place : List Int} {come : List Int} (h : HMem (Value.int .i64) 3 w B p bp bc lv line place come) {n : Nat} {m : Nat → Option Int} (hr : HM.Rep HM.TI (0 : Int) n m line place come) (t : Int) :
    Calls Try.prog 57 #[.pointer (some ⟨p, 0, none⟩), .int .i64 t] w fun e w' =>
      (∀ k : Nat, t = k → ∀ v, m k = some v → e = .returned (.tuple #[(Value.int .i64) v, .bool true])) ∧ ((∀ k : Nat, t = k → m k = none) → e = .returned (.tuple #[(Value.int .i64) (0 : Int), .bool false])) ∧ Below w.heap.size w w' := by
  have hpl : place.length = n := hr.1.1
  have hcl : come.length = n := hr.2.1
  have hm := may_any h t
  rw [hpl] at hm
  by_cases ht : 0 ≤ t ∧ t < (n : Int)
  · obtain ⟨k, rfl⟩ : ∃ k : Nat, t = k := ⟨t.toNat, by omega⟩
    have hk : k < n := by omega
    rw [decide_eq_true ht] at hm
    obtain ⟨capc1, c1, _⟩ := h.c1
    obtain ⟨capc2, c2, _⟩ := h.c2
    have p1 := (h.placeCell (i := k) (by omega)).1
    have v1 := (h.comeCell (0 : Int) (i := k) (by omega)).1
    have HM1 : Hid (m k = if k < n ∧ HM.pat place k ≠ -1 then some (HM.cat (0 : Int) come k) else none) := hr.2.2.2 k
    have kn : (k : Int) < (n : Int) := by omega
    rw [hpl] at c1
    rw [hcl] at c2
    clear h hr ht
    generalize HM.pat place k = x at *
    generalize HM.cat (0 : Int) come k = v at *
    by_cases hx : x = -1
    · subst hx
      go_enter Try.func57, Try.ntmps57
      go_wp2_with fail
      refine hm.mono ?_
      rintro e w' ⟨rfl, rfl⟩
      go_wp2_with fail
      go_ret2
      have hn : m k = none := by rw [HM1.out]; simp
      refine ⟨fun k' hk' v' hv' => ?_, fun _ => rfl, (Below.refl _ _).alloc (Nat.le_refl _) _⟩
      obtain rfl : k = k' := by omega
      rw [hn] at hv'; cases hv'
    · have hx' : (x == -1) = false := beq_eq_false_iff_ne.2 hx
      go_enter Try.func57, Try.ntmps57
      go_wp2_with fail
      refine hm.mono ?_
      rintro e w' ⟨rfl, rfl⟩
      go_wp2_with fail
      go_ret2
      have hn : m k = some v := by rw [HM1.out, if_pos ⟨hk, hx⟩]
      refine ⟨fun k' hk' v' hv' => ?_, fun hh => ?_, Below.refl _ _⟩
      · obtain rfl : k = k' := by omega
        rw [hn] at hv'; cases hv'; rfl
      · rw [hh k rfl] at hn; cases hn
  · rw [decide_eq_false ht] at hm
    have HO : Hid (∀ k : Nat, t = k → m k = none) := fun k hk => by rw [hr.2.2.2 k, if_neg (by omega)]
    clear h hr
    go_enter Try.func57, Try.ntmps57
    go_wp2_with fail
    refine hm.mono ?_
    rintro e w' ⟨rfl, rfl⟩
    go_wp2_with fail
    go_ret2
    refine ⟨fun k hk v hv => ?_, fun _ => rfl, (Below.refl _ _).alloc (Nat.le_refl _) _⟩
    rw [HO.out k hk] at hv; cases hv
end HI
end Go.Proofs.Ytmkpcidgiobpeaa
end
