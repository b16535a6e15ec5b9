/-
  The walks of package heap's rise, At, Peek and Put, where priorities are of type int.
-/
import Derived.Test.YtmmokmgljacddaaHeapAI
import Derived.Laws.Cover1
namespace Go.Proofs.Ytmmokmgljacddaa
namespace HI
open Go.RowKit

set_option maxHeartbeats 1000000 in
theorem rise_any {w : World} {B p bp bc : Nat} {lv : Value} {line : List Nat} {place : List Int} {come : List Int} (h : HMem (Value.int .i64) 3 w B p bp bc lv line place come) {n i : Nat} {m : Nat → Option Int} (hr : HM.RepUp HM.TI (0 : Int) n i m line place come) (hmax : line.length ≤ 1000) :
    Calls Try.prog 28 #[.pointer (some ⟨p, 0, none⟩), .int .i64 i] w fun e w' => e = .returned (.tuple #[]) ∧ ∃ line' place', HMem (Value.int .i64) 3 w' B p bp bc lv line' place' come ∧ HM.Rep HM.TI (0 : Int) n m line' place' come ∧ line'.length = line.length ∧ Keeps (foot p bp bc lv) w w' := by
  go_enter Try.func28, Try.ntmps28
  go_wp2_with fail
  go_loopw [1] (fun iv wr => ∃ (i : Nat) (line' : List Nat) (place' : List Int), iv = .int .i64 (i : Nat) ∧ HMem (Value.int .i64) 3 wr B p bp bc lv line' place' come ∧ HM.RepUp HM.TI (0 : Int) n i m line' place' come ∧ line'.length = line.length ∧ Keeps (foot p bp bc lv) w wr) (fun iv _ => (intOf iv).toNat)
  case atStart => exact ⟨i, line, place, rfl, h, hr, rfl, Keeps.refl _ _⟩
  case round =>
    obtain ⟨k, line', place', rfl, h', hr', hl', hk'⟩ := hrel
    have H : Hid (HMem (Value.int .i64) 3 wr B p bp bc lv line' place' come) := h'
    have HR : Hid (HM.RepUp HM.TI (0 : Int) n k m line' place' come) := hr'
    have HK : Hid (Keeps (foot p bp bc lv) w wr) := hk'
    have hb : k < line'.length := hr'.2.2.1
    clear h hr h' hr' hk'
    cases k with
    | zero =>
      go_wp2_with fail
      go_end0
      exact ⟨rfl, line', place', H.out, HR.out.done (.inl rfl), hl', HK.out⟩
    | succ k =>
      obtain ⟨q, hq⟩ : ∃ q, q = k / 2 := ⟨_, rfl⟩
      have e : (k : Int) / 2 = (q : Int) := by omega
      have hql : q < line'.length := by omega
      have hqk : (k + 1 - 1) / 2 = q := by omega
      have hwf := HR.out.1
      have hlc : come.length = n := HR.out.2.1
      have hc := ahead_any H.out (k + 1) q hb hql (by rw [hlc]; exact (hwf.2.1 _ hb).1) (by rw [hlc]; exact (hwf.2.1 _ hql).1)
      have hs := fun q' => swap_any (H.out.drewN q') hwf (k + 1) q hb hql
      have HQ : Hid ((k + 1 - 1) / 2 = q) := hqk
      clear hqk hwf
      rw [show (((k + 1 : Nat)) : Int) = (k : Int) + 1 from rfl] at hc
      rw [show (((k + 1 : Nat)) : Int) = (k : Int) + 1 from rfl] at hs
      clear hq
      go_wp2_with fail
      refine hc.mono ?_
      rintro e1 w1 ⟨⟨b, rfl, hbi⟩, q', rfl⟩
      have HB : Hid (b = true ↔ HM.R HM.TI (HM.cat (0 : Int) come) (HM.at0 line' (k + 1)) (HM.at0 line' q)) := hbi
      clear hbi hc
      cases b with
      | false =>
        clear hs
        go_wp2_with fail
        (try simp only [Exit.inBlock, Exit.then]); refine bodyPost_ret (results_none rfl _ _ _) rfl ?_
        refine ⟨rfl, line', place', H.out.drewN _, HR.out.done (.inr ?_), hl', HK.out.drewN⟩
        rw [HQ.out]
        exact fun hh => by have := HB.out.2 hh; cases this
      | true =>
        have hs := hs q'
        go_wp2_with fail
        refine hs.mono ?_
        rintro e2 w2 ⟨rfl, h2, k2⟩
        have H2 : Hid (HMem (Value.int .i64) 3 w2 B p bp bc lv (HM.swl line' (k + 1) q) (HM.swp line' place' (k + 1) q) come) := h2
        have K2 : Hid (Keeps (foot p bp bc lv) (wr.drewN q') w2) := k2
        clear h2 k2 hs
        go_wp2_with fail
        go_roundw
        case rel =>
          have hst := HR.out.step (by omega) (by rw [HQ.out]; exact HB.out.1 (by trivial))
          rw [HQ.out] at hst
          exact ⟨q, _, _, rfl, H2.out, hst, by rw [HM.swl_len]; exact hl', HK.out.drewN.trans K2.out (fun x hx => .inl hx)⟩
        case measure => simp [intOf]; omega

set_option maxHeartbeats 1000000 in
theorem at_any {w : World} {B p bp bc : Nat} {lv : Value} {line : List Nat} {place : List Int} {come : List Int} (h : HMem (Value.int .i64) 3 w B p bp bc lv line place come) {n : Nat} {m : Nat → Option Int} (hr : HM.Rep HM.TI (0 : Int) n m line place come) (t : Int) :
    Calls Try.prog 17 #[.pointer (some ⟨p, 0, none⟩), .int .i64 t] w fun e w' =>
      (∀ k : Nat, t = k → ∀ v, m k = some v → e = .returned (.tuple #[(Value.int .i64) v, .bool true])) ∧ ((∀ k : Nat, t = k → m k = none) → e = .returned (.tuple #[(Value.int .i64) (0 : Int), .bool false])) ∧ Below w.heap.size w w' := by
  have hpl : place.length = n := hr.1.1
  have hcl : come.length = n := hr.2.1
  have hm := may_any h t
  rw [hpl] at hm
  by_cases ht : 0 ≤ t ∧ t < (n : Int)
  · obtain ⟨k, rfl⟩ : ∃ k : Nat, t = k := ⟨t.toNat, by omega⟩
    have hk : k < n := by omega
    rw [decide_eq_true ht] at hm
    obtain ⟨capc1, c1, _⟩ := h.c1
    obtain ⟨capc2, c2, _⟩ := h.c2
    have p1 := (h.placeCell (i := k) (by omega)).1
    have v1 := (h.comeCell (0 : Int) (i := k) (by omega)).1
    have HM1 : Hid (m k = if k < n ∧ HM.pat place k ≠ -1 then some (HM.cat (0 : Int) come k) else none) := hr.2.2.2 k
    have kn : (k : Int) < (n : Int) := by omega
    rw [hpl] at c1
    rw [hcl] at c2
    clear h hr ht
    generalize HM.pat place k = x at *
    generalize HM.cat (0 : Int) come k = v at *
    by_cases hx : x = -1
    · subst hx
      go_enter Try.func17, Try.ntmps17
      go_wp2_with fail
      refine hm.mono ?_
      rintro e w' ⟨rfl, rfl⟩
      go_wp2_with fail
      go_ret2
      have hn : m k = none := by rw [HM1.out]; simp
      refine ⟨fun k' hk' v' hv' => ?_, fun _ => rfl, (Below.refl _ _).alloc (Nat.le_refl _) _⟩
      obtain rfl : k = k' := by omega
      rw [hn] at hv'; cases hv'
    · have hx' : (x == -1) = false := beq_eq_false_iff_ne.2 hx
      go_enter Try.func17, Try.ntmps17
      go_wp2_with fail
      refine hm.mono ?_
      rintro e w' ⟨rfl, rfl⟩
      go_wp2_with fail
      go_ret2
      have hn : m k = some v := by rw [HM1.out, if_pos ⟨hk, hx⟩]
      refine ⟨fun k' hk' v' hv' => ?_, fun hh => ?_, Below.refl _ _⟩
      · obtain rfl : k = k' := by omega
        rw [hn] at hv'; cases hv'; rfl
      · rw [hh k rfl] at hn; cases hn
  · rw [decide_eq_false ht] at hm
    have HO : Hid (∀ k : Nat, t = k → m k = none) := fun k hk => by rw [hr.2.2.2 k, if_neg (by omega)]
    clear h hr
    go_enter Try.func17, Try.ntmps17
    go_wp2_with fail
    refine hm.mono ?_
    rintro e w' ⟨rfl, rfl⟩
    go_wp2_with fail
    go_ret2
    refine ⟨fun k hk v hv => ?_, fun _ => rfl, (Below.refl _ _).alloc (Nat.le_refl _) _⟩
    rw [HO.out k hk] at hv; cases hv
end HI
end Go.Proofs.Ytmmokmgljacddaa
