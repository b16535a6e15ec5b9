/-
  NHeapBI, NHeapCI.
-/
import Derived.Test.YtkcfepppnclniaaMmNHeapMem
import Derived.Laws.Cover1
import Derived.Maps.AppendAt
section
/-
  The walks of package heap's rise, At, Peek and Put, where priorities are of type int.
-/
namespace Go.Proofs.Ytkcfepppnclniaa
namespace HI
open Go.RowKit

set_option maxHeartbeats 1000000 in
theorem rise_any {w : World} {B p bp bc : Nat} {lv : Value} {line : List Nat} {place : List Int} {come : List Int} (h : HMem (Value.int .i64) 3 w B p bp bc lv line place come) {n i : Nat} {m : Nat → Option Int} (hr : HM.RepUp HM.TI (0 : Int) n i m line place come) (hmax : line.length ≤ 1000) :
    Calls Try.prog 64 #[.pointer (some ⟨p, 0, none⟩), .int .i64 i] w fun e w' => e = .returned (.tuple #[]) ∧ ∃ line' place', HMem (Value.int .i64) 3 w' B p bp bc lv line' place' come ∧ HM.Rep HM.TI (0 : Int) n m line' place' come ∧ line'.length = line.length ∧ Keeps (foot p bp bc lv) w w' := by
  go_enter Try.func64, Try.ntmps64
  go_wp2_with fail
  go_loopw [1] (fun iv wr => ∃ (i : Nat) (line' : List Nat) (place' : List Int), iv = .int .i64 (i : Nat) ∧ HMem (Value.int .i64) 3 wr B p bp bc lv line' place' come ∧ HM.RepUp HM.TI (0 : Int) n i m line' place' come ∧ line'.length = line.length ∧ Keeps (foot p bp bc lv) w wr) (fun iv _ => (intOf iv).toNat)
  case atStart => exact ⟨i, line, place, rfl, h, hr, rfl, Keeps.refl _ _⟩
  case round =>
    obtain ⟨k, line', place', rfl, h', hr', hl', hk'⟩ := hrel
    have H : Hid (HMem (Value.int .i64) 3 wr B p bp bc lv line' place' come) := h'
    have HR : Hid (HM.RepUp HM.TI (0 : Int) n k m line' place' come) := hr'
    have HK : Hid (Keeps (foot p bp bc lv) w wr) := hk'
    have hb : k < line'.length := hr'.2.2.1
    clear h hr h' hr' hk'
    cases k with
    | zero =>
      go_wp2_with fail
      go_end0
      exact ⟨rfl, line', place', H.out, HR.out.done (.inl rfl), hl', HK.out⟩
    | succ k =>
      obtain ⟨q, hq⟩ : ∃ q, q = k / 2 := ⟨_, rfl⟩
      have e : (k : Int) / 2 = (q : Int) := by omega
      have hql : q < line'.length := by omega
      have hqk : (k + 1 - 1) / 2 = q := by omega
      have hwf := HR.out.1
      have hlc : come.length = n := HR.out.2.1
      have hc := ahead_any H.out (k + 1) q hb hql (by rw [hlc]; exact (hwf.2.1 _ hb).1) (by rw [hlc]; exact (hwf.2.1 _ hql).1)
      have hs := fun q' => swap_any (H.out.drewN q') hwf (k + 1) q hb hql
      have HQ : Hid ((k + 1 - 1) / 2 = q) := hqk
      clear hqk hwf
      rw [show (((k + 1 : Nat)) : Int) = (k : Int) + 1 from rfl] at hc
      rw [show (((k + 1 : Nat)) : Int) = (k : Int) + 1 from rfl] at hs
      clear hq
      go_wp2_with fail
      refine hc.mono ?_
      rintro e1 w1 ⟨⟨b, rfl, hbi⟩, q', rfl⟩
      have HB : Hid (b = true ↔ HM.R HM.TI (HM.cat (0 : Int) come) (HM.at0 line' (k + 1)) (HM.at0 line' q)) := hbi
      clear hbi hc
      cases b with
      | false =>
        clear hs
        go_wp2_with fail
        (try simp only [Exit.inBlock, Exit.then]); refine bodyPost_ret (results_none rfl _ _ _) rfl ?_
        refine ⟨rfl, line', place', H.out.drewN _, HR.out.done (.inr ?_), hl', HK.out.drewN⟩
        rw [HQ.out]
        exact fun hh => by have := HB.out.2 hh; cases this
      | true =>
        have hs := hs q'
        go_wp2_with fail
        refine hs.mono ?_
        rintro e2 w2 ⟨rfl, h2, k2⟩
        have H2 : Hid (HMem (Value.int .i64) 3 w2 B p bp bc lv (HM.swl line' (k + 1) q) (HM.swp line' place' (k + 1) q) come) := h2
        have K2 : Hid (Keeps (foot p bp bc lv) (wr.drewN q') w2) := k2
        clear h2 k2 hs
        go_wp2_with fail
        go_roundw
        case rel =>
          have hst := HR.out.step (by omega) (by rw [HQ.out]; exact HB.out.1 (by trivial))
          rw [HQ.out] at hst
          exact ⟨q, _, _, rfl, H2.out, hst, by rw [HM.swl_len]; exact hl', HK.out.drewN.trans K2.out (fun x hx => .inl hx)⟩
        case measure => simp [intOf]; omega

set_option maxHeartbeats 1000000 in
theorem at_any {w : World} {B p bp bc : Nat} {lv : Value} {line : List Nat} {place : List Int} {come : List Int} (h : HMem (Value.int .i64) 3 w B p bp bc lv line place come) {n : Nat} {m : Nat → Option Int} (hr : HM.Rep HM.TI (0 : Int) n m line place come) (t : Int) :
    Calls Try.prog 63 #[.pointer (some ⟨p, 0, none⟩), .int .i64 t] w fun e w' =>
      (∀ k : Nat, t = k → ∀ v, m k = some v → e = .returned (.tuple #[(Value.int .i64) v, .bool true])) ∧ ((∀ k : Nat, t = k → m k = none) → e = .returned (.tuple #[(Value.int .i64) (0 : Int), .bool false])) ∧ Below w.heap.size w w' := by
  have hpl : place.length = n := hr.1.1
  have hcl : come.length = n := hr.2.1
  have hm := may_any h t
  rw [hpl] at hm
  by_cases ht : 0 ≤ t ∧ t < (n : Int)
  · obtain ⟨k, rfl⟩ : ∃ k : Nat, t = k := ⟨t.toNat, by omega⟩
    have hk : k < n := by omega
    rw [decide_eq_true ht] at hm
    obtain ⟨capc1, c1, _⟩ := h.c1
    obtain ⟨capc2, c2, _⟩ := h.c2
    have p1 := (h.placeCell (i := k) (by omega)).1
    have v1 := (h.comeCell (0 : Int) (i := k) (by omega)).1
    have HM1 : Hid (m k = if k < n ∧ HM.pat place k ≠ -1 then some (HM.cat (0 : Int) come k) else none) := hr.2.2.2 k
    have kn : (k : Int) < (n : Int) := by omega
    rw [hpl] at c1
    rw [hcl] at c2
    clear h hr ht
    generalize HM.pat place k = x at *
    generalize HM.cat (0 : Int) come k = v at *
    by_cases hx : x = -1
    · subst hx
      go_enter Try.func63, Try.ntmps63
      go_wp2_with fail
      refine hm.mono ?_
      rintro e w' ⟨rfl, rfl⟩
      go_wp2_with fail
      go_ret2
      have hn : m k = none := by rw [HM1.out]; simp
      refine ⟨fun k' hk' v' hv' => ?_, fun _ => rfl, (Below.refl _ _).alloc (Nat.le_refl _) _⟩
      obtain rfl : k = k' := by omega
      rw [hn] at hv'; cases hv'
    · have hx' : (x == -1) = false := beq_eq_false_iff_ne.2 hx
      go_enter Try.func63, Try.ntmps63
      go_wp2_with fail
      refine hm.mono ?_
      rintro e w' ⟨rfl, rfl⟩
      go_wp2_with fail
      go_ret2
      have hn : m k = some v := by rw [HM1.out, if_pos ⟨hk, hx⟩]
      refine ⟨fun k' hk' v' hv' => ?_, fun hh => ?_, Below.refl _ _⟩
      · obtain rfl : k = k' := by omega
        rw [hn] at hv'; cases hv'; rfl
      · rw [hh k rfl] at hn; cases hn
  · rw [decide_eq_false ht] at hm
    have HO : Hid (∀ k : Nat, t = k → m k = none) := fun k hk => by rw [hr.2.2.2 k, if_neg (by omega)]
    clear h hr
    go_enter Try.func63, Try.ntmps63
    go_wp2_with fail
    refine hm.mono ?_
    rintro e w' ⟨rfl, rfl⟩
    go_wp2_with fail
    go_ret2
    refine ⟨fun k hk v hv => ?_, fun _ => rfl, (Below.refl _ _).alloc (Nat.le_refl _) _⟩
    rw [HO.out k hk] at hv; cases hv
end HI
end Go.Proofs.Ytkcfepppnclniaa
end

section
/-
  The walks of package heap's Peek and Put, where priorities are of type int.
-/
namespace Go.Proofs.Ytkcfepppnclniaa
namespace HI
open Go.RowKit

theorem info3 : (Try.prog.info? 3).map (fun i => (i.zero, i.size, i.bytes)) = some (some (.int .i64 0), 1, 8) := by kernel_rfl

theorem at_look {w : World} {B p bp bc : Nat} {lv : Value} {line : List Nat} {place : List Int} {come : List Int} (h : HMem (Value.int .i64) 3 w B p bp bc lv line place come) {n : Nat} {m : Nat → Option Int} (hr : HM.Rep HM.TI (0 : Int) n m line place come) (t : Int) :
    Calls Try.prog 63 #[.pointer (some ⟨p, 0, none⟩), .int .i64 t] w fun e w' => e = .returned (atT (Value.int .i64) (0 : Int) (HM.look m t)) ∧ Below w.heap.size w w' := by
  refine (at_any h hr t).mono ?_
  rintro e w' ⟨h1, h2, h3⟩
  refine ⟨?_, h3⟩
  unfold HM.look
  by_cases ht : 0 ≤ t
  · obtain ⟨k, rfl⟩ : ∃ k : Nat, t = k := ⟨t.toNat, by omega⟩
    rw [if_pos ht, Int.toNat_natCast]
    cases hm : m k with
    | none => exact h2 (fun k' hk' => by obtain rfl : k = k' := by omega
                                         exact hm)
    | some v => exact h1 k rfl v hm
  · rw [if_neg ht]
    exact h2 (fun k hk => by omega)

set_option maxHeartbeats 1000000 in
theorem peek_any {w : World} {B p bp bc : Nat} {lv : Value} {line : List Nat} {place : List Int} {come : List Int} (h : HMem (Value.int .i64) 3 w B p bp bc lv line place come) {n : Nat} {m : Nat → Option Int} (hr : HM.Rep HM.TI (0 : Int) n m line place come) :
    Calls Try.prog 65 #[.pointer (some ⟨p, 0, none⟩)] w fun e w' =>
      ((line.length = 0 ∧ e = .returned (.tuple #[.int .i64 0, (Value.int .i64) (0 : Int), .bool false])) ∨ (0 < line.length ∧ e = .returned (.tuple #[.int .i64 (HM.at0 line 0 : Nat), (Value.int .i64) (HM.cat (0 : Int) come (HM.at0 line 0)), .bool true]))) ∧ Below w.heap.size w w' := by
  have c0 := h.c0
  have hcl : come.length = n := hr.2.1
  by_cases h0 : line.length = 0
  · obtain rfl := List.eq_nil_of_length_eq_zero h0
    obtain ⟨ao, cap, rfl⟩ : ∃ ao cap, lv = .slice ao 0 cap := by
      rcases h.lineAt with ⟨rfl, _⟩ | ⟨g, cap, rfl, _⟩
      · exact ⟨_, _, rfl⟩
      · exact ⟨_, _, rfl⟩
    clear h hr hcl h0
    go_enter Try.func65, Try.ntmps65
    go_wp2_with fail
    go_region
    go_wp2_with fail
    go_ret3
    exact ⟨.inl ⟨by simp, rfl⟩, ((Below.refl _ _).alloc (Nat.le_refl _) _).drew⟩
  · have hp : 0 < line.length := by omega
    rcases h.lineAt with ⟨rfl, rfl⟩ | ⟨g, cap, rfl, _, _⟩
    · simp at hp
    have hn := (hr.1.2.1 0 hp).1
    have ci := (h.lineCell hp).1
    obtain ⟨capc2, c2, _⟩ := h.c2
    have v1 := (h.comeCell (0 : Int) (i := HM.at0 line 0) (by omega)).1
    rw [hcl] at c2
    clear h hr
    generalize HM.at0 line 0 = a at *
    generalize HM.cat (0 : Int) come a = v at *
    obtain ⟨l, hl⟩ : ∃ l, line.length = l + 1 := ⟨line.length - 1, by omega⟩
    rw [hl] at c0
    have hlb : ((l : Int) + 1 == 0) = false := beq_eq_false_iff_ne.2 (by omega)
    have an : (a : Int) < (n : Int) := by omega
    have HP : Hid (0 < line.length) := hp
    clear hl h0 hp
    go_enter Try.func65, Try.ntmps65
    go_wp2_with fail
    go_quiet (fail)
    go_wp2_with fail
    go_ret3
    exact ⟨.inr ⟨HP.out, rfl⟩, below_drewN (Below.refl _ _) _⟩
theorem peek_first {w : World} {B p bp bc : Nat} {lv : Value} {line : List Nat} {place : List Int} {come : List Int} (h : HMem (Value.int .i64) 3 w B p bp bc lv line place come) {n : Nat} {m : Nat → Option Int} (hr : HM.Rep HM.TI (0 : Int) n m line place come) :
    Calls Try.prog 65 #[.pointer (some ⟨p, 0, none⟩)] w fun e w' => e = .returned (peekT (Value.int .i64) (0 : Int) (HM.firstOf HM.TI m)) ∧ Below w.heap.size w w' := by
  refine (peek_any h hr).mono ?_
  rintro e w' ⟨⟨h1, rfl⟩ | ⟨h1, rfl⟩, h3⟩
  · rw [HM.firstOf_none (hr.empty h1)]
    exact ⟨rfl, h3⟩
  · rw [HM.firstOf_eq (hr.first h1)]
    exact ⟨rfl, h3⟩

set_option maxHeartbeats 2000000 in
theorem put_any {w : World} {B p bp bc : Nat} {lv : Value} {line : List Nat} {place : List Int} {come : List Int} (h : HMem (Value.int .i64) 3 w B p bp bc lv line place come) {n : Nat} {m : Nat → Option Int} (hr : HM.Rep HM.TI (0 : Int) n m line place come) (hn : n ≤ 64) (t : Int) (v : Int) :
    Calls Try.prog 52 #[.pointer (some ⟨p, 0, none⟩), .int .i64 t, (Value.int .i64) v] w fun e w' => e = .returned (.int .i64 (HM.code HM.TI n m t v)) ∧
      ∃ lv' line' place' come', HMem (Value.int .i64) 3 w' B p bp bc lv' line' place' come' ∧ HM.Rep HM.TI (0 : Int) n (HM.put HM.TI n m t v) line' place' come' ∧ Keeps (foot p bp bc lv) w w' ∧ (∀ b, foot p bp bc lv' b → foot p bp bc lv b ∨ w.heap.size ≤ b) := by
  have hpl : place.length = n := hr.1.1
  have hcl : come.length = n := hr.2.1
  have hle := hr.le
  have hm := may_any h t
  have HM0 : Hid (HMem (Value.int .i64) 3 w B p bp bc lv line place come) := h
  have HR0 : Hid (HM.Rep HM.TI (0 : Int) n m line place come) := hr
  rw [hpl] at hm
  by_cases ht : 0 ≤ t ∧ t < (n : Int)
  · obtain ⟨k, rfl⟩ : ∃ k : Nat, t = k := ⟨t.toNat, by omega⟩
    have hk : k < n := by omega
    rw [decide_eq_true ht] at hm
    have ha := at_look h hr k
    have HC : Hid (HM.code HM.TI n m k v = (match m k with | some q => if HM.TI.lt v q = true then 0 else 5 | none => 0)) := by
      show _ = _
      unfold HM.code
      rw [if_pos ht, Int.toNat_natCast]
      cases m k <;> rfl
    have hlk : HM.look m k = m k := by unfold HM.look; rw [if_pos (by omega), Int.toNat_natCast]
    rw [hlk] at ha
    clear hlk ht h hr
    have hmk := HR0.out.2.2.2 k
    cases hq : m k with
    | some q =>
      rw [hq] at ha HC
      by_cases hlt : HM.TI.lt v q = true
      · -- it comes to less
        have hcode : HM.code HM.TI n m k v = 0 := by rw [HC.out]; simp [hlt]
        have HP : Hid (HM.put HM.TI n m k v = HM.upd m k (some v)) := by
          show _ = _
          unfold HM.put
          rw [hcode, if_pos rfl, Int.toNat_natCast]
        have HCC : Hid (HM.code HM.TI n m k v = 0) := hcode
        have hle2 : ¬ q ≤ v := by simpa [HM.TI] using hlt
        obtain ⟨_, hqe, i, hi, hpi, _⟩ := HR0.out.mem hq
        have hup := HR0.out.lessen (p := v) hk hpi (hqe ▸ hlt)
        have HU : Hid (HM.RepUp HM.TI (0 : Int) n i (HM.upd m k (some v)) line place (come.set k v)) := hup
        have hib : ((i : Int) == -1) = false := beq_eq_false_iff_ne.2 (by omega)
        have HL : Hid (line.length ≤ n) := hle
        have kn : (k : Int) < (n : Int) := by omega
        clear hcode hlt HC hmk hup
        simp only [atT] at ha
        go_enter Try.func52, Try.ntmps52
        go_wp2_with fail
        refine hm.mono ?_
        rintro e w' ⟨rfl, rfl⟩
        go_wp2_with fail
        refine ha.mono ?_
        rintro e w1 ⟨rfl, hb1⟩
        have h1 := HM0.out.below hb1
        have H1 : Hid (HMem (Value.int .i64) 3 w1 B p bp bc lv line place come) := h1
        have HB1 : Hid (Below w'.heap.size w' w1) := hb1
        have h2 := h1.setCome k v
        have hri := rise_any h2 HU.out (by omega)
        obtain ⟨capc1, c1, _⟩ := h1.c1
        obtain ⟨capc2, c2, _⟩ := h1.c2
        have p1 := (h1.placeCell (i := k) (by omega)).1
        obtain ⟨v1, f1⟩ := h1.comeCell (0 : Int) (i := k) (by omega)
        obtain ⟨capc1b, c1', _⟩ := h2.c1
        have p1' := (h2.placeCell (i := k) (by omega)).1
        have n2 := h1.n2
        have n3 := h1.n3
        rw [hpl] at c1 c1'
        rw [hcl] at c2
        rw [hpi] at p1 p1'
        rw [← hqe] at v1
        clear h1 h2 hb1 ha hm hi hpl hcl hle hq hqe hpi
        go_wp2_with fail
        refine hri.mono ?_
        rintro e w2 ⟨rfl, line', place', a1, a2, a3, a4⟩
        go_wp2_with fail
        go_ret
        rw [HCC.out, HP.out]
        exact ⟨rfl, lv, line', place', _, a1, a2, ((Below.keeps HB1.out _).setCell (p := ⟨bc, k, none⟩) (.inl (.inr (.inr (.inl rfl)))) _).trans a4 (fun x hx => .inl hx), fun b hb => .inl hb⟩
      · -- it doesn't
        have hcode : HM.code HM.TI n m k v = 5 := by rw [HC.out]; simp [hlt]
        have HP : Hid (HM.put HM.TI n m k v = m) := by
          show _ = _
          unfold HM.put
          rw [hcode, if_neg (by decide)]
        have HCC : Hid (HM.code HM.TI n m k v = 5) := hcode
        have hle2 : q ≤ v := by simpa [HM.TI] using hlt
        clear hcode hlt HC hmk
        simp only [atT] at ha
        go_enter Try.func52, Try.ntmps52
        go_wp2_with fail
        refine hm.mono ?_
        rintro e w' ⟨rfl, rfl⟩
        go_wp2_with fail
        refine ha.mono ?_
        rintro e w1 ⟨rfl, hb1⟩
        go_wp2_with fail
        go_ret
        rw [HCC.out, HP.out]
        exact ⟨rfl, lv, line, place, come, HM0.out.below hb1, HR0.out, Below.keeps hb1 _, fun b hb => .inl hb⟩
    | none =>
      rw [hq] at ha HC
      have hcode : HM.code HM.TI n m k v = 0 := HC.out
      have HP : Hid (HM.put HM.TI n m k v = HM.upd m k (some v)) := by
        show _ = _
        unfold HM.put
        rw [hcode, if_pos rfl, Int.toNat_natCast]
      have HCC : Hid (HM.code HM.TI n m k v = 0) := hcode
      have hpi : HM.pat place k = -1 := by
        rcases HR0.out.out.1 hq with h' | h'
        · omega
        · exact h'
      have HU : Hid (HM.RepUp HM.TI (0 : Int) n line.length (HM.upd m k (some v)) (line ++ [k]) (place.set k (line.length : Int)) (come.set k v)) := HR0.out.push (p := v) hk hpi
      have HL : Hid (line.length ≤ n) := hle
      have kn : (k : Int) < (n : Int) := by omega
      obtain ⟨ao, cap, hlv⟩ : ∃ ao cap, lv = .slice ao line.length cap := by
        rcases HM0.out.lineAt with ⟨rfl, rfl⟩ | ⟨g, cap, rfl, _⟩
        · exact ⟨_, _, rfl⟩
        · exact ⟨_, _, rfl⟩
      obtain ⟨i0, hi, hz0, hz1, hz2⟩ := info_parts info3
      clear hcode HC hmk
      simp only [atT] at ha
      go_enter Try.func52, Try.ntmps52
      go_wp2_with fail
      refine hm.mono ?_
      rintro e w' ⟨rfl, rfl⟩
      go_wp2_with fail
      refine ha.mono ?_
      rintro e w1 ⟨rfl, hb1⟩
      have h1 := HM0.out.below hb1
      have HB1 : Hid (Below w'.heap.size w' w1) := hb1
      have HLV : Hid (lv = .slice ao line.length cap) := hlv
      have H2 : Hid (HMem (Value.int .i64) 3 (w1.setCell ⟨bp, k, none⟩ (.int .i64 (line.length : Nat))).drew B p bp bc lv line (place.set k (line.length : Int)) come) := (h1.setPlace k (line.length : Int)).drew
      have K2 : Hid (Keeps (foot p bp bc lv) w' (w1.setCell ⟨bp, k, none⟩ (.int .i64 (line.length : Nat))).drew) := ((Below.keeps hb1 _).setCell (p := ⟨bp, k, none⟩) (.inl (.inr (.inl rfl))) _).drew
      have c0 := h1.c0
      obtain ⟨capc1, c1, _⟩ := h1.c1
      obtain ⟨p1, f1⟩ := h1.placeCell (i := k) (by omega)
      rw [hpl] at c1
      rw [hpi] at p1
      rw [hlv] at c0
      clear h1 hb1 ha hm hle hq hpi hlv
      go_wp2_with fail
      go_region
      generalize (w1.setCell ⟨bp, k, none⟩ (.int .i64 (line.length : Nat))).drew = w2 at *
      clear c0 c1 p1 f1
      have c0 := H2.out.c0
      rw [HLV.out] at c0
      have h64 : line.length ≤ 64 := by
        have := HL.out
        omega
      have hB : B ≤ w2.heap.size := by
        have := H2.out.lt p (.inl rfl)
        omega
      go_wp2_with (at_builtin; refine wpList_append_own_at _ rfl _ _ 43 rfl B 3 i0 (.int .i64 0) 1 8 Try.underlying43 hi hz0 hz1 hz2 rfl (by decide) (.slice ao line.length cap) line.length (line.map natV) rfl (by rw [← HLV.out]; exact H2.out.ln.alloc _) ⟨w2.heap.size, 0, none⟩ 1 1 [natV k] rfl rfl (cell_one_new _ _ _) (ints_oneCell .i64 [_]) (by unfold maxLen; omega) (by omega) (by simp; omega) ?_)
      intro v' w3 hown' hgrow' _ hat'
      rw [← HLV.out] at hgrow' hat'
      obtain ⟨g', cap', rfl⟩ : ∃ g' cap', v' = .slice (some ⟨g', 0, none⟩) (line.length + 1) cap' := by
        rcases hown'.2 with ⟨_, h'⟩ | ⟨g', cap', _, h', _⟩
        · omega
        · exact ⟨g', cap', h'⟩
      obtain ⟨c0', f0'⟩ := H2.out.grown ((Below.refl _ _).alloc (Nat.le_refl _) _) hgrow'
      obtain ⟨h4, k4, q4⟩ := H2.out.append ((Below.refl _ _).alloc (Nat.le_refl _) _) hgrow' hown' (hat'.imp_right (fun e => by rw [e]; simp))
      have K4 : Hid (Keeps (foot p bp bc lv) w2 (w3.setCell ⟨p, 0, none⟩ (.slice (some ⟨g', 0, none⟩) (line.length + 1) cap'))) := k4
      have Q4 : Hid (∀ b, foot p bp bc (.slice (some ⟨g', 0, none⟩) (line.length + 1) cap') b → foot p bp bc lv b ∨ w2.heap.size ≤ b) := q4
      have h5 := h4.setCome k v
      have hri := rise_any h5 HU.out (by simp; omega)
      obtain ⟨capc1, c1, _⟩ := h4.c1
      obtain ⟨capc2, c2, _⟩ := h4.c2
      obtain ⟨v1, f1⟩ := h4.comeCell (0 : Int) (i := k) (by omega)
      obtain ⟨capc1b, c1', _⟩ := h5.c1
      have p1' := (h5.placeCell (i := k) (by simp; omega)).1
      have n2 := h4.n2
      have n3 := h4.n3
      rw [List.length_set, hpl] at c1 c1'
      rw [hcl] at c2
      rw [HM.pat_set _ _ _ _ (by omega), if_pos rfl] at p1'
      generalize HM.cat (0 : Int) come k = x at v1
      clear h4 k4 q4 h5 hgrow' hown' hat' hpl hcl c0
      go_wp2_with fail
      refine hri.mono ?_
      rintro e w6 ⟨rfl, line', place', a1, a2, a3, a4⟩
      go_wp2_with fail
      go_ret
      rw [HCC.out, HP.out]
      have hsz := K2.out.size
      refine ⟨rfl, _, line', place', _, a1, a2, ?_, fun b hb => ?_⟩
      · refine ((K2.out.trans K4.out (fun x hx => .inl hx)).setCell (p := ⟨bc, k, none⟩) (.inl (.inr (.inr (.inl rfl)))) _).trans a4 (fun x hx => ?_)
        rcases Q4.out x hx with h' | h'
        · exact .inl h'
        · exact .inr (by omega)
      · rcases Q4.out b hb with h' | h'
        · exact .inl h'
        · exact .inr (by omega)
  · rw [decide_eq_false ht] at hm
    have HC : Hid (HM.code HM.TI n m t v = 1) := by show _ = _; unfold HM.code; rw [if_neg ht]
    have HP : Hid (HM.put HM.TI n m t v = m) := by
      show _ = _
      unfold HM.put
      rw [HC.out, if_neg (by decide)]
    clear h hr
    go_enter Try.func52, Try.ntmps52
    go_wp2_with fail
    refine hm.mono ?_
    rintro e w' ⟨rfl, rfl⟩
    go_wp2_with fail
    go_ret
    rw [HC.out, HP.out]
    exact ⟨rfl, lv, line, place, come, HM0.out, HR0.out, Keeps.refl _ _, fun b hb => .inl hb⟩
end HI
end Go.Proofs.Ytkcfepppnclniaa
end
