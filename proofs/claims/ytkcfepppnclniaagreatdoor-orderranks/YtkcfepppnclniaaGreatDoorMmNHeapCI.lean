/-
  NHeapCI, NHeapN.
-/
import Derived.Test.YtkcfepppnclniaaGreatDoorMmNHeapMem
import Derived.Maps.AppendAt
import Derived.BigRegion
import Derived.BigQuiet
import Derived.Laws.CopyOwn
import Derived.Deep.RegionLaw
import Derived.Deep.OwnRows
import Derived.Deep.DeepCutAuto
import Derived.Laws.MathBits
section
/-
  The walks of package heap's Peek and Put, where priorities are of type int.
-/
namespace Go.Proofs.YtkcfepppnclniaaGreatDoor
namespace HI
open Go.RowKit

theorem info3 : (Tryz.prog.info? 3).map (fun i => (i.zero, i.size, i.bytes)) = some (some (.int .i64 0), 1, 8) := by kernel_rfl

theorem at_look {w : World} {B p bp bc : Nat} {lv : Value} {line : List Nat} {place : List Int} {come : List Int} (h : HMem (Value.int .i64) 3 w B p bp bc lv line place come) {n : Nat} {m : Nat → Option Int} (hr : HM.Rep HM.TI (0 : Int) n m line place come) (t : Int) :
    Calls Tryz.prog 110 #[.pointer (some ⟨p, 0, none⟩), .int .i64 t] w fun e w' => e = .returned (atT (Value.int .i64) (0 : Int) (HM.look m t)) ∧ Below w.heap.size w w' := by
  refine (at_any h hr t).mono ?_
  rintro e w' ⟨h1, h2, h3⟩
  refine ⟨?_, h3⟩
  unfold HM.look
  by_cases ht : 0 ≤ t
  · obtain ⟨k, rfl⟩ : ∃ k : Nat, t = k := ⟨t.toNat, by omega⟩
    rw [if_pos ht, Int.toNat_natCast]
    cases hm : m k with
    | none => exact h2 (fun k' hk' => by obtain rfl : k = k' := by omega
                                         exact hm)
    | some v => exact h1 k rfl v hm
  · rw [if_neg ht]
    exact h2 (fun k hk => by omega)

set_option maxHeartbeats 1000000 in
theorem peek_any {w : World} {B p bp bc : Nat} {lv : Value} {line : List Nat} {place : List Int} {come : List Int} (h : HMem (Value.int .i64) 3 w B p bp bc lv line place come) {n : Nat} {m : Nat → Option Int} (hr : HM.Rep HM.TI (0 : Int) n m line place come) :
    Calls Tryz.prog 112 #[.pointer (some ⟨p, 0, none⟩)] w fun e w' =>
      ((line.length = 0 ∧ e = .returned (.tuple #[.int .i64 0, (Value.int .i64) (0 : Int), .bool false])) ∨ (0 < line.length ∧ e = .returned (.tuple #[.int .i64 (HM.at0 line 0 : Nat), (Value.int .i64) (HM.cat (0 : Int) come (HM.at0 line 0)), .bool true]))) ∧ Below w.heap.size w w' := by
  have c0 := h.c0
  have hcl : come.length = n := hr.2.1
  by_cases h0 : line.length = 0
  · obtain rfl := List.eq_nil_of_length_eq_zero h0
    obtain ⟨ao, cap, rfl⟩ : ∃ ao cap, lv = .slice ao 0 cap := by
      rcases h.lineAt with ⟨rfl, _⟩ | ⟨g, cap, rfl, _⟩
      · exact ⟨_, _, rfl⟩
      · exact ⟨_, _, rfl⟩
    clear h hr hcl h0
    go_enter Tryz.func112, Tryz.ntmps112
    go_wp2_with fail
    go_region
    go_wp2_with fail
    go_ret3
    exact ⟨.inl ⟨by simp, rfl⟩, ((Below.refl _ _).alloc (Nat.le_refl _) _).drew⟩
  · have hp : 0 < line.length := by omega
    rcases h.lineAt with ⟨rfl, rfl⟩ | ⟨g, cap, rfl, _, _⟩
    · simp at hp
    have hn := (hr.1.2.1 0 hp).1
    have ci := (h.lineCell hp).1
    obtain ⟨capc2, c2, _⟩ := h.c2
    have v1 := (h.comeCell (0 : Int) (i := HM.at0 line 0) (by omega)).1
    rw [hcl] at c2
    clear h hr
    generalize HM.at0 line 0 = a at *
    generalize HM.cat (0 : Int) come a = v at *
    obtain ⟨l, hl⟩ : ∃ l, line.length = l + 1 := ⟨line.length - 1, by omega⟩
    rw [hl] at c0
    have hlb : ((l : Int) + 1 == 0) = false := beq_eq_false_iff_ne.2 (by omega)
    have an : (a : Int) < (n : Int) := by omega
    have HP : Hid (0 < line.length) := hp
    clear hl h0 hp
    go_enter Tryz.func112, Tryz.ntmps112
    go_wp2_with fail
    go_quiet (fail)
    go_wp2_with fail
    go_ret3
    exact ⟨.inr ⟨HP.out, rfl⟩, below_drewN (Below.refl _ _) _⟩
theorem peek_first {w : World} {B p bp bc : Nat} {lv : Value} {line : List Nat} {place : List Int} {come : List Int} (h : HMem (Value.int .i64) 3 w B p bp bc lv line place come) {n : Nat} {m : Nat → Option Int} (hr : HM.Rep HM.TI (0 : Int) n m line place come) :
    Calls Tryz.prog 112 #[.pointer (some ⟨p, 0, none⟩)] w fun e w' => e = .returned (peekT (Value.int .i64) (0 : Int) (HM.firstOf HM.TI m)) ∧ Below w.heap.size w w' := by
  refine (peek_any h hr).mono ?_
  rintro e w' ⟨⟨h1, rfl⟩ | ⟨h1, rfl⟩, h3⟩
  · rw [HM.firstOf_none (hr.empty h1)]
    exact ⟨rfl, h3⟩
  · rw [HM.firstOf_eq (hr.first h1)]
    exact ⟨rfl, h3⟩

set_option maxHeartbeats 2000000 in
theorem put_any {w : World} {B p bp bc : Nat} {lv : Value} {line : List Nat} {place : List Int} {come : List Int} (h : HMem (Value.int .i64) 3 w B p bp bc lv line place come) {n : Nat} {m : Nat → Option Int} (hr : HM.Rep HM.TI (0 : Int) n m line place come) (hn : n ≤ 64) (t : Int) (v : Int) :
    Calls Tryz.prog 101 #[.pointer (some ⟨p, 0, none⟩), .int .i64 t, (Value.int .i64) v] w fun e w' => e = .returned (.int .i64 (HM.code HM.TI n m t v)) ∧
      ∃ lv' line' place' come', HMem (Value.int .i64) 3 w' B p bp bc lv' line' place' come' ∧ HM.Rep HM.TI (0 : Int) n (HM.put HM.TI n m t v) line' place' come' ∧ Keeps (foot p bp bc lv) w w' ∧ (∀ b, foot p bp bc lv' b → foot p bp bc lv b ∨ w.heap.size ≤ b) := by
  have hpl : place.length = n := hr.1.1
  have hcl : come.length = n := hr.2.1
  have hle := hr.le
  have hm := may_any h t
  have HM0 : Hid (HMem (Value.int .i64) 3 w B p bp bc lv line place come) := h
  have HR0 : Hid (HM.Rep HM.TI (0 : Int) n m line place come) := hr
  rw [hpl] at hm
  by_cases ht : 0 ≤ t ∧ t < (n : Int)
  · obtain ⟨k, rfl⟩ : ∃ k : Nat, t = k := ⟨t.toNat, by omega⟩
    have hk : k < n := by omega
    rw [decide_eq_true ht] at hm
    have ha := at_look h hr k
    have HC : Hid (HM.code HM.TI n m k v = (match m k with | some q => if HM.TI.lt v q = true then 0 else 5 | none => 0)) := by
      show _ = _
      unfold HM.code
      rw [if_pos ht, Int.toNat_natCast]
      cases m k <;> rfl
    have hlk : HM.look m k = m k := by unfold HM.look; rw [if_pos (by omega), Int.toNat_natCast]
    rw [hlk] at ha
    clear hlk ht h hr
    have hmk := HR0.out.2.2.2 k
    cases hq : m k with
    | some q =>
      rw [hq] at ha HC
      by_cases hlt : HM.TI.lt v q = true
      · -- it comes to less
        have hcode : HM.code HM.TI n m k v = 0 := by rw [HC.out]; simp [hlt]
        have HP : Hid (HM.put HM.TI n m k v = HM.upd m k (some v)) := by
          show _ = _
          unfold HM.put
          rw [hcode, if_pos rfl, Int.toNat_natCast]
        have HCC : Hid (HM.code HM.TI n m k v = 0) := hcode
        have hle2 : ¬ q ≤ v := by simpa [HM.TI] using hlt
        obtain ⟨_, hqe, i, hi, hpi, _⟩ := HR0.out.mem hq
        have hup := HR0.out.lessen (p := v) hk hpi (hqe ▸ hlt)
        have HU : Hid (HM.RepUp HM.TI (0 : Int) n i (HM.upd m k (some v)) line place (come.set k v)) := hup
        have hib : ((i : Int) == -1) = false := beq_eq_false_iff_ne.2 (by omega)
        have HL : Hid (line.length ≤ n) := hle
        have kn : (k : Int) < (n : Int) := by omega
        clear hcode hlt HC hmk hup
        simp only [atT] at ha
        go_enter Tryz.func101, Tryz.ntmps101
        go_wp2_with fail
        refine hm.mono ?_
        rintro e w' ⟨rfl, rfl⟩
        go_wp2_with fail
        refine ha.mono ?_
        rintro e w1 ⟨rfl, hb1⟩
        have h1 := HM0.out.below hb1
        have H1 : Hid (HMem (Value.int .i64) 3 w1 B p bp bc lv line place come) := h1
        have HB1 : Hid (Below w'.heap.size w' w1) := hb1
        have h2 := h1.setCome k v
        have hri := rise_any h2 HU.out (by omega)
        obtain ⟨capc1, c1, _⟩ := h1.c1
        obtain ⟨capc2, c2, _⟩ := h1.c2
        have p1 := (h1.placeCell (i := k) (by omega)).1
        obtain ⟨v1, f1⟩ := h1.comeCell (0 : Int) (i := k) (by omega)
        obtain ⟨capc1b, c1', _⟩ := h2.c1
        have p1' := (h2.placeCell (i := k) (by omega)).1
        have n2 := h1.n2
        have n3 := h1.n3
        rw [hpl] at c1 c1'
        rw [hcl] at c2
        rw [hpi] at p1 p1'
        rw [← hqe] at v1
        clear h1 h2 hb1 ha hm hi hpl hcl hle hq hqe hpi
        go_wp2_with fail
        refine hri.mono ?_
        rintro e w2 ⟨rfl, line', place', a1, a2, a3, a4⟩
        go_wp2_with fail
        go_ret
        rw [HCC.out, HP.out]
        exact ⟨rfl, lv, line', place', _, a1, a2, ((Below.keeps HB1.out _).setCell (p := ⟨bc, k, none⟩) (.inl (.inr (.inr (.inl rfl)))) _).trans a4 (fun x hx => .inl hx), fun b hb => .inl hb⟩
      · -- it doesn't
        have hcode : HM.code HM.TI n m k v = 5 := by rw [HC.out]; simp [hlt]
        have HP : Hid (HM.put HM.TI n m k v = m) := by
          show _ = _
          unfold HM.put
          rw [hcode, if_neg (by decide)]
        have HCC : Hid (HM.code HM.TI n m k v = 5) := hcode
        have hle2 : q ≤ v := by simpa [HM.TI] using hlt
        clear hcode hlt HC hmk
        simp only [atT] at ha
        go_enter Tryz.func101, Tryz.ntmps101
        go_wp2_with fail
        refine hm.mono ?_
        rintro e w' ⟨rfl, rfl⟩
        go_wp2_with fail
        refine ha.mono ?_
        rintro e w1 ⟨rfl, hb1⟩
        go_wp2_with fail
        go_ret
        rw [HCC.out, HP.out]
        exact ⟨rfl, lv, line, place, come, HM0.out.below hb1, HR0.out, Below.keeps hb1 _, fun b hb => .inl hb⟩
    | none =>
      rw [hq] at ha HC
      have hcode : HM.code HM.TI n m k v = 0 := HC.out
      have HP : Hid (HM.put HM.TI n m k v = HM.upd m k (some v)) := by
        show _ = _
        unfold HM.put
        rw [hcode, if_pos rfl, Int.toNat_natCast]
      have HCC : Hid (HM.code HM.TI n m k v = 0) := hcode
      have hpi : HM.pat place k = -1 := by
        rcases HR0.out.out.1 hq with h' | h'
        · omega
        · exact h'
      have HU : Hid (HM.RepUp HM.TI (0 : Int) n line.length (HM.upd m k (some v)) (line ++ [k]) (place.set k (line.length : Int)) (come.set k v)) := HR0.out.push (p := v) hk hpi
      have HL : Hid (line.length ≤ n) := hle
      have kn : (k : Int) < (n : Int) := by omega
      obtain ⟨ao, cap, hlv⟩ : ∃ ao cap, lv = .slice ao line.length cap := by
        rcases HM0.out.lineAt with ⟨rfl, rfl⟩ | ⟨g, cap, rfl, _⟩
        · exact ⟨_, _, rfl⟩
        · exact ⟨_, _, rfl⟩
      obtain ⟨i0, hi, hz0, hz1, hz2⟩ := info_parts info3
      clear hcode HC hmk
      simp only [atT] at ha
      go_enter Tryz.func101, Tryz.ntmps101
      go_wp2_with fail
      refine hm.mono ?_
      rintro e w' ⟨rfl, rfl⟩
      go_wp2_with fail
      refine ha.mono ?_
      rintro e w1 ⟨rfl, hb1⟩
      have h1 := HM0.out.below hb1
      have HB1 : Hid (Below w'.heap.size w' w1) := hb1
      have HLV : Hid (lv = .slice ao line.length cap) := hlv
      have H2 : Hid (HMem (Value.int .i64) 3 (w1.setCell ⟨bp, k, none⟩ (.int .i64 (line.length : Nat))).drew B p bp bc lv line (place.set k (line.length : Int)) come) := (h1.setPlace k (line.length : Int)).drew
      have K2 : Hid (Keeps (foot p bp bc lv) w' (w1.setCell ⟨bp, k, none⟩ (.int .i64 (line.length : Nat))).drew) := ((Below.keeps hb1 _).setCell (p := ⟨bp, k, none⟩) (.inl (.inr (.inl rfl))) _).drew
      have c0 := h1.c0
      obtain ⟨capc1, c1, _⟩ := h1.c1
      obtain ⟨p1, f1⟩ := h1.placeCell (i := k) (by omega)
      rw [hpl] at c1
      rw [hpi] at p1
      rw [hlv] at c0
      clear h1 hb1 ha hm hle hq hpi hlv
      go_wp2_with fail
      go_region
      generalize (w1.setCell ⟨bp, k, none⟩ (.int .i64 (line.length : Nat))).drew = w2 at *
      clear c0 c1 p1 f1
      have c0 := H2.out.c0
      rw [HLV.out] at c0
      have h64 : line.length ≤ 64 := by
        have := HL.out
        omega
      have hB : B ≤ w2.heap.size := by
        have := H2.out.lt p (.inl rfl)
        omega
      go_wp2_with (at_builtin; refine wpList_append_own_at _ rfl _ _ 28 rfl B 3 i0 (.int .i64 0) 1 8 Tryz.underlying28 hi hz0 hz1 hz2 rfl (by decide) (.slice ao line.length cap) line.length (line.map natV) rfl (by rw [← HLV.out]; exact H2.out.ln.alloc _) ⟨w2.heap.size, 0, none⟩ 1 1 [natV k] rfl rfl (cell_one_new _ _ _) (ints_oneCell .i64 [_]) (by unfold maxLen; omega) (by omega) (by simp; omega) ?_)
      intro v' w3 hown' hgrow' _ hat'
      rw [← HLV.out] at hgrow' hat'
      obtain ⟨g', cap', rfl⟩ : ∃ g' cap', v' = .slice (some ⟨g', 0, none⟩) (line.length + 1) cap' := by
        rcases hown'.2 with ⟨_, h'⟩ | ⟨g', cap', _, h', _⟩
        · omega
        · exact ⟨g', cap', h'⟩
      obtain ⟨c0', f0'⟩ := H2.out.grown ((Below.refl _ _).alloc (Nat.le_refl _) _) hgrow'
      obtain ⟨h4, k4, q4⟩ := H2.out.append ((Below.refl _ _).alloc (Nat.le_refl _) _) hgrow' hown' (hat'.imp_right (fun e => by rw [e]; simp))
      have K4 : Hid (Keeps (foot p bp bc lv) w2 (w3.setCell ⟨p, 0, none⟩ (.slice (some ⟨g', 0, none⟩) (line.length + 1) cap'))) := k4
      have Q4 : Hid (∀ b, foot p bp bc (.slice (some ⟨g', 0, none⟩) (line.length + 1) cap') b → foot p bp bc lv b ∨ w2.heap.size ≤ b) := q4
      have h5 := h4.setCome k v
      have hri := rise_any h5 HU.out (by simp; omega)
      obtain ⟨capc1, c1, _⟩ := h4.c1
      obtain ⟨capc2, c2, _⟩ := h4.c2
      obtain ⟨v1, f1⟩ := h4.comeCell (0 : Int) (i := k) (by omega)
      obtain ⟨capc1b, c1', _⟩ := h5.c1
      have p1' := (h5.placeCell (i := k) (by simp; omega)).1
      have n2 := h4.n2
      have n3 := h4.n3
      rw [List.length_set, hpl] at c1 c1'
      rw [hcl] at c2
      rw [HM.pat_set _ _ _ _ (by omega), if_pos rfl] at p1'
      generalize HM.cat (0 : Int) come k = x at v1
      clear h4 k4 q4 h5 hgrow' hown' hat' hpl hcl c0
      go_wp2_with fail
      refine hri.mono ?_
      rintro e w6 ⟨rfl, line', place', a1, a2, a3, a4⟩
      go_wp2_with fail
      go_ret
      rw [HCC.out, HP.out]
      have hsz := K2.out.size
      refine ⟨rfl, _, line', place', _, a1, a2, ?_, fun b hb => ?_⟩
      · refine ((K2.out.trans K4.out (fun x hx => .inl hx)).setCell (p := ⟨bc, k, none⟩) (.inl (.inr (.inr (.inl rfl)))) _).trans a4 (fun x hx => ?_)
        rcases Q4.out x hx with h' | h'
        · exact .inl h'
        · exact .inr (by omega)
      · rcases Q4.out b hb with h' | h'
        · exact .inl h'
        · exact .inr (by omega)
  · rw [decide_eq_false ht] at hm
    have HC : Hid (HM.code HM.TI n m t v = 1) := by show _ = _; unfold HM.code; rw [if_neg ht]
    have HP : Hid (HM.put HM.TI n m t v = m) := by
      show _ = _
      unfold HM.put
      rw [HC.out, if_neg (by decide)]
    clear h hr
    go_enter Tryz.func101, Tryz.ntmps101
    go_wp2_with fail
    refine hm.mono ?_
    rintro e w' ⟨rfl, rfl⟩
    go_wp2_with fail
    go_ret
    rw [HC.out, HP.out]
    exact ⟨rfl, lv, line, place, come, HM0.out, HR0.out, Keeps.refl _ _, fun b hb => .inl hb⟩
end HI
end Go.Proofs.YtkcfepppnclniaaGreatDoor
end

section
/-
  The walks of math/bits.Mul and slices.Repeat, of one number.
-/
namespace Go.Proofs.YtkcfepppnclniaaGreatDoor
namespace HN
open Go.RowKit

theorem info3 : (Tryz.prog.info? 3).map (fun i => (i.zero, i.size, i.bytes)) = some (some (.int .i64 0), 1, 8) := by kernel_rfl
theorem size3 : (Tryz.prog.info? 3).map (·.size) = some 1 := by kernel_rfl

set_option maxHeartbeats 1000000 in
theorem mul64_one (n : Nat) (hn : n ≤ 64) (w : World) :
    Calls Tryz.prog 124 #[.int .u64 1, .int .u64 n] w fun e w' => e = .returned (.tuple #[.int .u64 0, .int .u64 n]) ∧ w' = w := by
  have h1 : bits .and .u64 1 4294967295 = 1 := by decide
  have h2 : bits .and .u64 (n : Int) 4294967295 = (n : Int) := by rw [and_low32 _ (by omega) (by omega)]; omega
  have h3 : (n : Int) / 4294967296 = 0 := by omega
  have h4 : bits .and .u64 0 4294967295 = 0 := by decide
  go_enter Tryz.func124, Tryz.ntmps124
  go_wp2_with fail
  go_ret2
  exact ⟨rfl, rfl⟩
set_option maxHeartbeats 1000000 in
theorem mul_one (n : Nat) (hn : n ≤ 64) (w : World) :
    Calls Tryz.prog 120 #[.int .u64 1, .int .u64 n] w fun e w' => e = .returned (.tuple #[.int .u64 0, .int .u64 n]) ∧ w' = w := by
  have hc := mul64_one n hn w
  go_enter Tryz.func120, Tryz.ntmps120
  go_wp2_with fail
  refine hc.mono ?_
  rintro e w' ⟨rfl, rfl⟩
  go_wp2_with fail
  go_ret2
  exact ⟨rfl, rfl⟩

/-- A row of n, the first k of which are x. -/
def blk (x : Int) (n k : Nat) : List Value := List.replicate k (.int .i64 x) ++ List.replicate (n - k) (.int .i64 0)
def ones (x : Int) (k : Nat) : List Value := List.replicate k (.int .i64 x)
theorem blk_len {x : Int} {n k : Nat} (h : k ≤ n) : (blk x n k).length = n := by simp [blk]; omega
theorem ones_len (x : Int) (k : Nat) : (ones x k).length = k := by simp [ones]
theorem blk_splice {x : Int} {n k j : Nat} (h : k + j ≤ n) : splice (blk x n k) k (ones x j) = blk x n (k + j) := by
  unfold splice blk ones
  rw [List.take_append_of_le_length (by simp), List.take_of_length_le (by simp), List.length_replicate, List.drop_append, List.drop_of_length_le (by simp)]
  simp only [List.length_replicate, List.nil_append, List.drop_replicate]
  rw [← List.append_assoc, List.replicate_append_replicate]
  congr 2
  omega
theorem ones_at {x : Int} (k j : Nat) (v : Value) (h : (ones x k)[j]? = some v) : j < k ∧ v = .int .i64 x := by
  unfold ones at h
  rw [List.getElem?_replicate] at h
  split at h
  · exact ⟨by assumption, (Option.some.inj h).symm⟩
  · cases h
theorem ones_one (x : Int) (k : Nat) : ∀ v ∈ ones x k, v.oneCell' = true := by
  intro v hv
  obtain rfl := List.eq_of_mem_replicate hv
  rfl

set_option maxHeartbeats 2000000 in
theorem repeat_of (b n : Nat) (x : Int) (hn : n ≤ 64) (w : World) (hb : w.cell? ⟨b, 0, none⟩ = some (.int .i64 x)) :
    Calls Tryz.prog 108 #[.slice (some ⟨b, 0, none⟩) 1 1, .int .i64 n] w fun e w' => e = .returned (.slice (some ⟨w.heap.size, 0, none⟩) n n) ∧
      w'.ownsRow w.heap.size 3 1 (.slice (some ⟨w.heap.size, 0, none⟩) n n) n ((List.replicate n x).map (Value.int .i64)) ∧ Below w.heap.size w w' := by
  have hc := mul_one n hn w
  have hmk := run_make_row' (P := Tryz.prog) 28 3 (.int .i64 0) 8 Tryz.underlying28 info3 rfl .i64 .i64 n (by omega) (by omega)
  have hlb : b < w.heap.size := cell_lt hb
  go_enter Tryz.func108, Tryz.ntmps108
  go_wp2_with fail
  refine hc.mono ?_
  rintro e w' ⟨rfl, rfl⟩
  have hb1 : Below w'.heap.size w' (w'.alloc (.cells (madeCells #[.int .i64 0] n) 3)) := (Below.refl _ _).alloc (Nat.le_refl _) _
  have hg1 : (w'.alloc (.cells (madeCells #[.int .i64 0] n) 3)).heap[w'.heap.size]? = some (.cells (blk x n 0).toArray 3 (0, 0)) := by
    rw [heap_alloc_new]
    congr 2
    apply Array.ext'
    rw [toList_madeCells_one]
    simp [blk]
  have hsrc : ∀ j v, (ones x (min 1 n))[j]? = some v → (w'.alloc (.cells (madeCells #[.int .i64 0] n) 3)).cell? ((⟨b, 0, none⟩ : Addr).add j) = some v := by
    intro j v hj
    obtain ⟨h1, rfl⟩ := ones_at _ _ _ hj
    obtain rfl : j = 0 := by omega
    rw [hb1.cell (by simpa [Addr.add] using hlb)]
    simpa [Addr.add] using hb
  obtain ⟨k0, hk0⟩ : ∃ k0, k0 = min 1 n := ⟨_, rfl⟩
  rw [← hk0] at hsrc
  have hk1 : k0 ≤ n := by omega
  have hk2 : n = 0 ∨ 0 < k0 := by omega
  have hk3 : (ones x k0).length = Nat.min 1 n := by rw [ones_len, hk0]
  have HG1 : Hid ((w'.alloc (.cells (madeCells #[.int .i64 0] n) 3)).heap[w'.heap.size]? = some (.cells (blk x n 0).toArray 3 (0, 0))) := hg1
  have HS1 : Hid (∀ j v, (ones x k0)[j]? = some v → (w'.alloc (.cells (madeCells #[.int .i64 0] n) 3)).cell? ((⟨b, 0, none⟩ : Addr).add j) = some v) := hsrc
  have HK3 : Hid ((ones x k0).length = Nat.min 1 n) := hk3
  have hol := ones_len x k0
  clear hk0 hg1 hsrc hk3
  go_upto_region 7 with fail
  go_wp2_with (refine wpList_copy_splice rfl (.tmp 31) (.tmp 32) 28 28 rfl 3 Tryz.underlying28 size3 (some ⟨w'.heap.size, 0, none⟩) (some ⟨b, 0, none⟩) n n 1 1 rfl rfl w'.heap.size 0 (blk x n 0) 3 HG1.out (ones x k0) HK3.out (fun _ => ⟨rfl, _, rfl, HS1.out⟩) (by rw [blk_len (Nat.zero_le _), ones_len]; omega) (ones_one x _) w'.heap.size w' hb1 (Nat.le_refl _) ?_)
  intro w1 hg1 hbw1
  rw [blk_splice (by omega), Nat.zero_add] at hg1
  clear hb1 HG1 HS1 HK3 hmk hc hb
  go_wp2_with fail
  go_loopw [8] (fun kv wr => ∃ k : Nat, k ≤ n ∧ (n = 0 ∨ 0 < k) ∧ kv = .int .i64 k ∧ Hid (wr.heap[w'.heap.size]? = some (.cells (blk x n k).toArray 3 (0, 0))) ∧ Below w'.heap.size w' wr) (fun kv _ => n - (intOf kv).toNat)
  case atStart => exact ⟨k0, hk1, hk2, by simp, hg1, hbw1⟩
  case round =>
    obtain ⟨k, hk, hkp, rfl, hgr, hbr⟩ := hrel
    clear hol hg1 hbw1 hk1 hk2
    by_cases hlt : k < n
    · obtain ⟨j, hj⟩ : ∃ j, j = min k (n - k) := ⟨_, rfl⟩
      have hjl : (ones x j).length = Nat.min k (n - k) := by rw [ones_len, hj]
      have hol := ones_len x j
      have hsrc : ∀ i v, (ones x j)[i]? = some v → wr.cell? ((⟨w'.heap.size, 0, none⟩ : Addr).add i) = some v := by
        intro i v hi
        obtain ⟨h1, rfl⟩ := ones_at _ _ _ hi
        rw [Addr.add_lit, cell_of_row wr w'.heap.size (0 + i) _ 3 (0, 0) hgr.out]
        have : i < k := by omega
        simp [blk, List.getElem?_append, this]
      have HS : Hid (∀ i v, (ones x j)[i]? = some v → wr.cell? ((⟨w'.heap.size, 0, none⟩ : Addr).add i) = some v) := hsrc
      have HJ : Hid ((ones x j).length = Nat.min k (n - k)) := hjl
      have hj1 : 0 < j := by omega
      have hj2 : k + j ≤ n := by omega
      have hsp : splice (blk x n k) k (ones x j) = blk x n (k + j) := blk_splice hj2
      have HSP : Hid (splice (blk x n k) k (ones x j) = blk x n (k + j)) := hsp
      have kn : (k : Int) ≤ (n : Int) := by omega
      have hwr : IntKind.i64.wrap ((k : Int) + (j : Int)) = ((k + j : Nat) : Int) := by
        rw [← Int.natCast_add]
        simp [IntKind.wrap, IntKind.bits, IntKind.signed]
        omega
      have HWR : Hid (IntKind.i64.wrap ((k : Int) + (j : Int)) = ((k + j : Nat) : Int)) := hwr
      clear hsrc hjl hj hsp hwr
      go_wp2_with fail
      go_region_law (refine step_copy_splice rfl (.tmp 41) (.tmp 44) 28 28 rfl 3 Tryz.underlying28 size3 (some ⟨w'.heap.size, k, none⟩) (some ⟨w'.heap.size, 0, none⟩) (n - k) (n - k) k n (by simp [Act.eval, Act.put]; omega) (by simp [Act.eval, Act.put]) w'.heap.size k (blk x n k) 3 hgr.out (ones x j) HJ.out (fun _ => ⟨rfl, _, rfl, HS.out⟩) (by rw [blk_len hk, ones_len]; omega) (ones_one x _) w'.heap.size w' hbr.drew (Nat.le_refl _) ?_; intro w4 hg4 hb4)
      rw [HSP.out] at hg4
      all_goals (go_wp2_with fail; go_roundw)
      case rel => exact ⟨k + j, hj2, .inr (by omega), HWR.out, hg4⟩
      case measure => simp only [intOf]; rw [HWR.out]; omega
    · obtain rfl : k = n := by omega
      go_wp2_with fail
      go_ret
      refine ⟨rfl, ⟨by simp, Or.inr ⟨w'.heap.size, k, _, rfl, Nat.le_refl _, hgr.out, Nat.le_refl _, by unfold maxLen; omega, by simp [blk], by simp [blk]⟩⟩, hbr⟩
theorem repeat_any (b n : Nat) (hn : n ≤ 64) (w : World) (hb : w.cell? ⟨b, 0, none⟩ = some (.int .i64 (-1))) :
    Calls Tryz.prog 108 #[.slice (some ⟨b, 0, none⟩) 1 1, .int .i64 n] w fun e w' => e = .returned (.slice (some ⟨w.heap.size, 0, none⟩) n n) ∧
      w'.ownsRow w.heap.size 3 1 (.slice (some ⟨w.heap.size, 0, none⟩) n n) n ((List.replicate n (-1 : Int)).map (Value.int .i64)) ∧ Below w.heap.size w w' := repeat_of b n (-1) hn w hb
end HN
end Go.Proofs.YtkcfepppnclniaaGreatDoor
end
