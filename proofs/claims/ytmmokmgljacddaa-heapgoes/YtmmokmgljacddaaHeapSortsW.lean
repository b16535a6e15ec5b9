/-
  The walk of the law HeapSorts.
-/
import Derived.Test.YtmmokmgljacddaaHeapLessensW
namespace Go.Proofs.Ytmmokmgljacddaa
open Go.RowKit

/-- The first k numbers of a list, put with the things 0, 7, 14 .. of 64. -/
def sev (zs : List Int) : Nat → Nat → Option Int
  | 0 => fun _ => none
  | k + 1 => HM.upd (sev zs k) (k * 7 % 64) (some (HM.pat zs k))
theorem sev_out (zs : List Int) : ∀ k, k ≤ 64 → ∀ t, (∀ i, i < k → t ≠ i * 7 % 64) → sev zs k t = none
  | 0, _, t, _ => rfl
  | k + 1, hk, t, h => by
    simp only [sev, HM.upd]
    rw [if_neg (h k (by omega))]
    exact sev_out zs k (by omega) t (fun i hi => h i (by omega))
theorem sev_free (zs : List Int) (k : Nat) (hk : k < 64) : sev zs k (k * 7 % 64) = none :=
  sev_out zs k (by omega) _ (fun i hi e => by omega)
theorem sev_code (zs : List Int) (k : Nat) (hk : k < 64) : HM.code HM.TI 64 (sev zs k) ((k * 7 % 64 : Nat) : Int) (HM.pat zs k) = 0 := by
  unfold HM.code
  rw [if_pos (by omega), Int.toNat_natCast, sev_free zs k hk]
theorem sev_cnt (zs : List Int) : ∀ k, k ≤ 64 → HM.cnt 64 (sev zs k) = k
  | 0, _ => HM.cnt_zero (fun _ => rfl)
  | k + 1, hk => by
    simp only [sev]
    rw [HM.cnt_upd_some (by omega) (sev_free zs k (by omega)), sev_cnt zs k (by omega)]
theorem sev_val (zs : List Int) : ∀ k t r, sev zs k t = some r → ∃ i, i < k ∧ r = HM.pat zs i
  | 0, t, r, h => by cases h
  | k + 1, t, r, h => by
    simp only [sev, HM.upd] at h
    split at h
    · injection h with h
      exact ⟨k, by omega, h.symm⟩
    · obtain ⟨i, hi, e⟩ := sev_val zs k t r h
      exact ⟨i, by omega, e⟩
/-- What is in it is less than no number that came out. -/
theorem popped_le {m : Nat → Option Int} {x : Nat × Int} (h : HM.firstOf HM.TI m = some x) : ∀ u r, HM.popped HM.TI m u = some r → x.2 ≤ r := by
  intro u r hu
  have hf := HM.firstOf_some h
  unfold HM.popped at hu
  rw [h] at hu
  simp only [HM.upd] at hu
  split at hu
  · cases hu
  · have := hf.2 u r hu
    simp only [HM.TI, decide_eq_true_eq] at this
    omega
theorem popped_cnt {n : Nat} {m : Nat → Option Int} {x : Nat × Int} (h : HM.firstOf HM.TI m = some x) (hx : x.1 < n) : HM.cnt n m = HM.cnt n (HM.popped HM.TI m) + 1 := by
  have hf := HM.firstOf_some h
  unfold HM.popped
  rw [h]
  exact HM.cnt_upd_none hx (by rw [hf.1]; rfl)
theorem Two.out {w : World} {B p q n : Nat} {m mr : Nat → Option Int} (h : Two w B p q n m mr) {t : Nat} {r : Int} (ht : m t = some r) : t < n := by
  obtain ⟨F, G, ⟨bp, bc, lv, line, place, come, _, h2, _⟩, _⟩ := h
  exact (h2.mem ht).1
theorem Two.first {w : World} {B p q n : Nat} {m mr : Nat → Option Int} (h : Two w B p q n m mr) (hc : 0 < HM.cnt n m) : ∃ x, HM.firstOf HM.TI m = some x := by
  obtain ⟨F, G, ⟨bp, bc, lv, line, place, come, _, h2, _⟩, _⟩ := h
  exact ⟨_, HM.firstOf_eq (h2.first (by rw [h2.len]; exact hc))⟩
theorem Two.zero {w : World} {B p q n : Nat} {m mr : Nat → Option Int} (h : Two w B p q n m mr) (hc : HM.cnt n m = 0) : HM.firstOf HM.TI m = Option.none := by
  obtain ⟨F, G, ⟨bp, bc, lv, line, place, come, _, h2, _⟩, _⟩ := h
  exact HM.firstOf_none (h2.empty (by rw [h2.len]; exact hc))
/-- The reference's two lists, read and written from without. -/
theorem Two.cells {w : World} {B p q n : Nat} {m mr : Nat → Option Int} (h : Two w B p q n m mr) {t : Nat} {r : Int} (hr : mr t = some r) :
    ∃ bi bq, w.cell? ⟨q, 0, none⟩ = some (.slice (some ⟨bi, 0, none⟩) n n) ∧ w.cell? ⟨q, 1, none⟩ = some (.slice (some ⟨bq, 0, none⟩) n n) ∧ w.cell? ⟨bi, t, none⟩ = some (.bool true) ∧ w.frozen? ⟨bi, t, none⟩ = false ∧ w.cell? ⟨bq, t, none⟩ = some (.int .i64 r) ∧
      Two (w.setCell ⟨bi, t, none⟩ (.bool false)) B p q n m (HM.upd mr t Option.none) ∧ Below B w (w.setCell ⟨bi, t, none⟩ (.bool false)) := by
  obtain ⟨F, G, h1, h2, h3⟩ := h
  obtain ⟨bi, bq, ins, ps, r1, r2, rfl⟩ := id h2
  have hx := r2.2.2 t
  rw [hr] at hx
  split at hx
  · rename_i hc
    have e : HM.pat ps t = r := (Option.some.inj hx).symm
    have a1 := r1.inCell (i := t) (by rw [r2.1]; exact hc.1)
    have a2 := r1.psCell (i := t) (by rw [r2.2.1]; exact hc.1)
    rw [hc.2] at a1
    rw [e] at a2
    refine ⟨bi, bq, by rw [← r2.1]; exact r1.c0, by rw [← r2.2.1]; exact r1.c1, a1.1, a1.2, a2.1, ?_⟩
    exact Two.ofR h1 h2 h3 ⟨bi, bq, _, _, r1.setIn t false, r2.pop hc.1, rfl⟩ ((Keeps.refl _ w).setCell (p := ⟨bi, t, Option.none⟩) (.inl (.inr (.inl rfl))) _)
  · cases hx

set_option maxHeartbeats 4000000 in
set_option maxRecDepth 100000 in
theorem sorts_walk (v : Value) (zs : List Int) (w : World) (hrow : Row .i64 w v zs) (hzs : ∀ z ∈ zs, -9223372036854775808 ≤ z) :
    Calls Try.prog 5 #[v] w fun e w' => e = .returned (.bool true) ∧ Below w.heap.size w w' := by
  obtain ⟨ao, cap, rfl, hat⟩ := hrow
  obtain ⟨hlc, hcm, _, hcells⟩ := hat
  have hml : zs.length ≤ 9223372036854775807 := by unfold maxLen at hcm; omega
  have HC : Hid (0 < zs.length → ∃ b o, ao = some ⟨b, o, none⟩ ∧ ∀ i, i < zs.length → w.cell? ⟨b, o + i, none⟩ = some (.int .i64 (HM.pat zs i))) := hcells
  have HZS : Hid (∀ i, i < zs.length → -9223372036854775808 ≤ HM.pat zs i) := fun i hi => hzs _ (by
    unfold HM.pat
    rw [List.getElem?_eq_getElem hi, Option.getD_some]
    exact List.getElem_mem hi)
  clear hcells hcm hlc hzs
  have haw := awake_any w
  by_cases hlen : 64 < zs.length
  · have h2 : (64 : Int) < (zs.length : Int) := by omega
    clear hlen
    go_enter Try.func5, Try.ntmps5
    go_wp2_with fail
    refine haw.mono ?_
    rintro e w1 ⟨rfl, hb1⟩
    go_wp2_with fail
    go_ret
    exact ⟨rfl, hb1⟩
  · obtain ⟨n, hn⟩ : ∃ n, n = zs.length := ⟨_, rfl⟩
    rw [← hn] at hlen HC hml HZS ⊢
    have h64 : n ≤ 64 := by omega
    have h2' : ¬ (64 : Int) < (n : Int) := by omega
    clear hlen hn hml
    go_enter Try.func5, Try.ntmps5
    go_wp2_with fail
    refine haw.mono ?_
    rintro e w1 ⟨rfl, hb1⟩
    have hnew := one_new 64 (by decide) w1
    clear haw
    go_wp2_with fail
    refine hnew.mono ?_
    rintro e w2 ⟨p, rfl, ho2, hb2⟩
    have hs1 := hb1.size
    have hb2' : Below w.heap.size w w2 := hb1.trans (hb2.mono hs1)
    have hrn := two_new ho2 (by decide)
    clear hnew hb2 ho2
    go_wp2_with fail
    refine hrn.mono ?_
    rintro e w3 ⟨q, rfl, ho3, hb3⟩
    have hb3' : Below w.heap.size w w3 := hb2'.trans (hb3.mono hs1)
    clear hrn hb3 hb2'
    go_wp2_with fail
    go_loopw [6] (fun iv wr => ∃ k : Nat, k ≤ n ∧ iv = .int .i64 k ∧ Two wr w1.heap.size p q 64 (sev zs k) (sev zs k) ∧ Below w.heap.size w wr) (fun iv _ => n - (intOf iv).toNat)
    case atStart => exact ⟨0, Nat.zero_le _, rfl, ho3, hb3'⟩
    case round =>
      obtain ⟨k, hk, rfl, ho, hbr⟩ := hrel
      clear ho3 hb3'
      have HO : Hid (Two wr w1.heap.size p q 64 (sev zs k) (sev zs k)) := ho
      have HB : Hid (Below w.heap.size w wr) := hbr
      clear ho hbr
      by_cases hlt : k < n
      · obtain ⟨b, o, rfl, hc⟩ := HC.out (by omega)
        have hbl : b < w.heap.size := cell_lt (hc 0 (by omega))
        have hck := hc k hlt
        have ck : wr.cell? ⟨b, o + k, none⟩ = some (.int .i64 (HM.pat zs k)) := by rw [HB.out.cell (by exact hbl)]; exact hck
        have hput := two_put HO.out (by decide) ((k * 7 % 64 : Nat) : Int) (HM.pat zs k)
        rw [sev_code zs k (by omega), HA.put_ok (sev_code zs k (by omega)), Int.toNat_natCast] at hput
        have HRP : Hid (∀ w', Two w' w1.heap.size p q 64 (sev zs (k + 1)) (sev zs k) → Calls Try.prog 12 #[.pointer (some ⟨q, 0, none⟩), .int .i64 ((k * 7 % 64 : Nat) : Int), .int .i64 (HM.pat zs k)] w' fun e w'' => e = .returned (.int .i64 0) ∧ Two w'' w1.heap.size p q 64 (sev zs (k + 1)) (sev zs (k + 1)) ∧ Below w1.heap.size w' w'') := fun w' h => by
          have := two_rput h ((k * 7 % 64 : Nat) : Int) (HM.pat zs k)
          rw [sev_code zs k (by omega), HA.put_ok (sev_code zs k (by omega)), Int.toNat_natCast] at this
          exact this
        have HPU : Hid (Calls Try.prog 11 #[.pointer (some ⟨p, 0, none⟩), .int .i64 ((k * 7 % 64 : Nat) : Int), .int .i64 (HM.pat zs k)] wr fun e w'' => e = .returned (.int .i64 0) ∧ Two w'' w1.heap.size p q 64 (sev zs (k + 1)) (sev zs k) ∧ Below w1.heap.size wr w'') := hput
        clear hput hc hck
        obtain ⟨s, hs⟩ : ∃ s, s = k * 7 % 64 := ⟨_, rfl⟩
        rw [← hs] at HPU HRP
        have es : (k : Int) * 7 % 64 = (s : Int) := by omega
        have kn : (k : Int) < (n : Int) := by omega
        have HBC : Hid (∀ w', Below w.heap.size w w' → w'.cell? ⟨b, o + k, none⟩ = some (.int .i64 (HM.pat zs k))) := fun w' h' => by rw [h'.cell (by exact hbl), ← HB.out.cell (p := ⟨b, o + k, none⟩) (by exact hbl)]; exact ck
        generalize HM.pat zs k = z at ck HPU HRP HBC
        clear hs
        go_wp2_with fail
        try rw [es]
        refine HPU.out.mono ?_
        rintro e w4 ⟨rfl, ho4, hb4⟩
        have HO4 : Hid (Two w4 w1.heap.size p q 64 (sev zs (k + 1)) (sev zs k)) := ho4
        have hb4' : Below w.heap.size w w4 := HB.out.trans (hb4.mono hs1)
        have HB4 : Hid (Below w.heap.size w w4) := hb4'
        have ck4 := HBC.out w4 hb4'
        clear ho4 hb4 hb4' ck
        go_wp2_with fail
        try rw [es]
        refine (HRP.out w4 HO4.out).mono ?_
        rintro e w5 ⟨rfl, ho5, hb5⟩
        have HO5 : Hid (Two w5 w1.heap.size p q 64 (sev zs (k + 1)) (sev zs (k + 1))) := ho5
        have HB5 : Hid (Below w.heap.size w w5) := HB4.out.trans (hb5.mono hs1)
        clear ho5 hb5 ck4
        go_wp2_with fail
        go_roundw
        case rel => exact ⟨k + 1, by omega, by go_num, HO5.out, HB5.out⟩
        case measure => simp [intOf]; omega
      · obtain rfl : k = n := by omega
        have HCN : Hid (HM.cnt 64 (sev zs k) = k) := sev_cnt zs k h64
        have HMN : Hid (∀ u r, sev zs k u = some r → -9223372036854775808 ≤ r) := fun u r hu => by
          obtain ⟨i, hi, rfl⟩ := sev_val zs k u r hu
          exact HZS.out i hi
        clear hlt HC
        go_wp2_with fail
        generalize sev zs k = m0 at HO HCN HMN
        go_loopw [7, 8] (fun lv iv wr => ∃ (i : Nat) (l : Int) (m : Nat → Option Int), i ≤ k ∧ iv = .int .i64 i ∧ lv = .int .i64 l ∧ Two wr w1.heap.size p q 64 m m ∧ HM.cnt 64 m = k - i ∧ (∀ u r, m u = some r → l ≤ r) ∧ Below w.heap.size w wr) (fun _ iv _ => k - (intOf iv).toNat)
        case atStart => exact ⟨0, -9223372036854775808, m0, Nat.zero_le _, rfl, rfl, HO.out, by rw [HCN.out]; omega, HMN.out, HB.out⟩
        case round =>
          clear HO HB HCN HMN
          obtain ⟨i, l, m, hi, rfl, rfl, ho, hcn, hle, hbr⟩ := hrel
          have HO : Hid (Two wr w1.heap.size p q 64 m m) := ho
          have HB : Hid (Below w.heap.size w wr) := hbr
          have hpop := two_pop ho (by decide)
          by_cases hlt : i < k
          · obtain ⟨⟨t, r⟩, hf⟩ := ho.first (by omega)
            have hmt := (HM.firstOf_some hf).1
            have ht := ho.out hmt
            have hlr := hle t r hmt
            have HNX : Hid (∀ u r', HM.popped HM.TI m u = some r' → r ≤ r') := popped_le hf
            have HCX : Hid (HM.cnt 64 m = HM.cnt 64 (HM.popped HM.TI m) + 1) := popped_cnt hf ht
            have HPE : Hid (HM.popped HM.TI m = HM.upd m t none) := by show _ = _; unfold HM.popped; rw [hf]
            have HMT : Hid (m t = some r) := hmt
            have HCN : Hid (HM.cnt 64 m = k - i) := hcn
            rw [hf] at hpop
            simp only [peekT] at hpop
            have hlr' : ¬ r < l := by omega
            have ht' : ¬ (63 : Int) < (t : Int) := by omega
            have ik : (i : Int) < (k : Int) := by omega
            have t64 : (t : Int) < 64 := by omega
            clear ho hcn hle hbr hf hmt hlr
            go_wp2_with fail
            refine hpop.mono ?_
            rintro e w6 ⟨rfl, ho6, hb6⟩
            have HB6 : Hid (Below w.heap.size w w6) := HB.out.trans (hb6.mono hs1)
            obtain ⟨bi, bq, c0, c1, i1, f1, r1, ho7, hb7⟩ := ho6.cells HMT.out
            have HO7 : Hid (Two (w6.setCell ⟨bi, t, none⟩ (.bool false)) w1.heap.size p q 64 (HM.popped HM.TI m) (HM.upd m t none)) := ho7
            have HB7 : Hid (Below w.heap.size w (w6.setCell ⟨bi, t, none⟩ (.bool false))) := HB6.out.trans (hb7.mono hs1)
            clear ho6 hb6 ho7 hb7 hpop
            go_wp2_with fail
            go_roundw
            case rel =>
              have h1 := HO7.out
              rw [HPE.out] at h1
              have h2 := HCX.out
              have h3 := HNX.out
              have h4 := HCN.out
              rw [HPE.out] at h2 h3
              exact ⟨i + 1, r, _, by omega, by go_num, rfl, h1, by omega, h3, HB7.out⟩
            case measure => simp [intOf]; omega
          · obtain rfl : i = k := by omega
            rw [ho.zero (by omega)] at hpop
            simp only [peekT] at hpop
            clear ho hcn hle hbr hlt
            go_wp2_with fail
            refine hpop.mono ?_
            rintro e w6 ⟨rfl, ho6, hb6⟩
            go_wp2_with fail
            go_ret
            exact ⟨rfl, HB.out.trans (hb6.mono hs1)⟩
end Go.Proofs.Ytmmokmgljacddaa
