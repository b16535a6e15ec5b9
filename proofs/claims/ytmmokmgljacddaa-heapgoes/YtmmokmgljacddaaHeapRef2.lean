/-
  The walks of the reference's heap: Peek and Pop.
-/
import Derived.Test.YtmmokmgljacddaaHeapRef
namespace Go.Proofs.Ytmmokmgljacddaa
namespace HR
open Go.RowKit

/-- Among the first k things b is the first one, or none is in it. -/
def Best (ins : List Bool) (ps : List Int) (k : Nat) (b : Int) : Prop :=
  (b = -1 ∧ ∀ t, t < k → bat ins t = false) ∨ (∃ j : Nat, b = j ∧ j < k ∧ bat ins j = true ∧ ∀ t, t < k → bat ins t = true → HM.pat ps j ≤ HM.pat ps t ∧ (t < j → HM.pat ps j < HM.pat ps t))
theorem Best.skip {ins : List Bool} {ps : List Int} {k : Nat} {b : Int} (h : Best ins ps k b) (hk : bat ins k = false) : Best ins ps (k + 1) b := by
  rcases h with ⟨e, h⟩ | ⟨j, e, hj, hb, h⟩
  · refine .inl ⟨e, fun t ht => ?_⟩
    rcases Nat.lt_or_ge t k with h' | h'
    · exact h t h'
    · obtain rfl : t = k := by omega
      exact hk
  · refine .inr ⟨j, e, by omega, hb, fun t ht hbt => ?_⟩
    rcases Nat.lt_or_ge t k with h' | h'
    · exact h t h' hbt
    · obtain rfl : t = k := by omega
      rw [hk] at hbt; cases hbt
theorem Best.stay {ins : List Bool} {ps : List Int} {k j : Nat} (h : Best ins ps k (j : Int)) (hk : ¬ HM.pat ps k < HM.pat ps j) : Best ins ps (k + 1) (j : Int) := by
  rcases h with ⟨e, h⟩ | ⟨j', e, hj, hb, h⟩
  · omega
  · obtain rfl : j = j' := by omega
    refine .inr ⟨j, rfl, by omega, hb, fun t ht hbt => ?_⟩
    rcases Nat.lt_or_ge t k with h' | h'
    · exact h t h' hbt
    · obtain rfl : t = k := by omega
      exact ⟨by omega, by omega⟩
theorem Best.take {ins : List Bool} {ps : List Int} {k j : Nat} (h : Best ins ps k (j : Int)) (hb : bat ins k = true) (hk : HM.pat ps k < HM.pat ps j) : Best ins ps (k + 1) (k : Int) := by
  rcases h with ⟨e, h⟩ | ⟨j', e, hj, _, h⟩
  · omega
  · obtain rfl : j = j' := by omega
    refine .inr ⟨k, rfl, by omega, hb, fun t ht hbt => ?_⟩
    rcases Nat.lt_or_ge t k with h' | h'
    · have := h t h' hbt
      exact ⟨by omega, by omega⟩
    · obtain rfl : t = k := by omega
      exact ⟨by omega, by omega⟩
theorem Best.begin {ins : List Bool} {ps : List Int} {k : Nat} (h : Best ins ps k (-1)) (hb : bat ins k = true) : Best ins ps (k + 1) (k : Int) := by
  rcases h with ⟨e, h⟩ | ⟨j', e, hj, _, h⟩
  · refine .inr ⟨k, rfl, by omega, hb, fun t ht hbt => ?_⟩
    rcases Nat.lt_or_ge t k with h' | h'
    · rw [h t h'] at hbt; cases hbt
    · obtain rfl : t = k := by omega
      exact ⟨by omega, by omega⟩
  · omega
theorem Best.first {n : Nat} {m : Nat → Option Int} {ins : List Bool} {ps : List Int} (hr : Rep n m ins ps) {j : Nat} (h : Best ins ps n (j : Int)) : j < n ∧ HM.firstOf HM.TI m = some (j, HM.pat ps j) := by
  rcases h with ⟨e, h⟩ | ⟨j', e, hj, hb, h⟩
  · omega
  · obtain rfl : j = j' := by omega
    refine ⟨hj, HM.firstOf_eq ⟨by rw [hr.2.2 j, if_pos ⟨hj, hb⟩], fun u r hu hlt => ?_⟩⟩
    rw [hr.2.2 u] at hu
    split at hu
    · rename_i hc
      have := h u hc.1 hc.2
      have e2 : HM.pat ps u = r := Option.some.inj hu
      rw [e2] at this
      simp only [HM.TI, decide_eq_true_eq] at hlt
      omega
    · cases hu
theorem Best.none {n : Nat} {m : Nat → Option Int} {ins : List Bool} {ps : List Int} (hr : Rep n m ins ps) (h : Best ins ps n (-1)) : HM.firstOf HM.TI m = Option.none := by
  rcases h with ⟨e, h⟩ | ⟨j', e, hj, hb, h⟩
  · refine HM.firstOf_none fun t => ?_
    rw [hr.2.2 t]
    by_cases ht : t < n
    · rw [if_neg (by simp [h t ht])]
    · rw [if_neg (by omega)]
  · omega

theorem drew2 (w : World) (a b : Nat) : (w.drewN a).drewN b = w.drewN (a + b) := by rw [World.drewN_drewN]
set_option maxHeartbeats 2000000 in
theorem peek_any {w : World} {B q bi bq : Nat} {ins : List Bool} {ps : List Int} (h : RMem w B q bi bq ins ps) {n : Nat} {m : Nat → Option Int} (hr : Rep n m ins ps) (hn : n ≤ 64) :
    Calls Try.prog 16 #[.pointer (some ⟨q, 0, none⟩)] w fun e w' => e = .returned (peekT (Value.int .i64) 0 (HM.firstOf HM.TI m)) ∧ ∃ k, w' = w.drewN k := by
  have hil := hr.1
  have hpl := hr.2.1
  have c0 := h.c0
  have c1 := h.c1
  rw [hil] at c0
  rw [hpl] at c1
  have HI : Hid (∀ k, k < n → w.cell? ⟨bi, k, none⟩ = some (.bool (bat ins k))) := fun k hk => (h.inCell (i := k) (by omega)).1
  have HP : Hid (∀ k, k < n → w.cell? ⟨bq, k, none⟩ = some (.int .i64 (HM.pat ps k))) := fun k hk => (h.psCell (i := k) (by omega)).1
  have HR0 : Hid (Rep n m ins ps) := hr
  clear h hr hil hpl
  go_enter Try.func16, Try.ntmps16
  go_wp2_with fail
  go_loopw [5, 6] (fun bv i wr => ∃ (k : Nat) (b : Int) (q' : Nat), k ≤ n ∧ i = .int .i64 k ∧ bv = .int .i64 b ∧ Best ins ps k b ∧ wr = w.drewN q') (fun _ i _ => n - (intOf i).toNat)
  case atStart => exact ⟨0, -1, 0, Nat.zero_le _, rfl, rfl, .inl ⟨rfl, fun t ht => by omega⟩, rfl⟩
  case round =>
    obtain ⟨k, b, q', hk, rfl, rfl, hbest, rfl⟩ := hrel
    have HB : Hid (Best ins ps k b) := hbest
    by_cases hlt : k < n
    · have ck := HI.out k hlt
      have pk := HP.out k hlt
      have kn : (k : Int) < (n : Int) := by omega
      cases hb : bat ins k with
      | false =>
        rw [hb] at ck
        clear hbest
        have HBK : Hid (bat ins k = false) := hb
        clear hb
        go_wp2_with fail
        go_quiet (fail)
        go_wp2_with fail
        go_roundw
        case rel => exact ⟨k + 1, b, _, by omega, by simp, rfl, HB.out.skip HBK.out, rfl⟩
        case measure => simp [intOf]; omega
      | true =>
        rw [hb] at ck
        have HBK : Hid (bat ins k = true) := hb
        clear hb
        rcases id hbest with ⟨rfl, _⟩ | ⟨j, rfl, hj, _, _⟩
        · clear hbest
          go_wp2_with fail
          go_quiet (fail)
          go_wp2_with fail
          go_roundw
          case rel => exact ⟨k + 1, k, _, by omega, by simp, rfl, HB.out.begin HBK.out, rfl⟩
          case measure => simp [intOf]; omega
        · have pj := HP.out j (by omega)
          have jn : (j : Int) < (n : Int) := by omega
          clear hbest
          by_cases hcmp : HM.pat ps k < HM.pat ps j
          · have HC : Hid (HM.pat ps k < HM.pat ps j) := hcmp
            generalize HM.pat ps k = x at pk hcmp
            generalize HM.pat ps j = y at pj hcmp
            go_wp2_with fail
            go_quiet (fail)
            go_wp2_with fail
            go_roundw
            case rel => exact ⟨k + 1, k, _, by omega, by simp, rfl, HB.out.take HBK.out HC.out, rfl⟩
            case measure => simp [intOf]; omega
          · have HC : Hid (¬ HM.pat ps k < HM.pat ps j) := hcmp
            generalize HM.pat ps k = x at pk hcmp
            generalize HM.pat ps j = y at pj hcmp
            go_wp2_with fail
            go_quiet (fail)
            go_wp2_with fail
            go_roundw
            case rel => exact ⟨k + 1, j, _, by omega, by simp, rfl, HB.out.stay (Int.not_lt.2 HC.out), rfl⟩
            case measure => simp [intOf]; omega
    · obtain rfl : k = n := by omega
      rcases id hbest with ⟨rfl, _⟩ | ⟨j, rfl, hj, _, _⟩
      · clear hbest
        go_wp2_with fail
        go_ret3
        rw [Best.none HR0.out HB.out]
        exact ⟨rfl, _, rfl⟩
      · have pj := HP.out j (by omega)
        have jn : (j : Int) < (k : Int) := by omega
        clear hbest
        have HF : Hid (HM.firstOf HM.TI m = some (j, HM.pat ps j)) := (Best.first HR0.out HB.out).2
        generalize HM.pat ps j = y at *
        go_wp2_with fail
        go_quiet (fail)
        go_wp2_with fail
        go_ret3
        rw [HF.out]
        exact ⟨rfl, _, drew2 _ _ _⟩

set_option maxHeartbeats 1000000 in
theorem pop_any {w : World} {B q bi bq : Nat} {ins : List Bool} {ps : List Int} (h : RMem w B q bi bq ins ps) {n : Nat} {m : Nat → Option Int} (hr : Rep n m ins ps) (hn : n ≤ 64) :
    Calls Try.prog 14 #[.pointer (some ⟨q, 0, none⟩)] w fun e w' => e = .returned (peekT (Value.int .i64) 0 (HM.firstOf HM.TI m)) ∧
      ∃ ins', RMem w' B q bi bq ins' ps ∧ Rep n (HM.popped HM.TI m) ins' ps ∧ Keeps (rfoot q bi bq) w w' := by
  have hp := peek_any h hr hn
  have HM0 : Hid (RMem w B q bi bq ins ps) := h
  have HR0 : Hid (Rep n m ins ps) := hr
  unfold HM.popped
  cases hf : HM.firstOf HM.TI m with
  | none =>
    rw [hf] at hp
    simp only [peekT] at hp ⊢
    clear h hr hf
    go_enter Try.func14, Try.ntmps14
    go_wp2_with fail
    refine hp.mono ?_
    rintro e w1 ⟨rfl, k, rfl⟩
    go_wp2_with fail
    go_ret3
    exact ⟨rfl, ins, HM0.out.kept ((Keeps.refl (fun _ => False) _).drewN) (fun _ _ h => h), HR0.out, (Keeps.refl _ _).drewN⟩
  | some x =>
    obtain ⟨t, v⟩ := x
    have hfi := HM.firstOf_some hf
    have ht : t < n := by
      have := hfi.1
      rw [hr.2.2] at this
      split at this
      · rename_i hc; exact hc.1
      · cases this
    rw [hf] at hp
    simp only [peekT] at hp ⊢
    have c0 := h.c0
    have hil := hr.1
    rw [hil] at c0
    obtain ⟨i1, f1⟩ := h.inCell (i := t) (by omega)
    generalize bat ins t = b at i1
    have tn : (t : Int) < (n : Int) := by omega
    clear h hr hf hfi hil
    go_enter Try.func14, Try.ntmps14
    go_wp2_with fail
    refine hp.mono ?_
    rintro e w1 ⟨rfl, k, rfl⟩
    go_wp2_with fail
    go_ret3
    refine ⟨rfl, ins.set t false, ?_, HR0.out.pop ht, ?_⟩
    · exact (HM0.out.setIn t false).kept ((Keeps.refl (fun _ => False) _).drewN) (fun _ _ h => h)
    · exact ((Keeps.refl _ _).setCell (p := ⟨bi, t, none⟩) (.inl (.inr (.inl rfl))) _).drewN
end HR
end Go.Proofs.Ytmmokmgljacddaa
