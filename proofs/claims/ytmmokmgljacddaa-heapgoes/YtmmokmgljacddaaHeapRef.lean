/-
  The walks of the reference's heap: Put, Peek, Pop, At, Len.
-/
import Derived.Test.YtmmokmgljacddaaHeapMem
import Derived.BigRegion
import Derived.BigQuiet
import Derived.Deep.QuietTactic
import Derived.Deep.DeepCutAuto
namespace Go.Proofs.Ytmmokmgljacddaa
namespace HR
open Go.RowKit

/-- Of each thing, whether it is in it, and with which priority. -/
def Rep (n : Nat) (m : Nat → Option Int) (ins : List Bool) (ps : List Int) : Prop := ins.length = n ∧ ps.length = n ∧ ∀ t, m t = if t < n ∧ bat ins t = true then some (HM.pat ps t) else none
theorem bat_set (l : List Bool) (i : Nat) (v : Bool) (k : Nat) (h : i < l.length) : bat (l.set i v) k = if k = i then v else bat l k := by
  unfold bat
  rw [List.getElem?_set]
  by_cases e : i = k
  · subst e; simp [h]
  · rw [if_neg e, if_neg (fun h => e h.symm)]
theorem Rep.put {n : Nat} {m : Nat → Option Int} {ins : List Bool} {ps : List Int} (h : Rep n m ins ps) {k : Nat} (hk : k < n) (v : Int) : Rep n (HM.upd m k (some v)) (ins.set k true) (ps.set k v) := by
  obtain ⟨h1, h2, h3⟩ := h
  refine ⟨by simpa using h1, by simpa using h2, fun t => ?_⟩
  unfold HM.upd
  rw [bat_set _ _ _ _ (by omega), HM.pat_set _ _ _ _ (by omega)]
  by_cases e : t = k
  · subst e; simp [hk]
  · rw [if_neg e, if_neg e, if_neg e, h3]
theorem Rep.pop {n : Nat} {m : Nat → Option Int} {ins : List Bool} {ps : List Int} (h : Rep n m ins ps) {k : Nat} (hk : k < n) : Rep n (HM.upd m k none) (ins.set k false) ps := by
  obtain ⟨h1, h2, h3⟩ := h
  refine ⟨by simpa using h1, h2, fun t => ?_⟩
  unfold HM.upd
  rw [bat_set _ _ _ _ (by omega)]
  by_cases e : t = k
  · subst e; simp
  · rw [if_neg e, if_neg e, h3]

set_option maxHeartbeats 1000000 in
theorem at_any {w : World} {B q bi bq : Nat} {ins : List Bool} {ps : List Int} (h : RMem w B q bi bq ins ps) {n : Nat} {m : Nat → Option Int} (hr : Rep n m ins ps) (t : Int) :
    Calls Try.prog 18 #[.pointer (some ⟨q, 0, none⟩), .int .i64 t] w fun e w' => e = .returned (atT (Value.int .i64) 0 (HM.look m t)) ∧ w' = w := by
  obtain ⟨hil, hpl, hm⟩ := hr
  have c0 := h.c0
  rw [hil] at c0
  unfold HM.look
  by_cases ht : 0 ≤ t
  · rw [if_pos ht]
    by_cases htn : t < (n : Int)
    · obtain ⟨k, rfl⟩ : ∃ k : Nat, t = k := ⟨t.toNat, by omega⟩
      have hk : k < n := by omega
      have i1 := (h.inCell (i := k) (by omega)).1
      have p1 := (h.psCell (i := k) (by omega)).1
      have c1 := h.c1
      rw [hpl] at c1
      rw [Int.toNat_natCast, hm k]
      clear h hm ht
      generalize bat ins k = b at *
      generalize HM.pat ps k = v at *
      cases b with
      | true =>
        rw [if_pos ⟨hk, rfl⟩]
        simp only [atT]
        go_enter Try.func18, Try.ntmps18
        go_wp2_with fail
        go_ret2
        exact ⟨rfl, rfl⟩
      | false =>
        rw [if_neg (by simp)]
        simp only [atT]
        go_enter Try.func18, Try.ntmps18
        go_wp2_with fail
        go_ret2
        exact ⟨rfl, rfl⟩
    · rw [hm, if_neg (by omega)]
      simp only [atT]
      clear h hm
      go_enter Try.func18, Try.ntmps18
      go_wp2_with fail
      go_ret2
      exact ⟨rfl, rfl⟩
  · rw [if_neg ht]
    simp only [atT]
    clear h hm
    go_enter Try.func18, Try.ntmps18
    go_wp2_with fail
    go_ret2
    exact ⟨rfl, rfl⟩

set_option maxHeartbeats 1000000 in
theorem put_any {w : World} {B q bi bq : Nat} {ins : List Bool} {ps : List Int} (h : RMem w B q bi bq ins ps) {n : Nat} {m : Nat → Option Int} (hr : Rep n m ins ps) (t : Int) (v : Int) :
    Calls Try.prog 12 #[.pointer (some ⟨q, 0, none⟩), .int .i64 t, .int .i64 v] w fun e w' => e = .returned (.int .i64 (HM.code HM.TI n m t v)) ∧
      ∃ ins' ps', RMem w' B q bi bq ins' ps' ∧ Rep n (HM.put HM.TI n m t v) ins' ps' ∧ Keeps (rfoot q bi bq) w w' := by
  have hil := hr.1
  have hpl := hr.2.1
  have hm := hr.2.2
  have c0 := h.c0
  have HM0 : Hid (RMem w B q bi bq ins ps) := h
  have HR0 : Hid (Rep n m ins ps) := hr
  rw [hil] at c0
  by_cases ht : 0 ≤ t ∧ t < (n : Int)
  · obtain ⟨k, rfl⟩ : ∃ k : Nat, t = k := ⟨t.toNat, by omega⟩
    have hk : k < n := by omega
    obtain ⟨i1, fi1⟩ := h.inCell (i := k) (by omega)
    obtain ⟨p1, fp1⟩ := h.psCell (i := k) (by omega)
    have c1 := h.c1
    rw [hpl] at c1
    have hmk := hm k
    have kn : (k : Int) < (n : Int) := by omega
    have HC : Hid (HM.code HM.TI n m k v = (match m k with | some q => if HM.TI.lt v q = true then 0 else 5 | none => 0)) := by
      show _ = _
      unfold HM.code
      rw [if_pos ht, Int.toNat_natCast]
      cases m k <;> rfl
    have hput : HM.code HM.TI n m k v = 0 → HM.put HM.TI n m k v = HM.upd m k (some v) := fun e => by
      unfold HM.put
      rw [e, if_pos rfl, Int.toNat_natCast]
    have hstay : HM.code HM.TI n m k v = 5 → HM.put HM.TI n m k v = m := fun e => by
      unfold HM.put
      rw [e, if_neg (by decide)]
    by_cases hgo : bat ins k = true ∧ HM.pat ps k ≤ v
    · have hcode : HM.code HM.TI n m k v = 5 := by
        rw [HC.out, hmk, if_pos ⟨hk, hgo.1⟩]
        simp [HM.TI, hgo.2]
      have HCC : Hid (HM.code HM.TI n m k v = 5) := hcode
      have HP : Hid (HM.put HM.TI n m k v = m) := hstay hcode
      obtain ⟨g1, g2⟩ := hgo
      rw [g1] at i1
      clear h hr hm ht hcode hput hstay HC hmk fi1 fp1 g1
      generalize HM.pat ps k = x at *
      go_enter Try.func12, Try.ntmps12
      go_wp2_with fail
      go_ret
      rw [HCC.out, HP.out]
      exact ⟨rfl, ins, ps, HM0.out, HR0.out, Keeps.refl _ _⟩
    · have hcode : HM.code HM.TI n m k v = 0 := by
        rw [HC.out, hmk]
        by_cases hb : bat ins k = true
        · have : ¬ HM.pat ps k ≤ v := fun h => hgo ⟨hb, h⟩
          rw [if_pos ⟨hk, hb⟩]
          simp [HM.TI, this]
        · rw [if_neg (by simp [hb])]
      have HCC : Hid (HM.code HM.TI n m k v = 0) := hcode
      have HP : Hid (HM.put HM.TI n m k v = HM.upd m k (some v)) := hput hcode
      have h2 := h.setIn k true
      have h3 := h2.setPs k v
      have H3 : Hid (RMem ((w.setCell ⟨bi, k, none⟩ (.bool true)).setCell ⟨bq, k, none⟩ (.int .i64 v)) B q bi bq (ins.set k true) (ps.set k v)) := h3
      have c1' := h2.c1
      obtain ⟨p1', fp1'⟩ := h2.psCell (i := k) (by omega)
      rw [hpl] at c1'
      have n1 := h.n1
      have n2 := h.n2
      have n3 := h.n3
      have hgo' : (bat ins k = true ∧ ¬ HM.pat ps k ≤ v) ∨ bat ins k = false := by
        by_cases hb : bat ins k = true
        · exact .inl ⟨hb, fun h => hgo ⟨hb, h⟩⟩
        · exact .inr (by simpa using hb)
      clear h hr hm ht hcode hput hstay HC hmk h2 h3 hgo
      generalize HM.pat ps k = x at *
      generalize bat ins k = b at *
      rcases hgo' with ⟨rfl, hx⟩ | rfl
      · go_enter Try.func12, Try.ntmps12
        go_wp2_with fail
        go_ret
        rw [HCC.out, HP.out]
        exact ⟨rfl, _, _, H3.out, HR0.out.put hk v, ((Keeps.refl _ _).setCell (p := ⟨bi, k, none⟩) (.inl (.inr (.inl rfl))) _).setCell (p := ⟨bq, k, none⟩) (.inl (.inr (.inr rfl))) _⟩
      · go_enter Try.func12, Try.ntmps12
        go_wp2_with fail
        go_ret
        rw [HCC.out, HP.out]
        exact ⟨rfl, _, _, H3.out, HR0.out.put hk v, ((Keeps.refl _ _).setCell (p := ⟨bi, k, none⟩) (.inl (.inr (.inl rfl))) _).setCell (p := ⟨bq, k, none⟩) (.inl (.inr (.inr rfl))) _⟩
  · have HC : Hid (HM.code HM.TI n m t v = 1) := by show _ = _; unfold HM.code; rw [if_neg ht]
    have HP : Hid (HM.put HM.TI n m t v = m) := by
      show _ = _
      unfold HM.put
      rw [HC.out, if_neg (by decide)]
    clear h hr hm
    by_cases h0 : 0 ≤ t
    · have h1 : (n : Int) ≤ t := by omega
      clear ht
      go_enter Try.func12, Try.ntmps12
      go_wp2_with fail
      go_ret
      rw [HC.out, HP.out]
      exact ⟨rfl, ins, ps, HM0.out, HR0.out, Keeps.refl _ _⟩
    · clear ht
      go_enter Try.func12, Try.ntmps12
      go_wp2_with fail
      go_ret
      rw [HC.out, HP.out]
      exact ⟨rfl, ins, ps, HM0.out, HR0.out, Keeps.refl _ _⟩

/-- How many of the first ones are in it. -/
theorem cnt_succ (k : Nat) (m : Nat → Option Int) : HM.cnt (k + 1) m = HM.cnt k m + if (m k).isSome then 1 else 0 := by
  unfold HM.cnt
  rw [List.range_succ, List.filter_append]
  by_cases h : (m k).isSome <;> simp [h]

set_option maxHeartbeats 1000000 in
theorem len_any {w : World} {B q bi bq : Nat} {ins : List Bool} {ps : List Int} (h : RMem w B q bi bq ins ps) {n : Nat} {m : Nat → Option Int} (hr : Rep n m ins ps) (hn : n ≤ 64) :
    Calls Try.prog 20 #[.pointer (some ⟨q, 0, none⟩)] w fun e w' => e = .returned (.int .i64 (HM.cnt n m : Nat)) ∧ w' = w := by
  have hil := hr.1
  have c0 := h.c0
  rw [hil] at c0
  have HMm : Hid (∀ k, k < n → w.cell? ⟨bi, k, none⟩ = some (.bool (m k).isSome)) := fun k hk => by
    rw [(h.inCell (i := k) (by omega)).1, hr.2.2 k]
    cases hb : bat ins k <;> simp [hk]
  clear h hr hil
  go_enter Try.func20, Try.ntmps20
  go_wp2_with fail
  go_loop [3, 4] (fun c i => ∃ k : Nat, k ≤ n ∧ i = .int .i64 k ∧ c = .int .i64 (HM.cnt k m : Nat)) (fun _ i => n - (intOf i).toNat)
  case atStart => exact ⟨0, Nat.zero_le _, rfl, by simp [HM.cnt]⟩
  case round =>
    obtain ⟨k, hk, rfl, rfl⟩ := hrel
    by_cases hlt : k < n
    · have ck := HMm.out k hlt
      have HS : Hid (HM.cnt (k + 1) m = HM.cnt k m + if (m k).isSome then 1 else 0) := cnt_succ k m
      have hcl := HM.cnt_le k m
      generalize (m k).isSome = b at *
      cases b with
      | true =>
        go_wp2_with fail
        go_round
        case rel => exact ⟨k + 1, by omega, by simp, by rw [HS.out]; simp⟩
        case measure => simp [intOf]; omega
      | false =>
        go_wp2_with fail
        go_round
        case rel => exact ⟨k + 1, by omega, by simp, by rw [HS.out]; simp⟩
        case measure => simp [intOf]; omega
    · obtain rfl : k = n := by omega
      go_wp2_with fail
      go_ret
      exact ⟨rfl, rfl⟩
end HR
end Go.Proofs.Ytmmokmgljacddaa
