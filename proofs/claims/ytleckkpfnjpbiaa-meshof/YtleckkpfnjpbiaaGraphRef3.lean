/-
  The walks of the reference's graph: Delete, Turn, Weigh, and the law's DoRef.
-/
import Derived.Test.YtleckkpfnjpbiaaGraphRef2
namespace Go.Proofs.Ytleckkpfnjpbiaa
open Go.RowKit

set_option maxHeartbeats 1000000 in
theorem rdelete_any {w : World} {q N most : Nat} {m : GM.M} (hg : RMem w q N most m) (id : Int) :
    Calls Try.prog 58 #[.pointer (some ⟨q, 0, none⟩), .int .i64 id] w fun e w' => e = .returned (.int .i64 (GM.atCode m id)) ∧ RMem w' q N most (GM.del m id) ∧ Keeps (fun b => b = q) w w' := by
  have hc := code_any hg id
  by_cases h0 : GM.atCode m id = 0
  · obtain ⟨i, rfl, hi, hs⟩ := GM.atCode_zero h0
    have HD : Hid (GM.del m i = GM.upd m i none) := by
      show _ = _
      unfold GM.del
      rw [if_pos h0, Int.toNat_natCast]
    rw [HD.out]
    rw [h0] at hc ⊢
    have ct := hg.tk i hi
    have ft := hg.fz (2 + i)
    obtain ⟨d0, d1, d2, d3⟩ := hg.arc i hi
    have f0 := hg.fz (66 + i * 4)
    have f1 := hg.fz (66 + i * 4 + 1)
    have f2 := hg.fz (66 + i * 4 + 2)
    have f3 := hg.fz (66 + i * 4 + 3)
    have p2 : (i : Int) < 64 := by omega
    have HR : Hid (RMem (((((w.setCell ⟨q, 2 + i, none⟩ (.bool false)).setCell ⟨q, 66 + i * 4, none⟩ (.int .i64 0)).setCell ⟨q, 66 + i * 4 + 1, none⟩ (.int .i64 0)).setCell ⟨q, 66 + i * 4 + 2, none⟩ (.int .i64 0)).setCell ⟨q, 66 + i * 4 + 3, none⟩ (.bool false)) q N most (GM.upd m i none) ∧ Keeps (fun b => b = q) w (((((w.setCell ⟨q, 2 + i, none⟩ (.bool false)).setCell ⟨q, 66 + i * 4, none⟩ (.int .i64 0)).setCell ⟨q, 66 + i * 4 + 1, none⟩ (.int .i64 0)).setCell ⟨q, 66 + i * 4 + 2, none⟩ (.int .i64 0)).setCell ⟨q, 66 + i * 4 + 3, none⟩ (.bool false))) :=
      ⟨hg.mark hi false none rfl, (keeps_set w q (2 + i) (.bool false)).trans (arcSet_keeps (w.setCell ⟨q, 2 + i, none⟩ (.bool false)) q (66 + i * 4) noArc) (fun _ h => .inl h)⟩
    have cd0 : (w.setCell ⟨q, 2 + i, none⟩ (.bool false)).cell? ⟨q, 66 + i * 4, none⟩ = some (.int .i64 (GM.arc m i).tail) := (cell_other _ (by omega)).trans d0
    have cd1 : (w.setCell ⟨q, 2 + i, none⟩ (.bool false)).cell? ⟨q, 66 + i * 4 + 1, none⟩ = some (.int .i64 (GM.arc m i).head) := (cell_other _ (by omega)).trans d1
    have cd2 : (w.setCell ⟨q, 2 + i, none⟩ (.bool false)).cell? ⟨q, 66 + i * 4 + 2, none⟩ = some (.int .i64 (GM.arc m i).weight) := (cell_other _ (by omega)).trans d2
    have cd3 : (w.setCell ⟨q, 2 + i, none⟩ (.bool false)).cell? ⟨q, 66 + i * 4 + 3, none⟩ = some (.bool (GM.arc m i).closed) := (cell_other _ (by omega)).trans d3
    have cf0 : (w.setCell ⟨q, 2 + i, none⟩ (.bool false)).frozen? ⟨q, 66 + i * 4, none⟩ = false := by simpa using f0
    have cf1 : (w.setCell ⟨q, 2 + i, none⟩ (.bool false)).frozen? ⟨q, 66 + i * 4 + 1, none⟩ = false := by simpa using f1
    have cf2 : (w.setCell ⟨q, 2 + i, none⟩ (.bool false)).frozen? ⟨q, 66 + i * 4 + 2, none⟩ = false := by simpa using f2
    have cf3 : (w.setCell ⟨q, 2 + i, none⟩ (.bool false)).frozen? ⟨q, 66 + i * 4 + 3, none⟩ = false := by simpa using f3
    clear d0 d1 d2 d3 f0 f1 f2 f3 HD h0 hs hg
    go_enter Try.func58, Try.ntmps58
    go_wp2_with fail
    refine hc.mono ?_
    rintro e w9 ⟨rfl, hw9⟩
    rw [hw9]
    clear hw9 w9 hc
    go_upto_region 4 with fail
    clear ct ft
    generalize w.setCell ⟨q, 2 + i, none⟩ (.bool false) = w1 at *
    go_wp2_with fail
    go_ret
    exact ⟨rfl, HR.out⟩
  · have HD : Hid (GM.del m id = m) := by
      show _ = _
      unfold GM.del
      rw [if_neg h0]
    rw [HD.out]
    have h0' : (GM.atCode m id == 0) = false := beq_eq_false_iff_ne.2 h0
    have HR : Hid (RMem w q N most m) := hg
    clear hg HD
    generalize GM.atCode m id = k at *
    go_enter Try.func58, Try.ntmps58
    go_wp2_with fail
    refine hc.mono ?_
    rintro e w9 ⟨rfl, hw9⟩
    rw [hw9]
    clear hw9 w9 hc
    go_wp2_with fail
    go_ret
    exact ⟨rfl, HR.out, Keeps.refl _ _⟩
set_option maxHeartbeats 1000000 in
theorem rturn_any {w : World} {q N most : Nat} {m : GM.M} (hg : RMem w q N most m) (id : Int) (b : Bool) :
    Calls Try.prog 59 #[.pointer (some ⟨q, 0, none⟩), .int .i64 id, .bool b] w fun e w' => e = .returned (.int .i64 (GM.turnCode m id b)) ∧ RMem w' q N most (GM.turn m id b) ∧ Keeps (fun b => b = q) w w' := by
  have hc := code_any hg id
  by_cases h0 : GM.atCode m id = 0
  · obtain ⟨i, rfl, hi, hs⟩ := GM.atCode_zero h0
    have e0 : GM.turnCode m i b = if (GM.arc m i).closed = b then 5 else 0 := by
      unfold GM.turnCode
      rw [if_pos h0, Int.toNat_natCast]
    rw [h0] at hc
    obtain ⟨d0, d1, d2, d3⟩ := hg.arc i hi
    have f3 := hg.fz (66 + i * 4 + 3)
    have p2 : (i : Int) < 64 := by omega
    by_cases hb : (GM.arc m i).closed = b
    · rw [if_pos hb] at e0
      have HD : Hid (GM.turn m i b = m) := by
        show _ = _
        unfold GM.turn
        rw [e0, if_neg (by decide)]
      rw [HD.out, e0]
      have HR : Hid (RMem w q N most m) := hg
      rw [hb] at d3
      clear hg HD h0 hs e0 hb d0 d1 d2
      go_enter Try.func59, Try.ntmps59
      go_wp2_with fail
      refine hc.mono ?_
      rintro e w9 ⟨rfl, hw9⟩
      rw [hw9]
      clear hw9 w9 hc
      go_wp2_with fail
      go_ret
      exact ⟨rfl, HR.out, Keeps.refl _ _⟩
    · rw [if_neg hb] at e0
      have HD : Hid (GM.turn m i b = GM.upd m i (some (shutBy b (GM.arc m i)))) := by
        show _ = _
        unfold GM.turn
        rw [e0, if_pos rfl, Int.toNat_natCast]
        rfl
      rw [HD.out, e0]
      have HR : Hid (RMem (w.setCell ⟨q, 66 + i * 4 + 3, none⟩ (.bool b)) q N most (GM.upd m i (some (shutBy b (GM.arc m i)))) ∧ Keeps (fun b => b = q) w (w.setCell ⟨q, 66 + i * 4 + 3, none⟩ (.bool b))) :=
        ⟨hg.cell hi hs (r := 3) (by decide) _ (shutBy b (GM.arc m i)) rfl (fun s h1 h2 => by
          match s, h1, h2 with
          | 0, _, _ => rfl
          | 1, _, _ => rfl
          | 2, _, _ => rfl
          | s + 3, h1, h2 => exact absurd h1 (by omega)), keeps_set w q _ _⟩
      have hb' : ((GM.arc m i).closed == b) = false := beq_eq_false_iff_ne.2 hb
      clear hg HD h0 hs e0 d0 d1 d2
      generalize (GM.arc m i).closed = c at *
      go_enter Try.func59, Try.ntmps59
      go_wp2_with fail
      refine hc.mono ?_
      rintro e w9 ⟨rfl, hw9⟩
      rw [hw9]
      clear hw9 w9 hc
      go_wp2_with fail
      go_ret
      exact ⟨rfl, HR.out⟩
  · have e0 : GM.turnCode m id b = GM.atCode m id := by
      unfold GM.turnCode
      rw [if_neg h0]
    have HD : Hid (GM.turn m id b = m) := by
      show _ = _
      unfold GM.turn
      rw [e0, if_neg h0]
    rw [HD.out, e0]
    have h0' : (GM.atCode m id != 0) = true := by simpa using h0
    have HR : Hid (RMem w q N most m) := hg
    clear hg HD e0
    generalize GM.atCode m id = k at *
    go_enter Try.func59, Try.ntmps59
    go_wp2_with fail
    refine hc.mono ?_
    rintro e w9 ⟨rfl, hw9⟩
    rw [hw9]
    clear hw9 w9 hc
    go_wp2_with fail
    go_ret
    exact ⟨rfl, HR.out, Keeps.refl _ _⟩
set_option maxHeartbeats 1000000 in
theorem rweigh_any {w : World} {q N most : Nat} {m : GM.M} (hg : RMem w q N most m) (id y : Int) :
    Calls Try.prog 60 #[.pointer (some ⟨q, 0, none⟩), .int .i64 id, .int .i64 y] w fun e w' => e = .returned (.int .i64 (GM.weighCode m id y)) ∧ RMem w' q N most (GM.weigh m id y) ∧ Keeps (fun b => b = q) w w' := by
  have hw := rweight_any y w
  have hc := code_any hg id
  have HR0 : Hid (RMem w q N most m) := hg
  cases ho : GM.okW y with
  | false =>
    have e0 : GM.weighCode m id y = 1 := by
      unfold GM.weighCode
      rw [ho]
      rfl
    have HM : Hid (GM.weigh m id y = m) := by
      show _ = _
      unfold GM.weigh
      rw [e0, if_neg (by decide)]
    rw [e0, HM.out]
    rw [ho] at hw
    clear hc ho hg HM e0
    go_enter Try.func60, Try.ntmps60
    go_wp2_with fail
    refine hw.mono ?_
    rintro e w9 ⟨rfl, hw9⟩
    rw [hw9]
    clear hw9 w9 hw
    go_wp2_with fail
    go_ret
    exact ⟨rfl, HR0.out, Keeps.refl _ _⟩
  | true =>
    have e0 : GM.weighCode m id y = GM.atCode m id := by
      unfold GM.weighCode
      rw [ho, if_pos rfl]
    rw [ho] at hw
    by_cases h0 : GM.atCode m id = 0
    · obtain ⟨i, rfl, hi, hs⟩ := GM.atCode_zero h0
      have HM : Hid (GM.weigh m i y = GM.upd m i (some (weighed y (GM.arc m i)))) := by
        show _ = _
        unfold GM.weigh
        rw [e0, if_pos h0, Int.toNat_natCast]
        rfl
      rw [e0, HM.out]
      rw [h0] at hc ⊢
      obtain ⟨d0, d1, d2, d3⟩ := hg.arc i hi
      have f2 := hg.fz (66 + i * 4 + 2)
      have p2 : (i : Int) < 64 := by omega
      have HR : Hid (RMem (w.setCell ⟨q, 66 + i * 4 + 2, none⟩ (.int .i64 y)) q N most (GM.upd m i (some (weighed y (GM.arc m i)))) ∧ Keeps (fun b => b = q) w (w.setCell ⟨q, 66 + i * 4 + 2, none⟩ (.int .i64 y))) :=
        ⟨hg.cell hi hs (r := 2) (by decide) _ (weighed y (GM.arc m i)) rfl (fun s h1 h2 => by
          match s, h1, h2 with
          | 0, _, _ => rfl
          | 1, _, _ => rfl
          | 3, _, _ => rfl), keeps_set w q _ _⟩
      clear hg HM h0 hs e0 d0 d1 d3 ho HR0
      go_enter Try.func60, Try.ntmps60
      go_wp2_with fail
      refine hw.mono ?_
      rintro e w9 ⟨rfl, hw9⟩
      rw [hw9]
      clear hw9 w9 hw
      go_wp2_with fail
      refine hc.mono ?_
      rintro e w9 ⟨rfl, hw9⟩
      rw [hw9]
      clear hw9 w9 hc
      go_wp2_with fail
      go_ret
      exact ⟨rfl, HR.out⟩
    · have HM : Hid (GM.weigh m id y = m) := by
        show _ = _
        unfold GM.weigh
        rw [e0, if_neg h0]
      rw [e0, HM.out]
      have h0' : (GM.atCode m id == 0) = false := beq_eq_false_iff_ne.2 h0
      clear hg HM e0 ho
      generalize GM.atCode m id = k at *
      go_enter Try.func60, Try.ntmps60
      go_wp2_with fail
      refine hw.mono ?_
      rintro e w9 ⟨rfl, hw9⟩
      rw [hw9]
      clear hw9 w9 hw
      go_wp2_with fail
      refine hc.mono ?_
      rintro e w9 ⟨rfl, hw9⟩
      rw [hw9]
      clear hw9 w9 hc
      go_wp2_with fail
      go_ret
      exact ⟨rfl, HR0.out, Keeps.refl _ _⟩
set_option maxHeartbeats 1000000 in
theorem doref_any {w : World} {q N most : Nat} {m : GM.M} (hg : RMem w q N most m) (c : Chg) :
    Calls Try.prog 39 #[.pointer (some ⟨q, 0, none⟩), chgV c] w fun e w' => e = .returned (.int .i64 (GM.code N most m c)) ∧ RMem w' q N most (GM.next N most m c) ∧ Keeps (fun b => b = q) w w' := by
  obtain ⟨k, id, t, h, x, cl⟩ := c
  have hb1 : Below w.heap.size w (w.alloc (.cells #[.int .i64 k, .int .i64 id, .int .i64 t, .int .i64 h, .int .i64 x, .bool cl] 85)) := (Below.refl _ _).alloc (Nat.le_refl _) _
  have HK : Hid (Keeps (fun b => b = q) w (w.alloc (.cells #[.int .i64 k, .int .i64 id, .int .i64 t, .int .i64 h, .int .i64 x, .bool cl] 85))) := Below.keeps hb1 _
  have hg1 := hg.on hb1
  have e : chgV ⟨k, id, ⟨t, h, x, cl⟩⟩ = .agg #[.int .i64 k, .int .i64 id, .int .i64 t, .int .i64 h, .int .i64 x, .bool cl] := rfl
  rw [e]
  unfold GM.code GM.next
  dsimp only
  by_cases k0 : k = 0
  · subst k0
    simp only [if_true]
    have hc := rinsert_any hg1 id ⟨t, h, x, cl⟩
    have e2 : arcV ⟨t, h, x, cl⟩ = .agg #[.int .i64 t, .int .i64 h, .int .i64 x, .bool cl] := rfl
    rw [e2] at hc
    clear hg1 hb1 e e2 hg
    generalize GM.insCode N most m id ⟨t, h, x, cl⟩ = r at *
    generalize GM.ins N most m id ⟨t, h, x, cl⟩ = m2 at *
    go_enter Try.func39, Try.ntmps39
    go_wp2_with fail
    refine hc.mono ?_
    rintro e w2 ⟨rfl, h2, h3⟩
    have HR : Hid (RMem w2 q N most m2 ∧ Keeps (fun b => b = q) w w2) := ⟨h2, HK.out.trans h3 (fun _ h => .inl h)⟩
    clear hc h2 h3
    go_wp2_with fail
    go_ret
    exact ⟨rfl, HR.out⟩
  have k0' : (k == 0) = false := beq_eq_false_iff_ne.2 k0
  simp only [if_neg k0]
  by_cases k1 : k = 1
  · subst k1
    simp only [if_true]
    have hc := rdelete_any hg1 id
    clear hg1 hb1 e hg
    generalize GM.atCode m id = r at *
    generalize GM.del m id = m2 at *
    go_enter Try.func39, Try.ntmps39
    go_wp2_with fail
    refine hc.mono ?_
    rintro e w2 ⟨rfl, h2, h3⟩
    have HR : Hid (RMem w2 q N most m2 ∧ Keeps (fun b => b = q) w w2) := ⟨h2, HK.out.trans h3 (fun _ h => .inl h)⟩
    clear hc h2 h3
    go_wp2_with fail
    go_ret
    exact ⟨rfl, HR.out⟩
  have k1' : (k == 1) = false := beq_eq_false_iff_ne.2 k1
  simp only [if_neg k1]
  by_cases k2 : k = 2
  · subst k2
    simp only [if_true]
    have hc := rturn_any hg1 id true
    clear hg1 hb1 e hg
    generalize GM.turnCode m id true = r at *
    generalize GM.turn m id true = m2 at *
    go_enter Try.func39, Try.ntmps39
    go_wp2_with fail
    refine hc.mono ?_
    rintro e w2 ⟨rfl, h2, h3⟩
    have HR : Hid (RMem w2 q N most m2 ∧ Keeps (fun b => b = q) w w2) := ⟨h2, HK.out.trans h3 (fun _ h => .inl h)⟩
    clear hc h2 h3
    go_wp2_with fail
    go_ret
    exact ⟨rfl, HR.out⟩
  have k2' : (k == 2) = false := beq_eq_false_iff_ne.2 k2
  simp only [if_neg k2]
  by_cases k3 : k = 3
  · subst k3
    simp only [if_true]
    have hc := rturn_any hg1 id false
    clear hg1 hb1 e hg
    generalize GM.turnCode m id false = r at *
    generalize GM.turn m id false = m2 at *
    go_enter Try.func39, Try.ntmps39
    go_wp2_with fail
    refine hc.mono ?_
    rintro e w2 ⟨rfl, h2, h3⟩
    have HR : Hid (RMem w2 q N most m2 ∧ Keeps (fun b => b = q) w w2) := ⟨h2, HK.out.trans h3 (fun _ h => .inl h)⟩
    clear hc h2 h3
    go_wp2_with fail
    go_ret
    exact ⟨rfl, HR.out⟩
  have k3' : (k == 3) = false := beq_eq_false_iff_ne.2 k3
  simp only [if_neg k3]
  have hc := rweigh_any hg1 id x
  clear hg1 hb1 e hg k0 k1 k2 k3
  generalize GM.weighCode m id x = r at *
  generalize GM.weigh m id x = m2 at *
  go_enter Try.func39, Try.ntmps39
  go_wp2_with fail
  refine hc.mono ?_
  rintro e w2 ⟨rfl, h2, h3⟩
  have HR : Hid (RMem w2 q N most m2 ∧ Keeps (fun b => b = q) w w2) := ⟨h2, HK.out.trans h3 (fun _ h => .inl h)⟩
  clear hc h2 h3
  go_wp2_with fail
  go_ret
  exact ⟨rfl, HR.out⟩
end Go.Proofs.Ytleckkpfnjpbiaa
