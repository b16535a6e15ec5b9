/-
  The walk of the law's Made: both graphs behind changes.
-/
import Derived.Test.YtleckkpfnjpbiaaGraphBoth
namespace Go.Proofs.Ytleckkpfnjpbiaa
open Go.RowKit

namespace GM
/-- What lies there behind the first k changes. -/
def made (N : Nat) (xs : List Chg) : Nat → M
  | 0 => none0
  | k + 1 => next N 64 (made N xs k) (chgAt xs k)
theorem good_made (N : Nat) (xs : List Chg) : ∀ k, Good 64 (made N xs k)
  | 0 => Good.zero 64
  | k + 1 => good_next (good_made N xs k) _
theorem is_next {N most : Nat} {m : M} {c : Chg} {i : Nat} (h : is (next N most m c) i = true) : is m i = true ∨ c.id = (i : Int) := by
  have hu : ∀ (id : Int) (x : Option Arc), place id = true → is (upd m id.toNat x) i = true → is m i = true ∨ id = (i : Int) := fun id x hp hi => by
    obtain ⟨j, rfl, _⟩ := place_nat hp
    rw [Int.toNat_natCast, is_upd] at hi
    split at hi
    · rename_i e
      exact .inr (by rw [e])
    · exact .inl hi
  have hp0 : ∀ {id : Int}, atCode m id = 0 → place id = true := fun {id} h0 => by
    obtain ⟨j, rfl, hj, _⟩ := atCode_zero h0
    exact decide_eq_true (by omega)
  unfold next at h
  split at h
  · unfold ins at h
    split at h
    · rename_i hc
      refine hu _ _ ?_ h
      unfold insCode at hc
      split at hc
      · rename_i hp
        simp only [Bool.and_eq_true] at hp
        exact hp.1.1.1
      · cases hc
    · exact .inl h
  split at h
  · unfold del at h
    split at h
    · rename_i hc
      exact hu _ _ (hp0 hc) h
    · exact .inl h
  split at h
  · unfold turn at h
    split at h
    · rename_i hc
      exact hu _ _ (hp0 (turnCode_zero hc).1) h
    · exact .inl h
  split at h
  · unfold turn at h
    split at h
    · rename_i hc
      exact hu _ _ (hp0 (turnCode_zero hc).1) h
    · exact .inl h
  · unfold weigh at h
    split at h
    · rename_i hc
      exact hu _ _ (hp0 (weighCode_zero hc).1) h
    · exact .inl h
theorem is_made (N : Nat) (xs : List Chg) (i : Nat) : ∀ k, is (made N xs k) i = true → ∃ j, j < k ∧ (chgAt xs j).id = (i : Int)
  | 0, h => by simp [made, is, none0] at h
  | k + 1, h => by
    rcases is_next h with h1 | h1
    · obtain ⟨j, hj, e⟩ := is_made N xs i k h1
      exact ⟨j, by omega, e⟩
    · exact ⟨k, by omega, h1⟩
end GM

set_option maxHeartbeats 4000000 in
set_option maxRecDepth 100000 in
theorem made_any (n : Int) (v : Value) (xs : List Chg) (w : World) (h0 : 0 ≤ n) (_h1 : n ≤ 255) (hch : Chgs w v xs) :
    Calls Try.prog 17 #[.int .u8 n, v] w fun e w' => ∃ p q, e = .returned (.tuple #[.pointer (some ⟨p, 0, none⟩), .pointer (some ⟨q, 0, none⟩)]) ∧ ∃ N, (1 ≤ N ∧ N ≤ 24) ∧ Both w' w.heap.size p q N 64 (GM.made N xs (min xs.length 150)) ∧ Below w.heap.size w w' := by
  obtain ⟨ao, cap, rfl, hml, hcells⟩ := hch
  have HC : Hid (0 < xs.length → ∃ b o, ao = some ⟨b, o, none⟩ ∧ b < w.heap.size ∧ ∀ i, i < xs.length → ChgIn w b (o + i * 6) (chgAt xs i)) := hcells
  have hml' : xs.length ≤ 9223372036854775807 := by unfold maxLen at hml; omega
  obtain ⟨a, rfl⟩ : ∃ a : Nat, n = a := ⟨n.toNat, by omega⟩
  obtain ⟨N, hN⟩ : ∃ N, N = 1 + a % 24 := ⟨_, rfl⟩
  have h1 : 1 ≤ N := by omega
  have h2 : N ≤ 24 := by omega
  have ek : (1 : Int) + (a : Int) % 24 = (N : Int) := by omega
  have ek2 : (a : Int).tmod 24 = (N : Int) - 1 := by rw [Int.tmod_eq_emod_of_nonneg (by omega)]; omega
  have HN : Hid (1 ≤ N ∧ N ≤ 24) := ⟨h1, h2⟩
  clear hcells hml hN
  obtain ⟨L, hL⟩ : ∃ L, L = xs.length := ⟨_, rfl⟩
  rw [← hL] at HC hml' ⊢
  clear hL
  have HNW : Hid (∀ W, Calls Try.prog 36 #[.int .i64 N, .int .i64 64] W fun e w' => ∃ p, e = .returned (.tuple #[.pointer (some ⟨p, 0, none⟩), .int .i64 0]) ∧ p = W.heap.size ∧ GMem w' p N 64 GM.none0 ∧ Below W.heap.size W w') := fun W => new_ok N 64 h1 h2 (by decide) (by decide) W
  have HRW : Hid (∀ W, Calls Try.prog 37 #[.int .i64 N, .int .i64 64] W fun e w' => ∃ q, e = .returned (.pointer (some ⟨q, 0, none⟩)) ∧ q = W.heap.size ∧ RMem w' q N 64 GM.none0 ∧ Below W.heap.size W w') := fun W => rnew_any N 64 W
  clear h1 h2
  go_enter Try.func17, Try.ntmps17
  go_wp2_with fail
  rw [show (1 : Int) + ((N : Int) - 1) = (N : Int) by omega]
  clear ek ek2
  refine (HNW.out w).mono ?_
  rintro e w2 ⟨p, rfl, hp, hg2, hb2⟩
  have hpw : w.heap.size ≤ p := by omega
  have hpl := hg2.lt
  have hs2 := hb2.size
  clear hp HNW
  go_wp2_with fail
  refine (HRW.out w2).mono ?_
  rintro e w3 ⟨q, rfl, hq, hr3, hb3⟩
  have ho3 : Both w3 w.heap.size p q N 64 (GM.made N xs 0) := ⟨hg2.on hb3, hr3, GM.Good.zero 64, hpw, by omega, by omega, by have := hb3.size; omega⟩
  have hb3' := below_on hb2 hb3
  clear hg2 hr3 hb3 hb2 hpl hpw hq hs2 HRW
  go_wp2_with fail
  go_loopw [10] (fun iv wr => ∃ k : Nat, k ≤ L ∧ k ≤ 150 ∧ iv = .int .i64 k ∧ Both wr w.heap.size p q N 64 (GM.made N xs k) ∧ Below w.heap.size w wr) (fun iv _ => L - (intOf iv).toNat)
  case atStart => exact ⟨0, Nat.zero_le _, by decide, rfl, ho3, hb3'⟩
  case round =>
    obtain ⟨k, hk, hk2, rfl, ho, hbr⟩ := hrel
    clear ho3 hb3'
    have HO : Hid (Both wr w.heap.size p q N 64 (GM.made N xs k)) := ho
    have HB : Hid (Below w.heap.size w wr) := hbr
    by_cases hlt : k < L ∧ k < 150
    · obtain ⟨b, o, rfl, hbl, hc⟩ := HC.out (by omega)
      have HCI : Hid (∀ W, Below w.heap.size w W → ChgIn W b (o + k * 6) (chgAt xs k)) := fun W hW => by
        obtain ⟨x0, x1, x2, x3, x4, x5⟩ := hc k hlt.1
        exact ⟨(hW.cell (p := ⟨b, _, none⟩) hbl).trans x0, (hW.cell (p := ⟨b, _, none⟩) hbl).trans x1, (hW.cell (p := ⟨b, _, none⟩) hbl).trans x2, (hW.cell (p := ⟨b, _, none⟩) hbl).trans x3, (hW.cell (p := ⟨b, _, none⟩) hbl).trans x4, (hW.cell (p := ⟨b, _, none⟩) hbl).trans x5⟩
      obtain ⟨c0, c1, c2, c3, c4, c5⟩ := HCI.out wr hbr
      have HGN : Hid (GM.Good 64 (GM.made N xs (k + 1))) := GM.good_made N xs (k + 1)
      have HST : Hid (GM.made N xs (k + 1) = GM.next N 64 (GM.made N xs k) (chgAt xs k)) := rfl
      have cd := do_any ho.g ho.ok (chgAt xs k)
      have CR : Hid (∀ W, RMem W q N 64 (GM.made N xs k) → Calls Try.prog 39 #[.pointer (some ⟨q, 0, none⟩), chgV (chgAt xs k)] W fun e w' => e = .returned (.int .i64 (GM.code N 64 (GM.made N xs k) (chgAt xs k))) ∧ RMem w' q N 64 (GM.made N xs (k + 1)) ∧ Keeps (fun b => b = q) W w') := fun W hW => doref_any hW _
      rw [← HST.out] at cd
      clear HST
      obtain ⟨m2, hm2⟩ : ∃ m2, GM.made N xs (k + 1) = m2 := ⟨_, rfl⟩
      have HM2 : Hid (GM.made N xs (k + 1) = m2) := hm2
      rw [hm2] at cd HGN CR
      clear hm2
      generalize GM.made N xs k = m at *
      generalize chgAt xs k = x at *
      generalize GM.code N 64 m x = cod at *
      obtain ⟨kd, id, t, h, y, cl⟩ := x
      unfold chgV at cd CR
      dsimp only at c0 c1 c2 c3 c4 c5 cd CR
      have CELL : Hid (∀ W, Below w.heap.size w W → W.cell? ⟨b, o + k * 6, none⟩ = some (.int .i64 kd) ∧ W.cell? ⟨b, o + k * 6 + 1, none⟩ = some (.int .i64 id) ∧ W.cell? ⟨b, o + k * 6 + 2, none⟩ = some (.int .i64 t) ∧ W.cell? ⟨b, o + k * 6 + 3, none⟩ = some (.int .i64 h) ∧ W.cell? ⟨b, o + k * 6 + 4, none⟩ = some (.int .i64 y) ∧ W.cell? ⟨b, o + k * 6 + 5, none⟩ = some (.bool cl)) := fun W hW => HCI.out W hW
      have k1 : (k : Int) < (L : Int) := by omega
      have k2 : (k : Int) < 150 := by omega
      clear hc ho hbr HCI HC
      go_wp2_with fail
      refine cd.mono ?_
      rintro e w5 ⟨rfl, hg5, hk5⟩
      have HG5 : Hid (GMem w5 p N 64 m2) := hg5
      have HK5 : Hid (Keeps (fun b => b = p) wr w5) := hk5
      have HR5 : Hid (RMem w5 q N 64 m) := HO.out.r.kept hk5 (fun e => HO.out.ne e.symm)
      have hb5 : Below w.heap.size w w5 := HB.out.trans (hk5.rest HO.out.lp HO.out.sz)
      obtain ⟨x0, x1, x2, x3, x4, x5⟩ := CELL.out _ hb5
      clear c0 c1 c2 c3 c4 c5 cd hg5 hk5 hb5
      go_wp2_with fail
      refine (CR.out _ HR5.out).mono ?_
      rintro e w6 ⟨rfl, hr6, hk6⟩
      have HO6 : Hid (Both w6 w.heap.size p q N 64 m2) := (HO.out.step HK5.out HG5.out hk6 hr6 HGN.out).1
      have HB6 : Hid (Below w.heap.size w w6) := HB.out.trans (HO.out.step HK5.out HG5.out hk6 hr6 HGN.out).2
      clear x0 x1 x2 x3 x4 x5 hr6 hk6
      go_wp2_with fail
      go_roundw
      case rel => exact ⟨k + 1, by omega, by omega, by go_num, by rw [HM2.out]; exact HO6.out, HB6.out⟩
      case measure => simp [intOf]; omega
    · have HMIN : Hid (min L 150 = k) := by show _ = _; omega
      clear ho hbr
      by_cases hl : k < L
      · have k1 : (k : Int) < (L : Int) := by omega
        have k2 : ¬ (k : Int) < 150 := by omega
        clear hlt
        go_wp2_with fail
        go_ret2
        exact ⟨p, q, rfl, N, HN.out, by rw [HMIN.out]; exact HO.out, HB.out⟩
      · obtain rfl : k = L := by omega
        clear hlt
        go_wp2_with fail
        go_ret2
        exact ⟨p, q, rfl, N, HN.out, by rw [HMIN.out]; exact HO.out, HB.out⟩
end Go.Proofs.Ytleckkpfnjpbiaa
