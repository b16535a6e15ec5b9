/-
  The walk of the law HeapPlays.
-/
import Derived.Test.YtmmokmgljacddaaHeapX
import Derived.Deep.DeepCutAuto
import Derived.Deep.RegionHeld3
namespace Go.Proofs.Ytmmokmgljacddaa
open Go.RowKit

set_option maxHeartbeats 4000000 in
set_option maxRecDepth 100000 in
theorem plays_walk (n : Int) (v : Value) (xs : List (Int × Int × Int)) (w : World) (hacts : Acts w v xs) :
    Calls Try.prog 3 #[.int .i64 n, v] w fun e w' => e = .returned (.bool true) ∧ Below w.heap.size w w' := by
  obtain ⟨ao, cap, rfl, hml, hcells⟩ := hacts
  have HC : Hid (0 < xs.length → ∃ b o, ao = some ⟨b, o, none⟩ ∧ b < w.heap.size ∧ ∀ i, i < xs.length → w.cell? ⟨b, o + i * 3, none⟩ = some (.int .i64 (xs[i]?.getD (0, 0, 0)).1) ∧ w.cell? ⟨b, o + i * 3 + 1, none⟩ = some (.int .i64 (xs[i]?.getD (0, 0, 0)).2.1) ∧ w.cell? ⟨b, o + i * 3 + 2, none⟩ = some (.int .i64 (xs[i]?.getD (0, 0, 0)).2.2)) := hcells
  clear hcells
  have hml' : xs.length ≤ 9223372036854775807 := by unfold maxLen at hml; omega
  have haw := awake_any w
  clear hml
  by_cases hn : n < 0 ∨ 64 < n
  · have hbad := fun w' => HI.new_bad n hn w'
    have HBD : Hid (∀ w', Calls Try.prog 9 #[.int .i64 n] w' fun e w'' => e = .returned (.tuple #[.pointer none, .int .i64 1]) ∧ w'' = w') := hbad
    clear hbad
    by_cases h0 : n < 0
    · clear hn
      go_enter Try.func3, Try.ntmps3
      go_wp2_with fail
      refine haw.mono ?_
      rintro e w1 ⟨rfl, hb1⟩
      go_wp2_with fail
      refine (HBD.out w1).mono ?_
      rintro e w2 ⟨rfl, rfl⟩
      go_wp2_with fail
      go_ret
      exact ⟨rfl, hb1⟩
    · have h1 : 64 < n := by omega
      clear hn
      go_enter Try.func3, Try.ntmps3
      go_wp2_with fail
      refine haw.mono ?_
      rintro e w1 ⟨rfl, hb1⟩
      go_wp2_with fail
      refine (HBD.out w1).mono ?_
      rintro e w2 ⟨rfl, rfl⟩
      go_wp2_with fail
      go_ret
      exact ⟨rfl, hb1⟩
  · obtain ⟨n, rfl⟩ : ∃ k : Nat, n = k := ⟨n.toNat, by omega⟩
    have h64 : n ≤ 64 := by omega
    clear hn
    obtain ⟨L, hL⟩ : ∃ L, L = xs.length := ⟨_, rfl⟩
    rw [← hL] at HC hml' ⊢
    clear hL
    have h64' : ¬ (64 : Int) < (n : Int) := by omega
    go_enter Try.func3, Try.ntmps3
    go_wp2_with fail
    refine haw.mono ?_
    rintro e w1 ⟨rfl, hb1⟩
    have hnew := one_new n h64 w1
    clear haw
    go_wp2_with fail
    refine hnew.mono ?_
    rintro e w2 ⟨p, rfl, ho2, hb2⟩
    have hs1 := hb1.size
    have hb2' : Below w.heap.size w w2 := hb1.trans (hb2.mono hs1)
    have hrn := two_new ho2 h64
    clear hnew hb2 ho2
    go_wp2_with fail
    refine hrn.mono ?_
    rintro e w3 ⟨q, rfl, ho3, hb3⟩
    have hb3' : Below w.heap.size w w3 := hb2'.trans (hb3.mono hs1)
    clear hrn hb3 hb2'
    go_wp2_with fail
    go_loopw [8] (fun iv wr => ∃ (k : Nat) (m : Nat → Option Int), k ≤ L ∧ iv = .int .i64 k ∧ Two wr w1.heap.size p q n m m ∧ Below w.heap.size w wr) (fun iv _ => L - (intOf iv).toNat)
    case atStart => exact ⟨0, _, Nat.zero_le _, rfl, ho3, hb3'⟩
    case round =>
      obtain ⟨k, m, hk, rfl, ho, hbr⟩ := hrel
      clear ho3 hb3'
      have HO : Hid (Two wr w1.heap.size p q n m m) := ho
      have HB : Hid (Below w.heap.size w wr) := hbr
      clear ho hbr
      by_cases hlt : k < L ∧ k < 200
      · obtain ⟨b, o, rfl, hbl, hc⟩ := HC.out (by omega)
        obtain ⟨c0, c1, c2⟩ := hc k hlt.1
        rw [← HB.out.cell (p := ⟨b, _, none⟩) (by exact hbl)] at c0 c1 c2
        generalize xs[k]?.getD (0, 0, 0) = x at c0 c1 c2
        obtain ⟨kd, t, pv⟩ := x
        simp only at c0 c1 c2
        have k1 : (k : Int) < (L : Int) := by omega
        have k2 : (k : Int) < 200 := by omega
        clear hc
        go_upto_if 69 with fail
        have hbw : Below wr.heap.size wr (wr.alloc (.cells #[.int .i64 kd, .int .i64 t, .int .i64 pv] 31)) := (Below.refl _ _).alloc (Nat.le_refl _) _
        have HX : Hid (TwoX (wr.alloc (.cells #[.int .i64 kd, .int .i64 t, .int .i64 pv] 31)) w1.heap.size p q n m m (fun b => b < w1.heap.size ∨ b = wr.heap.size)) := HO.out.guest hbw (Nat.le_refl _) (by simp)
        have HBB : Hid (Below w.heap.size w (wr.alloc (.cells #[.int .i64 kd, .int .i64 t, .int .i64 pv] 31))) := HB.out.trans (hbw.mono HB.out.size |>.mono (Nat.le_refl _))
        have g0 : (wr.alloc (.cells #[.int .i64 kd, .int .i64 t, .int .i64 pv] 31)).cell? ⟨wr.heap.size, 0, none⟩ = some (.int .i64 kd) := by simp
        have g1 : (wr.alloc (.cells #[.int .i64 kd, .int .i64 t, .int .i64 pv] 31)).cell? ⟨wr.heap.size, 1, none⟩ = some (.int .i64 t) := by simp
        have g2 : (wr.alloc (.cells #[.int .i64 kd, .int .i64 t, .int .i64 pv] 31)).cell? ⟨wr.heap.size, 2, none⟩ = some (.int .i64 pv) := by simp
        clear hbw c0 c1 c2 HO HB
        generalize wr.alloc (.cells #[.int .i64 kd, .int .i64 t, .int .i64 pv] 31) = wb at *
        generalize wr.heap.size = g at *
        obtain ⟨X, hX⟩ : ∃ X : Nat → Prop, X = (fun b => b < w1.heap.size ∨ b = g) := ⟨_, rfl⟩
        have XG : Hid (X g) := by rw [hX]; exact .inr rfl
        have XB : Hid (∀ b, b < w.heap.size → X b) := fun b hb => by rw [hX]; exact .inl (by omega)
        rw [← hX] at HX
        clear hX
        have G1 : Hid (∀ w', Rest X wb w' → w'.cell? ⟨g, 1, none⟩ = some (.int .i64 t)) := fun w' h => h.cell g1 XG.out
        have G2 : Hid (∀ w', Rest X wb w' → w'.cell? ⟨g, 2, none⟩ = some (.int .i64 pv)) := fun w' h => h.cell g2 XG.out
        have hwb : w.heap.size ≤ wb.heap.size := HBB.out.size
        go_cut [69] (fun _ wx => ∃ m', TwoX wx w1.heap.size p q n m' m' X ∧ Rest X wb wx)
        case first =>
          by_cases hkd : kd = 0
          · subst hkd
            have hd : Below wb.heap.size wb wb.drew := (Below.refl _ _).drew
            have HD : Hid (TwoX wb.drew w1.heap.size p q n m m X) := HX.out.below hd
            have HRD : Hid (Rest X wb wb.drew) := Rest.of_below hd
            clear hd
            go_wp2_with fail
            go_region_held3 (fun w' => w'.cell? ⟨g, 1, none⟩ = some (.int .i64 t) ∧ w'.cell? ⟨g, 2, none⟩ = some (.int .i64 pv)) (go_keep) (first
              | (go_at_call 11; refine (x_put HD.out h64 t pv).mono ?_; rintro e w5 ⟨rfl, ho5, hr5⟩; have g15 := G1.out w5 (HRD.out.trans hr5); have g25 := G2.out w5 (HRD.out.trans hr5))
              | (go_at_call 12; refine (x_rput ho5 t pv).mono ?_; rintro e w6 ⟨rfl, ho6, hr6⟩; have g16 := G1.out w6 ((HRD.out.trans hr5).trans hr6); have g26 := G2.out w6 ((HRD.out.trans hr5).trans hr6)))
            all_goals
              have HO6 : Hid (TwoX w6 w1.heap.size p q n (HM.put HM.TI n m t pv) (HM.put HM.TI n m t pv) X) := ho6
              have HR6 : Hid (Rest X wb w6) := (HRD.out.trans hr5).trans hr6
              clear ho5 hr5 ho6 hr6
              go_wp2_with fail
              go_meet
              exact ⟨_, HO6.out, HR6.out⟩
          · have hkd' : (kd == 0) = false := beq_eq_false_iff_ne.2 hkd
            have hpp := x_pop HX.out h64
            obtain ⟨f, r, c, hfc⟩ := peekT_form (HM.firstOf HM.TI m)
            rw [hfc] at hpp
            have HRP : Hid (∀ w', TwoX w' w1.heap.size p q n (HM.popped HM.TI m) m X → Calls Try.prog 14 #[.pointer (some ⟨q, 0, none⟩)] w' fun e w'' => e = .returned (.tuple #[.int .i64 f, .int .i64 r, .bool c]) ∧ TwoX w'' w1.heap.size p q n (HM.popped HM.TI m) (HM.popped HM.TI m) X ∧ Rest X w' w'') := fun w' h => by
              have := x_rpop h h64
              rw [hfc] at this
              exact this
            clear hfc
            go_wp2_with fail
            refine hpp.mono ?_
            rintro e w5 ⟨rfl, ho5, hr5⟩
            have HO5 : Hid (TwoX w5 w1.heap.size p q n (HM.popped HM.TI m) m X) := ho5
            have HR5 : Hid (Rest X wb w5) := hr5
            clear ho5 hr5 hpp
            go_wp2_with fail
            refine (HRP.out w5 HO5.out).mono ?_
            rintro e w6 ⟨rfl, ho6, hr6⟩
            have HO6 : Hid (TwoX w6 w1.heap.size p q n (HM.popped HM.TI m) (HM.popped HM.TI m) X) := ho6
            have HR6 : Hid (Rest X wb w6) := HR5.out.trans hr6
            clear ho6 hr6
            go_wp2_with fail
            go_meet
            exact ⟨_, HO6.out, HR6.out⟩
        case rest =>
          obtain ⟨m', ho', hr'⟩ := hcut
          clear HX
          have HO1 : Hid (TwoX wc w1.heap.size p q n m' m' X) := ho'
          have HR1 : Hid (Rest X wb wc) := hr'
          obtain ⟨f, r, c, hfc⟩ := peekT_form (HM.firstOf HM.TI m')
          obtain ⟨r2, c2, hac⟩ := atT_form (HM.look m' t)
          have hpk := x_peek ho'
          rw [hfc] at hpk
          have HRK : Hid (∀ w', TwoX w' w1.heap.size p q n m' m' X → Calls Try.prog 16 #[.pointer (some ⟨q, 0, none⟩)] w' fun e w'' => e = .returned (.tuple #[.int .i64 f, .int .i64 r, .bool c]) ∧ TwoX w'' w1.heap.size p q n m' m' X ∧ Rest X w' w'') := fun w' h => by
            have := x_rpeek h h64
            rw [hfc] at this
            exact this
          have HAT : Hid (∀ w', TwoX w' w1.heap.size p q n m' m' X → Calls Try.prog 17 #[.pointer (some ⟨p, 0, none⟩), .int .i64 t] w' fun e w'' => e = .returned (.tuple #[.int .i64 r2, .bool c2]) ∧ TwoX w'' w1.heap.size p q n m' m' X ∧ Rest X w' w'') := fun w' h => by
            have := x_at h t
            rw [hac] at this
            exact this
          have HRA : Hid (∀ w', TwoX w' w1.heap.size p q n m' m' X → Calls Try.prog 18 #[.pointer (some ⟨q, 0, none⟩), .int .i64 t] w' fun e w'' => e = .returned (.tuple #[.int .i64 r2, .bool c2]) ∧ w'' = w') := fun w' h => by
            have := x_rat h t
            rw [hac] at this
            exact this
          clear ho' hr' hfc hac
          go_wp2_with fail
          refine hpk.mono ?_
          rintro e w5 ⟨rfl, ho5, hr5⟩
          have HO5 : Hid (TwoX w5 w1.heap.size p q n m' m' X) := ho5
          have HR5 : Hid (Rest X wb w5) := HR1.out.trans hr5
          clear ho5 hr5 hpk
          go_wp2_with fail
          refine (HRK.out w5 HO5.out).mono ?_
          rintro e w6 ⟨rfl, ho6, hr6⟩
          have HO6 : Hid (TwoX w6 w1.heap.size p q n m' m' X) := ho6
          have HR6 : Hid (Rest X wb w6) := HR5.out.trans hr6
          have g16 := G1.out w6 (HR5.out.trans hr6)
          clear ho6 hr6
          go_wp2_with fail
          refine (HAT.out w6 HO6.out).mono ?_
          rintro e w7 ⟨rfl, ho7, hr7⟩
          have HO7 : Hid (TwoX w7 w1.heap.size p q n m' m' X) := ho7
          have HR7 : Hid (Rest X wb w7) := HR6.out.trans hr7
          have g17 := G1.out w7 (HR6.out.trans hr7)
          clear ho7 hr7 g16
          go_wp2_with fail
          refine (HRA.out w7 HO7.out).mono ?_
          rintro e w8 ⟨rfl, rfl⟩
          clear g17
          have hl1 := x_len HO7.out
          have hl2 := x_rlen HO7.out h64
          go_wp2_with fail
          refine hl1.mono ?_
          rintro e w9 ⟨rfl, rfl⟩
          go_wp2_with fail
          refine hl2.mono ?_
          rintro e w10 ⟨rfl, rfl⟩
          clear hl1 hl2
          go_wp2_with fail
          go_roundw
          case rel => exact ⟨k + 1, m', by omega, by go_num, HO7.out.two, HBB.out.trans (HR7.out.below XB.out hwb)⟩
          case measure => simp [intOf]; omega
      · by_cases hl : k < L
        · have k1 : (k : Int) < (L : Int) := by omega
          have k2 : ¬ (k : Int) < 200 := by omega
          clear hlt
          go_wp2_with fail
          go_ret
          exact ⟨rfl, HB.out⟩
        · obtain rfl : k = L := by omega
          clear hlt
          go_wp2_with fail
          go_ret
          exact ⟨rfl, HB.out⟩
end Go.Proofs.Ytmmokmgljacddaa
