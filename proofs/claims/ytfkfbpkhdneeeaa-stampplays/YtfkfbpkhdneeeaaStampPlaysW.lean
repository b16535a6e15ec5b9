/-
  The walk of the law StampPlays.
-/
import Derived.Test.YtfkfbpkhdneeeaaStampTwo
import Derived.Test.YtfkfbpkhdneeeaaStampActs
import Derived.Deep.DeepCutAuto
namespace Go.Proofs.Ytfkfbpkhdneeeaa
open Go.RowKit

theorem two_new {w : World} {B p n : Nat} {m : Nat → Option Int} {F : Nat → Prop} (h : ObjI w B p n m F) (hn : n ≤ 64) :
    Calls Try.prog 8 #[.int .i64 n] w fun e w' => ∃ q, e = .returned (.pointer (some ⟨q, 0, none⟩)) ∧ TwoX w' B p q n m (fun _ => none) (fun b => b < B) ∧ Below B w w' := by
  have hB := h.base
  refine (rf_new n hn w B hB).mono ?_
  rintro e w' ⟨q, G, rfl, h2, h3, h4⟩
  refine ⟨q, rfl, ⟨F, G, h.below h4, h2, fun b hf hg => ?_, fun b hb => ⟨?_, fun hf => ?_, fun hg => ?_⟩⟩, h4.mono hB⟩
  · have := (h.lt b hf).2
    have := h3 b hg
    omega
  · have := h4.size
    omega
  · have := (h.lt b hf).1
    omega
  · have := h3 b hg
    omega

set_option maxHeartbeats 4000000 in
set_option maxRecDepth 100000 in
theorem plays_walk (n : Int) (v : Value) (xs : List Deed) (w : World) (hacts : Acts w v xs) :
    Calls Try.prog 3 #[.int .i64 n, v] w fun e w' => e = .returned (.bool true) ∧ Below w.heap.size w w' := by
  obtain ⟨ao, cap, rfl, hml, hcells⟩ := hacts
  have HC : Hid (0 < xs.length → ∃ b o, ao = some ⟨b, o, none⟩ ∧ b < w.heap.size ∧ ∀ i, i < xs.length → DeedIn w b (o + i * 4) (deedAt xs i)) := hcells
  clear hcells
  have hml' : xs.length ≤ 9223372036854775807 := by unfold maxLen at hml; omega
  have haw := awake_any w
  clear hml
  by_cases hn : n < 0 ∨ 64 < n
  · have HBD : Hid (∀ w', Calls Try.prog 7 #[.int .i64 n] w' fun e w'' => e = .returned (.tuple #[.pointer none, .int .i64 1]) ∧ w'' = w') := fun w' => RI.new_bad n hn w'
    by_cases h0 : n < 0
    · clear hn
      go_enter Try.func3, Try.ntmps3
      go_wp2_with fail
      refine haw.mono ?_
      rintro e w1 ⟨rfl, hb1⟩
      go_wp2_with fail
      refine (HBD.out w1).mono ?_
      rintro e w2 ⟨rfl, rfl⟩
      go_wp2_with fail
      go_ret
      exact ⟨rfl, hb1⟩
    · have h1 : 64 < n := by omega
      clear hn
      go_enter Try.func3, Try.ntmps3
      go_wp2_with fail
      refine haw.mono ?_
      rintro e w1 ⟨rfl, hb1⟩
      go_wp2_with fail
      refine (HBD.out w1).mono ?_
      rintro e w2 ⟨rfl, rfl⟩
      go_wp2_with fail
      go_ret
      exact ⟨rfl, hb1⟩
  · obtain ⟨n, rfl⟩ : ∃ k : Nat, n = k := ⟨n.toNat, by omega⟩
    have h64 : n ≤ 64 := by omega
    clear hn
    obtain ⟨L, hL⟩ : ∃ L, L = xs.length := ⟨_, rfl⟩
    rw [← hL] at HC hml' ⊢
    clear hL
    have h64' : ¬ (64 : Int) < (n : Int) := by omega
    go_enter Try.func3, Try.ntmps3
    go_wp2_with fail
    refine haw.mono ?_
    rintro e w1 ⟨rfl, hb1⟩
    have hnew := oi_new n h64 w1
    clear haw
    go_wp2_with fail
    refine hnew.mono ?_
    rintro e w2 ⟨p, F, rfl, ho2, hb2⟩
    have hs1 := hb1.size
    have hb2' : Below w.heap.size w w2 := hb1.trans (hb2.mono hs1)
    have hrn := two_new ho2 h64
    clear hnew hb2 ho2
    go_wp2_with fail
    refine hrn.mono ?_
    rintro e w3 ⟨q, rfl, ho3, hb3⟩
    have hb3' : Below w.heap.size w w3 := hb2'.trans (hb3.mono hs1)
    clear hrn hb3 hb2'
    go_wp2_with fail
    go_loopw [8] (fun iv wr => ∃ (k : Nat) (m : Nat → Option Int), k ≤ L ∧ iv = .int .i64 k ∧ TwoX wr w1.heap.size p q n m m (fun b => b < w1.heap.size) ∧ Below w.heap.size w wr) (fun iv _ => L - (intOf iv).toNat)
    case atStart => exact ⟨0, _, Nat.zero_le _, rfl, ho3, hb3'⟩
    case round =>
      obtain ⟨k, m, hk, rfl, ho, hbr⟩ := hrel
      clear ho3 hb3'
      have HO : Hid (TwoX wr w1.heap.size p q n m m (fun b => b < w1.heap.size)) := ho
      have HB : Hid (Below w.heap.size w wr) := hbr
      clear ho hbr
      by_cases hlt : k < L ∧ k < 60
      · obtain ⟨b, o, rfl, hbl, hc⟩ := HC.out (by omega)
        obtain ⟨c0, c1, c2, c3, t0, t1⟩ := hc k hlt.1
        rw [← HB.out.cell (p := ⟨b, _, none⟩) (by exact hbl)] at c0 c1 c2 c3
        generalize deedAt xs k = x at *
        obtain ⟨kd, t, pv, tm⟩ := x
        simp only at c0 c1 c2 c3 t0 t1
        have k1 : (k : Int) < (L : Int) := by omega
        have k2 : (k : Int) < 60 := by omega
        clear hc
        go_upto_if 55 with fail
        have hbw : Below wr.heap.size wr (wr.alloc (.cells #[.int .i64 kd, .int .i64 t, .int .i64 pv, .int .u16 tm] 32)) := (Below.refl _ _).alloc (Nat.le_refl _) _
        have HX : Hid (TwoX (wr.alloc (.cells #[.int .i64 kd, .int .i64 t, .int .i64 pv, .int .u16 tm] 32)) w1.heap.size p q n m m (fun b => b < w1.heap.size ∨ b = wr.heap.size)) := HO.out.guest hbw (Nat.le_refl _) (by simp)
        have HBB : Hid (Below w.heap.size w (wr.alloc (.cells #[.int .i64 kd, .int .i64 t, .int .i64 pv, .int .u16 tm] 32))) := HB.out.trans (hbw.mono HB.out.size)
        have g1 : (wr.alloc (.cells #[.int .i64 kd, .int .i64 t, .int .i64 pv, .int .u16 tm] 32)).cell? ⟨wr.heap.size, 1, none⟩ = some (.int .i64 t) := by simp
        have g2 : (wr.alloc (.cells #[.int .i64 kd, .int .i64 t, .int .i64 pv, .int .u16 tm] 32)).cell? ⟨wr.heap.size, 2, none⟩ = some (.int .i64 pv) := by simp
        have g3 : (wr.alloc (.cells #[.int .i64 kd, .int .i64 t, .int .i64 pv, .int .u16 tm] 32)).cell? ⟨wr.heap.size, 3, none⟩ = some (.int .u16 tm) := by simp
        clear hbw c0 c1 c2 c3 HO HB
        generalize wr.alloc (.cells #[.int .i64 kd, .int .i64 t, .int .i64 pv, .int .u16 tm] 32) = wb at *
        generalize wr.heap.size = g at *
        obtain ⟨X, hX⟩ : ∃ X : Nat → Prop, X = (fun b => b < w1.heap.size ∨ b = g) := ⟨_, rfl⟩
        have XG : Hid (X g) := by rw [hX]; exact .inr rfl
        have XB : Hid (∀ b, b < w1.heap.size → X b) := fun b hb => by rw [hX]; exact .inl hb
        rw [← hX] at HX
        clear hX
        have G1 : Hid (∀ w', Rest X wb w' → w'.cell? ⟨g, 1, none⟩ = some (.int .i64 t)) := fun w' h => h.cell g1 XG.out
        have G2 : Hid (∀ w', Rest X wb w' → w'.cell? ⟨g, 2, none⟩ = some (.int .i64 pv)) := fun w' h => h.cell g2 XG.out
        have G3 : Hid (∀ w', Rest X wb w' → w'.cell? ⟨g, 3, none⟩ = some (.int .u16 tm)) := fun w' h => h.cell g3 XG.out
        have hwb : w.heap.size ≤ wb.heap.size := HBB.out.size
        go_cut [55] (fun _ wx => ∃ m', TwoX wx w1.heap.size p q n m' m' X ∧ Rest X wb wx)
        case first =>
          by_cases hkd : kd = 0
          · subst hkd
            by_cases hr : 0 ≤ t ∧ t < (n : Int)
            · obtain ⟨j, rfl⟩ : ∃ j : Nat, t = j := ⟨t.toNat, by omega⟩
              have hj : j < n := by omega
              have hst := x_set HX.out h64 j pv
              unfold SM.code SM.put at hst
              rw [if_pos hr, if_pos hr, Int.toNat_natCast] at hst
              clear t0 t1 g3 G3
              go_wp2_with fail
              refine hst.mono ?_
              rintro e w5 ⟨rfl, ho5, hr5⟩
              have HO5 : Hid (TwoX w5 w1.heap.size p q n (SM.upd m j (some pv)) m X) := ho5
              have HR5 : Hid (Rest X wb w5) := hr5
              have g15 := G1.out w5 hr5
              have g25 := G2.out w5 hr5
              have hth := x_there ho5 j
              rw [decide_eq_true hr] at hth
              have hrs := x_rset ho5 h64 j hj pv
              have HRS : Hid (Calls Try.prog 11 #[.pointer (some ⟨q, 0, none⟩), .int .i64 j, .int .i64 pv] w5 fun e w' => e = .returned (.tuple #[]) ∧ TwoX w' w1.heap.size p q n (SM.upd m j (some pv)) (SM.upd m j (some pv)) X ∧ Rest X w5 w') := hrs
              clear hst ho5 hr5 hr hrs g1 g2
              go_wp2_with fail
              refine hth.mono ?_
              rintro e w6 ⟨rfl, rfl⟩
              clear hth
              go_wp2_with fail
              refine HRS.out.mono ?_
              rintro e w7 ⟨rfl, ho7, hr7⟩
              have HO7 : Hid (TwoX w7 w1.heap.size p q n (SM.upd m j (some pv)) (SM.upd m j (some pv)) X) := ho7
              have HR7 : Hid (Rest X wb w7) := HR5.out.trans hr7
              clear ho7 hr7 g15 g25
              go_wp2_with fail
              go_meet
              exact ⟨_, HO7.out, HR7.out⟩
            · have hst := x_set HX.out h64 t pv
              unfold SM.code SM.put at hst
              rw [if_neg hr, if_neg hr] at hst
              clear t0 t1 g3 G3
              go_wp2_with fail
              refine hst.mono ?_
              rintro e w5 ⟨rfl, ho5, hr5⟩
              have HO5 : Hid (TwoX w5 w1.heap.size p q n m m X) := ho5
              have HR5 : Hid (Rest X wb w5) := hr5
              have g15 := G1.out w5 hr5
              have hth := x_there ho5 t
              rw [decide_eq_false hr] at hth
              clear hst ho5 hr5 hr g1 g2
              go_wp2_with fail
              refine hth.mono ?_
              rintro e w6 ⟨rfl, rfl⟩
              clear hth
              go_wp2_with fail
              go_meet
              exact ⟨_, HO5.out, HR5.out⟩
          · have hkd' : (kd == 0) = false := beq_eq_false_iff_ne.2 hkd
            obtain ⟨tn, rfl⟩ : ∃ tn : Nat, tm = tn := ⟨tm.toNat, by omega⟩
            obtain ⟨T, hT⟩ : ∃ T, T = tn % 601 := ⟨_, rfl⟩
            have hT6 : T ≤ 600 := by omega
            have eT : (tn : Int) % 601 = (T : Int) := by omega
            rw [hkd']
            clear hT g1 g2 G1 G2 hkd hkd'
            go_wp2_with fail
            go_loopw [11] (fun jv wx => ∃ (j : Nat) (m' : Nat → Option Int), j ≤ T ∧ jv = .int .i64 j ∧ TwoX wx w1.heap.size p q n m' m' X ∧ Rest X wb wx) (fun jv _ => T - (intOf jv).toNat)
            case atStart => exact ⟨0, m, Nat.zero_le _, rfl, HX.out, Rest.of_below (Below.refl _ _)⟩
            case round =>
              obtain ⟨j, m', hj, rfl, hox, hrx⟩ := hrel
              have g3x := G3.out _ hrx
              have HRX : Hid (Rest X wb wr) := hrx
              by_cases hjt : j < T
              · have hcl := x_clear hox
                have jT : (j : Int) < (T : Int) := by omega
                clear hox hrx
                go_wp2_with fail
                refine hcl.mono ?_
                rintro e w5 ⟨rfl, ho5, hr5⟩
                have hrc := x_rclear ho5 h64
                have HR5 : Hid (Rest X wb w5) := HRX.out.trans hr5
                clear hcl ho5 hr5 g3x
                go_wp2_with fail
                refine hrc.mono ?_
                rintro e w6 ⟨rfl, ho6, hr6⟩
                have HO6 : Hid (TwoX w6 w1.heap.size p q n (fun _ => none) (fun _ => none) X) := ho6
                have HR6 : Hid (Rest X wb w6) := HR5.out.trans hr6
                clear hrc ho6 hr6
                go_wp2_with fail
                go_roundw
                case rel => exact ⟨j + 1, _, by omega, by go_num, HO6.out, HR6.out⟩
                case measure => simp [intOf]; omega
              · obtain rfl : j = T := by omega
                have HOX : Hid (TwoX wr w1.heap.size p q n m' m' X) := hox
                clear hox hrx
                go_wp2_with fail
                go_meet
                exact ⟨m', HOX.out, HRX.out⟩
        case rest =>
          obtain ⟨m', ho', hr'⟩ := hcut
          clear HX
          have hal := alike_any ho' h64
          have HO1 : Hid (TwoX wc w1.heap.size p q n m' m' X) := ho'
          have HR1 : Hid (Rest X wb wc) := hr'
          clear ho' hr' g1 g2 g3 G1 G2 G3
          go_wp2_with fail
          refine hal.mono ?_
          rintro e w5 ⟨rfl, hb5⟩
          have HO5 : Hid (TwoX w5 w1.heap.size p q n m' m' (fun b => b < w1.heap.size)) := (HO1.out.below hb5).less XB.out
          have HB5 : Hid (Below w.heap.size w w5) := by
            have h1 : Below w.heap.size wb wc := HR1.out.below (fun b hb => XB.out b (by omega)) hwb
            exact (HBB.out.trans h1).trans (hb5.mono (Nat.le_trans hwb h1.size))
          clear hal hb5
          go_wp2_with fail
          go_roundw
          case rel => exact ⟨k + 1, m', by omega, by go_num, HO5.out, HB5.out⟩
          case measure => simp [intOf]; omega
      · have hal := alike_any HO.out h64
        by_cases hl : k < L
        · have k1 : (k : Int) < (L : Int) := by omega
          have k2 : ¬ (k : Int) < 60 := by omega
          clear hlt
          go_wp2_with fail
          refine hal.mono ?_
          rintro e w5 ⟨rfl, hb5⟩
          go_wp2_with fail
          go_ret
          exact ⟨rfl, HB.out.trans (hb5.mono HB.out.size)⟩
        · obtain rfl : k = L := by omega
          clear hlt
          go_wp2_with fail
          refine hal.mono ?_
          rintro e w5 ⟨rfl, hb5⟩
          go_wp2_with fail
          go_ret
          exact ⟨rfl, HB.out.trans (hb5.mono HB.out.size)⟩
end Go.Proofs.Ytfkfbpkhdneeeaa
