/-
  The walk of the law RingPlays.
-/
import Derived.Test.YtdgdhaonalppnaaRingTwo
import Derived.Test.YtdgdhaonalppnaaRingAwake
import Derived.Test.YtdgdhaonalppnaaRingKept
import Derived.Test.YtdgdhaonalppnaaLists
namespace Go.Proofs.Ytdgdhaonalppnaa
open Go.RowKit

set_option maxHeartbeats 8000000 in
set_option maxRecDepth 100000 in
theorem plays_walk (n : Int) (v : Value) (zs : List Int) (u : Value) (bs : List Bool) (w : World) (hrow : Row .i64 w v zs) (hbo : Bools w u bs) :
    Calls Try.prog 3 #[.int .i64 n, v, u] w fun e w' => e = .returned (.bool true) ∧ Below w.heap.size w w' := by
  obtain ⟨ao, cap, rfl, hat⟩ := hrow
  have hm : zs.length ≤ maxLen := Nat.le_trans hat.1 hat.2.1
  unfold maxLen at hm
  have HC : Hid (0 < zs.length → ∃ b o, ao = some ⟨b, o, none⟩ ∧ b < w.heap.size ∧ ∀ i, i < zs.length → w.cell? ⟨b, o + i, none⟩ = some (.int .i64 (RK.el 0 zs i))) := fun hp => by
    obtain ⟨b, o, h1, h2⟩ := hat.2.2.2 hp
    exact ⟨b, o, h1, cell_lt (h2 0 hp), h2⟩
  obtain ⟨bo, cap2, rfl, hm2, hb0⟩ := hbo
  unfold maxLen at hm2
  have HO : Hid (0 < bs.length → ∃ b o, bo = some ⟨b, o, none⟩ ∧ b < w.heap.size ∧ ∀ i, i < bs.length → w.cell? ⟨b, o + i, none⟩ = some (.bool (bat bs i))) := hb0
  have haw := awake_any w
  clear hat hb0
  by_cases hn : n < 1 ∨ 32 < n
  · have HBD : Hid (∀ w', Calls Try.prog 8 #[.int .i64 n] w' fun e w'' => e = .returned (.tuple #[.pointer none, .int .i64 1]) ∧ w'' = w') := fun w' => RI.new_bad n hn w'
    by_cases h0 : n < 1
    · clear hn
      go_enter Try.func3, Try.ntmps3
      go_wp2_with fail
      refine haw.mono ?_
      rintro e w1 ⟨rfl, hb1⟩
      go_wp2_with fail
      refine (HBD.out w1).mono ?_
      rintro e w2 ⟨rfl, rfl⟩
      go_wp2_with fail
      go_ret
      exact ⟨rfl, hb1⟩
    · have h1 : 32 < n := by omega
      clear hn
      go_enter Try.func3, Try.ntmps3
      go_wp2_with fail
      refine haw.mono ?_
      rintro e w1 ⟨rfl, hb1⟩
      go_wp2_with fail
      refine (HBD.out w1).mono ?_
      rintro e w2 ⟨rfl, rfl⟩
      go_wp2_with fail
      go_ret
      exact ⟨rfl, hb1⟩
  · obtain ⟨n, rfl⟩ : ∃ k : Nat, n = k := ⟨n.toNat, by omega⟩
    have h1 : 1 ≤ n := by omega
    have h32 : n ≤ 32 := by omega
    clear hn
    obtain ⟨N, hN⟩ : ∃ N, N = zs.length := ⟨_, rfl⟩
    obtain ⟨M, hM⟩ : ∃ M, M = bs.length := ⟨_, rfl⟩
    rw [← hN] at HC hm ⊢
    rw [← hM] at HO hm2 ⊢
    clear hN hM
    have h32' : ¬ (32 : Int) < (n : Int) := by omega
    go_enter Try.func3, Try.ntmps3
    go_wp2_with fail
    refine haw.mono ?_
    rintro e w1 ⟨rfl, hb1⟩
    have hnew := oI_new n h1 h32 w1
    clear haw
    go_wp2_with fail
    refine hnew.mono ?_
    rintro e w2 ⟨p, F, rfl, ho2, hb2⟩
    have hs1 := hb1.size
    have hb2' : Below w.heap.size w w2 := hb1.trans (hb2.mono hs1)
    have hs2 := hb2'.size
    have H3 : Hid (Two (w2.alloc (.cells #[.int .i64 (n : Nat), .slice none 0 0] 31)) w1.heap.size p w2.heap.size n [] []) := two_new ho2 rfl
    have HB3 : Hid (Below w.heap.size w (w2.alloc (.cells #[.int .i64 (n : Nat), .slice none 0 0] 31))) := hb2'.alloc hs2 _
    clear hnew hb2 ho2 hb2'
    go_wp2_with fail
    generalize w2.alloc (.cells #[.int .i64 (n : Nat), .slice none 0 0] 31) = w3 at *
    generalize w2.heap.size = q at *
    go_loopw [10] (fun iv wr => ∃ (k : Nat) (L : List Int), k ≤ N ∧ iv = .int .i64 k ∧ Two wr w1.heap.size p q n L L ∧ Below w.heap.size w wr) (fun iv _ => N - (intOf iv).toNat)
    case atStart => exact ⟨0, _, Nat.zero_le _, rfl, H3.out, HB3.out⟩
    case round =>
      obtain ⟨k, L, hk, rfl, ho, hbr⟩ := hrel
      clear H3 HB3
      have HT : Hid (Two wr w1.heap.size p q n L L) := ho
      have HB : Hid (Below w.heap.size w wr) := hbr
      clear ho hbr
      by_cases hlt : k < N ∧ k < 300
      · obtain ⟨b, o, rfl, hbl, hc⟩ := HC.out (by omega)
        have HZ : Hid (∀ W, Below w.heap.size w W → W.cell? ⟨b, o + k, none⟩ = some (.int .i64 (RK.el 0 zs k))) := fun W hW => (hW.cell (p := ⟨b, _, none⟩) (by exact hbl)).trans (hc k (by have := hlt.1; omega))
        generalize RK.el 0 zs k = z at *
        have k1 : (k : Int) < (N : Int) := by omega
        have k2 : (k : Int) < 300 := by omega
        clear hc
        go_upto_region 14 with fail
        go_cut [66] (fun c wx => ∃ t, c = .bool t ∧ wx = wr)
        case first =>
          by_cases hkm : k < M
          · obtain ⟨b2, o2, rfl, hbl2, hc2⟩ := HO.out (by omega)
            have ck : wr.cell? ⟨b2, o2 + k, none⟩ = some (.bool (bat bs k)) := (HB.out.cell (p := ⟨b2, _, none⟩) (by exact hbl2)).trans (hc2 k hkm)
            have kM : (k : Int) < (M : Int) := by omega
            clear hc2
            generalize bat bs k = t at *
            go_wp2_with fail
            go_meet
            exact ⟨t, rfl, rfl⟩
          · have kM : ¬ (k : Int) < (M : Int) := by omega
            go_wp2_with fail
            go_meet
            exact ⟨false, rfl, rfl⟩
        case rest =>
          obtain ⟨t, rfl, rfl⟩ := hcut
          go_upto_if 66 with fail
          go_cut [11, 12, 13, 14] (fun a b c d wx => ∃ (y : Int) (s : Bool) (L' : List Int), a = .int .i64 y ∧ b = .bool s ∧ c = .int .i64 y ∧ d = .bool s ∧ Two wx w1.heap.size p q n L' L' ∧ Below w.heap.size w wx)
          case first =>
            cases t with
            | true =>
              have hpp := x_pop HT.out
              obtain ⟨y, s, hys⟩ := getT_form L.getLast?
              have HRP : Hid (∀ w', Two w' w1.heap.size p q n L.dropLast L → Calls Try.prog 10 #[.pointer (some ⟨q, 0, none⟩)] w' fun e w'' => e = .returned (.tuple #[.int .i64 y, .bool s]) ∧ Two w'' w1.heap.size p q n L.dropLast L.dropLast ∧ Below w1.heap.size w' w'') := fun w' h => by
                have := x_rpop h
                rw [hys] at this
                exact this
              rw [hys] at hpp
              clear hys
              go_wp2_with fail
              refine hpp.mono ?_
              rintro e w5 ⟨rfl, ho5, hr5⟩
              have HB5 : Hid (Below w.heap.size w w5) := HB.out.trans (hr5.mono hs1)
              have hrp := HRP.out _ ho5
              clear ho5 hr5 hpp HRP
              go_wp2_with fail
              refine hrp.mono ?_
              rintro e w6 ⟨rfl, ho6, hr6⟩
              have HB6 : Hid (Below w.heap.size w w6) := HB5.out.trans (hr6.mono hs1)
              have HO6 : Hid (Two w6 w1.heap.size p q n L.dropLast L.dropLast) := ho6
              clear ho6 hr6 hrp
              go_wp2_with fail
              go_meet
              exact ⟨y, s, _, rfl, rfl, rfl, rfl, HO6.out, HB6.out⟩
            | false =>
              have hpp := x_push HT.out z
              have HRP : Hid (∀ w', Two w' w1.heap.size p q n (RK.pushed n L z) L → Calls Try.prog 12 #[.pointer (some ⟨q, 0, none⟩), .int .i64 z] w' fun e w'' => e = .returned (.tuple #[.int .i64 (RK.went n 0 L), .bool (decide (L.length = n))]) ∧ Two w'' w1.heap.size p q n (RK.pushed n L z) (RK.pushed n L z) ∧ Below w1.heap.size w' w'') := fun w' h => x_rpush h z
              generalize RK.went n 0 L = y at *
              generalize decide (L.length = n) = s at *
              have cz := HZ.out _ HB.out
              go_wp2_with fail
              refine hpp.mono ?_
              rintro e w5 ⟨rfl, ho5, hr5⟩
              have HB5 : Hid (Below w.heap.size w w5) := HB.out.trans (hr5.mono hs1)
              have hrp := HRP.out _ ho5
              have cz5 := HZ.out _ HB5.out
              clear ho5 hr5 hpp HRP cz
              go_wp2_with fail
              refine hrp.mono ?_
              rintro e w6 ⟨rfl, ho6, hr6⟩
              have HB6 : Hid (Below w.heap.size w w6) := HB5.out.trans (hr6.mono hs1)
              have HO6 : Hid (Two w6 w1.heap.size p q n (RK.pushed n L z) (RK.pushed n L z)) := ho6
              clear ho6 hr6 hrp cz5
              go_wp2_with fail
              go_meet
              exact ⟨y, s, _, rfl, rfl, rfl, rfl, HO6.out, HB6.out⟩
          case rest =>
            obtain ⟨y, s, L', rfl, rfl, rfl, rfl, ho', hb'⟩ := hcut
            clear HT HB HZ HC HO
            have HB : Hid (Below w.heap.size w wc) := hb'
            have htp := x_top ho'
            obtain ⟨y2, s2, hys⟩ := getT_form L'.getLast?
            have HRT : Hid (∀ w', Two w' w1.heap.size p q n L' L' → Calls Try.prog 14 #[.pointer (some ⟨q, 0, none⟩)] w' fun e w'' => e = .returned (.tuple #[.int .i64 y2, .bool s2]) ∧ Two w'' w1.heap.size p q n L' L' ∧ Below w1.heap.size w' w'') := fun w' h => by
              have := x_rtop h
              rw [hys] at this
              exact this
            rw [hys] at htp
            clear hys ho' hb'
            go_wp2_with fail
            refine htp.mono ?_
            rintro e w5 ⟨rfl, ho5, hr5⟩
            have HB5 : Hid (Below w.heap.size w w5) := HB.out.trans (hr5.mono hs1)
            have hrt := HRT.out _ ho5
            clear ho5 hr5 htp HRT HB
            go_wp2_with fail
            refine hrt.mono ?_
            rintro e w6 ⟨rfl, ho6, hr6⟩
            have HB6 : Hid (Below w.heap.size w w6) := HB5.out.trans (hr6.mono hs1)
            have HO6 : Hid (Two w6 w1.heap.size p q n L' L') := ho6
            obtain ⟨ao6, cap6, c6⟩ := ho6.cell
            have HLN : Hid (∀ m, Calls Try.prog 15 #[.pointer (some ⟨p, 0, none⟩)] (w6.drewN m) fun e w' => e = .returned (.int .i64 (L'.length : Nat)) ∧ w' = w6.drewN m) := fun m => x_len (ho6.below (below_drewN (Below.refl _ _) _))
            have HRO : Hid (∀ m, Calls Try.prog 16 #[.pointer (some ⟨p, 0, none⟩)] (w6.drewN m) fun e w' => e = .returned (.int .i64 (n : Nat)) ∧ w' = w6.drewN m) := fun m => x_room (ho6.below (below_drewN (Below.refl _ _) _))
            clear ho6 hr6 hrt HB5
            generalize L'.length = c at *
            go_upto_region 21 with fail
            go_cut [138] (fun x wx => x = .bool false ∧ ∃ m, wx = w6.drewN m)
            case first =>
              go_quiet (first
                | (go_at_call 15; exact Calls.quiet_of_same (HLN.out _))
                | (go_at_call 16; exact Calls.quiet_of_same (HRO.out _)))
              go_wp2_with fail
              go_meet
              exact ⟨rfl, _, rfl⟩
            case rest =>
              obtain ⟨rfl, m, rfl⟩ := hcut
              have HB7 : Hid (Below w.heap.size w (w6.drewN m)) := below_drewN HB6.out _
              have HO7 : Hid (Two (w6.drewN m) w1.heap.size p q n L' L') := HO6.out.below (below_drewN (Below.refl _ _) _)
              clear HB6 HO6 HLN HRO c6
              go_wp2_with fail
              go_roundw
              case rel => exact ⟨k + 1, L', by omega, by go_num, HO7.out, HB7.out⟩
              case measure => simp [intOf]; omega
      · by_cases hl : k < N
        · have k1 : (k : Int) < (N : Int) := by omega
          have k2 : ¬ (k : Int) < 300 := by omega
          clear hlt
          go_wp2_with fail
          go_ret
          exact ⟨rfl, HB.out⟩
        · obtain rfl : k = N := by omega
          clear hlt
          go_wp2_with fail
          go_ret
          exact ⟨rfl, HB.out⟩
end Go.Proofs.Ytdgdhaonalppnaa
