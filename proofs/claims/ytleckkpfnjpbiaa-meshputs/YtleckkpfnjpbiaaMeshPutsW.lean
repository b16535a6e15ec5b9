/-
  The walk of the law MeshPuts.
-/
import Derived.Test.YtleckkpfnjpbiaaMeshMade
import Derived.Test.YtleckkpfnjpbiaaMeshLawS
import Derived.Test.YtleckkpfnjpbiaaMeshAwake
import Derived.Test.YtleckkpfnjpbiaaMeshGoO
import Derived.Test.YtleckkpfnjpbiaaMeshGoI
namespace Go.Proofs.Ytleckkpfnjpbiaa
open Go.RowKit

set_option maxHeartbeats 4000000 in
set_option maxRecDepth 100000 in
theorem meshPuts_walk (n : Int) (v : Value) (xs : List Stp) (t mo : Int) (w : World) (hch : Stps w v xs) (hm0 : 0 ≤ mo) (hm1 : mo ≤ 255) :
    Calls Try.prog 3 #[.int .i64 n, v, .int .i64 t, .int .u8 mo] w fun e w' => e = .returned (.bool true) ∧ Below w.heap.size w w' := by
  have haw := awakeX_any w
  by_cases hn : 1 ≤ n ∧ n ≤ 24
  · obtain ⟨N, rfl⟩ : ∃ N : Nat, n = N := ⟨n.toNat, by omega⟩
    have h1 : 1 ≤ N := by omega
    have h2 : N ≤ 24 := by omega
    have HNW : Hid (∀ W, Calls Try.prog 8 #[.int .i64 N] W fun e w' => ∃ p, e = .returned (.tuple #[.pointer (some ⟨p, 0, none⟩), .int .i64 0]) ∧ p = W.heap.size ∧ XMem w' p N XM.empty ∧ Below W.heap.size W w') := fun W => xnew_ok N h1 h2 W
    have HRW : Hid (∀ W, Calls Try.prog 9 #[.int .i64 N] W fun e w' => ∃ p, e = .returned (.pointer (some ⟨p, 0, none⟩)) ∧ p = W.heap.size ∧ XMem w' p N XM.empty ∧ Below W.heap.size W w') := fun W => xrnew_any N W
    obtain ⟨ao, cap, rfl, ⟨hcp, hml⟩, hcells⟩ := hch
    have HC : Hid (0 < xs.length → ∃ b o, ao = some ⟨b, o, none⟩ ∧ b < w.heap.size ∧ ∀ i, i < xs.length → StpIn w b (o + i * 3) (stpAt xs i)) := hcells
    have hml' : xs.length ≤ 9223372036854775807 := by unfold maxLen at hml; omega
    have hcpI : (xs.length : Int) ≤ (cap : Int) := by omega
    have n1 : ¬ (N : Int) < 1 := by omega
    have n2 : ¬ (24 : Int) < N := by omega
    have HN : Hid (N ≤ 24) := h2
    clear hcells hml hcp hn h1 h2
    obtain ⟨L, hL⟩ : ∃ L, L = xs.length := ⟨_, rfl⟩
    rw [← hL] at HC hml' hcpI ⊢
    clear hL
    go_enter Try.func3, Try.ntmps3
    go_wp2_with fail
    refine haw.mono ?_
    rintro e w1 ⟨rfl, hb1⟩
    have HB1 : Hid (Below w.heap.size w w1) := hb1
    clear haw hb1
    go_wp2_with fail
    refine (HNW.out w1).mono ?_
    rintro e w2 ⟨p, rfl, hp, hX2, hb2⟩
    have HP : Hid (w1.heap.size ≤ p ∧ p < w2.heap.size) := ⟨by omega, hX2.lt⟩
    have HX2 : Hid (XMem w2 p N XM.empty ∧ Below w1.heap.size w1 w2) := ⟨hX2, hb2⟩
    clear hp hX2 hb2
    go_wp2_with fail
    refine (HRW.out w2).mono ?_
    rintro e w3 ⟨q, rfl, hq, hX3, hb3⟩
    have HS3 : Hid (St w w.heap.size p q N (XM.made N xs 0) (XM.made N xs 0) w3) := by
      have e1 := HB1.out.size
      have e2 := HX2.out.2.size
      have e3 := HP.out
      exact ⟨HX2.out.1.on hb3, hX3, by omega, by omega, by omega, below_on (below_on HB1.out HX2.out.2) hb3, Nat.le_refl _⟩
    clear hq hX3 hb3 HX2 HP HNW HRW HB1 n1 n2
    go_wp2_with fail
    go_loopw [12] (fun iv wr => ∃ k : Nat, k ≤ L ∧ k ≤ 400 ∧ iv = .int .i64 k ∧ St w w.heap.size p q N (XM.made N xs k) (XM.made N xs k) wr) (fun iv _ => L - (intOf iv).toNat)
    case atStart => exact ⟨0, Nat.zero_le _, by decide, rfl, HS3.out⟩
    case round =>
      clear HS3
      obtain ⟨k, hk, hk2, rfl, hS⟩ := hrel
      by_cases hlt : k < L ∧ k < 400
      · obtain ⟨b, o, rfl, hbl, hc⟩ := HC.out (by omega)
        have HCI : Hid (∀ W D E, St w w.heap.size p q N D E W → (W.cell? ⟨b, o + k * 3, none⟩ = some (.int .i64 (stpAt xs k).u) ∧ W.cell? ⟨b, o + k * 3 + 1, none⟩ = some (.int .i64 (stpAt xs k).w) ∧ W.cell? ⟨b, o + k * 3 + 2, none⟩ = some (.int .i64 (stpAt xs k).x))) := fun W D E h => (hc k hlt.1).on h.bel
        have HPP : Hid (∀ W E, St w w.heap.size p q N (XM.made N xs k) E W → Calls Try.prog 10 #[.pointer (some ⟨p, 0, none⟩), .int .i64 (stpAt xs k).u, .int .i64 (stpAt xs k).w, .int .i64 (stpAt xs k).x] W fun e w' => e = .returned (.int .i64 (XM.putCode N (stpAt xs k).u (stpAt xs k).w (stpAt xs k).x)) ∧ St w w.heap.size p q N (XM.made N xs (k + 1)) E w') := fun W E h => putP_any (XM.made_mesh N xs k) HN.out _ _ _ W h
        have HPR : Hid (∀ W D, St w w.heap.size p q N D (XM.made N xs k) W → Calls Try.prog 11 #[.pointer (some ⟨q, 0, none⟩), .int .i64 (stpAt xs k).u, .int .i64 (stpAt xs k).w, .int .i64 (stpAt xs k).x] W fun e w' => e = .returned (.int .i64 (XM.putCode N (stpAt xs k).u (stpAt xs k).w (stpAt xs k).x)) ∧ St w w.heap.size p q N D (XM.made N xs (k + 1)) w') := fun W D h => putR_any (XM.made_mesh N xs k) HN.out _ _ _ W h
        have k1 : (k : Int) < (L : Int) := by omega
        have k4 : (k : Int) < 400 := by omega
        obtain ⟨x0, x1, x2⟩ := HCI.out wr _ _ hS
        obtain ⟨D2, hD2⟩ : ∃ D2, D2 = XM.made N xs (k + 1) := ⟨_, rfl⟩
        have HD2 : Hid (XM.made N xs (k + 1) = D2) := hD2.symm
        rw [← hD2] at HPP HPR
        clear hD2 hc hbl hlt
        generalize XM.made N xs k = D1 at *
        generalize XM.putCode N (stpAt xs k).u (stpAt xs k).w (stpAt xs k).x = cd at *
        generalize stpAt xs k = s at *
        obtain ⟨su, sw, sx⟩ := s
        dsimp only at x0 x1 x2 HCI HPP HPR
        have hS0 : St w w.heap.size p q N D1 D1 wr.drew := hS.on (Below.refl _ _).drew
        clear hS
        go_upto_region 12 with fail
        go_region_held3 (fun W => W.cell? ⟨b, o + k * 3, none⟩ = some (.int .i64 su) ∧ W.cell? ⟨b, o + k * 3 + 1, none⟩ = some (.int .i64 sw) ∧ W.cell? ⟨b, o + k * 3 + 2, none⟩ = some (.int .i64 sx)) (first | exact HCI.out _ _ _ (by assumption) | go_keep) (first | (go_at_call 10; refine (HPP.out _ _ (by assumption)).mono ?_; rintro e w4 ⟨rfl, hS4⟩) | (go_at_call 11; refine (HPR.out _ _ (by assumption)).mono ?_; rintro e w6 ⟨rfl, hS6⟩))
        all_goals
          clear x0 x1 x2 HPP HPR HCI
          go_wp2_with fail
          exact ⟨⟨k + 1, by omega, by omega, by go_num, by rw [HD2.out]; assumption⟩, by simp [intOf]; omega⟩
      · have hkk : k = min L 400 := by omega
        rw [hkk] at hS
        have hkn : ¬ ((k : Int) < (L : Int) ∧ (k : Int) < 400) := by omega
        have hMM := XM.made_mesh N xs (min L 400)
        generalize XM.made N xs (min L 400) = D at *
        have HS : Hid (St w w.heap.size p q N D D wr) := hS
        have HMM : Hid (XM.Mesh N D) := hMM
        have hsame := sameX_any hS.xp hS.xq hMM HN.out
        have hdl : (XM.dets N D t N).length ≤ 600 := by
          have h1 := XM.dets_len (N := N) (D := D) (v := t) N
          have h2 : N * N ≤ 24 * 24 := Nat.mul_le_mul HN.out HN.out
          omega
        have HDL : Hid ((XM.dets N D t N).length ≤ 600) := hdl
        clear hS hkk hMM hdl
        by_cases hkl : (k : Int) < (L : Int)
        all_goals
          first
          | have h4 : ¬ (k : Int) < 400 := fun h => hkn ⟨hkl, h⟩
          | skip
          clear hkn
          go_wp2_with fail
          refine hsame.mono ?_
          rintro e w4 ⟨rfl, hb4⟩
          have HS4 : Hid (St w w.heap.size p q N D D w4) := HS.out.on hb4
          clear hsame hb4
          have hgo := goXO_any HS4.out.xp HS4.out.xq HMM.out HN.out t mo
          go_wp2_with fail
          refine hgo.mono ?_
          rintro e w5 ⟨rfl, hb5⟩
          have HS5 : Hid (St w w.heap.size p q N D D w5) := HS4.out.on hb5
          clear hgo hb5
          have hgi := goXI_any HS5.out.xp HS5.out.xq HMM.out HN.out t mo
          go_wp2_with fail
          refine hgi.mono ?_
          rintro e w6 ⟨rfl, hb6⟩
          have HS6 : Hid (St w w.heap.size p q N D D w6) := HS5.out.on hb6
          clear hgi hb6
          have hd := det_any HS6.out.xp HMM.out HN.out t
          go_wp2_with fail
          refine hd.mono ?_
          rintro e w7 ⟨r7, rfl, ho7, hb7⟩
          have HS7 : Hid (St w w.heap.size p q N D D w7 ∧ OwnL w7 w6.heap.size r7 t (XM.dets N D t N)) := ⟨HS6.out.on hb7, ho7⟩
          obtain ⟨a7, c7, rfl, -, -⟩ := ho7.at
          clear hd hb7 ho7
          have hrd := rdet_any HS7.out.1.xq HMM.out HN.out t
          go_wp2_with fail
          refine hrd.mono ?_
          rintro e w8 ⟨r8, rfl, ho8, hb8⟩
          have hlk := links_any HDL.out (HS7.out.2.on hb8) ho8
          have HS8 : Hid (St w w.heap.size p q N D D w8) := HS7.out.1.on hb8
          obtain ⟨a8, c8, rfl, -, -⟩ := ho8.at
          clear hrd hb8 ho8
          go_wp2_with fail
          refine hlk.mono ?_
          rintro e w9 ⟨rfl, hb9⟩
          have HS9 : Hid (St w w.heap.size p q N D D w9) := HS8.out.on hb9
          clear hlk hb9
          go_wp2_with fail
          go_ret
          exact ⟨rfl, HS9.out.bel⟩
  · have HNW : Hid (∀ W, Calls Try.prog 8 #[.int .i64 n] W fun e w' => e = .returned (.tuple #[.pointer none, .int .i64 1]) ∧ w' = W) := fun W => xnew_no n hn W
    obtain ⟨ao, cap, rfl, -, -⟩ := hch
    by_cases h1 : n < 1
    all_goals
      first
      | have h2 : 24 < n := by omega
      | skip
      clear hn
      go_enter Try.func3, Try.ntmps3
      go_wp2_with fail
      refine haw.mono ?_
      rintro e w1 ⟨rfl, hb1⟩
      have HB1 : Hid (Below w.heap.size w w1) := hb1
      clear haw hb1
      go_wp2_with fail
      refine (HNW.out w1).mono ?_
      rintro e w9 ⟨rfl, hw9⟩
      rw [hw9]
      clear hw9 w9
      go_wp2_with fail
      go_ret
      exact ⟨rfl, HB1.out⟩
end Go.Proofs.Ytleckkpfnjpbiaa
