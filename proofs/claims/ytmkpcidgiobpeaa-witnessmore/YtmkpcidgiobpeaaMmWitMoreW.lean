/-
  The walk of the law WitnessMore.
-/
import Derived.Test.YtmkpcidgiobpeaaMmWitAwake
import Derived.Test.YtmkpcidgiobpeaaMmMeshMade
namespace Go.Proofs.Ytmkpcidgiobpeaa
open Go.RowKit

namespace WM
/-- What a smaller search settles a greater one settles. -/
theorem more {N : Nat} {D : Nat → Nat → Int} {s : Nat} {W : Nat → Bool} {X : Int} {j k x : Nat} {y z : Bool} (hs : s < N) (hW : W s = false) (hjk : j ≤ k) (h1 : ∀ M, Got N D s W X j M → y = has M x) (h2 : ∀ M, Got N D s W X k M → z = has M x) : y = true → z = true := fun hy => by
  obtain ⟨M1, g1⟩ := got_is (D := D) hs hW X j
  obtain ⟨M2, g2⟩ := got_is (D := D) hs hW X k
  rw [h2 M2 g2]
  exact has_pre (g1.pre g2 hjk (Int.le_refl _)) (by rw [← h1 M1 g1]; exact hy)
end WM
set_option maxHeartbeats 2000000 in
set_option maxRecDepth 100000 in
theorem more_walk (n : Int) (v : Value) (xs : List Stp) (a b c f g : Int) (w : World) (hn0 : 0 ≤ n) (hn1 : n ≤ 255) (hch : Stps w v xs) (hf0 : 0 ≤ f) (hf1 : f ≤ 255) (hg0 : 0 ≤ g) (hg1 : g ≤ 255) :
    Calls Try.prog 7 #[.int .u8 n, v, .int .i64 a, .int .i64 b, .int .i64 c, .int .u8 f, .int .u8 g] w fun e w' => e = .returned (.bool true) ∧ Below w.heap.size w w' := by
  have haw := awake13_any w
  have HMD : Hid (∀ W, Below w.heap.size w W → Calls Try.prog 9 #[.int .u8 n, v] W fun e w' => ∃ p q, e = .returned (.tuple #[.pointer (some ⟨p, 0, none⟩), .pointer (some ⟨q, 0, none⟩)]) ∧ ∃ N, (1 ≤ N ∧ N ≤ 24) ∧ St W W.heap.size p q N (XM.made N xs (min xs.length 400)) (XM.made N xs (min xs.length 400)) w') := fun W hW => madeX_any n v xs W hn0 hn1 (hch.on hW)
  have HMM : Hid (∀ N, XM.Mesh N (XM.made N xs (min xs.length 400))) := fun N => XM.made_mesh N xs _
  clear hn0 hn1
  obtain ⟨ao, cap, rfl, -, -⟩ := hch
  generalize xs.length = L at *
  have HMN : Hid ((if g < f then g else f).toNat ≤ (if f < g then g else f).toNat) := by
    show _ ≤ _
    split <;> split <;> omega
  go_enter Try.func7, Try.ntmps7
  go_wp2_with fail
  refine haw.mono ?_
  rintro e w1 ⟨rfl, hb1⟩
  clear haw
  go_wp2_with fail
  refine (HMD.out w1 hb1).mono ?_
  rintro e w2 ⟨p, q, rfl, N, ⟨hN1, hN2⟩, hS2⟩
  have hMD := HMM.out N
  generalize XM.made N xs (min L 400) = D at *
  have HW2 : Hid (Below w.heap.size w w2) := hb1.trans (hS2.bel.mono hb1.size)
  have HS2 : Hid (St w1 w1.heap.size p q N D D w2 ∧ XM.Mesh N D ∧ N ≤ 24) := ⟨hS2, hMD, hN2⟩
  clear HMD HMM hb1 hS2 hMD hN1 hN2
  go_upto_region 7 with fail
  generalize (if g < f then g else f) = mn at *
  generalize (if f < g then g else f) = mx at *
  clear hf0 hf1 hg0 hg1
  cases hth : WM.three N a b c with
  | false =>
    have hsp := spared_no HS2.out.1.xp a b c hth mn
    have HSP : Hid (∀ W, Below w2.heap.size w2 W → Calls Try.prog 15 #[.pointer (some ⟨p, 0, none⟩), .int .i64 a, .int .i64 b, .int .i64 c, .int .i64 mx] W fun e w' => e = .returned (.tuple #[.bool false, .int .i64 1]) ∧ Below W.heap.size W w') := fun W hW => spared_no (HS2.out.1.on hW).xp a b c hth mx
    have HTH : Hid (∀ W, Below w2.heap.size w2 W → Calls Try.prog 16 #[.pointer (some ⟨q, 0, none⟩), .int .i64 a, .int .i64 b, .int .i64 c] W fun e w' => e = .returned (.bool false) ∧ w' = W) := fun W hW => by
      have := rthree_any (HS2.out.1.on hW).xq a b c
      rwa [hth] at this
    clear hth HMN HS2
    go_wp2_with fail
    refine hsp.mono ?_
    rintro e w3 ⟨rfl, hb3⟩
    have HB3 : Hid (Below w2.heap.size w2 w3) := hb3
    clear hsp hb3
    go_wp2_with fail
    refine (HSP.out w3 HB3.out).mono ?_
    rintro e w4 ⟨rfl, hb4⟩
    have HB4 : Hid (Below w2.heap.size w2 w4) := below_on HB3.out hb4
    clear hb4 HSP HB3
    go_wp2_with fail
    refine (HTH.out w4 HB4.out).mono ?_
    rintro e w5 ⟨rfl, hw5⟩
    rw [hw5]
    clear hw5 w5 HTH
    go_wp2_with fail
    go_ret
    exact ⟨rfl, below_on HW2.out HB4.out⟩
  | true =>
    obtain ⟨u, v, x, rfl, rfl, rfl, hu, hv, hx, e1, e2, e3⟩ := WM.three_nat hth
    have hsp := spared_ok HS2.out.1.xp HS2.out.2.1 HS2.out.2.2 hu hv hx e1 e2 (fun e => e3 e.symm) mn
    have HSP : Hid (∀ W, Below w2.heap.size w2 W → Calls Try.prog 15 #[.pointer (some ⟨p, 0, none⟩), .int .i64 (u : Nat), .int .i64 (v : Nat), .int .i64 (x : Nat), .int .i64 mx] W fun e w' => spAns N D u v x mx.toNat W e w') := fun W hW => spared_ok (HS2.out.1.on hW).xp HS2.out.2.1 HS2.out.2.2 hu hv hx e1 e2 (fun e => e3 e.symm) mx
    have HTH : Hid (∀ W, Below w2.heap.size w2 W → Calls Try.prog 16 #[.pointer (some ⟨q, 0, none⟩), .int .i64 (u : Nat), .int .i64 (v : Nat), .int .i64 (x : Nat)] W fun e w' => e = .returned (.bool true) ∧ w' = W) := fun W hW => by
      have := rthree_any (HS2.out.1.on hW).xq u v x
      rwa [hth] at this
    have HMR : Hid (∀ y z : Bool, (∀ M, WM.Got N D u (WM.outOf (2 ^ v)) (DM.two (D u v) (D v x)) mn.toNat M → y = WM.has M x) → (∀ M, WM.Got N D u (WM.outOf (2 ^ v)) (DM.two (D u v) (D v x)) mx.toNat M → z = WM.has M x) → y = true → z = true) := fun y z h1 h2 => by
      refine WM.more hu ?_ HMN.out h1 h2
      rw [WM.outOf_two (show v < 64 by have := HS2.out.2.2; omega)]
      exact decide_eq_false e1
    clear hth HMN HS2 hu hv hx e1 e2 e3
    go_wp2_with fail
    refine hsp.mono ?_
    rintro e w3 ⟨y, rfl, hM, hb3⟩
    have HB3 : Hid (Below w2.heap.size w2 w3) := hb3
    have HM : Hid (∀ M, WM.Got N D u (WM.outOf (2 ^ v)) (DM.two (D u v) (D v x)) mn.toNat M → y = WM.has M x) := hM
    clear hsp hb3 hM
    go_wp2_with fail
    refine (HSP.out w3 HB3.out).mono ?_
    rintro e w4 ⟨z, rfl, hM, hb4⟩
    have HB4 : Hid (Below w2.heap.size w2 w4) := below_on HB3.out hb4
    have HYZ : Hid (y = true → z = true) := HMR.out y z HM.out hM
    clear hb4 HSP HB3 hM HM HMR
    go_wp2_with fail
    refine (HTH.out w4 HB4.out).mono ?_
    rintro e w5 ⟨rfl, hw5⟩
    rw [hw5]
    clear hw5 w5 HTH
    cases y with
    | false =>
      clear HYZ
      go_wp2_with fail
      go_ret
      exact ⟨rfl, below_on HW2.out HB4.out⟩
    | true =>
      have hz := HYZ.out rfl
      subst hz
      clear HYZ
      go_wp2_with fail
      go_ret
      exact ⟨rfl, below_on HW2.out HB4.out⟩
end Go.Proofs.Ytmkpcidgiobpeaa
