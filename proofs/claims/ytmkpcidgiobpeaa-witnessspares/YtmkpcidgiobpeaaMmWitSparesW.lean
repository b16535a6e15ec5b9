/-
  The walk of the law WitnessSpares.
-/
import Derived.Test.YtmkpcidgiobpeaaMmWitAwake
import Derived.Test.YtmkpcidgiobpeaaMmMeshMade
namespace Go.Proofs.Ytmkpcidgiobpeaa
open Go.RowKit

set_option maxHeartbeats 2000000 in
set_option maxRecDepth 100000 in
theorem spares_walk (n : Int) (v : Value) (xs : List Stp) (a b c k : Int) (w : World) (hn0 : 0 ≤ n) (hn1 : n ≤ 255) (hch : Stps w v xs) :
    Calls Try.prog 4 #[.int .u8 n, v, .int .i64 a, .int .i64 b, .int .i64 c, .int .i64 k] w fun e w' => e = .returned (.bool true) ∧ Below w.heap.size w w' := by
  have haw := awake13_any w
  have HMD : Hid (∀ W, Below w.heap.size w W → Calls Try.prog 9 #[.int .u8 n, v] W fun e w' => ∃ p q, e = .returned (.tuple #[.pointer (some ⟨p, 0, none⟩), .pointer (some ⟨q, 0, none⟩)]) ∧ ∃ N, (1 ≤ N ∧ N ≤ 24) ∧ St W W.heap.size p q N (XM.made N xs (min xs.length 400)) (XM.made N xs (min xs.length 400)) w') := fun W hW => madeX_any n v xs W hn0 hn1 (hch.on hW)
  have HMM : Hid (∀ N, XM.Mesh N (XM.made N xs (min xs.length 400))) := fun N => XM.made_mesh N xs _
  clear hn0 hn1
  obtain ⟨ao, cap, rfl, -, -⟩ := hch
  generalize xs.length = L at *
  go_enter Try.func4, Try.ntmps4
  go_wp2_with fail
  refine haw.mono ?_
  rintro e w1 ⟨rfl, hb1⟩
  clear haw
  go_wp2_with fail
  refine (HMD.out w1 hb1).mono ?_
  rintro e w2 ⟨p, q, rfl, N, ⟨hN1, hN2⟩, hS2⟩
  have hMD := HMM.out N
  generalize XM.made N xs (min L 400) = D at *
  have HW2 : Hid (Below w.heap.size w w2) := hb1.trans (hS2.bel.mono hb1.size)
  cases hth : WM.three N a b c with
  | false =>
    have hsp := spared_no hS2.xp a b c hth k
    have HTH : Hid (∀ W, Below w2.heap.size w2 W → Calls Try.prog 16 #[.pointer (some ⟨q, 0, none⟩), .int .i64 a, .int .i64 b, .int .i64 c] W fun e w' => e = .returned (.bool false) ∧ w' = W) := fun W hW => by
      have := rthree_any (hS2.xq.on hW) a b c
      rwa [hth] at this
    clear HMD HMM hb1 hS2 hMD hN1 hN2 hth
    go_wp2_with fail
    refine hsp.mono ?_
    rintro e w3 ⟨rfl, hb3⟩
    have HB3 : Hid (Below w2.heap.size w2 w3) := hb3
    clear hsp hb3
    go_wp2_with fail
    refine (HTH.out w3 HB3.out).mono ?_
    rintro e w4 ⟨rfl, hw4⟩
    rw [hw4]
    clear hw4 w4 HTH
    go_wp2_with fail
    go_ret
    exact ⟨rfl, below_on HW2.out HB3.out⟩
  | true =>
    obtain ⟨u, v, x, rfl, rfl, rfl, hu, hv, hx, e1, e2, e3⟩ := WM.three_nat hth
    have hsp := spared_ok hS2.xp hMD hN2 hu hv hx e1 e2 (fun e => e3 e.symm) k
    have HTH : Hid (∀ W, Below w2.heap.size w2 W → Calls Try.prog 16 #[.pointer (some ⟨q, 0, none⟩), .int .i64 (u : Nat), .int .i64 (v : Nat), .int .i64 (x : Nat)] W fun e w' => e = .returned (.bool true) ∧ w' = W) := fun W hW => by
      have := rthree_any (hS2.xq.on hW) u v x
      rwa [hth] at this
    have HRS : Hid (∀ W, Below w2.heap.size w2 W → Calls Try.prog 17 #[.pointer (some ⟨q, 0, none⟩), .int .i64 (u : Nat), .int .i64 (v : Nat), .int .i64 (x : Nat), .int .i64 k] W fun e w' => ∃ L, e = .returned (.bool (WM.has L x)) ∧ WM.Got N D u (WM.outOf (2 ^ v)) (DM.two (D u v) (D v x)) k.toNat L ∧ Below W.heap.size W w') := fun W hW => rspared_any (hS2.xq.on hW) hMD hN2 u v x hu hv e1 k
    clear HMD HMM hb1 hS2 hMD hN1 hN2 hth hu hv hx e1 e2 e3
    go_wp2_with fail
    refine hsp.mono ?_
    rintro e w3 ⟨y, rfl, hM, hb3⟩
    have HB3 : Hid (Below w2.heap.size w2 w3) := hb3
    have HM : Hid (∀ M, WM.Got N D u (WM.outOf (2 ^ v)) (DM.two (D u v) (D v x)) k.toNat M → y = WM.has M x) := hM
    clear hsp hb3 hM
    go_wp2_with fail
    refine (HTH.out w3 HB3.out).mono ?_
    rintro e w4 ⟨rfl, hw4⟩
    rw [hw4]
    clear hw4 w4 HTH
    go_wp2_with fail
    refine (HRS.out w3 HB3.out).mono ?_
    rintro e w5 ⟨M, rfl, hG, hb5⟩
    have hy := HM.out M hG
    rw [← hy]
    have HE : Hid (Below w.heap.size w w5) := below_on (below_on HW2.out HB3.out) hb5
    clear hy hG hb5 HRS HM HB3 HW2
    go_wp2_with fail
    go_ret
    exact ⟨ret_bool (by simp), HE.out⟩
end Go.Proofs.Ytmkpcidgiobpeaa
