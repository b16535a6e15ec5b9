/-
  The walk of the law WalkBreaks.
-/
import Derived.Test.YtjnihkfnnokmdaaWalkLed
import Derived.Test.YtjnihkfnnokmdaaWalkLaw
namespace Go.Proofs.Ytjnihkfnnokmdaa
open Go.RowKit

set_option maxHeartbeats 4000000 in
set_option maxRecDepth 100000 in
theorem breaks_walk (n : Int) (v : Value) (xs : List Chg) (f : Int) (va : Value) (ys : List Int) (x : Int) (gone : Bool) (w : World) (hn0 : 0 ≤ n) (hn1 : n ≤ 255) (hch : Chgs w v xs) (hf0 : 0 ≤ f) (hf1 : f ≤ 255) (hra : Row .u8 w va ys) (hza : ∀ z ∈ ys, 0 ≤ z ∧ z ≤ 255) (hx0 : 0 ≤ x) (hx1 : x ≤ 255) :
    Calls Try.prog 7 #[.int .u8 n, v, .int .u8 f, va, .int .u8 x, .bool gone] w fun e w' => e = .returned (.bool true) ∧ Below w.heap.size w w' := by
  have haw := awake_any w
  have HMD : Hid (∀ W, Below w.heap.size w W → Calls Try.prog 9 #[.int .u8 n, v] W fun e w' => ∃ p q, e = .returned (.tuple #[.pointer (some ⟨p, 0, none⟩), .pointer (some ⟨q, 0, none⟩)]) ∧ ∃ N, (1 ≤ N ∧ N ≤ 24) ∧ Both w' W.heap.size p q N 64 (GM.made N xs (min xs.length 150)) ∧ Below W.heap.size W w') := fun W hW => made_any n v xs W hn0 hn1 (hch.on hW)
  have HRA : Hid (∀ W, Below w.heap.size w W → Row .u8 W va ys) := fun W hW => hra.below hW
  have HZA : Hid (∀ z ∈ ys, 0 ≤ z ∧ z ≤ 255) := hza
  have HIN : Hid (∀ N, WK.Inn N (GM.made N xs (min xs.length 150))) := fun N => WK.Inn.made N xs _
  obtain ⟨c, rfl⟩ : ∃ c : Nat, f = c := ⟨f.toNat, by omega⟩
  obtain ⟨d, rfl⟩ : ∃ d : Nat, x = d := ⟨x.toNat, by omega⟩
  have hc255 : c < 256 := by omega
  have hd255 : d < 256 := by omega
  clear hn0 hn1 hza hf0 hf1 hx0 hx1
  obtain ⟨ao, cap, rfl, -, -⟩ := hch
  obtain ⟨aa, capa, rfl, hata⟩ := hra
  have hma : ys.length ≤ 9223372036854775807 := by have := hata.1; have := hata.2.1; unfold maxLen at this; omega
  clear hata
  generalize xs.length = L at *
  obtain ⟨A, hA⟩ : ∃ A, A = ys.length := ⟨_, rfl⟩
  have HA : Hid (A = ys.length) := hA
  rw [← hA] at hma HRA ⊢
  clear hA
  go_enter Try.func7, Try.ntmps7
  go_wp2_with fail
  refine haw.mono ?_
  rintro e w1 ⟨rfl, hb1⟩
  clear haw
  go_wp2_with fail
  refine (HMD.out w1 hb1).mono ?_
  rintro e w2 ⟨p, q, rfl, N, hN, ho2, hb2⟩
  have hb2' := below_on hb1 hb2
  have HIN2 : Hid (WK.Inn N (GM.made N xs (min L 150))) := HIN.out N
  generalize GM.made N xs (min L 150) = m at *
  have HP : Hid (w.heap.size ≤ p ∧ p < w2.heap.size) := ⟨Nat.le_trans hb1.size ho2.lp, ho2.g.lt⟩
  clear HMD hb1 hb2 HIN
  by_cases ha : 60 < A
  · go_wp2_with fail
    go_ret
    exact ⟨rfl, hb2'⟩
  have HG : Hid (∀ W, Below w2.heap.size w2 W → GMem W p N 64 m) := fun W hW => ho2.g.on hW
  have hr2 := ho2.r
  have cN := ho2.r.c0
  have hok := ho2.ok
  clear ho2
  have hrem : (c : Int).tmod (N : Int) = ((c % N : Nat) : Int) := rfl
  have hne : ¬ (N : Int) = 0 := by omega
  have hs : c % N < N := Nat.mod_lt _ (by omega)
  have hs64 : c % N < 256 := by omega
  generalize c % N = s at *
  have HU : Hid (GM.vert N (s : Int) = true) := by
    show _ = _
    exact decide_eq_true (by omega)
  have hl1 := led_any hr2 (s : Int) (HRA.out w2 hb2') HZA.out (by rw [← HA.out]; omega)
  rw [← HA.out] at hl1
  clear hr2
  have hN64 : N ≤ 64 := by omega
  go_wp2_with fail
  refine hl1.mono ?_
  rintro e w3 ⟨r3, ids, en, rfl, ho3, hn3, he3, hb3⟩
  have hb3' := below_on hb2' hb3
  have HE3 : Hid (WK.ends (s : Int) (WK.list m ids) = some en) := he3
  clear hl1 cN he3 hrem hne
  by_cases hl0 : ids.length = 0
  · obtain rfl := List.eq_nil_of_length_eq_zero hl0
    have hc1 := check_any (HG.out w3 hb3) hok (s : Int) (s : Int) (Row.nil .i64 w3)
    rw [WK.ccode_walk HU.out HU.out rfl] at hc1
    obtain ⟨a3, k3, rfl, -⟩ := ho3.at
    clear hl0 ho3 hn3
    go_wp2_with fail
    refine hc1.mono ?_
    rintro e w4 ⟨rfl, hb4⟩
    have hb4' := below_on hb3' hb4
    clear hc1
    go_wp2_with fail
    go_ret
    exact ⟨rfl, hb4'⟩
  have HVE : Hid (GM.vert N en = true) := HIN2.out.ends HU.out HE3.out
  have hc1 := sum_any (HG.out w3 hb3) hok ho3.row
  have HO3 : Hid (Own .i64 3 w3 w2.heap.size r3 ids) := ho3
  obtain ⟨a3, k3, rfl, hat3⟩ := ho3.at
  have HAT : Hid (RowAt .i64 w3 a3 k3 ids) := hat3
  clear ho3 hat3
  obtain ⟨I, hI⟩ : ∃ I, I = ids.length := ⟨_, rfl⟩
  have HI : Hid (I = ids.length) := hI
  rw [← hI] at hn3 HO3 hl0 hc1 ⊢
  clear hI
  generalize hS : WK.wsum (WK.list m ids) = S at *
  go_wp2_with fail
  refine hc1.mono ?_
  rintro e w4 ⟨rfl, hb4⟩
  have hb4' := below_on hb3' hb4
  have hb24 := below_on hb3 hb4
  have HO4 : Hid (Own .i64 3 w4 w2.heap.size (.slice a3 I k3) ids) := HO3.out.below hb4
  have hat4 := HAT.out.below hb4
  obtain ⟨b3, o3, rfl, hcm⟩ := hat4.2.2.2 (by rw [← HI.out]; omega)
  clear hc1 hb3 hb3' hb4 HO3 HAT hat4
  have hidx : d % I < I := Nat.mod_lt _ (by omega)
  have hidy : d % I < ids.length := by rw [← HI.out]; exact hidx
  have cm1 := hcm (d % I) hidy
  rw [List.getElem?_eq_getElem hidy, Option.getD_some] at cm1
  have HZ : Hid (ids[d % I] ∈ ids) := List.getElem_mem hidy
  generalize ids[d % I] = z at *
  have hrem : (d : Int).tmod (I : Int) = ((d % I : Nat) : Int) := rfl
  have hne : ¬ (I : Int) = 0 := by omega
  clear hidy hcm
  generalize d % I = ix at *
  have ix1 : (ix : Int) < (I : Int) := by omega
  have hg4 := HG.out w4 hb24
  clear HG
  cases gone with
  | true =>
    have hdel := delete_any hg4 hok z
    have HOK : Hid (GM.Good 64 (GM.del m z)) := GM.good_del hok z
    obtain ⟨h1, h2, h3⟩ := WK.deleted HVE.out HU.out HE3.out HZ.out
    rw [h1] at hdel
    have H2 : Hid (WK.ccode N (s : Int) en (WK.list (GM.del m z) ids) = 3) := h2
    have H3 : Hid (WK.wsum (WK.list (GM.del m z) ids) = 4611686018427387906) := h3
    clear h1 h2 h3 hg4
    generalize GM.del m z = m' at *
    go_wp2_with fail
    refine hdel.mono ?_
    rintro e w5 ⟨rfl, hg5, hk5⟩
    have hb5' : Below w.heap.size w w5 := hb4'.trans (hk5.rest HP.out.1 hb4'.size)
    have ho5 : Own .i64 3 w5 w2.heap.size (.slice (some ⟨b3, o3, none⟩) I k3) ids := hk5.row HO4.out (fun g hg e => by
      have h6 := HO4.out.block g hg
      have h7 := HP.out.2
      have h8 : g = p := e
      omega)
    have hc2 := check_any hg5 HOK.out (s : Int) en ho5.row
    rw [H2.out] at hc2
    have HGS : Hid (GMem w5 p N 64 m') := hg5
    have HO5 : Hid (Own .i64 3 w5 w2.heap.size (.slice (some ⟨b3, o3, none⟩) I k3) ids) := ho5
    clear hdel cm1 hk5 hg5 ho5 hb4' hb24
    go_wp2_with fail
    refine hc2.mono ?_
    rintro e w6 ⟨rfl, hb6⟩
    have hb6' := below_on hb5' hb6
    have hc3 := sum_any (HGS.out.on hb6) HOK.out (HO5.out.below hb6).row
    rw [H3.out] at hc3
    clear hc2 hb5' hb6
    go_wp2_with fail
    refine hc3.mono ?_
    rintro e w7 ⟨rfl, hb7⟩
    have hb7' := below_on hb6' hb7
    clear hc3
    go_wp2_with fail
    go_ret
    exact ⟨rfl, hb7'⟩
  | false =>
    have hdel := close_any hg4 hok z
    have HOK : Hid (GM.Good 64 (GM.turn m z true)) := GM.good_turn hok z true
    have HSM : Hid (WK.Small (GM.turn m z true)) := (HIN2.out.turn z true).small hN64
    obtain ⟨h1, h2, h3, h4⟩ := WK.closed HVE.out HU.out HE3.out HZ.out
    rw [h1] at hdel
    rw [hS] at h3
    have H2 : Hid (WK.ccode N (s : Int) en (WK.list (GM.turn m z true) ids) = 5) := h2
    have H3 : Hid (WK.wsum (WK.list (GM.turn m z true) ids) = S) := h3
    have H4 : Hid (WK.simple N (s : Int) (WK.list (GM.turn m z true) ids) = false) := h4
    clear h1 h2 h3 h4 hg4
    generalize GM.turn m z true = m' at *
    go_wp2_with fail
    refine hdel.mono ?_
    rintro e w5 ⟨rfl, hg5, hk5⟩
    have hb5' : Below w.heap.size w w5 := hb4'.trans (hk5.rest HP.out.1 hb4'.size)
    have ho5 : Own .i64 3 w5 w2.heap.size (.slice (some ⟨b3, o3, none⟩) I k3) ids := hk5.row HO4.out (fun g hg e => by
      have h6 := HO4.out.block g hg
      have h7 := HP.out.2
      have h8 : g = p := e
      omega)
    have hc2 := check_any hg5 HOK.out (s : Int) en ho5.row
    rw [H2.out] at hc2
    have HGS : Hid (GMem w5 p N 64 m') := hg5
    have HO5 : Hid (Own .i64 3 w5 w2.heap.size (.slice (some ⟨b3, o3, none⟩) I k3) ids) := ho5
    clear hdel cm1 hk5 hg5 ho5 hb4' hb24
    go_wp2_with fail
    refine hc2.mono ?_
    rintro e w6 ⟨rfl, hb6⟩
    have hb6' := below_on hb5' hb6
    have hc3 := sum_any (HGS.out.on hb6) HOK.out (HO5.out.below hb6).row
    rw [H3.out] at hc3
    clear hc2 hb5'
    go_wp2_with fail
    refine hc3.mono ?_
    rintro e w7 ⟨rfl, hb7⟩
    have hb7' := below_on hb6' hb7
    have hb57 := below_on hb6 hb7
    have hc4 := simple_any (HGS.out.on hb57) HOK.out hN64 HSM.out (s : Int) (HO5.out.below hb57).row
    rw [H4.out] at hc4
    clear hc3 hb6 hb7 hb57 hb6'
    go_wp2_with fail
    refine hc4.mono ?_
    rintro e w8 ⟨rfl, hb8⟩
    have hb8' := below_on hb7' hb8
    clear hc4
    go_wp2_with fail
    go_ret
    exact ⟨rfl, hb8'⟩
end Go.Proofs.Ytjnihkfnnokmdaa
