/-
  OrdDearW, OrdPlain.
-/
import Derived.Test.YtkcfepppnclniaaMmOrdDiffP
import Derived.Test.YtkcfepppnclniaaMmOrdMore
import Derived.Test.YtkcfepppnclniaaMmWitSpare
import Derived.Test.YtkcfepppnclniaaMmMeshActs
import Derived.Test.YtkcfepppnclniaaMmMeshDet
import Derived.Test.YtkcfepppnclniaaMmWitSpareP
import Derived.Test.YtkcfepppnclniaaMmOrdEndsW
section
/-
  The walk of the law OrderDear.
-/
namespace Go.Proofs.Ytkcfepppnclniaa
open Go.RowKit
set_option maxHeartbeats 2000000 in
set_option maxRecDepth 100000 in
theorem dear_walk (HAW : AwakeIs) (HND : NeedIs) (HDI : DiffIs) (n : Int) (v : Value) (xs : List Stp) (vv f g : Int) (w : World) (hn0 : 0 ≤ n) (_hn1 : n ≤ 255) (hch : Stps w v xs) (hv0 : 0 ≤ vv) (hv1 : vv ≤ 255) (hf0 : 0 ≤ f) (hf1 : f ≤ 255) (hg0 : 0 ≤ g) (hg1 : g ≤ 255) :
    Calls Try.prog 5 #[.int .u8 n, v, .int .u8 vv, .int .u8 f, .int .u8 g] w fun e w' => e = .returned (.bool true) ∧ Below w.heap.size w w' := by
  have haw := HAW w
  have ht : n.tmod 10 = n % 10 := Int.tmod_eq_emod_of_nonneg (by omega)
  have hw : IntKind.u8.wrap (n % 10) = n % 10 := by rw [IntKind.wrap_u8]; omega
  have HMD : Hid (∀ W, Below w.heap.size w W → Calls Try.prog 7 #[.int .u8 (n % 10), v] W fun e w' => ∃ p q, e = .returned (.tuple #[.pointer (some ⟨p, 0, none⟩), .pointer (some ⟨q, 0, none⟩)]) ∧ ∃ N, (1 ≤ N ∧ N ≤ 24) ∧ St W W.heap.size p q N (XM.made N xs (min xs.length 400)) (XM.made N xs (min xs.length 400)) w') := fun W hW => madeX_any (n % 10) v xs W (by omega) (by omega) (hch.on hW)
  have HMM : Hid (∀ N, XM.Mesh N (XM.made N xs (min xs.length 400))) := fun N => XM.made_mesh N xs _
  obtain ⟨ao, cap, rfl, -, -⟩ := hch
  generalize xs.length = L at *
  have HMN : Hid ((if g < f then g else f).toNat ≤ (if f < g then g else f).toNat) := by
    show _ ≤ _
    split <;> split <;> omega
  obtain ⟨vn, rfl⟩ : ∃ a : Nat, vv = a := ⟨vv.toNat, by omega⟩
  go_enter Try.func5, Try.ntmps5
  go_wp2_with fail
  refine haw.mono ?_
  rintro e w1 ⟨rfl, hb1⟩
  clear haw
  go_wp2_with fail
  refine (HMD.out w1 hb1).mono ?_
  rintro e w2 ⟨p, q, rfl, N, ⟨hN1, hN2⟩, hS2⟩
  have hMD := HMM.out N
  generalize XM.made N xs (min L 400) = D at *
  have HW2 : Hid (Below w.heap.size w w2) := hb1.trans (hS2.bel.mono hb1.size)
  clear HMD HMM hb1 ht hw hn0 _hn1
  have cN := hS2.xq.c0
  have ev : (vn : Int).tmod (N : Int) = ((vn % N : Nat) : Int) := by rw [Int.tmod_eq_emod_of_nonneg (by omega)]; omega
  have hX : vn % N < N := Nat.mod_lt _ (by omega)
  generalize vn % N = x at *
  have HN : Hid (∀ W, Below w2.heap.size w2 W → ∀ k : Int, Calls Try.prog 8 #[.pointer (some ⟨p, 0, none⟩), .int .i64 (x : Nat), .int .i64 k] W fun e w' => e = .returned (.tuple #[.int .i64 (OM.need N D x k.toNat : Nat), .int .i64 0]) ∧ Below W.heap.size W w') := fun W hW k => HND (hS2.on hW).xp hMD hN2 x hX k
  have HD : Hid (∀ W, Below w2.heap.size w2 W → Calls Try.prog 9 #[.pointer (some ⟨p, 0, none⟩), .int .i64 (x : Nat), .int .i64 g] W fun e w' => e = .returned (.tuple #[.int .i64 (OM.diff N D x g.toNat), .int .i64 0]) ∧ Below W.heap.size W w') := fun W hW => HDI (hS2.on hW).xp hMD hN2 x hX g
  have HT : Hid (∀ W, Below w2.heap.size w2 W → Calls Try.prog 13 #[.pointer (some ⟨p, 0, none⟩), .int .i64 (x : Nat)] W fun e w' => ∃ ao cap, e = .returned (.slice ao (XM.dets N D (x : Int) N).length cap) ∧ Below W.heap.size W w') := fun W hW => by
    refine (det_any (hS2.on hW).xp hMD hN2 (x : Int)).mono ?_
    rintro e w' ⟨r, rfl, h1, h2⟩
    obtain ⟨ao, cap, rfl, -⟩ := h1.at
    exact ⟨ao, cap, rfl, h2⟩
  have HS : Hid (∀ W, Below w2.heap.size w2 W → ∀ back, Calls Try.prog 14 #[.pointer (some ⟨q, 0, none⟩), .int .i64 (x : Nat), .bool back] W fun e w' => ∃ ao cap, e = .returned (.slice ao (OM.edges N D x back) cap) ∧ Below W.heap.size W w') := fun W hW back => by
    refine (rsteps_any (hS2.on hW).xq hMD hN2 (x : Int) back).mono ?_
    rintro e w' ⟨r, rfl, h1, h2⟩
    obtain ⟨ao, cap, rfl, -⟩ := h1.at
    rw [firsts_len]
    exact ⟨ao, cap, rfl, h2⟩
  have HLE : Hid (OM.need N D x (if f < g then g else f).toNat ≤ OM.need N D x (if g < f then g else f).toNat ∧ OM.need N D x (if g < f then g else f).toNat ≤ (XM.dets N D (x : Int) N).length) := ⟨OM.need_mono HMN.out, OM.need_dets N D x _⟩
  have HDF : Hid (OM.diff N D x g.toNat = (OM.need N D x g.toNat : Int) - (OM.edges N D x false : Nat) - (OM.edges N D x true : Nat)) := rfl
  have he : ∀ back, OM.edges N D x back ≤ 24 := fun back => by
    have := XM.steps_len (N := N) (D := D) (v := (x : Int)) (back := back) N
    unfold OM.edges
    omega
  have HE : Hid (OM.edges N D x false ≤ 24 ∧ OM.edges N D x true ≤ 24 ∧ OM.need N D x g.toNat ≤ 600) := ⟨he false, he true, OM.need_le hN2 x _⟩
  clear hS2 hMD HMN he
  have hN0 : (N : Int) ≠ 0 := by omega
  by_cases hgf : g < f
  · have hfg : ¬ f < g := by omega
    rw [if_pos hgf, if_neg hfg] at HLE
    go_upto_region 7 with fail
    have h1 := HN.out w2 (Below.refl _ _)
    go_wp2_with fail
    refine (h1 _).mono ?_
    rintro e w3 ⟨rfl, hb3⟩
    have HB3 : Hid (Below w2.heap.size w2 w3) := hb3
    clear h1 hb3
    go_wp2_with fail
    refine (HN.out w3 HB3.out _).mono ?_
    rintro e w4 ⟨rfl, hb4⟩
    have HB4 : Hid (Below w2.heap.size w2 w4) := below_on HB3.out hb4
    clear hb4 HB3
    go_wp2_with fail
    refine (HD.out w4 HB4.out).mono ?_
    rintro e w5 ⟨rfl, hb5⟩
    have HB5 : Hid (Below w2.heap.size w2 w5) := below_on HB4.out hb5
    clear hb5 HB4 HD
    go_wp2_with fail
    refine (HN.out w5 HB5.out _).mono ?_
    rintro e w6 ⟨rfl, hb6⟩
    have HB6 : Hid (Below w2.heap.size w2 w6) := below_on HB5.out hb6
    clear hb6 HB5 HN
    go_upto_region 11 with fail
    generalize OM.need N D x f.toNat = b at *
    generalize OM.need N D x g.toNat = c at *
    obtain ⟨l1, l2⟩ := HLE.out
    have l3 : (b : Int) ≤ (c : Int) := by omega
    generalize (XM.dets N D (x : Int) N).length = LD at *
    have l4 : (c : Int) ≤ (LD : Int) := by omega
    have l5 : (0 : Int) ≤ (b : Int) := by omega
    obtain ⟨e1, e2, e3⟩ := HE.out
    have hdf := HDF.out
    generalize OM.diff N D x g.toNat = df at *
    have HS1 : Hid (∀ W, Below w2.heap.size w2 W → Calls Try.prog 14 #[.pointer (some ⟨q, 0, none⟩), .int .i64 (x : Nat), .bool false] W fun e w' => ∃ ao cap, e = .returned (.slice ao (OM.edges N D x false) cap) ∧ Below W.heap.size W w') := fun W hW => HS.out W hW false
    have HS2 : Hid (∀ W, Below w2.heap.size w2 W → Calls Try.prog 14 #[.pointer (some ⟨q, 0, none⟩), .int .i64 (x : Nat), .bool true] W fun e w' => ∃ ao cap, e = .returned (.slice ao (OM.edges N D x true) cap) ∧ Below W.heap.size W w') := fun W hW => HS.out W hW true
    generalize OM.edges N D x false = E1 at *
    generalize OM.edges N D x true = E2 at *
    subst hdf
    clear HS HLE HE HDF l1 l2
    go_wp2_with fail
    refine (HT.out w6 HB6.out).mono ?_
    rintro e w7 ⟨a7, c7, rfl, hb7⟩
    have HB7 : Hid (Below w2.heap.size w2 w7) := below_on HB6.out hb7
    clear hb7 HB6 HT
    go_wp2_with fail
    refine (HS1.out w7 HB7.out).mono ?_
    rintro e w8 ⟨a8, c8, rfl, hb8⟩
    have HB8 : Hid (Below w2.heap.size w2 w8) := below_on HB7.out hb8
    clear hb8 HB7 HS1
    go_wp2_with fail
    refine (HS2.out w8 HB8.out).mono ?_
    rintro e w9 ⟨a9, c9, rfl, hb9⟩
    have HB9 : Hid (Below w2.heap.size w2 w9) := below_on HB8.out hb9
    clear hb9 HB8 HS2
    go_wp2_with fail
    go_ret
    exact ⟨by simp, below_on HW2.out HB9.out⟩
  · by_cases hfg : f < g
    · rw [if_neg hgf, if_pos hfg] at HLE
      go_upto_region 7 with fail
      have h1 := HN.out w2 (Below.refl _ _)
      go_wp2_with fail
      refine (h1 _).mono ?_
      rintro e w3 ⟨rfl, hb3⟩
      have HB3 : Hid (Below w2.heap.size w2 w3) := hb3
      clear h1 hb3
      go_wp2_with fail
      refine (HN.out w3 HB3.out _).mono ?_
      rintro e w4 ⟨rfl, hb4⟩
      have HB4 : Hid (Below w2.heap.size w2 w4) := below_on HB3.out hb4
      clear hb4 HB3
      go_wp2_with fail
      refine (HD.out w4 HB4.out).mono ?_
      rintro e w5 ⟨rfl, hb5⟩
      have HB5 : Hid (Below w2.heap.size w2 w5) := below_on HB4.out hb5
      clear hb5 HB4 HD
      go_wp2_with fail
      refine (HN.out w5 HB5.out _).mono ?_
      rintro e w6 ⟨rfl, hb6⟩
      have HB6 : Hid (Below w2.heap.size w2 w6) := below_on HB5.out hb6
      clear hb6 HB5 HN
      go_upto_region 11 with fail
      generalize OM.need N D x f.toNat = a at *
      generalize OM.need N D x g.toNat = c at *
      obtain ⟨l1, l2⟩ := HLE.out
      have l3 : (c : Int) ≤ (a : Int) := by omega
      generalize (XM.dets N D (x : Int) N).length = LD at *
      have l4 : (a : Int) ≤ (LD : Int) := by omega
      have l5 : (0 : Int) ≤ (c : Int) := by omega
      obtain ⟨e1, e2, e3⟩ := HE.out
      have hdf := HDF.out
      generalize OM.diff N D x g.toNat = df at *
      have HS1 : Hid (∀ W, Below w2.heap.size w2 W → Calls Try.prog 14 #[.pointer (some ⟨q, 0, none⟩), .int .i64 (x : Nat), .bool false] W fun e w' => ∃ ao cap, e = .returned (.slice ao (OM.edges N D x false) cap) ∧ Below W.heap.size W w') := fun W hW => HS.out W hW false
      have HS2 : Hid (∀ W, Below w2.heap.size w2 W → Calls Try.prog 14 #[.pointer (some ⟨q, 0, none⟩), .int .i64 (x : Nat), .bool true] W fun e w' => ∃ ao cap, e = .returned (.slice ao (OM.edges N D x true) cap) ∧ Below W.heap.size W w') := fun W hW => HS.out W hW true
      generalize OM.edges N D x false = E1 at *
      generalize OM.edges N D x true = E2 at *
      subst hdf
      clear HS HLE HE HDF l1 l2
      go_wp2_with fail
      refine (HT.out w6 HB6.out).mono ?_
      rintro e w7 ⟨a7, c7, rfl, hb7⟩
      have HB7 : Hid (Below w2.heap.size w2 w7) := below_on HB6.out hb7
      clear hb7 HB6 HT
      go_wp2_with fail
      refine (HS1.out w7 HB7.out).mono ?_
      rintro e w8 ⟨a8, c8, rfl, hb8⟩
      have HB8 : Hid (Below w2.heap.size w2 w8) := below_on HB7.out hb8
      clear hb8 HB7 HS1
      go_wp2_with fail
      refine (HS2.out w8 HB8.out).mono ?_
      rintro e w9 ⟨a9, c9, rfl, hb9⟩
      have HB9 : Hid (Below w2.heap.size w2 w9) := below_on HB8.out hb9
      clear hb9 HB8 HS2
      go_wp2_with fail
      go_ret
      exact ⟨by simp, below_on HW2.out HB9.out⟩
    · rw [if_neg hgf, if_neg hfg] at HLE
      obtain rfl : f = g := by omega
      go_upto_region 7 with fail
      have h1 := HN.out w2 (Below.refl _ _)
      go_wp2_with fail
      refine (h1 _).mono ?_
      rintro e w3 ⟨rfl, hb3⟩
      have HB3 : Hid (Below w2.heap.size w2 w3) := hb3
      clear h1 hb3
      go_wp2_with fail
      refine (HN.out w3 HB3.out _).mono ?_
      rintro e w4 ⟨rfl, hb4⟩
      have HB4 : Hid (Below w2.heap.size w2 w4) := below_on HB3.out hb4
      clear hb4 HB3
      go_wp2_with fail
      refine (HD.out w4 HB4.out).mono ?_
      rintro e w5 ⟨rfl, hb5⟩
      have HB5 : Hid (Below w2.heap.size w2 w5) := below_on HB4.out hb5
      clear hb5 HB4 HD
      go_wp2_with fail
      refine (HN.out w5 HB5.out _).mono ?_
      rintro e w6 ⟨rfl, hb6⟩
      have HB6 : Hid (Below w2.heap.size w2 w6) := below_on HB5.out hb6
      clear hb6 HB5 HN
      go_upto_region 11 with fail
      generalize OM.need N D x f.toNat = c at *
      obtain ⟨l1, l2⟩ := HLE.out
      have l3 : (c : Int) ≤ (c : Int) := by omega
      generalize (XM.dets N D (x : Int) N).length = LD at *
      have l4 : (c : Int) ≤ (LD : Int) := by omega
      have l5 : (0 : Int) ≤ (c : Int) := by omega
      obtain ⟨e1, e2, e3⟩ := HE.out
      have hdf := HDF.out
      generalize OM.diff N D x f.toNat = df at *
      have HS1 : Hid (∀ W, Below w2.heap.size w2 W → Calls Try.prog 14 #[.pointer (some ⟨q, 0, none⟩), .int .i64 (x : Nat), .bool false] W fun e w' => ∃ ao cap, e = .returned (.slice ao (OM.edges N D x false) cap) ∧ Below W.heap.size W w') := fun W hW => HS.out W hW false
      have HS2 : Hid (∀ W, Below w2.heap.size w2 W → Calls Try.prog 14 #[.pointer (some ⟨q, 0, none⟩), .int .i64 (x : Nat), .bool true] W fun e w' => ∃ ao cap, e = .returned (.slice ao (OM.edges N D x true) cap) ∧ Below W.heap.size W w') := fun W hW => HS.out W hW true
      generalize OM.edges N D x false = E1 at *
      generalize OM.edges N D x true = E2 at *
      subst hdf
      clear HS HLE HE HDF l1 l2
      go_wp2_with fail
      refine (HT.out w6 HB6.out).mono ?_
      rintro e w7 ⟨a7, c7, rfl, hb7⟩
      have HB7 : Hid (Below w2.heap.size w2 w7) := below_on HB6.out hb7
      clear hb7 HB6 HT
      go_wp2_with fail
      refine (HS1.out w7 HB7.out).mono ?_
      rintro e w8 ⟨a8, c8, rfl, hb8⟩
      have HB8 : Hid (Below w2.heap.size w2 w8) := below_on HB7.out hb8
      clear hb8 HB7 HS1
      go_wp2_with fail
      refine (HS2.out w8 HB8.out).mono ?_
      rintro e w9 ⟨a9, c9, rfl, hb9⟩
      have HB9 : Hid (Below w2.heap.size w2 w9) := below_on HB8.out hb9
      clear hb9 HB8 HS2
      go_wp2_with fail
      go_ret
      exact ⟨by simp, below_on HW2.out HB9.out⟩
end Go.Proofs.Ytkcfepppnclniaa
end

section
/-
  The walks of layer 14's laws on a mesh, of the program as it is.
-/
namespace Go.Proofs.Ytkcfepppnclniaa
open Go.RowKit
theorem awake14_any : AwakeIs := awake14_is need_ok need_no (diff_ok need_ok)
theorem needs14_walk (n : Int) (v : Value) (xs : List Stp) (vv k : Int) (w : World) (hn0 : 0 ≤ n) (hn1 : n ≤ 255) (hch : Stps w v xs) :
    Calls Try.prog 3 #[.int .u8 n, v, .int .i64 vv, .int .i64 k] w fun e w' => e = .returned (.bool true) ∧ Below w.heap.size w w' :=
  needs_walk awake14_any need_ok need_no (diff_ok need_ok) (diff_no need_no) n v xs vv k w hn0 hn1 hch
theorem ends14_walk (n : Int) (v : Value) (xs : List Stp) (vv ww k : Int) (w : World) (hn0 : 0 ≤ n) (hn1 : n ≤ 255) (hch : Stps w v xs) (hv0 : 0 ≤ vv) (hv1 : vv ≤ 255) (hw0 : 0 ≤ ww) (hw1 : ww ≤ 255) :
    Calls Try.prog 4 #[.int .u8 n, v, .int .u8 vv, .int .u8 ww, .int .i64 k] w fun e w' => e = .returned (.bool true) ∧ Below w.heap.size w w' :=
  ends_walk awake14_any need_ok n v xs vv ww k w hn0 hn1 hch hv0 hv1 hw0 hw1
theorem dear14_walk (n : Int) (v : Value) (xs : List Stp) (vv f g : Int) (w : World) (hn0 : 0 ≤ n) (hn1 : n ≤ 255) (hch : Stps w v xs) (hv0 : 0 ≤ vv) (hv1 : vv ≤ 255) (hf0 : 0 ≤ f) (hf1 : f ≤ 255) (hg0 : 0 ≤ g) (hg1 : g ≤ 255) :
    Calls Try.prog 5 #[.int .u8 n, v, .int .u8 vv, .int .u8 f, .int .u8 g] w fun e w' => e = .returned (.bool true) ∧ Below w.heap.size w w' :=
  dear_walk awake14_any need_ok (diff_ok need_ok) n v xs vv f g w hn0 hn1 hch hv0 hv1 hf0 hf1 hg0 hg1
end Go.Proofs.Ytkcfepppnclniaa
end
