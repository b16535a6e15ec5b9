/-
  NearTrace, NearPathG, NearAwake.
-/
import Derived.Test.YtmamligiopbefaaMmNearTreeW
import Derived.Test.YtmamligiopbefaaMmSufs
import Derived.Test.YtmamligiopbefaaMmRefN
import Derived.Test.YtmamligiopbefaaMmMades
section
/-
  The walks of near.trace and of near.Tree.
-/
namespace Go.Proofs.Ytmamligiopbefaa
open Go.RowKit

namespace NM
theorem tree_src (m : GM.M) (F : Int → Int) (s : Int) : tree m F s s = -1 := by
  unfold tree
  rw [if_neg (fun h => h.1 rfl)]
end NM
set_option maxHeartbeats 4000000 in
set_option maxRecDepth 100000 in
theorem trace_any {w : World} {gp N most : Nat} {m : GM.M} (hg : GMem w gp N most m) (hm : GM.Good most m) (hN : N ≤ 24) (hin : WK.Inn N m) (s t : Nat) (hs : s < N) (ht : t < N) (hF : NM.dist m s t ≤ 4611686018427387904) {bv : Value} (hrow : Row .i64 w bv (NM.rowTree m N s)) :
    Calls Try.prog 31 #[.pointer (some ⟨gp, 0, none⟩), bv, .int .i64 t] w fun e w' => ∃ r, e = .returned r ∧ Own .i64 3 w' w.heap.size r (NM.path m s t) ∧ Below w.heap.size w w' := by
  obtain ⟨ao, cp, rfl, hat⟩ := hrow
  have hcp : N ≤ cp := by have := hat.1; rwa [NM.rowTree_len] at this
  obtain ⟨fb, fo, rfl, hc0⟩ := hat.2.2.2 (by rw [NM.rowTree_len]; omega)
  rw [NM.rowTree_len]
  have HT : Hid (∀ W, Below w.heap.size w W → ∀ k, k < N → W.cell? ⟨fb, fo + k, none⟩ = some (.int .i64 (NM.tree m (NM.dist m s) s k))) := fun W hW k hk => by
    have := hc0 k (by rw [NM.rowTree_len]; exact hk)
    rw [NM.rowTree_at m s hk] at this
    exact (hW.cell (p := ⟨fb, fo + k, none⟩) (cell_lt this)).trans this
  have HARC : Hid (∀ W, Below w.heap.size w W → ∀ id : Int, Calls Try.prog 38 #[.pointer (some ⟨gp, 0, none⟩), .int .i64 id] W fun e w' => e = .returned (.tuple #[arcV (GM.look m id).1, .bool (GM.look m id).2]) ∧ Below W.heap.size W w') := fun W hW id => arc_any (hg.on hW) hm id
  have HM : Hid (NM.Map m N (s : Int) (NM.dist m (s : Int))) := NM.mapD hm hN hin hs
  have HP0 : Hid (NM.Pt m N s t t []) := NM.Pt.begin (decide_eq_true (by omega)) hF
  obtain ⟨i0, hi0, hz0, hz1, hz2⟩ := info_int
  have c0 := HT.out w (Below.refl _ _) t ht
  have t1 : (t : Int) < (N : Int) := by omega
  clear hg hm hin hF hc0 hat
  go_enter Try.func31, Try.ntmps31
  go_wp2_with fail
  go_loopw [2, 7, 8] (fun tv ov iv wr => ∃ (out : List Int) (v : Int), NM.Pt m N s t v out ∧ tv = .int .i64 v ∧ iv = .int .i64 (NM.tree m (NM.dist m s) s v) ∧ Own .i64 3 wr w.heap.size ov out.reverse ∧ Below w.heap.size w wr) (fun _ ov _ _ => 24 - lenOf ov)
  case atStart => exact ⟨[], t, HP0.out, rfl, rfl, Own.nil _ _ _ _, Below.refl _ _⟩
  case round =>
    clear HP0 c0
    obtain ⟨out, v, hp, rfl, rfl, hown, hbr⟩ := hrel
    have HP : Hid (NM.Pt m N s t v out) := hp
    have HB : Hid (Below w.heap.size w wr) := hbr
    have hlen24 : out.length ≤ 23 := by
      have h1 := hp.bk.vert
      have := NM.nodup_len N _ (NM.nodup_of_rise hp.bk.rise) h1
      simp at this
      omega
    by_cases hvs : v = (s : Int)
    · subst hvs
      have HE : Hid (out = NM.path m s t) := HP.out.done
      have hrev := reverse_any hown hbr.size (by rw [List.length_reverse]; omega)
      rw [List.reverse_reverse, HE.out] at hrev
      rw [NM.tree_src]
      clear hown hbr hp HE HARC HT
      go_wp2_with fail
      refine hrev.mono ?_
      rintro e w2 ⟨rfl, ho2, hb2⟩
      have HR : Hid (Own .i64 3 w2 w.heap.size u7 (NM.path m s t) ∧ Below w.heap.size w w2) := ⟨ho2, HB.out.trans hb2⟩
      clear hrev ho2 hb2
      go_wp2_with fail
      go_ret
      exact ⟨_, rfl, HR.out⟩
    · obtain ⟨i, hti, hi64, his, hlen, hp2⟩ := HP.out.step HM.out hvs
      have hv2 := of_decide_eq_true hp2.vert
      have har := fun W hW => HARC.out W hW (i : Int)
      rw [NM.look_at m hi64] at har
      rw [hti]
      generalize GM.arc m i = a at *
      obtain ⟨tl, hh, x, c⟩ := a
      unfold arcV at har
      dsimp only at hp2 hv2 har
      obtain ⟨k, rfl⟩ : ∃ k : Nat, tl = k := ⟨tl.toNat, by omega⟩
      have hkN : k < N := by omega
      have k1 : (k : Int) < (N : Int) := by omega
      have HP2 : Hid (NM.Pt m N s t (k : Int) ((i : Int) :: out)) := hp2
      have HAR : Hid (∀ W, Below w.heap.size w W → Calls Try.prog 38 #[.pointer (some ⟨gp, 0, none⟩), .int .i64 (i : Int)] W fun e w' => e = .returned (.tuple #[.agg #[.int .i64 k, .int .i64 hh, .int .i64 x, .bool c], .bool (GM.is m i)]) ∧ Below W.heap.size W w') := har
      have HL : Hid (out.reverse.length = out.length) := List.length_reverse
      have HO : Hid (Own .i64 3 wr w.heap.size u7 out.reverse) := hown
      have hsz := hbr.size
      clear hown hp hp2 hti hi64 his hvs hv2 har hbr
      obtain ⟨aq, cq, rfl, -⟩ := HO.out.at
      obtain ⟨n, hn⟩ : ∃ n, n = out.length := ⟨_, rfl⟩
      have HNL : Hid (n = out.length) := hn
      have HL2 : Hid (out.reverse.length = n) := by show _ = _; rw [HL.out]; exact HNL.out.symm
      rw [HL2.out]
      rw [← hn] at hlen24 hlen
      clear hn HL
      go_wp2_with (refine wpList_append_row _ rfl (.tmp 21) (.tmp 23) 41 rfl .i64 w.heap.size 3 i0 8 Try.underlying41 hi0 hz0 hz1 hz2 _ out.reverse (by simp only [Act.eval]; rw [← HL2.out]; rfl) (HO.out.alloc _) (some ⟨wr.heap.size, 0, none⟩) 1 1 [(i : Int)] rfl rfl (rowAt_lit1 .i64 wr _ 3) (by rw [HL2.out]; simp [maxLen]; omega) (by rw [HL2.out]; simp; omega) (by simp; omega) ?_; intro v' w' hown' hgr _)
      have HR : Hid (Own .i64 3 w' w.heap.size v' (((i : Int) :: out).reverse) ∧ Below w.heap.size w w') := ⟨by rw [List.reverse_cons]; exact hown', (HB.out.alloc hsz _).trans (((Keeps.refl (fun b => w.heap.size ≤ b) _).grown hgr (fun g hg => .inl (HO.out.block g hg))).below (fun b h => h) (by simp; omega))⟩
      have har := HAR.out w' HR.out.2
      clear hown' hgr HO
      go_wp2_with fail
      refine har.mono ?_
      rintro e w3 ⟨rfl, hb3⟩
      have HB3 : Hid (Below w'.heap.size w' w3) := hb3
      obtain ⟨a0, -, -, -⟩ := arcIn_block (rfl : (w3.alloc (.cells #[.int .i64 k, .int .i64 hh, .int .i64 x, .bool c] 33)).heap[w3.heap.size]? = _)
      dsimp only at a0
      have HR2 : Hid (Own .i64 3 (w3.alloc (.cells #[.int .i64 k, .int .i64 hh, .int .i64 x, .bool c] 33)) w.heap.size v' (((i : Int) :: out).reverse) ∧ Below w.heap.size w (w3.alloc (.cells #[.int .i64 k, .int .i64 hh, .int .i64 x, .bool c] 33))) := by
        have h1 : Below w'.heap.size w' (w3.alloc (.cells #[.int .i64 k, .int .i64 hh, .int .i64 x, .bool c] 33)) := HB3.out.alloc HB3.out.size _
        exact ⟨HR.out.1.below h1, below_on HR.out.2 h1⟩
      have c3 := HT.out _ HR2.out.2 k hkN
      have HLV : Hid (lenOf v' = n + 1) := by
        obtain ⟨aq2, cq2, h1, -⟩ := HR.out.1.at
        show _ = _
        rw [h1]
        simp only [lenOf]
        rw [List.reverse_cons, List.length_append, HL2.out]
        rfl
      clear har hb3 HB3 HR
      generalize hw4 : w3.alloc (.cells #[.int .i64 k, .int .i64 hh, .int .i64 x, .bool c] 33) = w4 at *
      go_wp2_with fail
      go_roundw
      case rel => exact ⟨(i : Int) :: out, k, HP2.out, rfl, rfl, HR2.out.1, HR2.out.2⟩
      case measure =>
        rw [HLV.out]
        simp only [lenOf]
        omega
end Go.Proofs.Ytmamligiopbefaa
end

section
/-
  The walk of near.Path.
-/
namespace Go.Proofs.Ytmamligiopbefaa
open Go.RowKit

set_option maxHeartbeats 400000 in
theorem path_noS {w : World} {gp N most : Nat} {m : GM.M} (hg : GMem w gp N most m) (s t : Int) (hs : GM.vert N s = false) :
    Calls Try.prog 14 #[.pointer (some ⟨gp, 0, none⟩), .int .i64 s, .int .i64 t] w fun e w' => e = .returned (.tuple #[.slice none 0 0, .int .i64 0, .int .i64 1]) ∧ w' = w := by
  have hf := from_no hg s hs
  clear hg hs
  go_enter Try.func14, Try.ntmps14
  go_wp2_with fail
  refine hf.mono ?_
  rintro e w1 ⟨rfl, rfl⟩
  clear hf
  go_wp2_with fail
  go_ret3
  exact ⟨rfl, rfl⟩
set_option maxHeartbeats 400000 in
theorem path_noT {w : World} {gp N most : Nat} {m : GM.M} (hg : GMem w gp N most m) (hm : GM.Good most m) (hN : N ≤ 24) (hi : WK.Inn N m) (s : Nat) (hs : s < N) (t : Int) (ht : GM.vert N t = false) :
    Calls Try.prog 14 #[.pointer (some ⟨gp, 0, none⟩), .int .i64 s, .int .i64 t] w fun e w' => e = .returned (.tuple #[.slice none 0 0, .int .i64 0, .int .i64 1]) ∧ Below w.heap.size w w' := by
  have hf := from_any hg hm hN hi s hs
  have HV : Hid (∀ W, Below w.heap.size w W → Calls Try.prog 30 #[.pointer (some ⟨gp, 0, none⟩), .int .i64 t] W fun e w' => e = .returned (.bool false) ∧ w' = W) := fun W hW => by
    have := nvertex_any (hg.on hW) t
    rwa [ht] at this
  clear hg hm hN hi hs ht
  go_enter Try.func14, Try.ntmps14
  go_wp2_with fail
  refine hf.mono ?_
  rintro e w1 ⟨fb, rfl, ho, hb⟩
  have hv := HV.out w1 hb
  have HB : Hid (Below w.heap.size w w1) := hb
  clear hf ho hb HV
  go_wp2_with fail
  refine hv.mono ?_
  rintro e w2 ⟨rfl, rfl⟩
  clear hv
  go_wp2_with fail
  go_ret3
  exact ⟨rfl, HB.out⟩
set_option maxRecDepth 100000 in
set_option maxHeartbeats 4000000 in
theorem path_any {w : World} {gp N most : Nat} {m : GM.M} (hg : GMem w gp N most m) (hm : GM.Good most m) (hN : N ≤ 24) (hi : WK.Inn N m) (s t : Nat) (hs : s < N) (ht : t < N) :
    Calls Try.prog 14 #[.pointer (some ⟨gp, 0, none⟩), .int .i64 s, .int .i64 t] w fun e w' => ∃ r d c, e = .returned (.tuple #[r, .int .i64 d, .int .i64 c]) ∧ Below w.heap.size w w' ∧
      ((NM.dist m s t = 4611686018427387906 ∧ r = .slice none 0 0 ∧ d = 0 ∧ c = 3) ∨ (NM.dist m s t = 4611686018427387905 ∧ r = .slice none 0 0 ∧ d = 0 ∧ c = 9) ∨
        (NM.dist m s t ≤ 4611686018427387904 ∧ Own .i64 3 w' w.heap.size r (NM.path m s t) ∧ d = NM.dist m s t ∧ c = 0)) := by
  have hf := from_any hg hm hN hi s hs
  have HV : Hid (∀ W, Below w.heap.size w W → Calls Try.prog 30 #[.pointer (some ⟨gp, 0, none⟩), .int .i64 t] W fun e w' => e = .returned (.bool true) ∧ w' = W) := fun W hW => by
    have := nvertex_any (hg.on hW) t
    rwa [show GM.vert N (t : Int) = true from decide_eq_true (by omega)] at this
  have HTR : Hid (∀ W v, Below w.heap.size w W → Row .i64 W v (NM.rowFrom m N s) → Calls Try.prog 32 #[.pointer (some ⟨gp, 0, none⟩), v] W fun e w' => ∃ tb, e = .returned (.slice (some ⟨tb, 0, none⟩) N N) ∧ Own .i64 3 w' W.heap.size (.slice (some ⟨tb, 0, none⟩) N N) (NM.rowTree m N s) ∧ Below W.heap.size W w') := fun W v hW hr => tree_any (hg.on hW) hm hN hi s hs hr
  have HTC : Hid (NM.dist m s t ≤ 4611686018427387904 → ∀ W v, Below w.heap.size w W → Row .i64 W v (NM.rowTree m N s) → Calls Try.prog 31 #[.pointer (some ⟨gp, 0, none⟩), v, .int .i64 t] W fun e w' => ∃ r, e = .returned r ∧ Own .i64 3 w' W.heap.size r (NM.path m s t) ∧ Below W.heap.size W w') := fun hF W v hW hr => trace_any (hg.on hW) hm hN hi s t hs ht hF hr
  have bd := NM.dist_bd m s t
  have t1 : (t : Int) < (N : Int) := by omega
  clear hg hm hN hi
  go_enter Try.func14, Try.ntmps14
  go_wp2_with fail
  refine hf.mono ?_
  rintro e w1 ⟨fb, rfl, ho, hb⟩
  have hv := HV.out w1 hb
  have HB : Hid (Below w.heap.size w w1) := hb
  have HO : Hid (Own .i64 3 w1 w.heap.size (.slice (some ⟨fb, 0, none⟩) N N) (NM.rowFrom m N s)) := ho
  have c1 := (ho.cell (NM.rowFrom_len m N s).symm t ht).1
  rw [NM.rowFrom_at m s ht] at c1
  clear hf ho hb HV hs ht
  go_wp2_with fail
  refine hv.mono ?_
  rintro e w2 ⟨rfl, rfl⟩
  clear hv
  generalize hd : NM.dist m s t = d at *
  have HD : Hid (NM.dist m s t = d) := hd
  rcases Int.lt_or_le 4611686018427387904 d with hbig | hle
  · rcases (show d = 4611686018427387906 ∨ d = 4611686018427387905 by omega) with rfl | rfl
    · clear HTR HTC hd
      go_wp2_with fail
      go_ret3
      exact ⟨_, _, _, rfl, HB.out, .inl ⟨HD.out, rfl, rfl, rfl⟩⟩
    · clear HTR HTC hd
      go_wp2_with fail
      go_ret3
      exact ⟨_, _, _, rfl, HB.out, .inr (.inl ⟨HD.out, rfl, rfl, rfl⟩)⟩
  · have htr := HTR.out w2.drew _ HB.out.drew HO.out.row.drew
    have HTC2 : Hid (∀ W v, Below w.heap.size w W → Row .i64 W v (NM.rowTree m N s) → Calls Try.prog 31 #[.pointer (some ⟨gp, 0, none⟩), v, .int .i64 t] W fun e w' => ∃ r, e = .returned r ∧ Own .i64 3 w' W.heap.size r (NM.path m s t) ∧ Below W.heap.size W w') := HTC.out hle
    have HTR2 : Hid (Calls Try.prog 32 #[.pointer (some ⟨gp, 0, none⟩), .slice (some ⟨fb, 0, none⟩) N N] w2.drew fun e w' => ∃ tb, e = .returned (.slice (some ⟨tb, 0, none⟩) N N) ∧ Own .i64 3 w' w2.drew.heap.size (.slice (some ⟨tb, 0, none⟩) N N) (NM.rowTree m N s) ∧ Below w2.drew.heap.size w2.drew w') := htr
    have HBD : Hid (Below w.heap.size w w2.drew) := HB.out.drew
    have c1d : w2.drew.cell? ⟨fb, t, none⟩ = some (.int .i64 d) := c1
    have hne1 : d ≠ 4611686018427387906 := by omega
    have hne2 : d ≠ 4611686018427387905 := by omega
    have HC : Hid (∀ W, Below w2.drew.heap.size w2.drew W → W.cell? ⟨fb, t, none⟩ = some (.int .i64 d)) := fun W hW => (hW.cell (p := ⟨fb, t, none⟩) (cell_lt c1d)).trans c1d
    have HLE : Hid (NM.dist m s t ≤ 4611686018427387904) := by show _ ≤ _; rw [hd]; exact hle
    clear HTR HTC htr hd bd hle
    go_upto_region 9 with fail
    go_region_held3 (fun w' => w'.cell? ⟨fb, t, none⟩ = some (.int .i64 d)) (go_keep) (first
      | (go_at_call 31; refine (HTC2.out _ _ (below_on HBD.out HB3.out) HO3.out.row).mono ?_; rintro e w4 ⟨r, rfl, ho4, hb4⟩; have HB4 : Hid (Below w2.drew.heap.size w2.drew w4) := below_on HB3.out hb4; have HO4 : Hid (Own .i64 3 w4 w.heap.size r (NM.path m s t) ∧ Below w.heap.size w w4) := ⟨ho4.base_le (below_on HBD.out HB3.out).size, below_on (below_on HBD.out HB3.out) hb4⟩; clear ho4 hb4; have g4 := HC.out _ HB4.out)
      | (go_at_call 32; refine HTR2.out.mono ?_; rintro e w3 ⟨tb, rfl, ho3, hb3⟩; have HB3 : Hid (Below w2.drew.heap.size w2.drew w3) := hb3; have HO3 : Hid (Own .i64 3 w3 w2.drew.heap.size (.slice (some ⟨tb, 0, none⟩) N N) (NM.rowTree m N s)) := ho3; clear ho3 hb3; have g3 := HC.out _ HB3.out))
    go_wp2_with fail
    go_ret3
    exact ⟨r, _, _, rfl, HO4.out.2, .inr (.inr ⟨HLE.out, HO4.out.1, HD.out.symm, rfl⟩)⟩
end Go.Proofs.Ytmamligiopbefaa
end

section
/-
  The law's awake (layer 10): answers that the document fixes. How far it is in a graph of three vertices, by what no arc betters.
-/
namespace Go.Proofs.Ytmamligiopbefaa
open Go.RowKit

namespace NM
/-- What no arc betters, no walk betters. -/
theorem cert {m : GM.M} {f : Int → Int} (hb : ∀ v, 0 ≤ f v ∧ f v ≤ 4611686018427387906) (h : ∀ u z, opn m u z → f (hd m z) ≤ DM.two (f u) (wt m z)) : ∀ (ids : List Int) (u b : Int), Wk m u b ids → f b ≤ DM.two (f u) (csum m ids)
  | [], u, b, hw => by
    obtain rfl := wk_nil_iff.1 hw
    have := hb u
    rw [csum_nil, two_zero this.1 this.2]
    exact Int.le_refl _
  | z :: ids, u, b, hw => by
    obtain ⟨h1, h2⟩ := wk_cons.1 hw
    have h3 := cert hb h ids _ _ h2
    have h4 := h u z h1
    have bc := csum_bd m ids
    rw [csum_cons, ← two_assoc]
    have b1 := hb (hd m z)
    have b2 := DM.two_bd (f u) (wt m z)
    exact Int.le_trans h3 (two_mono b1.1 h4 b2.2 bc.1 (Int.le_refl _) bc.2)
end NM
namespace NA
def A : Arc := ⟨0, 1, 5, false⟩
def B : Arc := ⟨1, 2, 5, false⟩
def C : Arc := ⟨0, 2, 11, false⟩
def M1 : GM.M := GM.upd GM.none0 4 (some A)
def M2 : GM.M := GM.upd M1 2 (some B)
def M3 : GM.M := GM.upd M2 1 (some C)
theorem g0 : GM.Good 4 GM.none0 := GM.Good.zero 4
theorem c1 : GM.insCode 3 4 GM.none0 4 A = 0 := by decide +kernel
theorem m1 : GM.ins 3 4 GM.none0 4 A = M1 := by unfold GM.ins; rw [c1, if_pos rfl]; rfl
theorem g1 : GM.Good 4 M1 := by rw [← m1]; exact GM.good_ins g0 _ _
theorem c2 : GM.insCode 3 4 M1 2 B = 0 := by decide +kernel
theorem m2 : GM.ins 3 4 M1 2 B = M2 := by unfold GM.ins; rw [c2, if_pos rfl]; rfl
theorem g2 : GM.Good 4 M2 := by rw [← m2]; exact GM.good_ins g1 _ _
theorem c3 : GM.insCode 3 4 M2 1 C = 0 := by decide +kernel
theorem m3 : GM.ins 3 4 M2 1 C = M3 := by unfold GM.ins; rw [c3, if_pos rfl]; rfl
theorem g3 : GM.Good 4 M3 := by rw [← m3]; exact GM.good_ins g2 _ _
theorem inn : WK.Inn 3 M3 := by
  rw [← m3, ← m2, ← m1]
  exact (((WK.Inn.zero 3).ins _ _).ins _ _).ins _ _
theorem ids3 : GM.ids M3 64 = [1, 2, 4] := by decide +kernel
theorem open3 {u z : Int} (h : NM.opn M3 u z) : (z = 4 ∧ u = 0 ∧ NM.hd M3 z = 1 ∧ NM.wt M3 z = 5) ∨ (z = 2 ∧ u = 1 ∧ NM.hd M3 z = 2 ∧ NM.wt M3 z = 5) ∨ (z = 1 ∧ u = 0 ∧ NM.hd M3 z = 2 ∧ NM.wt M3 z = 11) := by
  obtain ⟨i, rfl, hi⟩ := NM.opn_place h
  obtain ⟨h1, h2, -⟩ := (NM.opn_at hi).1 h
  have hm := (GM.mem_ids M3 i 64).2 ⟨hi, h1⟩
  rw [ids3] at hm
  rw [NM.hd_at M3 hi, NM.wt_at M3 hi, ← h2]
  rcases List.mem_cons.1 hm with rfl | hm
  · exact .inr (.inr (by decide +kernel))
  · rcases List.mem_cons.1 hm with rfl | hm
    · exact .inr (.inl (by decide +kernel))
    · rcases List.mem_cons.1 hm with rfl | hm
      · exact .inl (by decide +kernel)
      · cases hm
/-- How far it is from 0. -/
def f0 (v : Int) : Int := if v = 0 then 0 else if v = 1 then 5 else if v = 2 then 10 else 4611686018427387906
theorem f0_bd (v : Int) : 0 ≤ f0 v ∧ f0 v ≤ 4611686018427387906 := by
  unfold f0
  repeat' split
  all_goals omega
def f2 (v : Int) : Int := if v = 2 then 0 else 4611686018427387906
theorem f2_bd (v : Int) : 0 ≤ f2 v ∧ f2 v ≤ 4611686018427387906 := by
  unfold f2
  split <;> omega
theorem cert0 (ids : List Int) (b : Int) (h : NM.Wk M3 0 b ids) : f0 b ≤ NM.csum M3 ids := by
  have h1 := NM.cert f0_bd (fun u z hz => by
    rcases open3 hz with ⟨rfl, rfl, e1, e2⟩ | ⟨rfl, rfl, e1, e2⟩ | ⟨rfl, rfl, e1, e2⟩ <;> rw [e1, e2] <;> decide +kernel) ids 0 b h
  have bc := NM.csum_bd M3 ids
  rwa [show f0 0 = 0 from rfl, NM.zero_two bc.1 bc.2] at h1
theorem cert2 (ids : List Int) (b : Int) (h : NM.Wk M3 2 b ids) : f2 b ≤ NM.csum M3 ids := by
  have h1 := NM.cert f2_bd (fun u z hz => by
    rcases open3 hz with ⟨rfl, rfl, e1, e2⟩ | ⟨rfl, rfl, e1, e2⟩ | ⟨rfl, rfl, e1, e2⟩ <;> rw [e1, e2] <;> decide +kernel) ids 2 b h
  have bc := NM.csum_bd M3 ids
  rwa [show f2 2 = 0 from rfl, NM.zero_two bc.1 bc.2] at h1
theorem wk4 : NM.Wk M3 0 1 [4] := by unfold NM.Wk; decide +kernel
theorem wk42 : NM.Wk M3 0 2 [4, 2] := by unfold NM.Wk; decide +kernel
theorem dist0 : NM.dist M3 0 = f0 := by
  funext v
  refine NM.dist_eq ⟨(f0_bd v).1, (f0_bd v).2, fun ids h => cert0 ids v h, ?_⟩
  by_cases h0 : v = 0
  · subst h0
    exact .inr ⟨[], NM.wk_nil _ _, rfl⟩
  · by_cases h1 : v = 1
    · subst h1
      exact .inr ⟨[4], wk4, by decide +kernel⟩
    · by_cases h2 : v = 2
      · subst h2
        exact .inr ⟨[4, 2], wk42, by decide +kernel⟩
      · left
        unfold f0
        rw [if_neg h0, if_neg h1, if_neg h2]
theorem dist20 : NM.dist M3 2 0 = 4611686018427387906 := NM.dist_eq ⟨by decide, by decide, fun ids h => cert2 ids 0 h, .inl rfl⟩
theorem row0 : NM.rowFrom M3 3 0 = [0, 5, 10] := by
  unfold NM.rowFrom
  rw [dist0]
  decide +kernel
theorem path02 : NM.path M3 0 2 = [4, 2] := by
  unfold NM.path
  rw [dist0]
  decide +kernel
section
variable {w : World} {p : Nat}
theorem s1 (h : GMem w p 3 4 GM.none0) : Calls Try.prog 17 #[.pointer (some ⟨p, 0, none⟩), .int .i64 4, .agg #[.int .i64 0, .int .i64 1, .int .i64 5, .bool false]] w fun e w' => e = .returned (.int .i64 0) ∧ GMem w' p 3 4 M1 ∧ Keeps (fun b => b = p) w w' := by
  have := insert_any h g0 4 A
  rw [c1, m1] at this
  exact this
theorem s2 (h : GMem w p 3 4 M1) : Calls Try.prog 17 #[.pointer (some ⟨p, 0, none⟩), .int .i64 2, .agg #[.int .i64 1, .int .i64 2, .int .i64 5, .bool false]] w fun e w' => e = .returned (.int .i64 0) ∧ GMem w' p 3 4 M2 ∧ Keeps (fun b => b = p) w w' := by
  have := insert_any h g1 2 B
  rw [c2, m2] at this
  exact this
theorem s3 (h : GMem w p 3 4 M2) : Calls Try.prog 17 #[.pointer (some ⟨p, 0, none⟩), .int .i64 1, .agg #[.int .i64 0, .int .i64 2, .int .i64 11, .bool false]] w fun e w' => e = .returned (.int .i64 0) ∧ GMem w' p 3 4 M3 ∧ Keeps (fun b => b = p) w w' := by
  have := insert_any h g2 1 C
  rw [c3, m3] at this
  exact this
theorem s4 (h : GMem w p 3 4 M3) : Calls Try.prog 15 #[.pointer (some ⟨p, 0, none⟩), .int .i64 0] w fun e w' => ∃ v, e = .returned (.tuple #[v, .int .i64 0]) ∧ Row .i64 w' v [0, 5, 10] ∧ Below w.heap.size w w' := by
  refine (from_any h g3 (by decide) inn 0 (by decide)).mono ?_
  rintro e w' ⟨fb, rfl, ho, hb⟩
  refine ⟨_, rfl, ?_, hb⟩
  have := ho.row
  rwa [show ((0 : Nat) : Int) = 0 from rfl, row0] at this
theorem s5 (h : GMem w p 3 4 M3) : Calls Try.prog 14 #[.pointer (some ⟨p, 0, none⟩), .int .i64 0, .int .i64 2] w fun e w' => ∃ v, e = .returned (.tuple #[v, .int .i64 10, .int .i64 0]) ∧ Row .i64 w' v [4, 2] ∧ Below w.heap.size w w' := by
  refine (path_any h g3 (by decide) inn 0 2 (by decide) (by decide)).mono ?_
  rintro e w' ⟨r, d, c, rfl, hb, hc⟩
  rw [show ((0 : Nat) : Int) = 0 from rfl, show ((2 : Nat) : Int) = 2 from rfl, dist0, path02, show f0 2 = 10 from rfl] at hc
  rcases hc with ⟨h1, -⟩ | ⟨h1, -⟩ | ⟨-, h1, rfl, rfl⟩
  · exact absurd h1 (by decide)
  · exact absurd h1 (by decide)
  · exact ⟨_, rfl, h1.row, hb⟩
theorem s6 (h : GMem w p 3 4 M3) : Calls Try.prog 14 #[.pointer (some ⟨p, 0, none⟩), .int .i64 2, .int .i64 0] w fun e w' => e = .returned (.tuple #[.slice none 0 0, .int .i64 0, .int .i64 3]) ∧ Below w.heap.size w w' := by
  refine (path_any h g3 (by decide) inn 2 0 (by decide) (by decide)).mono ?_
  rintro e w' ⟨r, d, c, rfl, hb, hc⟩
  rw [show ((0 : Nat) : Int) = 0 from rfl, show ((2 : Nat) : Int) = 2 from rfl, dist20] at hc
  rcases hc with ⟨-, rfl, rfl, rfl⟩ | ⟨h1, -⟩ | ⟨h1, -⟩
  · exact ⟨rfl, hb⟩
  · exact absurd h1 (by decide)
  · exact absurd h1 (by decide)
end
end NA
end Go.Proofs.Ytmamligiopbefaa
end
