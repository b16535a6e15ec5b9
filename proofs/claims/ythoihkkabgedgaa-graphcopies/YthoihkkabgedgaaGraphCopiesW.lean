/-
  The walk of the law GraphCopies.
-/
import Derived.Test.YthoihkkabgedgaaGraphMade
import Derived.Test.YthoihkkabgedgaaGraphCopy
import Derived.Deep.CutBlock
namespace Go.Proofs.Ythoihkkabgedgaa
open Go.RowKit

namespace GM
/-- What is left behind k deletions, of the changes' own places. -/
def dels (N : Nat) (m : M) (xs : List Chg) : Nat → M
  | 0 => m
  | k + 1 => next N 64 (dels N m xs k) ⟨1, (chgAt xs k).id, noArc⟩
theorem good_dels {N : Nat} {m : M} (h : Good 64 m) (xs : List Chg) : ∀ k, Good 64 (dels N m xs k)
  | 0 => h
  | k + 1 => good_next (good_dels h xs k) _
theorem is_dels {N : Nat} {m : M} (h : Good 64 m) (xs : List Chg) (i : Nat) : ∀ k, is (dels N m xs k) i = true → is m i = true ∧ ∀ j, j < k → (chgAt xs j).id ≠ (i : Int)
  | 0, hi => ⟨hi, fun j hj => by omega⟩
  | k + 1, hi => by
    have hi' : is (del (dels N m xs k) (chgAt xs k).id) i = true := hi
    have hg := good_dels (N := N) h xs k
    have hk : is (dels N m xs k) i = true ∧ (chgAt xs k).id ≠ (i : Int) := by
      unfold del at hi'
      split at hi'
      · rename_i h0
        obtain ⟨j, hj, _, _⟩ := atCode_zero h0
        rw [hj, Int.toNat_natCast, is_upd] at hi'
        split at hi'
        · cases hi'
        · rename_i e
          exact ⟨hi', by rw [hj]; omega⟩
      · rename_i h0
        refine ⟨hi', fun e => h0 ?_⟩
        rw [e]
        have hlt : i < 64 := by
          by_cases hl : i < 64
          · exact hl
          · have := hg.out i (by omega)
            unfold is at hi'
            rw [this] at hi'
            cases hi'
        unfold atCode
        rw [if_pos (show place i = true from decide_eq_true (by omega)), Int.toNat_natCast, hi']
        rfl
    obtain ⟨h1, h2⟩ := is_dels h xs i k hk.1
    refine ⟨h1, fun j hj => ?_⟩
    by_cases e : j = k
    · subst e; exact hk.2
    · exact h2 j (by omega)
theorem ids_none {m : M} (h : ∀ i, is m i = false) : ∀ k, ids m k = []
  | 0 => rfl
  | k + 1 => by rw [ids_skip (h k), ids_none h k]
/-- All that was made is deleted. -/
theorem all_gone (N : Nat) (xs : List Chg) (k : Nat) (hN : 1 ≤ N) : cnt (dels N (made N xs k) xs k) = 0 ∧ iids (dels N (made N xs k) xs k) 64 = [] ∧ insCode N 64 (dels N (made N xs k) xs k) 0 ⟨0, 0, 1, false⟩ = 0 := by
  have hn : ∀ i, is (dels N (made N xs k) xs k) i = false := fun i => by
    cases hi : is (dels N (made N xs k) xs k) i with
    | false => rfl
    | true =>
      obtain ⟨h1, h2⟩ := is_dels (good_made N xs k) xs i k hi
      obtain ⟨j, hj, e⟩ := is_made N xs i k h1
      exact absurd e (h2 j hj)
  have h0 : cnt (dels N (made N xs k) xs k) = 0 := by
    unfold cnt
    rw [ids_none hn]
    rfl
  refine ⟨h0, ?_, ?_⟩
  · unfold iids
    rw [ids_none hn]
    rfl
  · unfold insCode
    rw [if_pos (by simp [place, vert, okW]; omega), hn, h0]
    rfl
end GM

/-- The copy and the document's graph, alike; what the copy was made of as it was. -/
structure Trio (W : World) (B p c q N : Nat) (m0 m : GM.M) : Prop where
  two : Both W B c q N 64 m
  g : GMem W p N 64 m0
  lp : B ≤ p
  np : p ≠ c
  nq : p ≠ q
theorem Trio.step {W W1 W2 : World} {B p c q N : Nat} {m0 m m' : GM.M} (h : Trio W B p c q N m0 m) (hk : Keeps (fun b => b = c) W W1) (hg : GMem W1 c N 64 m') (hk2 : Keeps (fun b => b = q) W1 W2) (hr : RMem W2 q N 64 m') (hm : GM.Good 64 m') : Trio W2 B p c q N m0 m' ∧ Below B W W2 := by
  obtain ⟨h1, h2⟩ := h.two.step hk hg hk2 hr hm
  exact ⟨⟨h1, (h.g.kept hk h.np).kept hk2 h.nq, h.lp, h.np, h.nq⟩, h2⟩
theorem Trio.on {W W' : World} {B p c q N : Nat} {m0 m : GM.M} (h : Trio W B p c q N m0 m) (hb : Below W.heap.size W W') : Trio W' B p c q N m0 m := ⟨h.two.on hb, h.g.on hb, h.lp, h.np, h.nq⟩

set_option maxHeartbeats 4000000 in
set_option maxRecDepth 100000 in
theorem copies_walk (n : Int) (v : Value) (xs : List Chg) (v2 : Value) (ys : List Chg) (w : World) (hn0 : 0 ≤ n) (hn1 : n ≤ 255) (hch : Chgs w v xs) (hch2 : Chgs w v2 ys) :
    Calls Try.prog 5 #[.int .u8 n, v, v2] w fun e w' => e = .returned (.bool true) ∧ Below w.heap.size w w' := by
  have haw := awake_any w
  have HMD : Hid (∀ W, Below w.heap.size w W → Calls Try.prog 15 #[.int .u8 n, v] W fun e w' => ∃ p q, e = .returned (.tuple #[.pointer (some ⟨p, 0, none⟩), .pointer (some ⟨q, 0, none⟩)]) ∧ ∃ N, (1 ≤ N ∧ N ≤ 24) ∧ Both w' W.heap.size p q N 64 (GM.made N xs (min xs.length 150)) ∧ Below W.heap.size W w') := fun W hW => made_any n v xs W hn0 hn1 (hch.on hW)
  clear hn0 hn1
  obtain ⟨ao, cap, rfl, hml, hcells⟩ := hch
  obtain ⟨bo, cap2, rfl, hml2, hcells2⟩ := hch2
  have HC : Hid (0 < xs.length → ∃ b o, ao = some ⟨b, o, none⟩ ∧ b < w.heap.size ∧ ∀ i, i < xs.length → ChgIn w b (o + i * 6) (chgAt xs i)) := hcells
  have HD : Hid (0 < ys.length → ∃ b o, bo = some ⟨b, o, none⟩ ∧ b < w.heap.size ∧ ∀ i, i < ys.length → ChgIn w b (o + i * 6) (chgAt ys i)) := hcells2
  have hml' : xs.length ≤ 9223372036854775807 := by unfold maxLen at hml; omega
  have hml2' : ys.length ≤ 9223372036854775807 := by unfold maxLen at hml2; omega
  clear hcells hcells2 hml hml2
  obtain ⟨L, hL⟩ : ∃ L, L = xs.length := ⟨_, rfl⟩
  obtain ⟨K, hK⟩ : ∃ K, K = ys.length := ⟨_, rfl⟩
  rw [← hL] at HC hml' HMD ⊢
  rw [← hK] at HD hml2' ⊢
  clear hL hK
  go_enter Try.func5, Try.ntmps5
  go_wp2_with fail
  refine haw.mono ?_
  rintro e w1 ⟨rfl, hb1⟩
  clear haw
  go_wp2_with fail
  refine (HMD.out w1 hb1).mono ?_
  rintro e w2 ⟨p, q, rfl, N, hN, ho2, hb2⟩
  have HGONE : Hid (GM.cnt (GM.dels N (GM.made N xs (min L 150)) xs (min L 150)) = 0 ∧ GM.iids (GM.dels N (GM.made N xs (min L 150)) xs (min L 150)) 64 = [] ∧ GM.insCode N 64 (GM.dels N (GM.made N xs (min L 150)) xs (min L 150)) 0 ⟨0, 0, 1, false⟩ = 0) := GM.all_gone N xs _ hN.1
  have hbb2 := below_on hb1 hb2
  have hwl : w.heap.size ≤ w1.heap.size := hb1.size
  have HM0 : Hid (GM.Good 64 (GM.made N xs (min L 150))) := GM.good_made N xs _
  generalize GM.made N xs (min L 150) = m0 at *
  have hcp := copy_any ho2.g
  have hpl := ho2.g.lt
  have hql := ho2.r.lt
  clear HMD hN hb1 hb2
  go_wp2_with fail
  refine hcp.mono ?_
  rintro e w3 ⟨c, rfl, hc, hg3, hb3⟩
  have hbb3 := below_on hbb2 hb3
  have ho3 : Both w3 w.heap.size c q N 64 m0 := ⟨hg3, ho2.r.on hb3, ho2.ok, by have := hbb2.size; omega, by have := ho2.lq; omega, by omega, hbb3.size⟩
  have ht3 : Trio w3 w.heap.size p c q N m0 m0 := ⟨ho3, ho2.g.on hb3, by have := ho2.lp; omega, by omega, ho2.ne⟩
  have hsm := same_any ho3.g ho3.ok ho3.r
  have HT3 : Hid (Trio w3 w.heap.size p c q N m0 m0) := ht3
  clear hcp hg3 ho2 ho3 ht3 hc hb3 hpl hql hwl hbb2
  go_wp2_with fail
  refine hsm.mono ?_
  rintro e w4 ⟨rfl, hb4⟩
  have HT4 : Hid (Trio w4 w.heap.size p c q N m0 m0) := HT3.out.on hb4
  have HB4 : Hid (Below w.heap.size w w4) := below_on hbb3 hb4
  clear hsm hb4 hbb3 HT3
  go_upto_block 0 with fail
  go_cut [10] from 33 to 55 (fun _ wx => ∃ m, Trio wx w.heap.size p c q N m0 m ∧ Below w.heap.size w wx)
  case first =>
    go_wp2_with fail
    go_loopw [10] (fun iv wr => ∃ (k : Nat) (m : GM.M), k ≤ K ∧ iv = .int .i64 k ∧ Trio wr w.heap.size p c q N m0 m ∧ Below w.heap.size w wr) (fun iv _ => K - (intOf iv).toNat)
    case atStart => exact ⟨0, m0, Nat.zero_le _, rfl, HT4.out, HB4.out⟩
    case round =>
      obtain ⟨k, m, hk, rfl, ho, hbr⟩ := hrel
      clear HT4 HB4
      have HO : Hid (Trio wr w.heap.size p c q N m0 m) := ho
      have HB : Hid (Below w.heap.size w wr) := hbr
      by_cases hlt : k < K ∧ k < 150
      · obtain ⟨b, o, rfl, hbl, hc⟩ := HD.out (by omega)
        have HCI : Hid (∀ W, Below w.heap.size w W → ChgIn W b (o + k * 6) (chgAt ys k)) := fun W hW => by
          obtain ⟨x0, x1, x2, x3, x4, x5⟩ := hc k hlt.1
          exact ⟨(hW.cell (p := ⟨b, _, none⟩) hbl).trans x0, (hW.cell (p := ⟨b, _, none⟩) hbl).trans x1, (hW.cell (p := ⟨b, _, none⟩) hbl).trans x2, (hW.cell (p := ⟨b, _, none⟩) hbl).trans x3, (hW.cell (p := ⟨b, _, none⟩) hbl).trans x4, (hW.cell (p := ⟨b, _, none⟩) hbl).trans x5⟩
        obtain ⟨c0, c1, c2, c3, c4, c5⟩ := HCI.out wr hbr
        have HGN : Hid (GM.Good 64 (GM.next N 64 m (chgAt ys k))) := GM.good_next ho.two.ok _
        have CD : Hid (∀ W, GMem W c N 64 m → Calls Try.prog 12 #[.pointer (some ⟨c, 0, none⟩), chgV (chgAt ys k)] W fun e w' => e = .returned (.int .i64 (GM.code N 64 m (chgAt ys k))) ∧ GMem w' c N 64 (GM.next N 64 m (chgAt ys k)) ∧ Keeps (fun b => b = c) W w') := fun W hW => do_any hW HO.out.two.ok _
        have CR : Hid (∀ W, RMem W q N 64 m → Calls Try.prog 13 #[.pointer (some ⟨q, 0, none⟩), chgV (chgAt ys k)] W fun e w' => e = .returned (.int .i64 (GM.code N 64 m (chgAt ys k))) ∧ RMem w' q N 64 (GM.next N 64 m (chgAt ys k)) ∧ Keeps (fun b => b = q) W w') := fun W hW => doref_any hW _
        generalize chgAt ys k = x at *
        generalize GM.code N 64 m x = cd at *
        generalize GM.next N 64 m x = m2 at *
        obtain ⟨kd, id, t, h, y, cl⟩ := x
        unfold chgV at CD CR
        dsimp only at c0 c1 c2 c3 c4 c5 CD CR
        have CELL : Hid (∀ W, Below w.heap.size w W → W.cell? ⟨b, o + k * 6, none⟩ = some (.int .i64 kd) ∧ W.cell? ⟨b, o + k * 6 + 1, none⟩ = some (.int .i64 id) ∧ W.cell? ⟨b, o + k * 6 + 2, none⟩ = some (.int .i64 t) ∧ W.cell? ⟨b, o + k * 6 + 3, none⟩ = some (.int .i64 h) ∧ W.cell? ⟨b, o + k * 6 + 4, none⟩ = some (.int .i64 y) ∧ W.cell? ⟨b, o + k * 6 + 5, none⟩ = some (.bool cl)) := fun W hW => HCI.out W hW
        have HOD : Hid (Trio wr.drew w.heap.size p c q N m0 m) := ho.on ((Below.refl _ wr).drew)
        have HBD : Hid (Below w.heap.size w wr.drew) := hbr.drew
        have k1 : (k : Int) < (K : Int) := by omega
        have k2 : (k : Int) < 150 := by omega
        clear hc ho hbr HCI HC
        go_upto_region 12 with fail
        go_cut [55] (fun s wx => s = .bool false ∧ Trio wx w.heap.size p c q N m0 m2 ∧ Below w.heap.size w wx)
        case first =>
          go_region_held3 (fun w' => w'.cell? ⟨b, o + k * 6, none⟩ = some (.int .i64 kd) ∧ w'.cell? ⟨b, o + k * 6 + 1, none⟩ = some (.int .i64 id) ∧ w'.cell? ⟨b, o + k * 6 + 2, none⟩ = some (.int .i64 t) ∧ w'.cell? ⟨b, o + k * 6 + 3, none⟩ = some (.int .i64 h) ∧ w'.cell? ⟨b, o + k * 6 + 4, none⟩ = some (.int .i64 y) ∧ w'.cell? ⟨b, o + k * 6 + 5, none⟩ = some (.bool cl)) (first | exact CELL.out _ HB6.out | exact CELL.out _ HB5.out | exact CELL.out _ HBD.out | exact CELL.out _ HB.out) (first
            | (go_at_call 13; refine (CR.out _ HR5.out).mono ?_; rintro e w6 ⟨rfl, hr6, hk6⟩; have HO6 : Hid (Trio w6 w.heap.size p c q N m0 m2) := (HOD.out.step HK5.out HG5.out hk6 hr6 HGN.out).1; have HB6 : Hid (Below w.heap.size w w6) := HBD.out.trans (HOD.out.step HK5.out HG5.out hk6 hr6 HGN.out).2)
            | (go_at_call 12; refine (CD.out _ HOD.out.two.g).mono ?_; rintro e w5 ⟨rfl, hg5, hk5⟩; have HG5 : Hid (GMem w5 c N 64 m2) := hg5; have HK5 : Hid (Keeps (fun b => b = c) wr.drew w5) := hk5; have HR5 : Hid (RMem w5 q N 64 m) := HOD.out.two.r.kept hk5 (fun e => HOD.out.two.ne e.symm); have HB5 : Hid (Below w.heap.size w w5) := HBD.out.trans (hk5.rest HOD.out.two.lp HOD.out.two.sz)))
          all_goals
            go_wp2_with fail
            go_meet
            exact ⟨by simp, HO6.out, HB6.out⟩
        case rest =>
          obtain ⟨rfl, ho7, hb7⟩ := hcut
          have HO7 : Hid (Trio wc w.heap.size p c q N m0 m2) := ho7
          have HB7 : Hid (Below w.heap.size w wc) := hb7
          clear ho7 hb7 c0 c1 c2 c3 c4 c5
          go_wp2_with fail
          go_roundw
          case rel => exact ⟨k + 1, m2, by omega, by go_num, HO7.out, HB7.out⟩
          case measure => simp [intOf]; omega
      · have hend : ((k : Int) < (K : Int) ∧ ¬ (k : Int) < 150) ∨ ¬ (k : Int) < (K : Int) := by omega
        clear hlt ho hbr
        rcases hend with ⟨k1, k2⟩ | k1
        · go_wp2_with fail
          go_meet
          exact ⟨m, HO.out, HB.out⟩
        · go_wp2_with fail
          go_meet
          exact ⟨m, HO.out, HB.out⟩
  case rest =>
  obtain ⟨m, ho, hbr⟩ := hcut
  clear HT4 HB4 HD
  have hcp := copy_any ho.two.g
  have hcl := ho.two.g.lt
  have hql := ho.two.r.lt
  have hpl := ho.g.lt
  go_wp2_with fail
  refine hcp.mono ?_
  rintro e w5 ⟨d, rfl, hd, hg5, hb5⟩
  have HO5 : Hid (Trio w5 w.heap.size p c q N m0 m) := ho.on hb5
  have HB5 : Hid (Below w.heap.size w w5) := below_on hbr hb5
  have HD5 : Hid (GMem w5 d N 64 m) := hg5
  have HPD : Hid (p ≠ d) := by show _ ≠ _; omega
  clear hcp ho hbr hb5 hg5 hd hcl hql hpl
  go_upto_block 2 with fail
  go_cut [12] from 58 to 75 (fun _ wx => GMem wx p N 64 (GM.dels N m0 xs (min L 150)) ∧ Keeps (fun b => b = p) w5 wx)
  case first =>
    go_wp2_with fail
    go_loopw [12] (fun iv wr => ∃ k : Nat, k ≤ L ∧ k ≤ 150 ∧ iv = .int .i64 k ∧ GMem wr p N 64 (GM.dels N m0 xs k) ∧ Keeps (fun b => b = p) w5 wr) (fun iv _ => L - (intOf iv).toNat)
    case atStart => exact ⟨0, Nat.zero_le _, by decide, rfl, HO5.out.g, Keeps.refl _ _⟩
    case round =>
      obtain ⟨k, hk, hk2, rfl, hg, hkr⟩ := hrel
      have HG : Hid (GMem wr p N 64 (GM.dels N m0 xs k)) := hg
      have HKR : Hid (Keeps (fun b => b = p) w5 wr) := hkr
      by_cases hlt : k < L ∧ k < 150
      · obtain ⟨b, o, rfl, hbl, hc⟩ := HC.out (by omega)
        have hbw : Below w.heap.size w wr := HB5.out.trans (hkr.rest HO5.out.lp HB5.out.size)
        have c1 := (hbw.cell (p := ⟨b, _, none⟩) hbl).trans (hc k hlt.1).2.1
        have hdo := do_any hg (GM.good_dels HM0.out xs k) ⟨1, (chgAt xs k).id, noArc⟩
        have HE : Hid (GM.dels N m0 xs (k + 1) = GM.next N 64 (GM.dels N m0 xs k) ⟨1, (chgAt xs k).id, noArc⟩) := rfl
        rw [← HE.out] at hdo
        unfold chgV noArc at hdo
        dsimp only at hdo
        generalize GM.code N 64 (GM.dels N m0 xs k) ⟨1, (chgAt xs k).id, ⟨0, 0, 0, false⟩⟩ = cod at *
        generalize (chgAt xs k).id = id at *
        have k1 : (k : Int) < (L : Int) := by omega
        have k2 : (k : Int) < 150 := by omega
        clear hc hg hkr HE hbw
        go_wp2_with fail
        refine hdo.mono ?_
        rintro e w6 ⟨rfl, hg6, hk6⟩
        have HG6 : Hid (GMem w6 p N 64 (GM.dels N m0 xs (k + 1))) := hg6
        have HK6 : Hid (Keeps (fun b => b = p) w5 w6) := HKR.out.trans hk6 (fun _ h => .inl h)
        clear hdo hg6 hk6 c1
        go_wp2_with fail
        go_roundw
        case rel => exact ⟨k + 1, by omega, by omega, by go_num, HG6.out, HK6.out⟩
        case measure => simp [intOf]; omega
      · have HMIN : Hid (min L 150 = k) := by show _ = _; omega
        have hend : ((k : Int) < (L : Int) ∧ ¬ (k : Int) < 150) ∨ ¬ (k : Int) < (L : Int) := by omega
        clear hlt hg hkr
        rcases hend with ⟨k1, k2⟩ | k1
        · go_wp2_with fail
          go_meet
          exact ⟨by rw [HMIN.out]; exact HG.out, HKR.out⟩
        · go_wp2_with fail
          go_meet
          exact ⟨by rw [HMIN.out]; exact HG.out, HKR.out⟩
  case rest =>
  obtain ⟨hg6, hk6⟩ := hcut
  obtain ⟨z1, z2, z3⟩ := HGONE.out
  have HGO : Hid (GM.Good 64 (GM.dels N m0 xs (min L 150))) := GM.good_dels HM0.out xs _
  generalize GM.dels N m0 xs (min L 150) = mz at *
  have HBB6 : Hid (Below w.heap.size w wc) := HB5.out.trans (hk6.rest HO5.out.lp HB5.out.size)
  have HGC6 : Hid (GMem wc c N 64 m) := HO5.out.two.g.kept hk6 (fun e => HO5.out.np e.symm)
  have HRQ6 : Hid (RMem wc q N 64 m) := HO5.out.two.r.kept hk6 (fun e => HO5.out.nq e.symm)
  have HGD6 : Hid (GMem wc d N 64 m) := HD5.out.kept hk6 (fun e => HPD.out e.symm)
  have HOK : Hid (GM.Good 64 m) := HO5.out.two.ok
  have HP : Hid (w.heap.size ≤ p ∧ p ≠ c ∧ p ≠ q) := ⟨HO5.out.lp, HO5.out.np, HO5.out.nq⟩
  have hpl := hg6.lt
  have s1 := same_any HGC6.out HOK.out HRQ6.out
  clear HGONE HC HD5 HPD HO5 HB5 hk6
  go_wp2_with fail
  refine s1.mono ?_
  rintro e w7 ⟨rfl, hb7⟩
  have s2 := same_any (HGD6.out.on hb7) HOK.out (HRQ6.out.on hb7)
  clear s1
  go_wp2_with fail
  refine s2.mono ?_
  rintro e w8 ⟨rfl, hb8⟩
  have hb8' := below_on hb7 hb8
  have s3 := len_any (hg6.on hb8') HGO.out
  rw [z1] at s3
  clear s2 hb7 hb8
  go_wp2_with fail
  refine s3.mono ?_
  rintro e w9 ⟨rfl, hb9⟩
  have hb9' := below_on hb8' hb9
  have s4 := ids_any (hg6.on hb9') HGO.out
  rw [z2] at s4
  clear s3 hb8' hb9
  go_wp2_with fail
  refine s4.mono ?_
  rintro e w10 ⟨r, rfl, ho10, hb10⟩
  obtain ⟨a10, c10, rfl, -⟩ := ho10.at
  have hb10' := below_on hb9' hb10
  have s5 := insert_any (hg6.on hb10') HGO.out 0 ⟨0, 0, 1, false⟩
  rw [z3] at s5
  unfold arcV at s5
  dsimp only at s5
  clear s4 hb9' hb10 ho10
  go_wp2_with fail
  refine s5.mono ?_
  rintro e w11 ⟨rfl, -, hk11⟩
  have s6 := same_any ((HGC6.out.on hb10').kept hk11 (fun e => HP.out.2.1 e.symm)) HOK.out ((HRQ6.out.on hb10').kept hk11 (fun e => HP.out.2.2 e.symm))
  have HB11 : Hid (Below w.heap.size w w11) := by
    have h1 := below_on HBB6.out hb10'
    exact h1.trans (hk11.rest HP.out.1 h1.size)
  clear s5 hb10' hk11
  go_wp2_with fail
  refine s6.mono ?_
  rintro e w12 ⟨rfl, hb12⟩
  clear s6
  go_wp2_with fail
  go_ret
  exact ⟨rfl, below_on HB11.out hb12⟩
end Go.Proofs.Ythoihkkabgedgaa
