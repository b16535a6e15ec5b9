/-
  The walk of the law GraphPlays.
-/
import Derived.Test.YthoihkkabgedgaaGraphSame
import Derived.Test.YthoihkkabgedgaaGraphAwake
import Derived.Test.YthoihkkabgedgaaGraphActs
namespace Go.Proofs.Ythoihkkabgedgaa
open Go.RowKit

/-- The program's graph and the document's, alike, each in a block of its own behind B. -/
structure Both (W : World) (B p q N most : Nat) (m : GM.M) : Prop where
  g : GMem W p N most m
  r : RMem W q N most m
  ok : GM.Good most m
  lp : B ≤ p
  lq : B ≤ q
  ne : p ≠ q
  sz : B ≤ W.heap.size
theorem Both.on {W W' : World} {B p q N most : Nat} {m : GM.M} (h : Both W B p q N most m) (hb : Below W.heap.size W W') : Both W' B p q N most m := ⟨h.g.on hb, h.r.on hb, h.ok, h.lp, h.lq, h.ne, Nat.le_trans h.sz hb.size⟩
/-- Both are changed, one behind the other. -/
theorem Both.step {W W1 W2 : World} {B p q N most : Nat} {m m' : GM.M} (h : Both W B p q N most m) (hk : Keeps (fun b => b = p) W W1) (hg : GMem W1 p N most m') (hk2 : Keeps (fun b => b = q) W1 W2) (hr : RMem W2 q N most m') (hm : GM.Good most m') : Both W2 B p q N most m' ∧ Below B W W2 :=
  ⟨⟨hg.kept hk2 h.ne, hr, hm, h.lp, h.lq, h.ne, Nat.le_trans (Nat.le_trans h.sz hk.size) hk2.size⟩, (hk.rest h.lp h.sz).trans (hk2.rest h.lq (Nat.le_trans h.sz hk.size))⟩

set_option maxHeartbeats 4000000 in
set_option maxRecDepth 100000 in
theorem plays_walk (n most : Int) (v : Value) (xs : List Chg) (w : World) (hch : Chgs w v xs) :
    Calls Try.prog 3 #[.int .i64 n, .int .i64 most, v] w fun e w' => e = .returned (.bool true) ∧ Below w.heap.size w w' := by
  obtain ⟨ao, cap, rfl, hml, hcells⟩ := hch
  have HC : Hid (0 < xs.length → ∃ b o, ao = some ⟨b, o, none⟩ ∧ b < w.heap.size ∧ ∀ i, i < xs.length → ChgIn w b (o + i * 6) (chgAt xs i)) := hcells
  have hml' : xs.length ≤ 9223372036854775807 := by unfold maxLen at hml; omega
  have haw := awake_any w
  have hmay := fun W => may_any n most W
  clear hcells hml
  by_cases hn : 1 ≤ n ∧ n ≤ 24 ∧ 1 ≤ most ∧ most ≤ 64
  · rw [show may n most = true from decide_eq_true hn] at hmay
    obtain ⟨N, rfl⟩ : ∃ k : Nat, n = k := ⟨n.toNat, by omega⟩
    obtain ⟨M, rfl⟩ : ∃ k : Nat, most = k := ⟨most.toNat, by omega⟩
    have HMY : Hid (∀ W, Calls Try.prog 10 #[.int .i64 N, .int .i64 M] W fun e w' => e = .returned (.bool true) ∧ w' = W) := hmay
    have h1 : 1 ≤ N := by omega
    have h2 : N ≤ 24 := by omega
    have h3 : 1 ≤ M := by omega
    have h4 : M ≤ 64 := by omega
    clear hn hmay
    obtain ⟨L, hL⟩ : ∃ L, L = xs.length := ⟨_, rfl⟩
    rw [← hL] at HC hml' ⊢
    clear hL
    go_enter Try.func3, Try.ntmps3
    go_wp2_with fail
    refine haw.mono ?_
    rintro e w1 ⟨rfl, hb1⟩
    have hnew := new_ok N M h1 h2 h3 h4 w1
    clear haw h1 h2 h3 h4
    go_wp2_with fail
    refine hnew.mono ?_
    rintro e w2 ⟨p, rfl, hp, hg2, hb2⟩
    have hs1 := hb1.size
    have hs2 := hb2.size
    have hb2' := below_on hb1 hb2
    have hpl := hg2.lt
    have hpw : w.heap.size ≤ p := by omega
    clear hnew hp
    go_wp2_with fail
    refine (HMY.out w2).mono ?_
    rintro e w9 ⟨rfl, hw9⟩
    rw [hw9]
    clear hw9 w9 HMY
    have hrn := rnew_any N M w2
    go_wp2_with fail
    refine hrn.mono ?_
    rintro e w3 ⟨q, rfl, hq, hr3, hb3⟩
    have ho3 : Both w3 w.heap.size p q N M GM.none0 := ⟨hg2.on hb3, hr3, GM.Good.zero M, hpw, by omega, by omega, by have := hb3.size; omega⟩
    have hb3' := below_on hb2' hb3
    clear hrn hg2 hr3 hb3 hb2 hb2' hb1 hpl hpw hq hs1 hs2
    go_wp2_with fail
    go_loopw [10] (fun iv wr => ∃ (k : Nat) (m : GM.M), k ≤ L ∧ iv = .int .i64 k ∧ Both wr w.heap.size p q N M m ∧ Below w.heap.size w wr) (fun iv _ => L - (intOf iv).toNat)
    case atStart => exact ⟨0, _, Nat.zero_le _, rfl, ho3, hb3'⟩
    case round =>
      obtain ⟨k, m, hk, rfl, ho, hbr⟩ := hrel
      clear ho3 hb3'
      have HO : Hid (Both wr w.heap.size p q N M m) := ho
      have HB : Hid (Below w.heap.size w wr) := hbr
      by_cases hlt : k < L ∧ k < 150
      · obtain ⟨b, o, rfl, hbl, hc⟩ := HC.out (by omega)
        have HCI : Hid (∀ W, Below w.heap.size w W → ChgIn W b (o + k * 6) (chgAt xs k)) := fun W hW => by
          obtain ⟨x0, x1, x2, x3, x4, x5⟩ := hc k hlt.1
          exact ⟨(hW.cell (p := ⟨b, _, none⟩) hbl).trans x0, (hW.cell (p := ⟨b, _, none⟩) hbl).trans x1, (hW.cell (p := ⟨b, _, none⟩) hbl).trans x2, (hW.cell (p := ⟨b, _, none⟩) hbl).trans x3, (hW.cell (p := ⟨b, _, none⟩) hbl).trans x4, (hW.cell (p := ⟨b, _, none⟩) hbl).trans x5⟩
        obtain ⟨c0, c1, c2, c3, c4, c5⟩ := HCI.out wr hbr
        have HGN : Hid (GM.Good M (GM.next N M m (chgAt xs k))) := GM.good_next ho.ok _
        have CD : Hid (∀ W, GMem W p N M m → Calls Try.prog 12 #[.pointer (some ⟨p, 0, none⟩), chgV (chgAt xs k)] W fun e w' => e = .returned (.int .i64 (GM.code N M m (chgAt xs k))) ∧ GMem w' p N M (GM.next N M m (chgAt xs k)) ∧ Keeps (fun b => b = p) W w') := fun W hW => do_any hW HO.out.ok _
        have CR : Hid (∀ W, RMem W q N M m → Calls Try.prog 13 #[.pointer (some ⟨q, 0, none⟩), chgV (chgAt xs k)] W fun e w' => e = .returned (.int .i64 (GM.code N M m (chgAt xs k))) ∧ RMem w' q N M (GM.next N M m (chgAt xs k)) ∧ Keeps (fun b => b = q) W w') := fun W hW => doref_any hW _
        generalize chgAt xs k = x at *
        generalize GM.code N M m x = cd at *
        generalize GM.next N M m x = m2 at *
        obtain ⟨kd, id, t, h, y, cl⟩ := x
        unfold chgV at CD CR
        dsimp only at c0 c1 c2 c3 c4 c5 CD CR
        have CELL : Hid (∀ W, Below w.heap.size w W → W.cell? ⟨b, o + k * 6, none⟩ = some (.int .i64 kd) ∧ W.cell? ⟨b, o + k * 6 + 1, none⟩ = some (.int .i64 id) ∧ W.cell? ⟨b, o + k * 6 + 2, none⟩ = some (.int .i64 t) ∧ W.cell? ⟨b, o + k * 6 + 3, none⟩ = some (.int .i64 h) ∧ W.cell? ⟨b, o + k * 6 + 4, none⟩ = some (.int .i64 y) ∧ W.cell? ⟨b, o + k * 6 + 5, none⟩ = some (.bool cl)) := fun W hW => HCI.out W hW
        have hod := ho.on ((Below.refl _ wr).drew)
        have hbd : Below w.heap.size w wr.drew := hbr.drew
        have HOD : Hid (Both wr.drew w.heap.size p q N M m) := hod
        have HBD : Hid (Below w.heap.size w wr.drew) := hbd
        have k1 : (k : Int) < (L : Int) := by omega
        have k2 : (k : Int) < 150 := by omega
        clear hc ho hbr hod hbd HCI HC
        go_upto_region 12 with fail
        go_cut [66] (fun s wx => s = .bool false ∧ Both wx w.heap.size p q N M m2 ∧ Below w.heap.size w wx)
        case first =>
          go_region_held3 (fun w' => w'.cell? ⟨b, o + k * 6, none⟩ = some (.int .i64 kd) ∧ w'.cell? ⟨b, o + k * 6 + 1, none⟩ = some (.int .i64 id) ∧ w'.cell? ⟨b, o + k * 6 + 2, none⟩ = some (.int .i64 t) ∧ w'.cell? ⟨b, o + k * 6 + 3, none⟩ = some (.int .i64 h) ∧ w'.cell? ⟨b, o + k * 6 + 4, none⟩ = some (.int .i64 y) ∧ w'.cell? ⟨b, o + k * 6 + 5, none⟩ = some (.bool cl)) (first | exact CELL.out _ HB7.out | exact CELL.out _ HB6.out | exact CELL.out _ HB5.out | exact CELL.out _ HBD.out | exact CELL.out _ HB.out) (first
            | (go_at_call 14; refine (same_any HO6.out.g HO6.out.ok HO6.out.r).mono ?_; rintro e w7 ⟨rfl, hb7⟩; have HB7 : Hid (Below w.heap.size w w7) := below_on HB6.out hb7)
            | (go_at_call 13; refine (CR.out _ HR5.out).mono ?_; rintro e w6 ⟨rfl, hr6, hk6⟩; have HO6 : Hid (Both w6 w.heap.size p q N M m2) := (HOD.out.step HK5.out HG5.out hk6 hr6 HGN.out).1; have HB6 : Hid (Below w.heap.size w w6) := HBD.out.trans (HOD.out.step HK5.out HG5.out hk6 hr6 HGN.out).2)
            | (go_at_call 12; refine (CD.out _ HOD.out.g).mono ?_; rintro e w5 ⟨rfl, hg5, hk5⟩; have HG5 : Hid (GMem w5 p N M m2) := hg5; have HK5 : Hid (Keeps (fun b => b = p) wr.drew w5) := hk5; have HR5 : Hid (RMem w5 q N M m) := HOD.out.r.kept hk5 (fun e => HOD.out.ne e.symm); have HB5 : Hid (Below w.heap.size w w5) := HBD.out.trans (hk5.rest HOD.out.lp HOD.out.sz)))
          all_goals
            have HO7 : Hid (Both w7 w.heap.size p q N M m2) := HO6.out.on hb7
            go_wp2_with fail
            go_meet
            exact ⟨rfl, HO7.out, HB7.out⟩
        case rest =>
          obtain ⟨rfl, ho7, hb7⟩ := hcut
          have HO7 : Hid (Both wc w.heap.size p q N M m2) := ho7
          have HB7 : Hid (Below w.heap.size w wc) := hb7
          clear ho7 hb7 c0 c1 c2 c3 c4 c5
          go_wp2_with fail
          go_roundw
          case rel => exact ⟨k + 1, m2, by omega, by go_num, HO7.out, HB7.out⟩
          case measure => simp [intOf]; omega
      · have hal := same_any ho.g ho.ok ho.r
        clear ho hbr
        by_cases hl : k < L
        · have k1 : (k : Int) < (L : Int) := by omega
          have k2 : ¬ (k : Int) < 150 := by omega
          clear hlt
          go_wp2_with fail
          refine hal.mono ?_
          rintro e w5 ⟨rfl, hb5⟩
          go_wp2_with fail
          go_ret
          exact ⟨rfl, below_on HB.out hb5⟩
        · obtain rfl : k = L := by omega
          clear hlt
          go_wp2_with fail
          refine hal.mono ?_
          rintro e w5 ⟨rfl, hb5⟩
          go_wp2_with fail
          go_ret
          exact ⟨rfl, below_on HB.out hb5⟩
  · rw [show may n most = false from decide_eq_false hn] at hmay
    have HMY : Hid (∀ W, Calls Try.prog 10 #[.int .i64 n, .int .i64 most] W fun e w' => e = .returned (.bool false) ∧ w' = W) := hmay
    have hnw := fun W => new_no n most hn W
    have HNW : Hid (∀ W, Calls Try.prog 9 #[.int .i64 n, .int .i64 most] W fun e w' => e = .returned (.tuple #[.pointer none, .int .i64 1]) ∧ w' = W) := hnw
    clear hn hmay hnw HC
    generalize xs.length = L at *
    go_enter Try.func3, Try.ntmps3
    go_wp2_with fail
    refine haw.mono ?_
    rintro e w1 ⟨rfl, hb1⟩
    clear haw
    go_wp2_with fail
    refine (HNW.out w1).mono ?_
    rintro e w9 ⟨rfl, hw9⟩
    rw [hw9]
    clear hw9 w9 HNW
    go_wp2_with fail
    refine (HMY.out w1).mono ?_
    rintro e w9 ⟨rfl, hw9⟩
    rw [hw9]
    clear hw9 w9 HMY
    go_wp2_with fail
    go_ret
    exact ⟨rfl, hb1⟩
end Go.Proofs.Ythoihkkabgedgaa
