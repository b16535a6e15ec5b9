/-
  The walk of the law GraphRefuses.
-/
import Derived.Test.YthoihkkabgedgaaGraphBack
import Derived.Test.YthoihkkabgedgaaGraphCopy
namespace Go.Proofs.Ythoihkkabgedgaa
open Go.RowKit

theorem chgIn_new (w : World) (c : Chg) : ChgIn (w.alloc (.cells #[.int .i64 c.kind, .int .i64 c.id, .int .i64 c.arc.tail, .int .i64 c.arc.head, .int .i64 c.arc.weight, .bool c.arc.closed] 35)) w.heap.size 0 c := by
  unfold ChgIn
  simp
theorem ChgIn.on {w W : World} {b : Nat} {c : Chg} (h : ChgIn w b 0 c) (hb : W.heap[b]? = w.heap[b]?) : ChgIn W b 0 c := by
  obtain ⟨x0, x1, x2, x3, x4, x5⟩ := h
  have e : ∀ j, W.cell? ⟨b, j, none⟩ = w.cell? ⟨b, j, none⟩ := fun j => World.cell?_of_block (a := ⟨b, j, none⟩) hb
  exact ⟨(e _).trans x0, (e _).trans x1, (e _).trans x2, (e _).trans x3, (e _).trans x4, (e _).trans x5⟩

set_option maxHeartbeats 4000000 in
set_option maxRecDepth 100000 in
theorem refuses_walk (n : Int) (v : Value) (xs : List Chg) (c : Chg) (w : World) (hn0 : 0 ≤ n) (hn1 : n ≤ 255) (hch : Chgs w v xs) :
    Calls Try.prog 6 #[.int .u8 n, v, chgV c] w fun e w' => e = .returned (.bool true) ∧ Below w.heap.size w w' := by
  have hb0 : Below w.heap.size w (w.alloc (.cells #[.int .i64 c.kind, .int .i64 c.id, .int .i64 c.arc.tail, .int .i64 c.arc.head, .int .i64 c.arc.weight, .bool c.arc.closed] 35)) := (Below.refl _ _).alloc (Nat.le_refl _) _
  have hci := chgIn_new w c
  have hs0 : w.heap.size < (w.alloc (.cells #[.int .i64 c.kind, .int .i64 c.id, .int .i64 c.arc.tail, .int .i64 c.arc.head, .int .i64 c.arc.weight, .bool c.arc.closed] 35)).heap.size := by simp
  have haw := awake_any (w.alloc (.cells #[.int .i64 c.kind, .int .i64 c.id, .int .i64 c.arc.tail, .int .i64 c.arc.head, .int .i64 c.arc.weight, .bool c.arc.closed] 35))
  have HMD : Hid (∀ W, Below w.heap.size w W → Calls Try.prog 15 #[.int .u8 n, v] W fun e w' => ∃ p q, e = .returned (.tuple #[.pointer (some ⟨p, 0, none⟩), .pointer (some ⟨q, 0, none⟩)]) ∧ ∃ N, (1 ≤ N ∧ N ≤ 24) ∧ Both w' W.heap.size p q N 64 (GM.made N xs (min xs.length 150)) ∧ Below W.heap.size W w') := fun W hW => made_any n v xs W hn0 hn1 (hch.on hW)
  have HEN : Hid (∀ N, GM.Ends N (GM.made N xs (min xs.length 150))) := fun N => GM.ends_made N xs _
  clear hn0 hn1
  obtain ⟨ao, cap, rfl, -, -⟩ := hch
  generalize xs.length = L at *
  have e : chgV c = .agg #[.int .i64 c.kind, .int .i64 c.id, .int .i64 c.arc.tail, .int .i64 c.arc.head, .int .i64 c.arc.weight, .bool c.arc.closed] := rfl
  rw [e]
  clear e
  go_enter Try.func6, Try.ntmps6
  go_wp2_with fail
  generalize w.alloc (.cells #[.int .i64 c.kind, .int .i64 c.id, .int .i64 c.arc.tail, .int .i64 c.arc.head, .int .i64 c.arc.weight, .bool c.arc.closed] 35) = w0 at *
  refine haw.mono ?_
  rintro e w1 ⟨rfl, hb1⟩
  have hbb1 : Below w.heap.size w w1 := hb0.trans (hb1.mono (by omega))
  have hci1 : ChgIn w1 w.heap.size 0 c := hci.on (hb1.block _ hs0)
  have hs1 : w.heap.size < w1.heap.size := Nat.lt_of_lt_of_le hs0 hb1.size
  clear haw hci hs0 hb0 hb1
  go_wp2_with fail
  refine (HMD.out w1 hbb1).mono ?_
  rintro e w2 ⟨p, q, rfl, N, -, ho2, hb2⟩
  have hen := HEN.out N
  generalize GM.made N xs (min L 150) = m at *
  have hbb2 := below_on hbb1 hb2
  have hci2 : ChgIn w2 w.heap.size 0 c := hci1.on (hb2.block _ hs1)
  have hs2 : w.heap.size < w2.heap.size := Nat.lt_of_lt_of_le hs1 hb2.size
  have hpw : w.heap.size < p := Nat.lt_of_lt_of_le hs1 ho2.lp
  have hpl := ho2.g.lt
  have hqw : w.heap.size < q := Nat.lt_of_lt_of_le hs1 ho2.lq
  have HO2 : Hid (Both w2 w1.heap.size p q N 64 m) := ho2
  have HEE : Hid (GM.Ends N m) := hen
  have HC : Hid (∀ j v, (rCells N 64 m)[j]? = some v → w2.cell? ((⟨q, 0, none⟩ : Addr).add j) = some v) := ho2.r.cells
  have HL : Hid ((rCells N 64 m).length = 322) := rCells_len N 64 m
  have HOC : Hid ((rCells N 64 m).toArray.all (·.oneCell') = true) := all_one (rCells_one N 64 m)
  have HN : Hid (RMem (w2.alloc (.cells (rCells N 64 m).toArray 55)) w2.heap.size N 64 m) := rmem_new _ _ _ _ _
  have hz := zeroR
  have HZ : Hid (zR.size = 322) := zR_size
  have hb3 : Below w2.heap.size w2 (w2.alloc (.cells (rCells N 64 m).toArray 55)) := (Below.refl _ _).alloc (Nat.le_refl _) _
  have hs3 : (w2.alloc (.cells (rCells N 64 m).toArray 55)).heap.size = w2.heap.size + 1 := by simp
  clear HMD HEN hci1 hb2 hbb1 ho2 hen hs1
  generalize zR = Z at *
  generalize rCells N 64 m = C at *
  go_upto_region 6 with fail
  go_cut [9] (fun s wx => s = .pointer (some ⟨w2.heap.size, 0, none⟩) ∧ wx = w2.alloc (.cells C.toArray 55))
  case first =>
    clear hci2
    go_wp2_with (first
      | (refine wpList_load_cells rfl 55 (.tmp 24) rfl q rfl C _ Try.underlying55 rfl (by rw [HL.out]; exact infoR) HC.out ?_)
      | (refine wpList_store_row rfl 55 (.tmp 9) (.tmp 25) rfl w2.heap.size C.toArray rfl rfl 55 Z (heap_alloc_last w2 _) (by rw [List.size_toArray, HL.out]; exact infoR) (by rw [HZ.out, List.size_toArray, HL.out]) HOC.out ?_; rw [World.setRow_alloc_new]))
    go_meet
    exact ⟨rfl, rfl⟩
  case rest =>
  obtain ⟨rfl, hwc⟩ := hcut
  rw [← hwc] at HN hb3 hs3
  clear hwc hz HZ HL HOC HC
  have hci3 : ChgIn wc w.heap.size 0 c := hci2.on (hb3.block _ hs2)
  have HBB3 : Hid (Below w.heap.size w wc) := below_on hbb2 hb3
  have HG3 : Hid (GMem wc p N 64 m) := HO2.out.g.on hb3
  have har := rarc_any (HO2.out.r.on hb3) c.id
  have HGD : Hid (GM.Good 64 m) := HO2.out.ok
  clear hbb2 hci2 hb3 hqw
  obtain ⟨kd, id, t, h, y, cl⟩ := c
  obtain ⟨x0, x1, x2, x3, x4, x5⟩ := hci3
  simp only [Nat.zero_add] at x1 x2 x3 x4 x5
  dsimp only at x0 x1 x2 x3 x4 x5 har
  have HCI3 : Hid (ChgIn wc w.heap.size 0 ⟨kd, id, ⟨t, h, y, cl⟩⟩) := ⟨x0, by simpa using x1, by simpa using x2, by simpa using x3, by simpa using x4, by simpa using x5⟩
  obtain ⟨la, hla⟩ : ∃ la, la = (GM.look m id).1 := ⟨_, rfl⟩
  have HLA : Hid (la = (GM.look m id).1) := hla
  rw [← hla] at har
  clear hla
  obtain ⟨lt, lh, lx, lc⟩ := la
  unfold arcV at har
  generalize (GM.look m id).2 = lb at *
  dsimp only at har
  generalize w2.heap.size = qq at *
  clear HO2
  go_wp2_with fail
  refine har.mono ?_
  rintro e w4 ⟨rfl, hb4⟩
  have hb5 : Below wc.heap.size wc (w4.alloc (.cells #[.int .i64 lt, .int .i64 lh, .int .i64 lx, .bool lc] 33)) := below_new hb4 _
  have HA5 : Hid (ArcIn (w4.alloc (.cells #[.int .i64 lt, .int .i64 lh, .int .i64 lx, .bool lc] 33)) w4.heap.size 0 ⟨lt, lh, lx, lc⟩) := arcIn_new _ _ _ _ _
  have hs4 := hb4.size
  have hs5 : w4.heap.size < (w4.alloc (.cells #[.int .i64 lt, .int .i64 lh, .int .i64 lx, .bool lc] 33)).heap.size := by simp
  clear har hb4 x0 x1 x2 x3 x4 x5
  have HCI5 : Hid (ChgIn (w4.alloc (.cells #[.int .i64 lt, .int .i64 lh, .int .i64 lx, .bool lc] 33)) w.heap.size 0 ⟨kd, id, ⟨t, h, y, cl⟩⟩) := HCI3.out.on (hb5.block _ (by omega))
  have HBB5 : Hid (Below w.heap.size w (w4.alloc (.cells #[.int .i64 lt, .int .i64 lh, .int .i64 lx, .bool lc] 33))) := below_on HBB3.out hb5
  have HG5 : Hid (GMem (w4.alloc (.cells #[.int .i64 lt, .int .i64 lh, .int .i64 lx, .bool lc] 33)) p N 64 m) := HG3.out.on hb5
  have HQ5 : Hid (RMem (w4.alloc (.cells #[.int .i64 lt, .int .i64 lh, .int .i64 lx, .bool lc] 33)) qq N 64 m) := HN.out.on hb5
  have hpq : p < qq := hpl
  have hpa : p < w4.heap.size := by omega
  clear HCI3 HBB3 HG3 HN hb5 hpl hs3
  go_upto_region 8 with fail
  generalize w4.alloc (.cells #[.int .i64 lt, .int .i64 lh, .int .i64 lx, .bool lc] 33) = w5 at *
  generalize w4.heap.size = ga at *
  obtain ⟨x0, x1, x2, x3, x4, x5⟩ := HCI5.out
  simp only [Nat.zero_add] at x1 x2 x3 x4 x5
  dsimp only at x0 x1 x2 x3 x4 x5
  have hdo := do_any HG5.out HGD.out ⟨kd, id, ⟨t, h, y, cl⟩⟩
  have HGD2 : Hid (GM.Good 64 (GM.next N 64 m ⟨kd, id, ⟨t, h, y, cl⟩⟩)) := GM.good_next HGD.out _
  have HREF : Hid (GM.code N 64 m ⟨kd, id, ⟨t, h, y, cl⟩⟩ ≠ 0 → GM.next N 64 m ⟨kd, id, ⟨t, h, y, cl⟩⟩ = m) := fun h => GM.next_refused h
  have hnx : GM.code N 64 m ⟨kd, id, ⟨t, h, y, cl⟩⟩ = (if kd = 0 then GM.insCode N 64 m id ⟨t, h, y, cl⟩ else if kd = 1 then GM.atCode m id else if kd = 2 then GM.turnCode m id true else if kd = 3 then GM.turnCode m id false else GM.weighCode m id y) ∧ GM.next N 64 m ⟨kd, id, ⟨t, h, y, cl⟩⟩ = (if kd = 0 then GM.ins N 64 m id ⟨t, h, y, cl⟩ else if kd = 1 then GM.del m id else if kd = 2 then GM.turn m id true else if kd = 3 then GM.turn m id false else GM.weigh m id y) := ⟨rfl, rfl⟩
  have HNX : Hid (GM.code N 64 m ⟨kd, id, ⟨t, h, y, cl⟩⟩ = (if kd = 0 then GM.insCode N 64 m id ⟨t, h, y, cl⟩ else if kd = 1 then GM.atCode m id else if kd = 2 then GM.turnCode m id true else if kd = 3 then GM.turnCode m id false else GM.weighCode m id y) ∧ GM.next N 64 m ⟨kd, id, ⟨t, h, y, cl⟩⟩ = (if kd = 0 then GM.ins N 64 m id ⟨t, h, y, cl⟩ else if kd = 1 then GM.del m id else if kd = 2 then GM.turn m id true else if kd = 3 then GM.turn m id false else GM.weigh m id y)) := hnx
  clear hnx
  unfold chgV at hdo
  dsimp only at hdo
  generalize GM.code N 64 m ⟨kd, id, ⟨t, h, y, cl⟩⟩ = cod at *
  generalize GM.next N 64 m ⟨kd, id, ⟨t, h, y, cl⟩⟩ = m2 at *
  go_wp2_with fail
  refine hdo.mono ?_
  rintro e w6 ⟨rfl, hg6, hk6⟩
  have hw5 : w.heap.size < w5.heap.size := by omega
  have HBB6 : Hid (Below w.heap.size w w6) := HBB5.out.trans (hk6.rest (by omega) (by omega))
  have HCI6 : Hid (ChgIn w6 w.heap.size 0 ⟨kd, id, ⟨t, h, y, cl⟩⟩) := HCI5.out.on (hk6.block _ hw5 (by omega))
  have HQ6 : Hid (RMem w6 qq N 64 m) := HQ5.out.kept hk6 (by omega)
  have HA6 : Hid (ArcIn w6 ga 0 ⟨lt, lh, lx, lc⟩) := HA5.out.same (fun j => World.cell?_of_block (a := ⟨ga, j, none⟩) (hk6.block ga hs5 (by omega)))
  have HG6 : Hid (GMem w6 p N 64 m2) := hg6
  have HSZ : Hid (p ≠ qq ∧ w.heap.size ≤ p ∧ w.heap.size ≤ w6.heap.size) := ⟨by omega, by omega, by have := hk6.size; omega⟩
  clear x0 x1 x2 x3 x4 x5 hdo hg6 hk6 HBB5 HCI5 HQ5 HA5 HG5 hw5 hs5 hpa hpq hs4 hs2 hpw
  by_cases hc0 : cod = 0
  · subst hc0
    have HSM : Hid (∀ W, GMem W p N 64 m → Keeps (fun b => b = p) w6 W → Calls Try.prog 14 #[.pointer (some ⟨p, 0, none⟩), .pointer (some ⟨qq, 0, none⟩)] W fun e w' => e = .returned (.bool true) ∧ Below w.heap.size w w') := fun W hG hK => (same_any hG HGD.out (HQ6.out.kept hK (fun e => HSZ.out.1 e.symm))).mono (by
      rintro e w' ⟨rfl, hb⟩
      refine ⟨rfl, (HBB6.out.trans (hK.rest HSZ.out.2.1 HSZ.out.2.2)).trans (hb.mono ?_)⟩
      exact Nat.le_trans HSZ.out.2.2 hK.size)
    obtain ⟨x0, x1, x2, x3, x4, x5⟩ := HCI6.out
    simp only [Nat.zero_add] at x1 x2 x3 x4 x5
    dsimp only at x0 x1 x2 x3 x4 x5
    obtain ⟨a0, a1, a2, a3⟩ := HA6.out
    simp only [Nat.zero_add] at a1 a2 a3
    dsimp only at a0 a1 a2 a3
    clear x2 x3 x4 x5
    by_cases k0 : kd = 0
    · subst k0
      have hx := HNX.out
      simp only [if_true] at hx
      obtain ⟨e1, e2⟩ := GM.back0 hx.1.symm
      have hop := delete_any HG6.out HGD2.out id
      rw [hx.2, e1, e2] at hop
      clear hx e1 e2
      go_wp2_with fail
      refine hop.mono ?_
      rintro e w7 ⟨rfl, hg7, hk7⟩
      have hsm := HSM.out w7 hg7 hk7
      clear hop hg7 hk7 x0 x1
      go_wp2_with fail
      refine hsm.mono ?_
      rintro e w8 ⟨rfl, hb8⟩
      clear hsm
      go_wp2_with fail
      go_ret
      exact ⟨rfl, hb8⟩
    have k0' : (kd == 0) = false := beq_eq_false_iff_ne.2 k0
    by_cases k1 : kd = 1
    · subst k1
      have hx := HNX.out
      simp only [if_neg k0, if_true] at hx
      obtain ⟨e1, e2⟩ := GM.back1 (N := N) HGD.out HEE.out hx.1.symm
      rw [← HLA.out] at e1 e2
      have hop := insert_any HG6.out HGD2.out id ⟨lt, lh, lx, lc⟩
      rw [hx.2, e1, e2] at hop
      unfold arcV at hop
      dsimp only at hop
      clear hx e1 e2
      go_wp2_with fail
      refine hop.mono ?_
      rintro e w7 ⟨rfl, hg7, hk7⟩
      have hsm := HSM.out w7 hg7 hk7
      clear hop hg7 hk7 x0 x1 a0 a1 a2 a3
      go_wp2_with fail
      refine hsm.mono ?_
      rintro e w8 ⟨rfl, hb8⟩
      clear hsm
      go_wp2_with fail
      go_ret
      exact ⟨rfl, hb8⟩
    have k1' : (kd == 1) = false := beq_eq_false_iff_ne.2 k1
    by_cases k2 : kd = 2
    · subst k2
      have hx := HNX.out
      simp only [if_neg k0, if_neg k1, if_true] at hx
      obtain ⟨e1, e2⟩ := GM.back2 hx.1.symm
      have hop := reopen_any HG6.out HGD2.out id
      rw [hx.2] at hop
      simp only [Bool.not_true] at e1 e2
      rw [e1, e2] at hop
      clear hx e1 e2
      go_wp2_with fail
      refine hop.mono ?_
      rintro e w7 ⟨rfl, hg7, hk7⟩
      have hsm := HSM.out w7 hg7 hk7
      clear hop hg7 hk7 x0 x1
      go_wp2_with fail
      refine hsm.mono ?_
      rintro e w8 ⟨rfl, hb8⟩
      clear hsm
      go_wp2_with fail
      go_ret
      exact ⟨rfl, hb8⟩
    have k2' : (kd == 2) = false := beq_eq_false_iff_ne.2 k2
    by_cases k3 : kd = 3
    · subst k3
      have hx := HNX.out
      simp only [if_neg k0, if_neg k1, if_neg k2, if_true] at hx
      obtain ⟨e1, e2⟩ := GM.back2 hx.1.symm
      have hop := close_any HG6.out HGD2.out id
      rw [hx.2] at hop
      simp only [Bool.not_false] at e1 e2
      rw [e1, e2] at hop
      clear hx e1 e2
      go_wp2_with fail
      refine hop.mono ?_
      rintro e w7 ⟨rfl, hg7, hk7⟩
      have hsm := HSM.out w7 hg7 hk7
      clear hop hg7 hk7 x0 x1
      go_wp2_with fail
      refine hsm.mono ?_
      rintro e w8 ⟨rfl, hb8⟩
      clear hsm
      go_wp2_with fail
      go_ret
      exact ⟨rfl, hb8⟩
    have k3' : (kd == 3) = false := beq_eq_false_iff_ne.2 k3
    have hx := HNX.out
    simp only [if_neg k0, if_neg k1, if_neg k2, if_neg k3] at hx
    obtain ⟨e1, e2⟩ := GM.back4 HGD.out hx.1.symm
    rw [← HLA.out] at e1 e2
    have hop := weigh_any HG6.out HGD2.out id lx
    dsimp only at e1 e2
    rw [hx.2, e1, e2] at hop
    clear hx e1 e2 k0 k1 k2 k3
    go_wp2_with fail
    refine hop.mono ?_
    rintro e w7 ⟨rfl, hg7, hk7⟩
    have hsm := HSM.out w7 hg7 hk7
    clear hop hg7 hk7 x0 x1 a0 a1 a2 a3
    go_wp2_with fail
    refine hsm.mono ?_
    rintro e w8 ⟨rfl, hb8⟩
    clear hsm
    go_wp2_with fail
    go_ret
    exact ⟨rfl, hb8⟩
  · have hg6 := HG6.out
    rw [HREF.out hc0] at hg6
    have hsm := same_any hg6 HGD.out HQ6.out
    have hc0' : (cod != 0) = true := by simpa using hc0
    have HSW : Hid (w.heap.size ≤ w6.heap.size) := HSZ.out.2.2
    clear hg6 HREF
    go_wp2_with fail
    refine hsm.mono ?_
    rintro e w8 ⟨rfl, hb8⟩
    clear hsm
    go_wp2_with fail
    go_ret
    exact ⟨rfl, HBB6.out.trans (hb8.mono HSW.out)⟩
end Go.Proofs.Ythoihkkabgedgaa
