/-
  The program's Rank.
-/
import Derived.Test.YtkcfepppnclniaaGreatDoorMmOrdRankM
import Derived.Test.YtkcfepppnclniaaGreatDoorMmMeshCon
import Derived.Test.YtkcfepppnclniaaGreatDoorMmWitStep
import Derived.Deep.LoopGhost
import Derived.Deep.RegionHeld3
namespace Go.Proofs.YtkcfepppnclniaaGreatDoor
open Go.RowKit Go.Shelf
attribute [local go_sem] Oper.semAt_some
set_option maxHeartbeats 4000000 in
set_option maxRecDepth 100000 in
theorem rank_in (HD : DiffIs) {w : World} {gp N : Nat} {m : GM.M} (hT : Ready w) (hg : GMem w gp N 64 m) (hgm : GM.Good 64 m) (hN1 : 1 ≤ N) (hN : N ≤ 24) (D : Nat → Nat → Int) (hD : XM.ofD m N N 0 = D) (hm : XM.Mesh N D) (k : Int) :
    CallsIn Fence.wide 14 Tryz.prog 7 #[.pointer (some ⟨gp, 0, none⟩), .int .i64 k] w fun e w' => ∃ r, e = .returned r ∧ Own .i64 3 w' w.heap.size r ((List.range N).map (OM.run N D k.toNat N).rank) ∧ Below w.heap.size w w' := by
  have a1 : Below w.heap.size w (w.alloc (.cells #[.int .i64 k] 3)) := (Below.refl _ _).alloc (Nat.le_refl _) _
  have bS := Boxed.new w 3 (.int .i64 k)
  have sS := World.size_alloc w (.cells #[.int .i64 k] 3)
  have hof := xof_any (hg.on a1) hgm hN1 hN
  rw [hD, sS] at hof
  have hmi := run_make_row' (P := Tryz.prog) 28 3 (.int .i64 0) 8 Tryz.underlying28 infoIO rfl .i64 .i64 N (by omega) (by omega)
  have HT : Hid (∀ W, Below w.heap.size w W → Ready W) := fun W hW => hT.below hT.1 hW
  have HM : Hid (XM.Mesh N D) := hm
  have hbl := below_any14 (N : Int)
  have HSA : Hid (OM.SL (BM.below (N : Int)) (OM.run N D k.toNat 0).left) := OM.SL.all hN
  clear hg hgm hD hm hT
  generalize hBN : BM.below (N : Int) = S0 at *
  clear hBN
  refine callsIn_of_wp_marks Tryz.func7 rfl trivial ?_ rfl
  simp only [Tryz.ntmps7, List.size_toArray, List.length_cons, List.length_nil, Nat.reduceAdd, Nat.reduceSub, Array.replicate_succ, Array.replicate_zero, List.push_toArray, List.append_toArray, List.nil_append, List.cons_append]
  refine wpIn_wide.2 ?_
  go_wp2_with fail
  generalize w.alloc (.cells #[.int .i64 k] 3) = w1 at *
  refine hof.mono ?_
  rintro e w2 ⟨p, rfl, hp, hx, hb⟩
  have hb' : Below w.heap.size w w2 := a1.trans (hb.mono (by omega))
  have h6 := gk_new hx ((hb.block _ (by omega)).trans bS) (by omega) hN
  have HB2 : Hid (Below w.heap.size w w2) := hb'
  have HVX : Hid (∀ W, XMem W p N D → Calls Tryz.prog 22 #[.pointer (some ⟨p, 0, none⟩)] W fun e w' => e = .returned (.int .i64 (N : Nat)) ∧ w' = W) := fun W hW => xvertices_any hW
  have d1 : Below w2.heap.size w2 (w2.alloc (.cells #[.pointer (some ⟨p, 0, none⟩)] 45)) := (Below.refl _ _).alloc (Nat.le_refl _) _
  have d2 : Below w2.heap.size w2 ((w2.alloc (.cells #[.pointer (some ⟨p, 0, none⟩)] 45)).alloc (.cells (madeCells #[.int .i64 0] N) 3)) := d1.alloc d1.size _
  have hv1 := HVX.out _ (hx.on d1)
  have hv2 := HVX.out _ (hx.on d2)
  clear hof hx hb d1 d2 bS a1 sS hb'
  go_wp2_with fail
  refine hv1.mono ?_
  rintro e wx ⟨rfl, hwx⟩
  rw [hwx]
  clear hwx wx hv1
  go_wp2_with fail
  refine hv2.mono ?_
  rintro e wx ⟨rfl, hwx⟩
  rw [hwx]
  clear hwx wx hv2
  go_upto_region 4 with fail
  obtain ⟨w6, hw6, hG, hb6⟩ := h6
  try simp only [World.size_alloc] at *
  rw [← hw6]
  clear hw6
  have HG6 : Hid (GK w.heap.size w.heap.size p w2.heap.size (w2.heap.size + 1) (w2.heap.size + 1 + 1) (w2.heap.size + 1 + 1 + 1) N k (OM.run N D k.toNat 0) w6) := hG.congr rfl (fun _ _ => rfl) (fun _ _ => rfl)
  have HB6 : Hid (Below w.heap.size w w6) := HB2.out.trans (hb6.mono HB2.out.size)
  have cm := hG.cm.cell
  have hv3 := HVX.out _ hG.x
  have hbl6 := hbl w6
  clear hbl hb6 HB2 hG
  generalize w2.heap.size = cM at *
  go_wp2_with fail
  refine hv3.mono ?_
  rintro e wx ⟨rfl, hwx⟩
  rw [hwx]
  clear hwx wx hv3
  go_wp2_with fail
  refine hbl6.mono ?_
  rintro e wx ⟨rfl, hwx⟩
  rw [hwx]
  clear hwx wx hbl6 cm
  have HRR : Hid (RR w p cM N k D 0 S0 [] w6) := ⟨HG6.out, HSA.out, fun _ h => (by cases h), List.nodup_nil, fun _ h => (by cases h), HB6.out⟩
  clear HG6 HB6 HSA hmi
  go_wp2_with fail
  refine wp_loop_ghost_k (fun n a wr => ∃ (r S : Nat) (ds : List Nat) (u10 u11 u12 u28 u29 u30 u31 u32 u33 u34 u35 u36 u37 u38 u39 u40 u41 u42 u43 u44 u45 u46 u47 u48 u49 u50 u51 u52 u53 u54 u55 u56 u57 u58 u59 u60 u61 : Value), (r + n = N ∧ RR w p cM N k D r S ds wr) ∧ a = { tmps := #[.pointer (some ⟨gp, 0, none⟩), .int .i64 k, undef, .pointer (some ⟨w.heap.size, 0, none⟩), .slice none 0 0, .pointer (some ⟨cM, 0, none⟩), .slice (some ⟨cM + 1, 0, none⟩) N N, .pointer (some ⟨cM + 1 + 1 + 1, 0, none⟩), .func (.func 23) #[] #[.pointer (some ⟨cM, 0, none⟩), .pointer (some ⟨w.heap.size, 0, none⟩), .pointer (some ⟨cM + 1 + 1 + 1, 0, none⟩)], .int .u64 (S : Nat), u10, u11, u12, .pointer (some ⟨gp, 0, none⟩), .pointer (some ⟨p, 0, none⟩), .pointer (some ⟨p, 0, none⟩), .int .i64 (N : Nat), .slice (some ⟨cM + 1, 0, none⟩) N N, .pointer (some ⟨p, 0, none⟩), .int .i64 (N : Nat), .slice (some ⟨cM + 1 + 1, 0, none⟩) N N, .func (.func 23) #[] #[.pointer (some ⟨cM, 0, none⟩), .pointer (some ⟨w.heap.size, 0, none⟩), .pointer (some ⟨cM + 1 + 1 + 1, 0, none⟩)], .pointer (some ⟨p, 0, none⟩), .int .i64 (N : Nat), .int .u64 (S0 : Nat), .slice (some ⟨cM + 1, 0, none⟩) N N, .int .i64 (N : Nat), .int .i64 (r : Nat), u28, u29, u30, u31, u32, u33, u34, u35, u36, u37, u38, u39, u40, u41, u42, u43, u44, u45, u46, u47, u48, u49, u50, u51, u52, u53, u54, u55, u56, u57, u58, u59, u60, u61, undef], defers := ds.map mark }) N ?_ ?_
  · refine ⟨0, S0, [], ?_⟩
    repeat apply Exists.intro
    exact ⟨⟨by omega, HRR.out⟩, rfl⟩
  · intro gk _ wr hinv
    obtain ⟨r, S, ds, u10, u11, u12, u28, u29, u30, u31, u32, u33, u34, u35, u36, u37, u38, u39, u40, u41, u42, u43, u44, u45, u46, u47, u48, u49, u50, u51, u52, u53, u54, u55, u56, u57, u58, u59, u60, u61, ⟨hrn, hrr⟩, ha⟩ := hinv
    subst ha
    try dsimp only
    intro _ _ _ _
    clear HRR
    have HRR : Hid (RR w p cM N k D r S ds wr) := hrr
    clear hrr
    by_cases hlt : r < N
    · obtain ⟨hG, hS, hMk, hnd, hlo, hbel⟩ := HRR.out
      obtain ⟨hb1, hb2, hb3⟩ := OM.best_is N D k.toNat r hlt
      have hMS : XM.Mesh N (OM.run N D k.toNat r).D := OM.run_mesh HM.out k.toNat r
      have HSE : Hid (OM.run N D k.toNat (r + 1) = ⟨XM.con (OM.run N D k.toNat r).D (OM.best N D k.toNat r), fun v => if v = OM.best N D k.toNat r then false else (OM.run N D k.toNat r).left v, fun v => if OM.edge (OM.run N D k.toNat r).D (OM.best N D k.toNat r) v = true then (OM.run N D k.toNat r).gone v + 1 else (OM.run N D k.toNat r).gone v, fun v => if v = OM.best N D k.toNat r then (r : Int) else (OM.run N D k.toNat r).rank v⟩) := rfl
      have hgn : ∀ v, 0 ≤ (OM.run N D k.toNat r).gone v ∧ (OM.run N D k.toNat r).gone v ≤ 24 := fun v => by
        have := OM.run_gone N D k.toNat r v
        omega
      have hll := OM.run_left_lt N D k.toNat r
      have HMS : Hid (XM.Mesh N (OM.run N D k.toNat r).D) := hMS
      have HGN : Hid (∀ v, 0 ≤ (OM.run N D k.toNat r).gone v ∧ (OM.run N D k.toNat r).gone v ≤ 24) := hgn
      generalize OM.best N D k.toNat r = b at *
      generalize OM.run N D k.toNat r = s at *
      have HST : Hid (OM.SL S s.left) := hS
      have a1 : Below wr.heap.size wr (wr.alloc (.cells #[.int .u64 S] 62)) := (Below.refl _ _).alloc (Nat.le_refl _) _
      have hbw1 := below_on hbel a1
      have hall := all_new14 S wr
      have hrd : AllReads wr.heap.size S (wr.alloc (.cells #[.int .u64 S] 62)) := ⟨(Boxed.new wr 62 (.int .u64 S)).cell, HT.out _ hbw1⟩
      have hle := callsIn_wide.1 (least_in (N := N) (fun v => OM.diff N s.D v k.toNat + s.gone v) hS.1 hrd (fun x hx => by
        refine Classical.byContradiction fun hc => ?_
        obtain ⟨h1, h2⟩ := BM.mem_lst.1 hx
        rw [hS.2 x h1, hll x (by omega)] at h2
        cases h2) (fun x => by
        have h1 := OM.diff_bd (D := s.D) hN x k.toNat
        have h2 := hgn x
        omega) (fun x hx W hW => cost_any HD ((hG.on a1).on hW) hMS hN hgn x hx))
      rw [hS.scan _ hN hll] at hle
      have hbb : bestB (OM.scan s.left (fun v => OM.diff N s.D v k.toNat + s.gone v) N) = (b : Nat) := by
        unfold bestB
        rw [hb3, if_neg (by omega)]
      rw [hbb] at hle
      have HG : Hid (GK w.heap.size w.heap.size p cM (cM + 1) (cM + 1 + 1) (cM + 1 + 1 + 1) N k s (wr.alloc (.cells #[.int .u64 S] 62)) ∧ Below w.heap.size w (wr.alloc (.cells #[.int .u64 S] 62)) ∧ Below wr.heap.size wr (wr.alloc (.cells #[.int .u64 S] 62))) := ⟨hG.on a1, hbw1, a1⟩
      have HMK : Hid (Marks ds wr ∧ ds.Nodup ∧ ∀ d ∈ ds, cM + 1 + 1 + 1 < d) := ⟨hMk, hnd, hlo⟩
      have r1 : (r : Int) < (N : Int) := by omega
      have HBN : Hid (b < N) := hb1
      have HNDS : Hid ds.Nodup := hnd
      clear hG hS hMk hnd hlo hbel hb2 hb3 hMS hgn hll a1 hbw1 hrd hbb HRR
      go_wp2_with fail
      refine hall.mono ?_
      rintro e wx ⟨rfl, hwx⟩
      rw [hwx]
      clear hwx wx hall
      go_wp2_with fail
      generalize wr.alloc (.cells #[.int .u64 S] 62) = W1 at *
      refine hle.mono ?_
      rintro e W2 ⟨rfl, hb2⟩
      have HG2 : Hid (GK w.heap.size w.heap.size p cM (cM + 1) (cM + 1 + 1) (cM + 1 + 1 + 1) N k s W2 ∧ Below w.heap.size w W2 ∧ Below wr.heap.size wr W2) := ⟨HG.out.1.on hb2, below_on HG.out.2.1 hb2, below_on HG.out.2.2 hb2⟩
      clear hle hb2 HG
      have ck := HG2.out.1.rk.cell HBN.out
      have fk := HG2.out.1.rk.fz b
      have bN : (b : Int) < (N : Int) := by omega
      have b0 : (0 : Int) ≤ (b : Int) := by omega
      have HG3 : Hid (GK w.heap.size w.heap.size p cM (cM + 1) (cM + 1 + 1) (cM + 1 + 1 + 1) N k (OM.midS s b r []) (W2.setCell ⟨cM + 1, b, none⟩ (.int .i64 (r : Nat))) ∧ Below w.heap.size w (W2.setCell ⟨cM + 1, b, none⟩ (.int .i64 (r : Nat))) ∧ Keeps (fun x => x = cM + 1) W2 (W2.setCell ⟨cM + 1, b, none⟩ (.int .i64 (r : Nat)))) := by
        obtain ⟨h1, h2, h3⟩ := HG2.out
        have o1 := h1.o1
        have o2 := h1.o2
        exact ⟨(h1.rank b r).congr rfl (fun v _ => by unfold OM.midS; simp) (fun _ _ => rfl), h2.setCell (p := ⟨cM + 1, b, none⟩) (by show w.heap.size ≤ cM + 1; omega) _, keeps_set W2 (cM + 1) b _⟩
      go_upto_region 11 with fail
      clear ck fk
      have HB3 : Hid (Below wr.heap.size wr (W2.setCell ⟨cM + 1, b, none⟩ (.int .i64 (r : Nat))) ∨ True) := .inr trivial
      have HK3 : Hid (Keeps (fun x => x = cM + 1) wr (W2.setCell ⟨cM + 1, b, none⟩ (.int .i64 (r : Nat)))) := (Below.keeps HG2.out.2.2 _).trans HG3.out.2.2 (fun _ h => .inl h)
      clear HG2 HB3
      generalize W2.setCell ⟨cM + 1, b, none⟩ (.int .i64 (r : Nat)) = W3 at *
      have hx3 : XMem W3 p N s.D := HG3.out.1.x
      have HXX : Hid (∀ W, Below W3.heap.size W3 W → XMem W p N s.D) := fun W hW => hx3.on hW
      have HCM : Hid (∀ W, Below W3.heap.size W3 W → W.cell? ⟨cM, 0, none⟩ = some (.pointer (some ⟨p, 0, none⟩))) := fun W hW => (HG3.out.1.on hW).cm.cell
      have c0 := HG3.out.1.cm.cell
      have c0d : W3.drew.cell? ⟨cM, 0, none⟩ = some (.pointer (some ⟨p, 0, none⟩)) := c0
      have HOUT : Hid (∀ W, Below W3.heap.size W3 W → Calls Tryz.prog 28 #[.pointer (some ⟨p, 0, none⟩), .int .i64 (b : Nat)] W fun e w' => ∃ B, e = .returned (iterV B) ∧ Reads 63 p N s.D (b : Nat) B w' ∧ Below W.heap.size W w') := fun W hW => (outX_any p (b : Nat) W).mono fun e w' ⟨he, hw⟩ => by
        have := iterW_reads (HXX.out W hW) 63 (b : Nat)
        exact ⟨_, he, by rw [hw]; exact this.1, by rw [hw]; exact this.2.1⟩
      have HIN : Hid (∀ W, Below W3.heap.size W3 W → Calls Tryz.prog 29 #[.pointer (some ⟨p, 0, none⟩), .int .i64 (b : Nat)] W fun e w' => ∃ B, e = .returned (iterV B) ∧ Reads 65 p N s.D (b : Nat) B w' ∧ Below W.heap.size W w') := fun W hW => (inX_any p (b : Nat) W).mono fun e w' ⟨he, hw⟩ => by
        have := iterW_reads (HXX.out W hW) 65 (b : Nat)
        exact ⟨_, he, by rw [hw]; exact this.1, by rw [hw]; exact this.2.1⟩
      have HEO : Hid (∀ W B, Reads 63 p N s.D (b : Nat) B W → Calls Tryz.prog 27 #[iterV B] W fun e w' => e = .returned (.int .u64 (OM.tips (XM.steps N s.D (b : Nat) false N) : Nat)) ∧ Below W.heap.size W w') := fun W B h => endsO_any hN h
      have HEI : Hid (∀ W B, Reads 65 p N s.D (b : Nat) B W → Calls Tryz.prog 27 #[iterV B] W fun e w' => e = .returned (.int .u64 (OM.tips (XM.steps N s.D (b : Nat) true N) : Nat)) ∧ Below W.heap.size W w') := fun W B h => endsI_any hN h
      have HME : Hid (∀ i, i ∈ BM.lst (OM.tips (XM.steps N s.D (b : Nat) false N) ||| OM.tips (XM.steps N s.D (b : Nat) true N)) ↔ i < N ∧ OM.edge s.D b i = true) := fun i => OM.beside_mem HMS.out hN b
      have HS2 : Hid ((OM.tips (XM.steps N s.D (b : Nat) false N) ||| OM.tips (XM.steps N s.D (b : Nat) true N)) < 18446744073709551616) := BM.or_lt (OM.tips_lt _) (OM.tips_lt _)
      have hor := bits_or_u64_nat (OM.tips (XM.steps N s.D (b : Nat) false N)) (OM.tips (XM.steps N s.D (b : Nat) true N)) (OM.tips_lt _) (OM.tips_lt _)
      have hall2 := fun S W => all_new14 S W
      clear hx3 c0
      generalize OM.tips (XM.steps N s.D (b : Nat) false N) = t1 at *
      generalize OM.tips (XM.steps N s.D (b : Nat) true N) = t2 at *
      refine wp_region_heldR (S := fun W => W.cell? ⟨cM, 0, none⟩ = some (.pointer (some ⟨p, 0, none⟩))) (by kernel_rfl) (fun _ _ h => h) c0d (fun hHeld => ?_)
      refine wpAnyH_take (i := 0) (oi := { dst := some 38, op := Op.load 45 (Operand.tmp 5), type := 45, pos := "order.go:53", after := #[], guard := none }) (v := ?_) rfl (by kernel_rfl) (by kernel_rfl) (by kernel_rfl) (fun _ _ _ h => nomatch h.1) (Or.inl ⟨by rfl, ?_⟩) (by assumption) ?_
      rotate_left
      · intro w0 hSw
        (try dsimp only at hSw)
        go_simp <;> with_reducible rfl
      try simp only [Act.put, List.setIfInBounds_toArray, List.set_cons_zero, List.set_cons_succ]
      refine wpAnyH_take (i := 1) (oi := { dst := some 39, op := Op.move (Operand.tmp 11), type := 3, pos := "order.go:53", after := #[], guard := none }) (v := ?_) rfl (by kernel_rfl) (by kernel_rfl) (by kernel_rfl) (fun _ _ _ h => nomatch h.1) (Or.inl ⟨by rfl, ?_⟩) (by assumption) ?_
      rotate_left
      · intro w0 hSw
        (try dsimp only at hSw)
        go_simp <;> with_reducible rfl
      try simp only [Act.put, List.setIfInBounds_toArray, List.set_cons_zero, List.set_cons_succ]
      refine wpAnyH_take (i := 4) (oi := { dst := some 42, op := Op.load 45 (Operand.tmp 5), type := 45, pos := "order.go:53", after := #[], guard := none }) (v := ?_) rfl (by kernel_rfl) (by kernel_rfl) (by kernel_rfl) (fun _ _ _ h => nomatch h.1) (Or.inl ⟨by rfl, ?_⟩) (by assumption) ?_
      rotate_left
      · intro w0 hSw
        (try dsimp only at hSw)
        go_simp <;> with_reducible rfl
      try simp only [Act.put, List.setIfInBounds_toArray, List.set_cons_zero, List.set_cons_succ]
      refine wpAnyH_take (i := 5) (oi := { dst := some 43, op := Op.move (Operand.tmp 11), type := 3, pos := "order.go:53", after := #[], guard := none }) (v := ?_) rfl (by kernel_rfl) (by kernel_rfl) (by kernel_rfl) (fun _ _ _ h => nomatch h.1) (Or.inl ⟨by rfl, ?_⟩) (by assumption) ?_
      rotate_left
      · intro w0 hSw
        (try dsimp only at hSw)
        go_simp <;> with_reducible rfl
      try simp only [Act.put, List.setIfInBounds_toArray, List.set_cons_zero, List.set_cons_succ]
      refine wpAnyH_ready (rs := [2]) (by kernel_rfl) (by simp) ?_
      refine AllReadyH.cons (o := { dst := some 40, op := Op.call { callee := Callee.value (Operand.func 28), args := #[Operand.tmp 38, Operand.tmp 39], argTypes := #[45, 3] }, type := 70, pos := "order.go:53", after := #[{ on := 0, ground := Ground.data }, { on := 1, ground := Ground.data }], guard := none }) rfl (fun K hK => ?_) AllReadyH.nil
      go_simp
      refine (HOUT.out _ (Below.refl _ W3).drew).mono ?_
      rintro e w9 ⟨B9, rfl, hr9, hb9⟩
      have H9 : Hid (Reads 63 p N s.D (b : Nat) B9 w9 ∧ Below W3.heap.size W3 w9) := ⟨hr9, below_of_drew hb9⟩
      clear hr9 hb9 HOUT
      go_wp2_with fail
      refine hK.out _ _ (HCM.out _ H9.out.2) (fun hHeld => ?_)
      clear hK K
      try simp only [Act.put, List.setIfInBounds_toArray, List.set_cons_zero, List.set_cons_succ]
      refine wpAnyH_ready (rs := [3]) (by kernel_rfl) (by simp) ?_
      refine AllReadyH.cons (o := { dst := some 41, op := Op.call { callee := Callee.value (Operand.func 27), args := #[Operand.tmp 40], argTypes := #[70] }, type := 62, pos := "order.go:53", after := #[{ on := 2, ground := Ground.data }, { on := 2, ground := Ground.chain }], guard := none }) rfl (fun K hK => ?_) AllReadyH.nil
      go_simp
      refine (HEO.out _ _ H9.out.1).mono ?_
      rintro e w10 ⟨rfl, hb10⟩
      have H10 : Hid (Below W3.heap.size W3 w10) := below_on H9.out.2 hb10
      clear hb10 HEO
      go_wp2_with fail
      refine hK.out _ _ (HCM.out _ H10.out) (fun hHeld => ?_)
      clear hK K
      try simp only [Act.put, List.setIfInBounds_toArray, List.set_cons_zero, List.set_cons_succ]
      refine wpAnyH_ready (rs := [6]) (by kernel_rfl) (by simp) ?_
      refine AllReadyH.cons (o := { dst := some 44, op := Op.call { callee := Callee.value (Operand.func 29), args := #[Operand.tmp 42, Operand.tmp 43], argTypes := #[45, 3] }, type := 70, pos := "order.go:53", after := #[{ on := 4, ground := Ground.data }, { on := 5, ground := Ground.data }, { on := 3, ground := Ground.chain }], guard := none }) rfl (fun K hK => ?_) AllReadyH.nil
      go_simp
      refine (HIN.out _ H10.out).mono ?_
      rintro e w11 ⟨B11, rfl, hr11, hb11⟩
      have H11 : Hid (Reads 65 p N s.D (b : Nat) B11 w11 ∧ Below W3.heap.size W3 w11) := ⟨hr11, below_on H10.out hb11⟩
      clear hr11 hb11 HIN
      go_wp2_with fail
      refine hK.out _ _ (HCM.out _ H11.out.2) (fun hHeld => ?_)
      clear hK K
      try simp only [Act.put, List.setIfInBounds_toArray, List.set_cons_zero, List.set_cons_succ]
      refine wpAnyH_ready (rs := [7]) (by kernel_rfl) (by simp) ?_
      refine AllReadyH.cons (o := { dst := some 45, op := Op.call { callee := Callee.value (Operand.func 27), args := #[Operand.tmp 44], argTypes := #[70] }, type := 62, pos := "order.go:53", after := #[{ on := 6, ground := Ground.data }, { on := 6, ground := Ground.chain }], guard := none }) rfl (fun K hK => ?_) AllReadyH.nil
      go_simp
      refine (HEI.out _ _ H11.out.1).mono ?_
      rintro e w12 ⟨rfl, hb12⟩
      have H12 : Hid (Below W3.heap.size W3 w12) := below_on H11.out.2 hb12
      clear hb12 HEI
      go_wp2_with fail
      refine hK.out _ _ (HCM.out _ H12.out) (fun hHeld => ?_)
      clear hK K
      try simp only [Act.put, List.setIfInBounds_toArray, List.set_cons_zero, List.set_cons_succ]
      refine wpAnyH_take (i := 8) (oi := { dst := some 46, op := Op.binOp BinOp.or 62 (Operand.tmp 41) (Operand.tmp 45) 62, type := 62, pos := "order.go:53", after := #[{ on := 3, ground := Ground.data }, { on := 7, ground := Ground.data }], guard := none }) (v := ?_) rfl (by kernel_rfl) (by kernel_rfl) (by kernel_rfl) (fun _ _ _ h => nomatch h.1) (Or.inl ⟨by rfl, ?_⟩) (by assumption) ?_
      rotate_left
      · intro w0 hSw
        (try dsimp only at hSw)
        go_simp <;> with_reducible rfl
      try simp only [Act.put, List.setIfInBounds_toArray, List.set_cons_zero, List.set_cons_succ]
      refine wpAnyH_ready (rs := [9]) (by kernel_rfl) (by simp) ?_
      refine AllReadyH.cons (o := { dst := some 47, op := Op.call { callee := Callee.value (Operand.func 26), args := #[Operand.tmp 46], argTypes := #[62] }, type := 66, pos := "order.go:53", after := #[{ on := 8, ground := Ground.data }, { on := 7, ground := Ground.chain }], guard := none }) rfl (fun K hK => ?_) AllReadyH.nil
      go_simp
      try rw [hor]
      refine (hall2 (t1 ||| t2) w12).mono ?_
      rintro e w13 ⟨rfl, hw13⟩
      rw [hw13]
      clear hw13 w13 hall2
      go_wp2_with fail
      refine hK.out _ _ (HCM.out _ (H12.out.alloc H12.out.size _)) (fun hHeld => ?_)
      clear hK K
      try simp only [Act.put, List.setIfInBounds_toArray, List.set_cons_zero, List.set_cons_succ]
      refine wpAnyH_done (by kernel_rfl) ?_ _
      refine ⟨rfl, ?_⟩
      go_wp2_with fail
      have HS4 : Hid (GK w.heap.size w.heap.size p cM (cM + 1) (cM + 1 + 1) (cM + 1 + 1 + 1) N k (OM.midS s b r []) (w12.alloc (.cells #[.int .u64 (t1 ||| t2 : Nat)] 62)) ∧ AllReads w12.heap.size (t1 ||| t2) (w12.alloc (.cells #[.int .u64 (t1 ||| t2 : Nat)] 62)) ∧ Below w.heap.size w (w12.alloc (.cells #[.int .u64 (t1 ||| t2 : Nat)] 62)) ∧ Marks ds (w12.alloc (.cells #[.int .u64 (t1 ||| t2 : Nat)] 62)) ∧ (w12.alloc (.cells #[.int .u64 (t1 ||| t2 : Nat)] 62)).heap.size = w12.heap.size + 1 ∧ cM + 1 + 1 + 1 < w12.heap.size ∧ (∀ d ∈ ds, cM + 1 + 1 + 1 < d ∧ d < w12.heap.size)) := by
        obtain ⟨h1, h2, h3⟩ := HG3.out
        obtain ⟨m1, m2, m3⟩ := HMK.out
        have l3 := h1.lt
        have k3 := HK3.out
        have z3 := k3.size
        have b4 : Below W3.heap.size W3 (w12.alloc (.cells #[.int .u64 (t1 ||| t2 : Nat)] 62)) := H12.out.alloc H12.out.size _
        have z4 := H12.out.size
        have bw := below_on h2 b4
        refine ⟨h1.on b4, ⟨(Boxed.new w12 62 (.int .u64 (t1 ||| t2 : Nat))).cell, HT.out _ bw⟩, bw, fun d hd => ?_, World.size_alloc _ _, by omega, fun d hd => ⟨m3 d hd, by have := m1.lt d hd; omega⟩⟩
        have q1 := m1.lt d hd
        have q2 := m3 d hd
        exact (b4.block d (by omega)).trans ((k3.block d q1 (by omega)).trans (m1 d hd))
      clear HG3 HMK HK3 H12 H11 H10 H9 HXX HCM c0d hor hHeld
      generalize hW4 : w12.alloc (.cells #[.int .u64 (t1 ||| t2 : Nat)] 62) = W4 at *
      clear hW4
      generalize w12.heap.size = Bn at *
      have hgo := all_goes14 13 (by decide) Bn (t1 ||| t2) HS2.out
      have HND : Hid ((BM.lst (t1 ||| t2)).Nodup) := OM.lst_nodup _
      have HZ4 : Hid (W4.heap.size = Bn + 1 ∧ cM + 1 + 1 + 1 < Bn ∧ ∀ d ∈ ds, cM + 1 + 1 + 1 < d ∧ d < Bn) := HS4.out.2.2.2.2
      refine (wpIn_wide (n := 14)).1 (range_goesQ (by decide) (gf := 59) (lb := #[.pointer (some ⟨Bn, 0, none⟩)]) rfl (enters_of Tryz.func59 (by kernel_rfl) rfl) hgo (fun _ => rfl)
        (fun pre W => GK w.heap.size w.heap.size p cM (cM + 1) (cM + 1 + 1) (cM + 1 + 1 + 1) N k (OM.midS s b r pre) W ∧ AllReads Bn (t1 ||| t2) W ∧ Below w.heap.size w W ∧ Marks ds W)
        (fun _ _ _ => False)
        (fun pre A A' h hk => by
          obtain ⟨h1, h2, h3, h4⟩ := h
          obtain ⟨z1, z2, z3⟩ := HZ4.out
          have l1 := h1.o1
          have l2 := h1.o2
          have hb' := h3.trans (hk.below (fun b hb => by omega) h3.size)
          exact ⟨h1.kept hk (fun b hb => by omega), ⟨hk.cell h2.1 (by show ¬ (W4.heap.size ≤ Bn ∧ Bn < W4.heap.size + 2); omega), HT.out _ hb'⟩, hb', fun d hd => (hk.block d (h4.lt d hd) (by have := z3 d hd; omega)).trans (h4 d hd)⟩)
        (fun _ _ _ _ h _ => h)
        (fun pre A h => h.2.1)
        ⟨HS4.out.1, HS4.out.2.1, HS4.out.2.2.1, HS4.out.2.2.2.1⟩
        (fun x A => { tmps := #[.pointer (some ⟨gp, 0, none⟩), .int .i64 k, undef, .pointer (some ⟨w.heap.size, 0, none⟩), .slice none 0 0, .pointer (some ⟨cM, 0, none⟩), .slice (some ⟨cM + 1, 0, none⟩) N N, .pointer (some ⟨cM + 1 + 1 + 1, 0, none⟩), .func (.func 23) #[] #[.pointer (some ⟨cM, 0, none⟩), .pointer (some ⟨w.heap.size, 0, none⟩), .pointer (some ⟨cM + 1 + 1 + 1, 0, none⟩)], .int .u64 (S : Nat), .int .i64 (r : Nat), .int .i64 (b : Nat), .int .i64 (x : Nat), .pointer (some ⟨gp, 0, none⟩), .pointer (some ⟨p, 0, none⟩), .pointer (some ⟨p, 0, none⟩), .int .i64 (N : Nat), .slice (some ⟨cM + 1, 0, none⟩) N N, .pointer (some ⟨p, 0, none⟩), .int .i64 (N : Nat), .slice (some ⟨cM + 1 + 1, 0, none⟩) N N, .func (.func 23) #[] #[.pointer (some ⟨cM, 0, none⟩), .pointer (some ⟨w.heap.size, 0, none⟩), .pointer (some ⟨cM + 1 + 1 + 1, 0, none⟩)], .pointer (some ⟨p, 0, none⟩), .int .i64 (N : Nat), .int .u64 (S0 : Nat), .slice (some ⟨cM + 1, 0, none⟩) N N, .int .i64 (N : Nat), .int .i64 (r : Nat), .bool true, .int .i64 (r : Nat), .int .u64 (S : Nat), .func (.func 59) #[] #[.pointer (some ⟨wr.heap.size, 0, none⟩)], .func (.func 23) #[] #[.pointer (some ⟨cM, 0, none⟩), .pointer (some ⟨w.heap.size, 0, none⟩), .pointer (some ⟨cM + 1 + 1 + 1, 0, none⟩)], .int .i64 (b : Nat), .slice (some ⟨cM + 1, 0, none⟩) N N, .int .i64 (b : Nat), .int .i64 (r : Nat), .pointer (some ⟨cM + 1, b, none⟩), .pointer (some ⟨p, 0, none⟩), .int .i64 (b : Nat), iterV B9, .int .u64 (t1 : Nat), .pointer (some ⟨p, 0, none⟩), .int .i64 (b : Nat), iterV B11, .int .u64 (t2 : Nat), .int .u64 (t1 ||| t2 : Nat), .func (.func 59) #[] #[.pointer (some ⟨Bn, 0, none⟩)], .int .i64 (x : Nat), u49, u50, u51, u52, u53, u54, u55, u56, u57, u58, u59, u60, u61, undef], defers := [] })
        (fun x A => A) (fun x W => Below.refl _ _) ?assign ?body ?done ?stop)
      case assign =>
        intro l x W K hK
        simp only [numV]
        gi_wp2
        exact hK
      case body =>
        rintro l pre x A W rfl hr ⟨hG, hA, hB, hMk⟩ hpx hA' hkA hsA
        obtain ⟨z1, z2, z3⟩ := HZ4.out
        obtain ⟨hxN, hxe⟩ := (HME.out x).1 (hpx.subset (by simp))
        have hxp : x ∉ pre := fun hc => by
          have h1 := hpx.sublist.nodup HND.out
          rw [List.nodup_append] at h1
          exact h1.2.2 x hc x (by simp) rfl
        have cl := hG.cl.cell
        have cx := hG.gn.cell hxN
        have fx := hG.gn.fz x
        rw [show (OM.midS s b r pre).gone x = s.gone x from if_neg hxp] at cx
        have hgx := HGN.out x
        have HG' : Hid (GK w.heap.size w.heap.size p cM (cM + 1) (cM + 1 + 1) (cM + 1 + 1 + 1) N k (OM.midS s b r (pre ++ [x])) (W.setCell ⟨cM + 1 + 1, x, none⟩ (.int .i64 (s.gone x + 1)))) := (hG.more x (s.gone x + 1)).congr rfl (fun v _ => OM.midS_snoc s b r pre x v) (fun _ _ => rfl)
        have o1 := hG.o1
        have o2 := hG.o2
        have hB' : Below w.heap.size w (W.setCell ⟨cM + 1 + 1, x, none⟩ (.int .i64 (s.gone x + 1))) := hB.setCell (p := ⟨cM + 1 + 1, x, none⟩) (by show w.heap.size ≤ cM + 1 + 1; omega) _
        have HR' : Hid (AllReads Bn (t1 ||| t2) (W.setCell ⟨cM + 1 + 1, x, none⟩ (.int .i64 (s.gone x + 1))) ∧ Below w.heap.size w (W.setCell ⟨cM + 1 + 1, x, none⟩ (.int .i64 (s.gone x + 1))) ∧ Marks ds (W.setCell ⟨cM + 1 + 1, x, none⟩ (.int .i64 (s.gone x + 1)))) := by
          have hk := keeps_set W (cM + 1 + 1) x (.int .i64 (s.gone x + 1))
          exact ⟨⟨hk.cell hA.1 (by show ¬ Bn = cM + 1 + 1; omega), HT.out _ hB'⟩, hB', fun d hd => (hk.block d (hMk.lt d hd) (by have := z3 d hd; omega)).trans (hMk d hd)⟩
        have HBK : Hid (∀ y, W4.heap.size ≤ y → y < W4.heap.size + 2 → (W.setCell ⟨cM + 1 + 1, x, none⟩ (.int .i64 (s.gone x + 1))).heap[y]? = W.heap[y]?) := fun y h1 _ => Below.heap_setCell _ _ _ _ (by show y ≠ cM + 1 + 1; omega)
        have x1 : (x : Int) < (N : Int) := by omega
        have x0 : (0 : Int) ≤ (x : Int) := by omega
        obtain ⟨g1, g2⟩ := hgx
        clear hG hA hB hMk hB' hpx hr hkA hsA hA' hgo hxe hxp HND HS4
        generalize s.gone x = gx at *
        gi_wp2_with fail
        exact ⟨HBK.out, HG'.out, HR'.out.1, HR'.out.2.1, HR'.out.2.2⟩
      case done =>
        rintro W ⟨hG, hA, hB, hMk⟩ hK
        obtain ⟨z1, z2, z3⟩ := HZ4.out
        have c0 := hG.cm.cell
        have o1 := hG.o1
        have o2 := hG.o2
        have hcn := xcon_ok hG.x HMS.out hN b HBN.out
        have HMA : Hid (Marks (W4.heap.size :: ds) W) := fun d hd => by
          rcases List.mem_cons.1 hd with h | h
          · rw [h]; exact hK
          · exact hMk d h
        have HFN : Hid (∀ W', XMem W' p N (XM.con s.D b) → Keeps (fun x => x = p) W W' → RR w p cM N k D (r + 1) (BM.less S (BM.only (b : Int))) (W4.heap.size :: ds) W') := fun W' hx hk => by
          refine ⟨?_, ?_, fun d hd => (hk.block d (HMA.out.lt d hd) ?_).trans (HMA.out d hd), ?_, fun d hd => ?_, hB.trans (hk.below (fun b hb => by omega) hB.size)⟩
          · rw [HSE.out]
            refine (hG.con hk hx).congr rfl (fun v hv => ?_) (fun _ _ => rfl)
            show (if v ∈ BM.lst (t1 ||| t2) then s.gone v + 1 else s.gone v) = (if OM.edge s.D b v = true then s.gone v + 1 else s.gone v)
            by_cases e : OM.edge s.D b v = true
            · rw [if_pos e, if_pos ((HME.out v).2 ⟨hv, e⟩)]
            · rw [if_neg e, if_neg (fun h => e ((HME.out v).1 h).2)]
          · rw [HSE.out]
            exact HST.out.take b
          · rcases List.mem_cons.1 hd with h | h
            · omega
            · have := z3 d h; omega
          · refine List.nodup_cons.2 ⟨fun h => ?_, HNDS.out⟩
            have := z3 _ h
            omega
          · rcases List.mem_cons.1 hd with h | h
            · omega
            · exact (z3 d h).1
        have hwo := without13_any S (b : Int) HST.out.1
        have HGK : Hid (gk - 1 < gk ∧ r + 1 + (gk - 1) = N) := by show _ ∧ _; omega
        clear hG hA hB hMk hK HMA hgo HS4 z1 z2 z3
        go_wp2_with fail
        refine hcn.mono ?_
        rintro e wz ⟨rfl, hz1, hz2⟩
        have HR9 := HFN.out wz hz1 hz2
        have HR9 : Hid (RR w p cM N k D (r + 1) (BM.less S (BM.only (b : Int))) (W4.heap.size :: ds) wz) := HR9
        have hwz := hwo wz
        clear hcn HFN hz1 hz2 hwo c0
        go_wp2_with fail
        refine hwz.mono ?_
        rintro e wy ⟨rfl, hwy⟩
        rw [hwy]
        clear hwy wy hwz
        go_wp2_with fail
        refine Handed.intro (gk - 1) HGK.out.1 ?_
        go_step
        refine ⟨r + 1, BM.less S (BM.only (b : Int)), W4.heap.size :: ds, ?_⟩
        repeat apply Exists.intro
        exact ⟨⟨HGK.out.2, HR9.out⟩, rfl⟩
      case stop =>
        rintro c pre W _ h _
        exact h.elim
    · obtain rfl : r = N := by omega
      obtain ⟨hG, hS, hMk, hnd, hlo, hbel⟩ := HRR.out
      have hoo := hG.own
      have o1 := hG.o1
      have o2 := hG.o2
      have HMK : Hid (Marks ds wr ∧ ds.Nodup ∧ ∀ d ∈ ds, cM + 1 + 1 + 1 < d) := ⟨hMk, hnd, hlo⟩
      have HOO : Hid (Own .i64 3 wr w.heap.size (.slice (some ⟨cM + 1, 0, none⟩) r r) ((List.range r).map (OM.run r D k.toNat r).rank) ∧ Below w.heap.size w wr) := ⟨hoo, hbel⟩
      have r1 : ¬ (r : Int) < (r : Int) := by omega
      clear hG hS hMk hnd hlo hbel hoo HRR
      go_wp2_with fail
      refine leaves_marks (fun _ => trivial) ds wr HMK.out.2.1 HMK.out.1 (fun W' hk => ?_)
      have hlo := HMK.out.2.2
      have hsz := HOO.out.2.size
      refine ⟨.slice (some ⟨cM + 1, 0, none⟩) r r, ?_, _, rfl, hk.row HOO.out.1 (fun g hg hgd => ?_), HOO.out.2.trans (hk.below (fun b hb => by have := hlo b hb; omega) hsz)⟩
      · simp [results, Tryz.f7, go_sem]
      · cases hg
        have h9 : cM + 1 + 1 + 1 < cM + 1 := hlo _ hgd
        omega
end Go.Proofs.YtkcfepppnclniaaGreatDoor
