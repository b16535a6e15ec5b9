/-
  OrdRank, OrdMarks.
-/
import Derived.Test.YtkcfepppnclniaaGreatDoorMmOrdDiff
import Derived.Test.YtkcfepppnclniaaGreatDoorMmWitAwake
import Derived.Test.YtkcfepppnclniaaGreatDoorMmGraphRef4
import Derived.Test.YtkcfepppnclniaaGreatDoorMmRangeQ
import Derived.Test.YtkcfepppnclniaaGreatDoorMmBase
section
/-
  The walk of the document's Rank (layer 14).
-/
namespace Go.Proofs.YtkcfepppnclniaaGreatDoor
open Go.RowKit
theorem infoBO : (Tryz.prog.info? 4).map (fun i => (i.zero, i.size, i.bytes)) = some (some (.bool false), 1, 1) := by kernel_rfl
theorem infoIO : (Tryz.prog.info? 3).map (fun i => (i.zero, i.size, i.bytes)) = some (some (.int .i64 0), 1, 8) := by kernel_rfl
theorem rk_new {w : World} {B p N : Nat} {D : Nat → Nat → Int} (hx : XMem w p N D) (hp : B ≤ p) (hB : B ≤ w.heap.size) (hN : N ≤ 24) : ∃ w3, w3 = ((w.alloc (.cells (madeCells #[.int .i64 0] N) 3)).alloc (.cells (madeCells #[.bool false] N) 4)).alloc (.cells (madeCells #[.int .i64 0] N) 3) ∧
    RK B p w.heap.size (w.heap.size + 1) (w.heap.size + 1 + 1) N ⟨D, fun _ => false, fun _ => 0, fun _ => 0⟩ w3 ∧ Below w.heap.size w w3 := by
  have a1 : Below w.heap.size w (w.alloc (.cells (madeCells #[.int .i64 0] N) 3)) := (Below.refl _ _).alloc (Nat.le_refl _) _
  have r1 := RowIn.new w B N 3 (.int .i64 0) hB hN
  have s1 := World.size_alloc w (.cells (madeCells #[.int .i64 0] N) 3)
  have x1 := hx.on a1
  generalize w.alloc (.cells (madeCells #[.int .i64 0] N) 3) = w1 at *
  have a2 : Below w1.heap.size w1 (w1.alloc (.cells (madeCells #[.bool false] N) 4)) := (Below.refl _ _).alloc (Nat.le_refl _) _
  have l2 := RowIn.new w1 B N 4 (.bool false) (by omega) hN
  have s2 := World.size_alloc w1 (.cells (madeCells #[.bool false] N) 4)
  have x2 := x1.on a2
  have r2 := r1.on a2
  generalize w1.alloc (.cells (madeCells #[.bool false] N) 4) = w2 at *
  have a3 : Below w2.heap.size w2 (w2.alloc (.cells (madeCells #[.int .i64 0] N) 3)) := (Below.refl _ _).alloc (Nat.le_refl _) _
  have g3 := RowIn.new w2 B N 3 (.int .i64 0) (by omega) hN
  have pl := hx.lt
  rw [s1] at l2
  rw [s2, s1] at g3
  refine ⟨_, rfl, ⟨x2.on a3, r2.on a3, l2.on a3, g3, hp, by omega, by omega, by omega, by omega, by omega, by omega⟩, a1.trans ((a2.mono (by omega)).trans (a3.mono (by omega)))⟩
set_option maxHeartbeats 4000000 in
set_option maxRecDepth 100000 in
/-- The document's Rank. -/
theorem rrank_any {w : World} {gq N most : Nat} {m : GM.M} (hg : RMem w gq N most m) (hN : N ≤ 24) (D : Nat → Nat → Int) (hD : XM.ofD m N N 0 = D) (hm : XM.Mesh N D) (k : Int) :
    Calls Tryz.prog 9 #[.pointer (some ⟨gq, 0, none⟩), .int .i64 k] w fun e w' => ∃ r, e = .returned r ∧ Own .i64 3 w' w.heap.size r ((List.range N).map (OM.run N D k.toNat N).rank) ∧ Below w.heap.size w w' := by
  have hof := rof_any hg hN
  rw [hD] at hof
  have hmi := run_make_row' (P := Tryz.prog) 28 3 (.int .i64 0) 8 Tryz.underlying28 infoIO rfl .i64 .i64 N (by omega) (by omega)
  have hmb := run_make_row' (P := Tryz.prog) 75 4 (.bool false) 1 Tryz.underlying75 infoBO rfl .i64 .i64 N (by omega) (by omega)
  have HG : Hid (∀ W, Below w.heap.size w W → W.cell? ⟨gq, 0, none⟩ = some (.int .i64 (N : Nat))) := fun W hW => (hg.on hW).c0
  have HM : Hid (XM.Mesh N D) := hm
  clear hg hD hm
  go_enter Tryz.func9, Tryz.ntmps9
  go_wp2_with fail
  refine hof.mono ?_
  rintro e w1 ⟨p, rfl, hp, hx, hb⟩
  have c0 := HG.out w1 hb
  have HB1 : Hid (Below w.heap.size w w1) := hb
  have h3 := rk_new hx hp hb.size hN
  have d1 := hb.alloc hb.size (.cells (madeCells #[.int .i64 0] N) 3)
  have c1 := HG.out _ d1
  have c2 := HG.out _ (d1.alloc d1.size (.cells (madeCells #[.bool false] N) 4))
  clear hof hx hb d1
  go_upto_region 5 with fail
  obtain ⟨w3, hw3, hR, hb3⟩ := h3
  rw [← hw3]
  clear hw3 c0 c1 c2 hmb hmi
  generalize w1.heap.size + 1 + 1 = b3 at *
  generalize w1.heap.size + 1 = b2 at *
  have HB3 : Hid (Below w.heap.size w w3) := HB1.out.trans (hb3.mono HB1.out.size)
  generalize w1.heap.size = b1 at *
  have HR3 : Hid (RK w.heap.size p b1 b2 b3 N ⟨D, fun _ => false, fun _ => 0, fun _ => 0⟩ w3) := hR
  clear hR hb3 HB1
  go_wp2_with fail
  go_loopw [9] (fun iv wr => ∃ j : Nat, j ≤ N ∧ iv = .int .i64 j ∧ RK w.heap.size p b1 b2 b3 N ⟨D, fun v => decide (v < j), fun _ => 0, fun _ => 0⟩ wr ∧ Below w.heap.size w wr) (fun iv _ => N - (intOf iv).toNat)
  case atStart => exact ⟨0, Nat.zero_le _, rfl, HR3.out.congr rfl (fun v _ => by simp) (fun _ _ => rfl) (fun _ _ => rfl), HB3.out⟩
  case round =>
    clear HR3 HB3
    obtain ⟨j, hj, rfl, hR, hB⟩ := hrel
    have c0 := HG.out wr hB
    by_cases hlt : j < N
    · have cl := hR.lf.cell hlt
      have fl := hR.lf.fz j
      have HR2 : Hid (RK w.heap.size p b1 b2 b3 N ⟨D, fun v => decide (v < j + 1), fun _ => 0, fun _ => 0⟩ (wr.setCell ⟨b2, j, none⟩ (.bool true))) := (hR.take j true).congr rfl (fun v _ => by
        dsimp only
        split
        · simp; omega
        · rw [decide_eq_decide]; omega) (fun _ _ => rfl) (fun _ _ => rfl)
      have HB2 : Hid (Below w.heap.size w (wr.setCell ⟨b2, j, none⟩ (.bool true))) := hB.setCell hR.lts.2.2.2.2.2.1 _
      have j1 : (j : Int) < (N : Int) := by omega
      have j0 : (0 : Int) ≤ (j : Int) := by omega
      clear hR hB
      go_wp2_with fail
      go_roundw
      case rel => exact ⟨j + 1, by omega, by go_num, HR2.out, HB2.out⟩
      case measure => simp [intOf]; omega
    · have hjN : j = N := by omega
      rw [hjN] at hR
      have HR4 : Hid (RK w.heap.size p b1 b2 b3 N (OM.run N D k.toNat 0) wr) := hR
      have HB4 : Hid (Below w.heap.size w wr) := hB
      have j1 : ¬ (j : Int) < (N : Int) := by omega
      clear hR hB hlt hj hjN
      go_wp2_with fail
      clear c0
      go_loopw [10] (fun rv wx => ∃ r : Nat, r ≤ N ∧ rv = .int .i64 r ∧ RK w.heap.size p b1 b2 b3 N (OM.run N D k.toNat r) wx ∧ Below w.heap.size w wx) (fun rv _ => N - (intOf rv).toNat)
      case atStart => exact ⟨0, Nat.zero_le _, rfl, HR4.out, HB4.out⟩
      case round =>
        clear HR4 HB4 j1
        obtain ⟨r, hr, rfl, hR, hB⟩ := hrel
        have c0 := HG.out _ hB
        by_cases hlt : r < N
        · have r1 : (r : Int) < (N : Int) := by omega
          obtain ⟨hb1, hb2, hb3⟩ := OM.best_is N D k.toNat r hlt
          have hms := OM.run_mesh HM.out k.toNat r
          have hgb := OM.run_gone N D k.toNat r
          have HT : Hid (OM.run N D k.toNat (r + 1) = ⟨XM.con (OM.run N D k.toNat r).D (OM.best N D k.toNat r), (OM.mid (OM.run N D k.toNat r) (OM.best N D k.toNat r) r N).left, fun v => if OM.edge (OM.run N D k.toNat r).D (OM.best N D k.toNat r) v = true then (OM.run N D k.toNat r).gone v + 1 else (OM.run N D k.toNat r).gone v, (OM.mid (OM.run N D k.toNat r) (OM.best N D k.toNat r) r N).rank⟩) := rfl
          generalize OM.best N D k.toNat r = b at *
          generalize hs' : OM.run N D k.toNat (r + 1) = s' at *
          have HSE : Hid (OM.run N D k.toNat (r + 1) = s') := hs'
          clear hs'
          generalize OM.run N D k.toNat r = s at *
          have HGB : Hid (∀ v, 0 ≤ s.gone v ∧ s.gone v ≤ r) := hgb
          have HMS : Hid (XM.Mesh N s.D) := hms
          have HBN : Hid (b < N) := hb1
          obtain ⟨dv, hdv⟩ : ∃ dv : Nat → Int, dv = fun v => OM.diff N s.D v k.toNat := ⟨_, rfl⟩
          have HDB : Hid (∀ v, -48 ≤ dv v ∧ dv v ≤ 600) := fun v => by
            rw [hdv]
            exact OM.diff_bd hN v k.toNat
          have HDF : Hid (∀ W, XMem W p N s.D → ∀ v : Nat, v < N → Calls Tryz.prog 33 #[.pointer (some ⟨p, 0, none⟩), .int .i64 v, .int .i64 k] W fun e w' => e = .returned (.int .i64 (dv v)) ∧ Below W.heap.size W w') := fun W hW v hv => by
            rw [hdv]
            exact rdiff_any hW hms hN v hv k
          rw [show (fun v => OM.diff N s.D v k.toNat + s.gone v) = fun v => dv v + s.gone v by rw [hdv]] at hb3
          clear hdv hgb hms hb1 hb2
          obtain ⟨SC, hSC⟩ : ∃ SC, SC = OM.scan s.left (fun v => dv v + s.gone v) := ⟨_, rfl⟩
          have HSC : Hid (∀ j, SC (j + 1) = if s.left j = true ∧ ((SC j).1 < 0 ∨ dv j + s.gone j < (SC j).2) then ((j : Int), dv j + s.gone j) else SC j) := fun j => by rw [hSC]; rfl
          have HS0 : Hid (SC 0 = (-1, 0)) := by rw [hSC]; rfl
          have HSN : Hid ((SC N).1 = (b : Nat)) := by rw [hSC]; exact hb3
          have HSB : Hid (∀ j, -1 ≤ (SC j).1 ∧ (SC j).1 < j ∧ -100 ≤ (SC j).2 ∧ (SC j).2 ≤ 700) := fun j => by
            have h1 := OM.scan_lt s.left (fun v => dv v + s.gone v) j
            have h2 := OM.scan_bd (left := s.left) (c := fun v => dv v + s.gone v) (lo := -100) (hi := 700) (by omega) (fun v => by have := HDB.out v; have := HGB.out v; omega) j
            rw [← hSC] at h1 h2
            exact ⟨h1.1, h1.2, h2.1, h2.2⟩
          have HR5 : Hid (RK w.heap.size p b1 b2 b3 N s wr) := hR
          have HB5 : Hid (Below w.heap.size w wr) := hB
          clear hSC hb3 hR hB
          go_wp2_with fail
          clear c0
          go_loopw [11, 12, 13] (fun bv lv iv wx => ∃ j : Nat, j ≤ N ∧ iv = .int .i64 j ∧ bv = .int .i64 (SC j).1 ∧ lv = .int .i64 (SC j).2 ∧ RK w.heap.size p b1 b2 b3 N s wx ∧ Below w.heap.size w wx) (fun _ _ iv _ => N - (intOf iv).toNat)
          case atStart => exact ⟨0, Nat.zero_le _, rfl, by rw [HS0.out], by rw [HS0.out], HR5.out, HB5.out⟩
          case round =>
            clear HR5 HB5 HS0
            obtain ⟨j, hj, rfl, rfl, rfl, hR, hB⟩ := hrel
            have c0 := HG.out _ hB
            have hsb := HSB.out j
            by_cases hjl : j < N
            · have j1 : (j : Int) < (N : Int) := by omega
              have j0 : (0 : Int) ≤ (j : Int) := by omega
              have cl := hR.lf.cell hjl
              have fl := hR.lf.fz j
              have hsc := HSC.out j
              have HR6 : Hid (RK w.heap.size p b1 b2 b3 N s wr) := hR
              have HB6 : Hid (Below w.heap.size w wr) := hB
              cases hl : s.left j with
              | false =>
                have HE : Hid (SC (j + 1) = SC j) := by
                  show _ = _
                  rw [hsc, if_neg (fun h => by rw [hl] at h; cases h.1)]
                rw [hl] at cl
                clear hsc hR hB
                go_wp2_with fail
                go_roundw
                case rel => exact ⟨j + 1, by omega, by go_num, by rw [HE.out], by rw [HE.out], HR6.out, HB6.out⟩
                case measure => simp [intOf]; omega
              | true =>
                rw [hl] at cl
                have hsc : SC (j + 1) = if ((SC j).1 < 0 ∨ dv j + s.gone j < (SC j).2) then ((j : Int), dv j + s.gone j) else SC j := by
                  rw [hsc]
                  simp [hl]
                have HSJ : Hid (SC (j + 1) = if ((SC j).1 < 0 ∨ dv j + s.gone j < (SC j).2) then ((j : Int), dv j + s.gone j) else SC j) := hsc
                have hgo := HGB.out j
                have hdo := HDB.out j
                have HDJ : Hid (Calls Tryz.prog 33 #[.pointer (some ⟨p, 0, none⟩), .int .i64 j, .int .i64 k] wr.drew fun e w' => e = .returned (.int .i64 (dv j)) ∧ Below wr.heap.size wr w') := (HDF.out _ hR.x.drew j hjl).mono (fun e w' h => ⟨h.1, below_of_drew h.2⟩)
                have HGC : Hid (∀ W, Below wr.heap.size wr W → W.cell? ⟨b3, j, none⟩ = some (.int .i64 (s.gone j))) := fun W hW => (hR.on hW).gn.cell hjl
                have cg := HGC.out _ (Below.refl _ _)
                have cgd : wr.drew.cell? ⟨b3, j, none⟩ = some (.int .i64 (s.gone j)) := cg
                have HBW : Hid (∀ W, Below wr.heap.size wr W → RK w.heap.size p b1 b2 b3 N s W ∧ Below w.heap.size w W) := fun W hW => ⟨hR.on hW, hB.trans (hW.mono hB.size)⟩
                clear hsc hR hB hl
                generalize s.gone j = go at *
                generalize dv j = dj at *
                generalize hsj : SC j = sj at *
                obtain ⟨sb, sl⟩ := sj
                dsimp only at hsb
                go_upto_region 18 with fail
                go_region_held3 (fun w' => w'.cell? ⟨b3, j, none⟩ = some (.int .i64 go)) (first | go_keep | exact HGC.out _ HB7.out) (first
                  | (go_at_call 33; refine HDJ.out.mono ?_; rintro e w7 ⟨rfl, hb7⟩; have HB7 : Hid (Below wr.heap.size wr w7) := hb7; clear hb7))
                have HR7 : Hid (RK w.heap.size p b1 b2 b3 N s w7) := (HBW.out _ HB7.out).1
                have HB8 : Hid (Below w.heap.size w w7) := (HBW.out _ HB7.out).2
                clear HBW HGC HDJ HR6 HB6 HB7
                obtain ⟨hd1, hd2⟩ := hdo
                obtain ⟨hg1, hg2⟩ := hgo
                by_cases hb0 : sb < 0
                · have HE : Hid (SC (j + 1) = ((j : Int), dj + go)) := by
                    show _ = _
                    rw [HSJ.out, if_pos (.inl hb0)]
                  clear HSJ hsb hsj
                  go_wp2_with fail
                  go_roundw
                  case rel => exact ⟨j + 1, by omega, by go_num, by rw [HE.out], by rw [HE.out]; exact congrArg (Value.int .i64) (by rw [IntKind.wrap_i64]; omega), HR7.out, HB8.out⟩
                  case measure => simp [intOf]; omega
                · by_cases hlo : dj + go < sl
                  · have HE : Hid (SC (j + 1) = ((j : Int), dj + go)) := by
                      show _ = _
                      rw [HSJ.out, if_pos (.inr hlo)]
                    clear HSJ hsj
                    go_wp2_with fail
                    go_roundw
                    case rel => exact ⟨j + 1, by omega, by go_num, by rw [HE.out], by rw [HE.out]; exact congrArg (Value.int .i64) (by rw [IntKind.wrap_i64]; omega), HR7.out, HB8.out⟩
                    case measure => simp [intOf]; omega
                  · have HE : Hid (SC (j + 1) = (sb, sl)) := by
                      show _ = _
                      rw [HSJ.out, if_neg (by omega)]
                    clear HSJ hsj
                    go_wp2_with fail
                    go_roundw
                    case rel => exact ⟨j + 1, by omega, by go_num, by rw [HE.out], by rw [HE.out], HR7.out, HB8.out⟩
                    case measure => simp [intOf]; omega
            · have hjN : j = N := by omega
              subst hjN
              have hsn := HSN.out
              have HR6 : Hid (RK w.heap.size p b1 b2 b3 j s wr) := hR
              have HB6 : Hid (Below w.heap.size w wr) := hB
              have j1 : ¬ (j : Int) < (j : Int) := by omega
              rw [hsn]
              have hbj : b < j := HBN.out
              have b0 : (0 : Int) ≤ (b : Int) := by omega
              have bj : (b : Int) < (j : Int) := by omega
              have ck := hR.rk.cell hbj
              have fk := hR.rk.fz b
              have h1 := hR.rank b r
              have cl := h1.lf.cell hbj
              have fl := h1.lf.fz b
              have hB1 := hB.setCell (p := ⟨b1, b, none⟩) hR.lts.2.2.2.2.1 (.int .i64 (r : Int))
              have h2 := h1.take b false
              have hB2 := hB1.setCell (p := ⟨b2, b, none⟩) hR.lts.2.2.2.2.2.1 (.bool false)
              have HR9 : Hid (RK w.heap.size p b1 b2 b3 j (OM.mid s b r 0) ((wr.setCell ⟨b1, b, none⟩ (.int .i64 (r : Int))).setCell ⟨b2, b, none⟩ (.bool false))) := h2.congr rfl (fun _ _ => rfl) (fun v _ => by unfold OM.mid; simp) (fun _ _ => rfl)
              have HB9 : Hid (Below w.heap.size w ((wr.setCell ⟨b1, b, none⟩ (.int .i64 (r : Int))).setCell ⟨b2, b, none⟩ (.bool false))) := hB2
              clear hR hB h1 h2 hB1 hB2 hsb hjl hj hsn HR6 HB6
              go_wp2_with fail
              clear c0 ck fk cl fl
              go_loopw [15] (fun iv wx => ∃ x : Nat, x ≤ j ∧ iv = .int .i64 x ∧ RK w.heap.size p b1 b2 b3 j (OM.mid s b r x) wx ∧ Below w.heap.size w wx) (fun iv _ => j - (intOf iv).toNat)
              case atStart => exact ⟨0, Nat.zero_le _, rfl, HR9.out, HB9.out⟩
              case round =>
                clear HR9 HB9
                obtain ⟨x, hx, rfl, hR, hB⟩ := hrel
                have c0 := HG.out _ hB
                by_cases hxl : x < j
                · have x1 : (x : Int) < (j : Int) := by omega
                  have x0 : (0 : Int) ≤ (x : Int) := by omega
                  have hrow : ∀ W back, XMem W p j s.D → Calls Tryz.prog 35 #[.pointer (some ⟨p, 0, none⟩), .int .i64 b, .bool back] W fun e w' => ∃ v, e = .returned v ∧ Row .i64 w' v (firsts (XM.steps j s.D b back j)) ∧ Below W.heap.size W w' := fun W back hW => by
                    refine (rsteps_any hW HMS.out hN (b : Int) back).mono ?_
                    rintro e w' ⟨v, rfl, h2, h3⟩
                    exact ⟨v, rfl, h2.row, h3⟩
                  have hed := edge_mem HMS.out (b := b) hxl
                  have HSF : Hid (∀ W, XMem W p j s.D → Calls Tryz.prog 35 #[.pointer (some ⟨p, 0, none⟩), .int .i64 b, .bool false] W fun e w' => ∃ v, e = .returned v ∧ Row .i64 w' v (firsts (XM.steps j s.D b false j)) ∧ Below W.heap.size W w') := fun W hW => hrow W false hW
                  have HSTR : Hid (∀ W, XMem W p j s.D → Calls Tryz.prog 35 #[.pointer (some ⟨p, 0, none⟩), .int .i64 b, .bool true] W fun e w' => ∃ v, e = .returned v ∧ Row .i64 w' v (firsts (XM.steps j s.D b true j)) ∧ Below W.heap.size W w') := fun W hW => hrow W true hW
                  clear hrow
                  generalize firsts (XM.steps j s.D b false j) = A1 at *
                  generalize firsts (XM.steps j s.D b true j) = A2 at *
                  have HR10 : Hid (RK w.heap.size p b1 b2 b3 j (OM.mid s b r x) wr) := hR
                  have HB10 : Hid (Below w.heap.size w wr) := hB
                  have hs1 := HSF.out wr hR.x
                  have HYES : Hid (OM.edge s.D b x = true → ∀ W, RK w.heap.size p b1 b2 b3 j (OM.mid s b r x) W → Below w.heap.size w W → RK w.heap.size p b1 b2 b3 j (OM.mid s b r (x + 1)) (W.setCell ⟨b3, x, none⟩ (.int .i64 (s.gone x + 1))) ∧ Below w.heap.size w (W.setCell ⟨b3, x, none⟩ (.int .i64 (s.gone x + 1))) ∧ W.cell? ⟨b3, x, none⟩ = some (.int .i64 (s.gone x)) ∧ W.frozen? ⟨b3, x, none⟩ = false) := fun he W hW hBW =>
                    ⟨(hW.more x (s.gone x + 1)).congr rfl (fun _ _ => rfl) (fun v _ => OM.mid_yes he v) (fun _ _ => rfl), hBW.setCell hW.lts.2.2.2.2.2.2 _, by rw [hW.gn.cell hxl, OM.mid_at], hW.gn.fz x⟩
                  have hgb := HGB.out x
                  have HNO : Hid (OM.edge s.D b x = false → ∀ W, RK w.heap.size p b1 b2 b3 j (OM.mid s b r x) W → RK w.heap.size p b1 b2 b3 j (OM.mid s b r (x + 1)) W) := fun he W hW => hW.congr rfl (fun _ _ => rfl) (fun v _ => OM.mid_no he v) (fun _ _ => rfl)
                  clear hR hB
                  obtain ⟨g1, g2⟩ := hgb
                  generalize s.gone x = gx at *
                  by_cases m1 : (x : Int) ∈ A1
                  · have HE : Hid (OM.edge s.D b x = true) := by
                      show _ = _
                      rw [hed, decide_eq_true m1]; rfl
                    have hh := fun v W (hr : Row .i64 W v A1) => rhas14_any v A1 (x : Int) W hr
                    rw [decide_eq_true m1] at hh
                    clear hed m1 HNO HSTR
                    go_wp2_with fail
                    refine hs1.mono ?_
                    rintro e wa ⟨v1, rfl, hr1, hb1⟩
                    have hc := hh _ _ hr1
                    obtain ⟨y1, y2, y3, y4⟩ := HYES.out HE.out wa (HR10.out.on hb1) (HB10.out.trans (hb1.mono HB10.out.size))
                    have HY1 : Hid (RK w.heap.size p b1 b2 b3 j (OM.mid s b r (x + 1)) (wa.setCell ⟨b3, x, none⟩ (.int .i64 (gx + 1)))) := y1
                    have HY2 : Hid (Below w.heap.size w (wa.setCell ⟨b3, x, none⟩ (.int .i64 (gx + 1)))) := y2
                    clear y1 y2 hs1 hb1 hr1 hh
                    go_wp2_with fail
                    refine hc.mono ?_
                    rintro e w' ⟨rfl, hw'⟩
                    rw [hw']
                    clear hc hw' w'
                    go_wp2_with fail
                    go_roundw
                    case rel => exact ⟨x + 1, by omega, by go_num, HY1.out, HY2.out⟩
                    case measure => simp [intOf]; omega
                  · have hh := fun v W (hr : Row .i64 W v A1) => rhas14_any v A1 (x : Int) W hr
                    rw [decide_eq_false m1] at hh
                    have hed2 : OM.edge s.D b x = decide ((x : Int) ∈ A2) := by rw [hed, decide_eq_false m1]; rfl
                    by_cases m2 : (x : Int) ∈ A2
                    · have HE : Hid (OM.edge s.D b x = true) := by
                        show _ = _
                        rw [hed2, decide_eq_true m2]
                      have hh2 := fun v W (hr : Row .i64 W v A2) => rhas14_any v A2 (x : Int) W hr
                      rw [decide_eq_true m2] at hh2
                      clear hed hed2 m1 m2 HNO HSF
                      go_wp2_with fail
                      refine hs1.mono ?_
                      rintro e wa ⟨v1, rfl, hr1, hb1⟩
                      have hc := hh _ _ hr1
                      have hra := HR10.out.on hb1
                      have hs2 := HSTR.out wa hra.x
                      have HRA : Hid (RK w.heap.size p b1 b2 b3 j (OM.mid s b r x) wa) := hra
                      have HBA : Hid (Below w.heap.size w wa) := HB10.out.trans (hb1.mono HB10.out.size)
                      clear hs1 hb1 hr1 hh hra
                      go_wp2_with fail
                      refine hc.mono ?_
                      rintro e w' ⟨rfl, hw'⟩
                      rw [hw']
                      clear hc hw' w'
                      go_wp2_with fail
                      refine hs2.mono ?_
                      rintro e wb ⟨v2, rfl, hr2, hb2⟩
                      have hc2 := hh2 _ _ hr2
                      obtain ⟨y1, y2, y3, y4⟩ := HYES.out HE.out wb (HRA.out.on hb2) (HBA.out.trans (hb2.mono HBA.out.size))
                      have HY1 : Hid (RK w.heap.size p b1 b2 b3 j (OM.mid s b r (x + 1)) (wb.setCell ⟨b3, x, none⟩ (.int .i64 (gx + 1)))) := y1
                      have HY2 : Hid (Below w.heap.size w (wb.setCell ⟨b3, x, none⟩ (.int .i64 (gx + 1)))) := y2
                      clear y1 y2 hs2 hb2 hr2 hh2
                      go_wp2_with fail
                      refine hc2.mono ?_
                      rintro e w' ⟨rfl, hw'⟩
                      rw [hw']
                      clear hc2 hw' w'
                      go_wp2_with fail
                      go_roundw
                      case rel => exact ⟨x + 1, by omega, by go_num, HY1.out, HY2.out⟩
                      case measure => simp [intOf]; omega
                    · have HE : Hid (OM.edge s.D b x = false) := by
                        show _ = _
                        rw [hed2, decide_eq_false m2]
                      have hh2 := fun v W (hr : Row .i64 W v A2) => rhas14_any v A2 (x : Int) W hr
                      rw [decide_eq_false m2] at hh2
                      clear hed hed2 m1 m2 HYES HSF
                      go_wp2_with fail
                      refine hs1.mono ?_
                      rintro e wa ⟨v1, rfl, hr1, hb1⟩
                      have hc := hh _ _ hr1
                      have hra := HR10.out.on hb1
                      have hs2 := HSTR.out wa hra.x
                      have HRA : Hid (RK w.heap.size p b1 b2 b3 j (OM.mid s b r x) wa) := hra
                      have HBA : Hid (Below w.heap.size w wa) := HB10.out.trans (hb1.mono HB10.out.size)
                      clear hs1 hb1 hr1 hh hra
                      go_wp2_with fail
                      refine hc.mono ?_
                      rintro e w' ⟨rfl, hw'⟩
                      rw [hw']
                      clear hc hw' w'
                      go_wp2_with fail
                      refine hs2.mono ?_
                      rintro e wb ⟨v2, rfl, hr2, hb2⟩
                      have hc2 := hh2 _ _ hr2
                      have HY1 : Hid (RK w.heap.size p b1 b2 b3 j (OM.mid s b r (x + 1)) wb) := HNO.out HE.out wb (HRA.out.on hb2)
                      have HY2 : Hid (Below w.heap.size w wb) := HBA.out.trans (hb2.mono HBA.out.size)
                      clear hs2 hb2 hr2 hh2
                      go_wp2_with fail
                      refine hc2.mono ?_
                      rintro e w' ⟨rfl, hw'⟩
                      rw [hw']
                      clear hc2 hw' w'
                      go_wp2_with fail
                      go_roundw
                      case rel => exact ⟨x + 1, by omega, by go_num, HY1.out, HY2.out⟩
                      case measure => simp [intOf]; omega
                · have hxj : x = j := by omega
                  rw [hxj] at hR
                  have hcn := rcon_any hR.x HMS.out hN b HBN.out
                  have HFN : Hid (∀ W, XMem W p j (XM.con s.D b) → Keeps (fun b => b = p) wr W → RK w.heap.size p b1 b2 b3 j s' W ∧ Below w.heap.size w W) := fun W hW hk => by
                    refine ⟨?_, below_kept hB hk hp hB.size⟩
                    rw [HT.out]
                    refine (hR.con hk hW).congr rfl (fun _ _ => rfl) (fun v hv => ?_) (fun _ _ => rfl)
                    show (OM.mid s b r j).gone v = _
                    unfold OM.mid
                    dsimp only
                    by_cases e : OM.edge s.D b v = true
                    · rw [if_pos ⟨hv, e⟩, if_pos e]
                    · rw [if_neg (fun h => e h.2), if_neg e]
                  have x1 : ¬ (x : Int) < (j : Int) := by omega
                  clear hR hB hxj hxl hx
                  go_wp2_with fail
                  refine hcn.mono ?_
                  rintro e wz ⟨rfl, hz1, hz2⟩
                  obtain ⟨hz3, hz4⟩ := HFN.out wz hz1 hz2
                  clear hcn HFN hz1 hz2
                  go_wp2_with fail
                  go_roundw
                  case rel => exact ⟨r + 1, by omega, by go_num, by rw [HSE.out]; exact hz3, hz4⟩
                  case measure => simp [intOf]; omega
        · have hrN : r = N := by omega
          rw [hrN] at hR
          have ho := hR.own
          have r1 : ¬ (r : Int) < (N : Int) := by omega
          have HO : Hid (Own .i64 3 wr w.heap.size (.slice (some ⟨b1, 0, none⟩) N N) ((List.range N).map (OM.run N D k.toNat N).rank)) := ho
          have HB6 : Hid (Below w.heap.size w wr) := hB
          clear ho hR hB hrN
          go_wp2_with fail
          go_ret
          exact ⟨_, rfl, HO.out, HB6.out⟩
end Go.Proofs.YtkcfepppnclniaaGreatDoor
end

section
/-
  Marks of loops over functions that stand inside a loop.
-/
namespace Go.Proofs.YtkcfepppnclniaaGreatDoor
open Go.RowKit Go.Shelf
/-- Marks of loops that have been gone through: nothing was deferred in them. -/
def Marks (ds : List Nat) (A : World) : Prop := ∀ D ∈ ds, A.heap[D]? = some (.deferred (some []))
def mark (D : Nat) : Deferred := { target := .collected D, args := #[] }
theorem Marks.lt {ds : List Nat} {A : World} (h : Marks ds A) : ∀ D ∈ ds, D < A.heap.size := fun D hD => (Array.getElem?_eq_some_iff.1 (h D hD)).1
/-- Nothing is deferred: the marks are taken, one behind the other. -/
theorem leaves_marks {F : Fence} {n : Nat} {P : Program} {fn : Func} {tmps : Array Value} {R : Ending → World → Prop} (hF : ∀ f, F.fn f) : ∀ (ds : List Nat) (W : World), ds.Nodup → Marks ds W → (∀ W', Keeps (fun b => b ∈ ds) W W' → LeavesInM F n P fn tmps R [] .returning W') → LeavesInM F n P fn tmps R (ds.map mark) .returning W
  | [], W, _, _, h => h W (Keeps.refl _ _)
  | D :: ds, W, hn, hm, h => by
    have hK := hm D (by simp)
    obtain ⟨h1, h2⟩ := List.nodup_cons.1 hn
    refine ⟨by simp, .inl ⟨_, _, rfl, run_takeDeferred hK, ?_⟩⟩
    refine leaves_marks hF ds _ h2 (fun E hE => (World.putObj_heap_other (fun e => h1 (by rw [← e]; exact hE))).trans (hm E (by simp [hE]))) (fun W' hk => h W' ?_)
    exact ((keeps_putK W D _).mono (fun b hb => by rw [hb]; simp)).trans hk (fun b hb => .inl (by simp [hb]))
end Go.Proofs.YtkcfepppnclniaaGreatDoor
end
