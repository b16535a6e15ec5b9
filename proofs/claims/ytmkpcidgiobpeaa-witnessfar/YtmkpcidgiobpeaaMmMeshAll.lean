/-
  The walk of the document's All (layer 12).
-/
import Derived.Test.YtmkpcidgiobpeaaMmMeshA
import Derived.Test.YtmkpcidgiobpeaaMmWalkDist
import Derived.Deep.DeepCutAuto
import Derived.Laws.Tables
import Derived.Deep.QuietTactic
import Derived.BigQuiet
namespace Go.Proofs.Ytmkpcidgiobpeaa
open Go.RowKit

/-- A whole struct (or array) out of its cells, wherever they begin. -/
theorem wpList_load_cellsA {P : Program} {ops : Array Oper} {rest : List Oper} {o : Oper} {a : Act} {w : World} {Q : Exit → Act → World → Prop} (hgd : o.guard = none) (ty : TypeId) (x : Operand) (ho : o.op = .load ty x)
    (ad : Addr) (hx : a.eval x = .pointer (some ad)) (cs : List Value) (d : TypeDesc) (hu : P.underlying ty = some d) (hd : (match d with | .struct _ | .array _ _ => true | _ => false) = true) (hi : (P.info? ty).map (·.size) = some cs.length)
    (hc : ∀ j v, cs[j]? = some v → w.cell? (ad.add j) = some v)
    (h : wpList P ops Q rest (a.put o.dst (.agg cs.toArray)) w) : wpList P ops Q (o :: rest) a w := by
  refine wpList_plain hgd fun _ hK => ?_
  have hl : (loadCells ad cs.length).run P w = .ok cs.toArray w := run_loadCells_list (P := P) w ad cs hc
  have hv : (loadVar ty ad).run P w = .ok (.agg cs.toArray) w := by
    cases hq : P.info? ty with
    | none => simp [hq] at hi
    | some i =>
      have hs : i.size = cs.length := by simpa [hq] using hi
      have hagg : (isAgg ty).run P w = .ok true w := by
        unfold isAgg
        rw [Sem.run_bind, run_underlying hu w]
        cases d <;> simp_all
      simp [loadVar, Sem.run_bind, hagg, sizeOf, typeInfo, hq, hs, hl]
  unfold Oper.wp execOp
  simp only [ho, hx, Instr.loadAt, Instr.sureAddr, Sem.run_bind, Sem.run_pure, Result.andThen_ok, hv]
  exact hK _ _ h
/-- A result that lies in a cell of its own. -/
theorem results_cellA {P : Program} {fn : Func} {tmps : Array Value} {w : World} {a : Nat} {t : TypeId} {ad : Addr} {v : Value} (hr : fn.results = #[.cell a t]) (ht : tmps[a]?.getD undef = .pointer (some ad)) (hl : (loadVar t ad).run P w = .ok v w) : (results fn tmps).run P w = .ok v w := by
  unfold results
  rw [hr]
  simp [ht, asAddr, hl]
theorem allA_out {W : World} {t : Array Value} {g : Nat} {v : Value} {R : Ending → World → Prop} (ht : t[2]?.getD undef = .pointer (some ⟨g, 0, none⟩)) (hl : (loadVar 50 ⟨g, 0, none⟩).run Try.prog W = .ok v W) (h : R (.returned v) W) :
    bodyPost Try.prog Try.f20 R Exit.ret { tmps := t, defers := [] } W :=
  bodyPost_ret (v := v) (results_cellA rfl ht hl) rfl h
namespace XM
/-- The first k vertices are 0 from themselves. -/
def diag (D : Nat → Nat → Int) (k : Nat) : Nat → Nat → Int := fun a b => if a = b ∧ a < k then 0 else D a b
theorem diag_zero (D : Nat → Nat → Int) : diag D 0 = D := by
  funext a b
  unfold diag
  rw [if_neg (by omega)]
theorem diag_step (D : Nat → Nat → Int) (k : Nat) : NM.set2 (diag D k) k k 0 = diag D (k + 1) := by
  funext a b
  simp only [diag, NM.set2]
  repeat' split
  all_goals first | rfl | omega
theorem diag_all (D : Nat → Nat → Int) (a b : Nat) (ha : a < 24) (_hb : b < 24) : diag D 24 a b = if a = b then 0 else D a b := by
  unfold diag
  repeat' split
  all_goals first | rfl | omega
theorem Fw.put {D T : Nat → Nat → Int} {N k s t : Nat} (hD : ∀ u w, 0 ≤ D u w ∧ D u w ≤ 4611686018427387906) (h : Fw D N k s t T) (hk : k < N) (hs : s < N) (ht : t < N) (hl : DM.two (T s k) (T k t) < T s t) : Fw D N k s (t + 1) (NM.set2 T s t (DM.two (T s k) (T k t))) := h.step hD hk hs ht _ (by rw [if_pos hl])
theorem Fw.pass {D T : Nat → Nat → Int} {N k s t : Nat} (hD : ∀ u w, 0 ≤ D u w ∧ D u w ≤ 4611686018427387906) (h : Fw D N k s t T) (hk : k < N) (hs : s < N) (ht : t < N) (hl : ¬ DM.two (T s k) (T k t) < T s t) : Fw D N k s (t + 1) T := by
  have := h.step hD hk hs ht (T s t) (by rw [if_neg hl])
  rwa [set2_same rfl] at this
end XM
/-- The result's block, and the table's, just laid. -/
theorem tab_start (w : World) (D : Nat → Nat → Int) : ∃ w2, w2 = (w.alloc (.cells zT 50)).alloc (.cells (tabCells D).toArray 50) ∧ TMem w2 (w.heap.size + 1) D ∧ Below w.heap.size w w2 ∧ w2.heap.size = w.heap.size + 2 ∧ w2.heap[w.heap.size]? = some (.cells zT 50 (0, 0)) := by
  refine ⟨_, rfl, ?_, ((Below.refl _ _).alloc (Nat.le_refl _) _).alloc (by simp) _, by simp, (Below.heap_alloc _ _ _ (by simp)).trans (heap_alloc_new w _)⟩
  have := tmem_new (w.alloc (.cells zT 50)) D 50
  rwa [World.size_alloc] at this
set_option maxHeartbeats 4000000 in
set_option maxRecDepth 100000 in
theorem xall_any {w : World} {q N : Nat} {D : Nat → Nat → Int} (hg : XMem w q N D) (hm : XM.Mesh N D) (hN : N ≤ 24) :
    Calls Try.prog 20 #[.pointer (some ⟨q, 0, none⟩)] w fun e w' => ∃ T : Nat → Nat → Int, e = .returned (.agg (tabCells T).toArray) ∧ (∀ a b : Nat, a < N → b < N → XM.Far D N a b (T a b)) ∧ Below w.heap.size w w' := by
  have hz := zeroT
  have HZS : Hid (zT.size = 576) := zT_size
  have hne := zT_ne
  have h2 := tab_start w D
  have HG : Hid (∀ W, Below w.heap.size w W → XMem W q N D) := fun W hW => hg.on hW
  have HTC : Hid (∀ j v, (tabCells D)[j]? = some v → (w.alloc (.cells zT 50)).cell? ((⟨q, 1, none⟩ : Addr).add j) = some v) := (hg.on ((Below.refl _ _).alloc (Nat.le_refl _) _)).tab
  have HTL : Hid ((tabCells D).length = 576) := tabCells_len D
  have HTO : Hid ((tabCells D).toArray.all (·.oneCell') = true) := all_one (tabCells_one D)
  have HQL : Hid (q < w.heap.size) := hg.lt
  have HDB : Hid (∀ u w, 0 ≤ D u w ∧ D u w ≤ 4611686018427387906) := hm.ok.bd
  clear hg hm
  generalize zT = Z0 at *
  generalize tabCells D = TD at *
  go_enter Try.func20, Try.ntmps20
  go_upto_region 2 with (first
    | (refine wpList_load_cellsA rfl 50 (.tmp 11) rfl ⟨q, 1, none⟩ rfl TD _ Try.underlying50 rfl (by rw [HTL.out]; exact infoT) HTC.out ?_)
    | (refine wpList_store_row rfl 50 (.tmp 3) (.tmp 12) rfl (w.heap.size + 1) TD.toArray rfl rfl 50 Z0 (by have := heap_alloc_last (w.alloc (.cells Z0 50)) (.cells Z0 50); rwa [World.size_alloc] at this) (by rw [List.size_toArray, HTL.out]; exact infoT) (by rw [HZS.out, List.size_toArray, HTL.out]) HTO.out ?_; rw [← World.size_alloc w (.cells Z0 50), World.setRow_alloc_new]; simp only [World.size_alloc]))
  obtain ⟨w2, hw2, hD2, hb2, hs2, hbl2⟩ := h2
  rw [← hw2]
  clear hz hne hw2
  generalize hbd : w.heap.size + 1 = bd at *
  have HBD : Hid (w.heap.size + 1 = bd) := hbd
  have HS2 : Hid (w2.heap.size = w.heap.size + 2) := hs2
  have hD2' : TMem w2 bd (XM.diag D 0) := by rw [XM.diag_zero]; exact hD2
  have HB2 : Hid (Below w.heap.size w w2) := hb2
  have HBL2 : Hid (w2.heap[w.heap.size]? = some (.cells Z0 50 (0, 0))) := hbl2
  have HGK : Hid (∀ wr, Keeps (fun b => b = bd) w2 wr → wr.cell? ⟨q, 0, none⟩ = some (.int .i64 (N : Nat))) := fun wr hK => (HG.out wr (hb2.trans (hK.below (fun b hb => by omega) hb2.size))).c0
  clear hbd hs2 hD2 hb2 hbl2
  go_wp2_with fail
  go_loopw [4] (fun iv wr => ∃ s : Nat, s ≤ 24 ∧ iv = .int .i64 s ∧ TMem wr bd (XM.diag D s) ∧ Keeps (fun b => b = bd) w2 wr) (fun iv _ => 24 - (intOf iv).toNat)
  case atStart => exact ⟨0, by omega, rfl, hD2', Keeps.refl _ _⟩
  case round =>
    clear hD2'
    obtain ⟨s, hs, rfl, hT, hK⟩ := hrel
    have HT : Hid (TMem wr bd (XM.diag D s)) := hT
    have HK : Hid (Keeps (fun b => b = bd) w2 wr) := hK
    by_cases hlt : s < 24
    · have s1 : (s : Int) < 24 := by omega
      have ck := hT.c s s hlt hlt
      have fk := hT.fz (s * 24 + s)
      have HT1 : Hid (TMem (wr.setCell ⟨bd, s * 24 + s, none⟩ (.int .i64 0)) bd (XM.diag D (s + 1))) := by
        show TMem _ _ _
        rw [← XM.diag_step]
        exact hT.set hlt hlt 0
      have HK1 : Hid (Keeps (fun b => b = bd) w2 (wr.setCell ⟨bd, s * 24 + s, none⟩ (.int .i64 0))) := hK.setCell (.inl rfl) _
      clear hT hK HT HK
      go_wp2_with fail
      go_roundw
      case rel => exact ⟨s + 1, by omega, by go_num, HT1.out, HK1.out⟩
      case measure => simp [intOf]; omega
    · obtain rfl : s = 24 := by omega
      have HF0 : Hid (XM.Fw D N 0 0 0 (fun a b => if a = b then 0 else D a b)) := XM.Fw.begin HDB.out
      have HT0 : Hid (TMem wr bd (fun a b => if a = b then 0 else D a b)) := hT.congr (fun a b ha hb => XM.diag_all D a b ha hb)
      clear hT hK HT hlt hs
      generalize (fun a b => if a = b then (0 : Int) else D a b) = T0 at *
      go_wp2_with fail
      go_loopw [5] (fun kv wr' => ∃ (k : Nat) (T : Nat → Nat → Int), k ≤ N ∧ kv = .int .i64 k ∧ XM.Fw D N k 0 0 T ∧ TMem wr' bd T ∧ Keeps (fun b => b = bd) w2 wr') (fun kv _ => N - (intOf kv).toNat)
      case atStart => exact ⟨0, T0, Nat.zero_le _, rfl, HF0.out, HT0.out, HK.out⟩
      case round =>
        clear HF0 HT0 HK
        rename_i wrB hwrB
        obtain ⟨kk, D4, hk4, rfl, hF4, hT4, hK4⟩ := hrel
        have HF4 : Hid (XM.Fw D N kk 0 0 D4) := hF4
        have HT4 : Hid (TMem wr bd D4) := hT4
        have HK4 : Hid (Keeps (fun b => b = bd) w2 wr) := hK4
        have c0 := HGK.out wr hK4
        have hkn : (kk : Int) ≤ (N : Int) := by omega
        clear hF4 hT4 hK4
        by_cases hl4 : kk < N
        · have k4 : (kk : Int) < (N : Int) := by omega
          go_wp2_with fail
          go_loopw [6] (fun sv wr' => ∃ (s : Nat) (T : Nat → Nat → Int), s ≤ N ∧ sv = .int .i64 s ∧ XM.Fw D N kk s 0 T ∧ TMem wr' bd T ∧ Keeps (fun b => b = bd) w2 wr') (fun sv _ => N - (intOf sv).toNat)
          case atStart => exact ⟨0, D4, Nat.zero_le _, rfl, HF4.out, HT4.out, HK4.out⟩
          case round =>
            clear HF4 HT4 HK4 c0
            rename_i wrC hwrC
            obtain ⟨s, D5, hs5, rfl, hF5, hT5, hK5⟩ := hrel
            have HF5 : Hid (XM.Fw D N kk s 0 D5) := hF5
            have HT5 : Hid (TMem wr bd D5) := hT5
            have HK5 : Hid (Keeps (fun b => b = bd) w2 wr) := hK5
            have c0 := HGK.out wr hK5
            clear hF5 hT5 hK5
            by_cases hl5 : s < N
            · have s4 : (s : Int) < (N : Int) := by omega
              go_wp2_with fail
              go_loopw [7] (fun tv wr' => ∃ (t : Nat) (T : Nat → Nat → Int), t ≤ N ∧ tv = .int .i64 t ∧ XM.Fw D N kk s t T ∧ TMem wr' bd T ∧ Keeps (fun b => b = bd) w2 wr') (fun tv _ => N - (intOf tv).toNat)
              case atStart => exact ⟨0, D5, Nat.zero_le _, rfl, HF5.out, HT5.out, HK5.out⟩
              case round =>
                clear HF5 HT5 HK5 c0
                rename_i wrD hwrD
                obtain ⟨t, D6, ht6, rfl, hF6, hT6, hK6⟩ := hrel
                have HF6 : Hid (XM.Fw D N kk s t D6) := hF6
                have HT6 : Hid (TMem wr bd D6) := hT6
                have HK6 : Hid (Keeps (fun b => b = bd) w2 wr) := hK6
                have c0 := HGK.out wr hK6
                by_cases hl6 : t < N
                · have t4 : (t : Int) < (N : Int) := by omega
                  have k24 : (kk : Int) < 24 := by omega
                  have s24 : (s : Int) < 24 := by omega
                  have t24 : (t : Int) < 24 := by omega
                  have csk := hT6.c s kk (by omega) (by omega)
                  have ckt := hT6.c kk t (by omega) (by omega)
                  have cst := hT6.c s t (by omega) (by omega)
                  have fst := hT6.fz (s * 24 + t)
                  clear hF6 hT6 hK6
                  go_upto_region 15 with fail
                  go_quiet ((go_at_call 37; exact Calls.quiet_of_same (two_any _ _ _)))
                  have dst : (wr.drewN nq).cell? ⟨bd, s * 24 + t, none⟩ = some (.int .i64 (D6 s t)) := cst
                  have gst : (wr.drewN nq).frozen? ⟨bd, s * 24 + t, none⟩ = false := fst
                  have HQ : Hid (TMem (wr.drewN nq) bd D6 ∧ Keeps (fun b => b = bd) w2 (wr.drewN nq)) := ⟨HT6.out.on (below_drewN (Below.refl _ _) nq), HK6.out.drewN⟩
                  clear c0 csk ckt cst fst
                  generalize wr.drewN nq = wq at *
                  by_cases hlt : DM.two (D6 s kk) (D6 kk t) < D6 s t
                  · have HE : Hid (XM.Fw D N kk s (t + 1) (NM.set2 D6 s t (DM.two (D6 s kk) (D6 kk t))) ∧ s < 24 ∧ t < 24) := ⟨HF6.out.put HDB.out hl4 hl5 hl6 hlt, by omega, by omega⟩
                    generalize DM.two (D6 s kk) (D6 kk t) = dd at *
                    go_wp2_with fail
                    go_roundw
                    case rel => exact ⟨t + 1, _, by omega, by go_num, HE.out.1, HQ.out.1.set HE.out.2.1 HE.out.2.2 dd, HQ.out.2.setCell (.inl rfl) _⟩
                    case measure => simp [intOf]; omega
                  · have HE : Hid (XM.Fw D N kk s (t + 1) D6) := HF6.out.pass HDB.out hl4 hl5 hl6 hlt
                    generalize DM.two (D6 s kk) (D6 kk t) = dd at *
                    go_wp2_with fail
                    go_roundw
                    case rel => exact ⟨t + 1, D6, by omega, by go_num, HE.out, HQ.out.1, HQ.out.2⟩
                    case measure => simp [intOf]; omega
                · obtain rfl : t = N := by omega
                  have HE : Hid (XM.Fw D t kk (s + 1) 0 D6) := HF6.out.row
                  clear hF6 hT6 hK6
                  go_wp2_with fail
                  go_roundw
                  case rel => exact ⟨s + 1, D6, by omega, by go_num, HE.out, HT6.out, HK6.out⟩
                  case measure => simp [intOf]; omega
            · obtain rfl : s = N := by omega
              have HE : Hid (XM.Fw D s (kk + 1) 0 0 D5) := HF5.out.phase
              go_wp2_with fail
              go_roundw
              case rel => exact ⟨kk + 1, D5, by omega, by go_num, HE.out, HT5.out, HK5.out⟩
              case measure => simp [intOf]; omega
        · obtain rfl : kk = N := by omega
          have HD : Hid (∀ a b : Nat, a < kk → b < kk → XM.Far D kk a b (D4 a b)) := fun a b ha hb => HF4.out.done ha hb
          have HLT := tabCells_len D4
          have HC : Hid (∀ j v, (tabCells D4)[j]? = some v → wr.cell? ((⟨bd, 0, none⟩ : Addr).add j) = some v) := HT4.out.cells
          have HO1 : Hid ((tabCells D4).toArray.all (·.oneCell') = true) := all_one (tabCells_one D4)
          have HBK : Hid (wr.heap[w.heap.size]? = some (.cells Z0 50 (0, 0))) := (HK4.out.block _ (by have := HS2.out; omega) (by have := HBD.out; omega)).trans HBL2.out
          have HTR : Hid (TMem (wr.setRow w.heap.size (tabCells D4).toArray) w.heap.size D4) := tmem_row HBK.out D4
          have HLN : Hid ((tabCells D4).length = 576) := HLT
          have HBW2 : Hid (Below w.heap.size w (wr.setRow w.heap.size (tabCells D4).toArray)) := by
            have h1 : Below w.heap.size w wr := HB2.out.trans (HK4.out.below (fun b hb => by have := HBD.out; omega) HB2.out.size)
            exact h1.trans ((keeps_row wr w.heap.size _).below (fun b hb => by omega) h1.size)
          clear HLT
          generalize hTC : tabCells D4 = TC at *
          have HTC : Hid (tabCells D4 = TC) := hTC
          clear hTC
          go_wp2_with (first
            | (refine wpList_load_cells rfl 50 (.tmp 3) rfl bd rfl TC _ Try.underlying50 rfl (by rw [HLN.out]; exact infoT) HC.out ?_)
            | (refine wpList_store_row rfl 50 (.tmp 2) (.tmp 68) rfl w.heap.size TC.toArray rfl rfl 50 Z0 HBK.out (by rw [List.size_toArray, HLN.out]; exact infoT) (by rw [HZS.out, List.size_toArray, HLN.out]) HO1.out ?_))
          refine allA_out rfl (loadVar_cells 50 w.heap.size TC _ Try.underlying50 rfl (by rw [HLN.out]; exact infoT) (by have h9 := HTR.out.cells; rw [HTC.out] at h9; exact h9)) ?_
          exact ⟨D4, by rw [HTC.out], HD.out, HBW2.out⟩
end Go.Proofs.Ytmkpcidgiobpeaa
