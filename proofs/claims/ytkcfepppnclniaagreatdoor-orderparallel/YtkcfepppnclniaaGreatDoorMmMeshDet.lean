/-
  The walk of the program's Detours: a range over In, in whose rounds a range over Out appends to a list.
-/
import Derived.Test.YtkcfepppnclniaaGreatDoorMmMeshDetM
import Derived.Test.YtkcfepppnclniaaGreatDoorMmNearRound
namespace Go.Proofs.YtkcfepppnclniaaGreatDoor
open Go.RowKit Go.Shelf
attribute [local go_sem] Oper.semAt_some

theorem heap_second (W : World) (o1 o2 : Obj) : ((W.alloc o1).alloc o2).drew.heap[W.heap.size + 1]? = some o2 := by
  have := World.alloc_heap_new (W.alloc o1) o2
  rwa [World.size_alloc] at this
theorem heap_first (W : World) (o1 o2 : Obj) : ((W.alloc o1).alloc o2).drew.heap[W.heap.size]? = some o1 :=
  (Below.heap_alloc (W.alloc o1) o2 W.heap.size (by simp)).trans (World.alloc_heap_new W o1)
/-- The blocks of Detours ahead of its loop. -/
theorem det_new {w : World} {p N : Nat} {D : Nat → Nat → Int} (h : XMem w p N D) (v : Int) :
    DQ w p N D v (.slice none 0 0) [] (iterW 65 p v (((w.alloc (.cells #[.pointer (some ⟨p, 0, none⟩)] 45)).alloc (.cells #[.int .i64 v] 3)).alloc (.cells #[.slice none 0 0] 89))) ∧
    (iterW 65 p v (((w.alloc (.cells #[.pointer (some ⟨p, 0, none⟩)] 45)).alloc (.cells #[.int .i64 v] 3)).alloc (.cells #[.slice none 0 0] 89))).heap.size = w.heap.size + 7 := by
  have s1 : (w.alloc (.cells #[.pointer (some ⟨p, 0, none⟩)] 45)).heap.size = w.heap.size + 1 := by simp
  have b1 := Boxed.new w 45 (.pointer (some ⟨p, 0, none⟩))
  have l1 : Below w.heap.size w (w.alloc (.cells #[.pointer (some ⟨p, 0, none⟩)] 45)) := (Below.refl _ _).alloc (Nat.le_refl _) _
  generalize w.alloc (.cells #[.pointer (some ⟨p, 0, none⟩)] 45) = w1 at *
  have s2 : (w1.alloc (.cells #[.int .i64 v] 3)).heap.size = w.heap.size + 1 + 1 := by simp [s1]
  have b2 := Boxed.new w1 3 (.int .i64 v)
  have b1 := b1.alloc (.cells #[.int .i64 v] 3)
  have l2 : Below w.heap.size w (w1.alloc (.cells #[.int .i64 v] 3)) := l1.alloc (by omega) _
  rw [s1] at b2
  generalize w1.alloc (.cells #[.int .i64 v] 3) = w2 at *
  have s3 : (w2.alloc (.cells #[.slice none 0 0] 89)).heap.size = w.heap.size + 3 := by simp [s2]
  have b3 := Boxed.new w2 89 (.slice none 0 0)
  have b1 := b1.alloc (.cells #[.slice none 0 0] 89)
  have b2 := b2.alloc (.cells #[.slice none 0 0] 89)
  have l3 : Below w.heap.size w (w2.alloc (.cells #[.slice none 0 0] 89)) := l2.alloc (by omega) _
  rw [s2] at b3
  generalize w2.alloc (.cells #[.slice none 0 0] 89) = w3 at *
  obtain ⟨r, l4, s4⟩ := iterW_reads (h.on l3) 65 v
  rw [s3] at r
  exact ⟨⟨(l4.block _ b1.lt).trans b1, (l4.block _ b2.lt).trans b2, (l4.block _ b3.lt).trans b3, OwnL.nil _ _ _, r, l3.trans (l4.mono l3.size)⟩, by omega⟩
set_option maxRecDepth 100000 in
set_option maxHeartbeats 4000000 in
theorem det_in {w : World} {p N : Nat} {D : Nat → Nat → Int} (hg : XMem w p N D) (hN : N ≤ 24) (v : Int) :
    CallsIn Fence.wide 8 Tryz.prog 46 #[.pointer (some ⟨p, 0, none⟩), .int .i64 v] w fun e w' => ∃ r, e = .returned r ∧ OwnL w' w.heap.size r v (XM.detsOf (XM.steps N D v false N) (XM.steps N D v true N)) ∧ Below w.heap.size w w' := by
  obtain ⟨i0, hi, hz0, hz1, hz2⟩ := info_parts infoLink
  obtain ⟨hd0, hs0⟩ := det_new hg v
  have hin := inX_any p v (((w.alloc (.cells #[.pointer (some ⟨p, 0, none⟩)] 45)).alloc (.cells #[.int .i64 v] 3)).alloc (.cells #[.slice none 0 0] 89))
  have hgi := in_goes 7 (by decide) (w.heap.size + 3) p N hN D v
  have HGO : Hid (∀ B, GoesQ 5 Tryz.prog 88 #[.pointer (some ⟨B + 1 + 1, 0, none⟩), .pointer (some ⟨B + 1 + 1 + 1, 0, none⟩)] stepV (XM.steps N D v false N) (Reads 63 p N D v B)) := fun B => out_goes 5 (by decide) B p N hN D v
  have HOUT : Hid (∀ W, Calls Tryz.prog 28 #[.pointer (some ⟨p, 0, none⟩), .int .i64 v] W fun e w' => e = .returned (iterV W.heap.size) ∧ w' = iterW 63 p v W) := fun W => outX_any p v W
  have hpl := hg.lt
  have HLI : Hid (∀ pre, pre <+: XM.steps N D v true N → pre.length ≤ 24) := fun pre h => by
    have := h.length_le
    have := XM.steps_len (N := N) (D := D) (v := v) (back := true) N
    show _ ≤ _
    omega
  have HLO : Hid ((XM.steps N D v false N).length ≤ 24) := by
    have := XM.steps_len (N := N) (D := D) (v := v) (back := false) N
    show _ ≤ _
    omega
  have hs3 : (((w.alloc (.cells #[.pointer (some ⟨p, 0, none⟩)] 45)).alloc (.cells #[.int .i64 v] 3)).alloc (.cells #[.slice none 0 0] 89)).heap.size = w.heap.size + 3 := by simp
  clear hg
  generalize XM.steps N D v true N = LI at *
  generalize XM.steps N D v false N = LO at *
  refine callsIn_of_wp_marks Tryz.func46 rfl trivial ?_ rfl
  simp only [Tryz.ntmps46, List.size_toArray, List.length_cons, List.length_nil, Nat.reduceAdd, Nat.reduceSub, Array.replicate_succ, Array.replicate_zero, List.push_toArray, List.append_toArray, List.nil_append, List.cons_append]
  refine wpIn_wide.2 ?_
  go_wp2_with fail
  refine hin.mono ?_
  rintro e w9 ⟨rfl, hw9⟩
  rw [hw9]
  clear hw9 w9 hin
  rw [hs3]
  clear hs3
  generalize iterW 65 p v (((w.alloc (.cells #[.pointer (some ⟨p, 0, none⟩)] 45)).alloc (.cells #[.int .i64 v] 3)).alloc (.cells #[.slice none 0 0] 89)) = W0 at *
  unfold iterV
  go_wp2_with fail
  have HD0 : Hid (DQ w p N D v (.slice none 0 0) (XM.detsOf LO []) W0) := hd0
  clear hd0
  have HE : Hid (W0.heap.size = w.heap.size + 7) := hs0
  refine (wpIn_wide (n := 8)).1 (range_goesQ (by decide) (gf := 88) (lb := #[.pointer (some ⟨w.heap.size + 3 + 1 + 1, 0, none⟩), .pointer (some ⟨w.heap.size + 3 + 1 + 1 + 1, 0, none⟩)]) rfl (enters_of Tryz.func88 (by kernel_rfl) rfl) hgi (fun _ => rfl)
    (fun pre A => ∃ va, DQ w p N D v va (XM.detsOf LO pre) A)
    (fun _ _ _ => False)
    (fun pre A A' h hk => by
      obtain ⟨va, h⟩ := h
      exact ⟨va, h.kept hpl hk (fun b hb => by omega) (fun g hg e => by have := (h.own.block g hg).1; omega)⟩)
    (fun _ _ _ _ h _ => h)
    (fun pre A h => by
      obtain ⟨va, h⟩ := h
      exact h.rd)
    ⟨_, HD0.out⟩
    (fun x A => { tmps := #[.pointer (some ⟨p, 0, none⟩), .int .i64 v, .pointer (some ⟨w.heap.size, 0, none⟩), .pointer (some ⟨w.heap.size + 1, 0, none⟩), .slice none 0 0, .pointer (some ⟨w.heap.size + 1 + 1, 0, none⟩), .pointer (some ⟨A.heap.size, 0, none⟩), .pointer (some ⟨A.heap.size + 1, 0, none⟩), undef, undef, undef, .pointer (some ⟨p, 0, none⟩), .int .i64 v, .func (.func 88) #[] #[.pointer (some ⟨w.heap.size + 3 + 1 + 1, 0, none⟩), .pointer (some ⟨w.heap.size + 3 + 1 + 1 + 1, 0, none⟩)], .int .i64 (x.1 : Nat), .int .i64 x.2, undef, undef, undef, undef, undef, undef, undef, undef, undef, undef, undef, undef, undef, undef, undef, undef, undef, undef, undef, undef, undef, undef], defers := [] })
    (fun x A => (A.alloc (.cells #[.int .i64 (x.1 : Nat)] 3)).alloc (.cells #[.int .i64 x.2] 3))
    (fun x W => ((Below.refl _ _).alloc (Nat.le_refl _) _).alloc (by simp) _)
    ?assign ?body ?done ?stop)
  case assign =>
    intro l x A K hK
    simp only [stepV]
    gi_wp2
    simpa using hK
  case stop =>
    intro c pre W _ h _
    exact h.elim
  case done =>
    rintro W ⟨va, hD⟩ hK
    have c5 := hD.bd.cell
    have HD : Hid (DQ w p N D v va (XM.detsOf LO LI) W) := hD
    clear hD hgi
    go_wp2_with fail
    refine ⟨by simp, .inl ⟨_, _, rfl, run_takeDeferred hK, ?_⟩⟩
    refine ⟨_, results_tmp rfl _ _ _, _, rfl, ?_, HD.out.bel.trans (belowK_b (w := w) (Nat.le_refl _) W _ _ _ (by omega) hK rfl rfl)⟩
    exact (HD.out.own.kept (keeps_putK W _ _) (fun g hg e => by have := (HD.out.own.block g hg).1; omega)).base_le (by omega)
  case body =>
    rintro l pre ⟨u, too⟩ A W rfl ⟨r0, hr0⟩ ⟨va, hD⟩ hpx hA hkA hsA
    dsimp only
    have hbb := hkA.size
    have hD1 : DQ w p N D v va (XM.detsOf LO pre) W := hD
    have xu : Boxed W A.heap.size 3 (.int .i64 (u : Nat)) := by
      have := (Boxed.new A 3 (.int .i64 (u : Nat))).alloc (.cells #[.int .i64 too] 3)
      exact (hkA.block _ this.lt (by omega)).trans this
    have xt : Boxed W (A.heap.size + 1) 3 (.int .i64 too) := by
      have := Boxed.new (A.alloc (.cells #[.int .i64 (u : Nat)] 3)) 3 (.int .i64 too)
      rw [World.size_alloc] at this
      exact (hkA.block _ this.lt (by omega)).trans this
    have hsW : W.heap.size = A.heap.size + 2 := by rw [hsA]; simp
    have hout := HOUT.out W
    have rO := iterW_reads hD1.rd.x 63 v
    rw [hsW] at hout rO
    obtain ⟨rO1, rO2, rO3⟩ := rO
    have c2 := hD1.bm.cell
    have c3 := hD1.bv.cell
    have hu9 : w.heap.size + 9 ≤ A.heap.size := by omega
    have HDI : Hid (DI w p N D v u too A.heap.size W va (XM.detsOf LO pre ++ XM.rowOf (u, too) []) (iterW 63 p v W)) := by
      have hb : Below W.heap.size W (iterW 63 p v W) := by rw [hsW]; exact rO2
      show DI _ _ _ _ _ _ _ _ _ _ _ _
      rw [XM.rowOf_nil, List.append_nil]
      exact ⟨hD1.on hb, (hb.block _ xu.lt).trans xu, (hb.block _ xt.lt).trans xt, rO1, fun g hg => by have := (hD1.own.block g hg).2; omega, fun b h1 h2 => hb.block _ (by omega)⟩
    have HB1 : Hid (Below W.heap.size W (iterW 63 p v W) ∧ (iterW 63 p v W).heap.size = A.heap.size + 6) := ⟨by rw [hsW]; exact rO2, by rw [rO3]⟩
    have HRL : Hid ((iterW 63 p v W).heap[W0.heap.size + 1]? = some (.loop r0)) := (HB1.out.1.block _ (by omega)).trans hr0
    have HSN : Hid (XM.detsOf LO (pre ++ [(u, too)]) = XM.detsOf LO pre ++ XM.rowOf (u, too) LO) := XM.detsOf_snoc _ _ _
    have HLN : Hid ((XM.detsOf LO pre).length ≤ 600) := by
      have h1 := XM.detsOf_len LO pre
      have h2 := HLO.out
      have h3 := HLI.out pre ((List.prefix_append _ _).trans hpx)
      have := Nat.mul_le_mul h3 h2
      show _ ≤ _
      omega
    clear hD hD1 xu xt rO1 rO2 rO3 hgi hpx hkA hsA hr0 hbb HLI
    gi_wp2_with fail
    refine ⟨trivial, (CallsIn.inRound (W0.heap.size + 1) (callsIn_wide.2 hout)).mono ?_⟩
    rintro e w9 ⟨rfl, hw9⟩
    rw [hw9]
    clear hw9 w9 hout c2 c3
    generalize iterW 63 p v W = W1 at *
    unfold iterV
    gi_wp2_with fail
    refine range_goesQ_in (by decide) ⟨r0, HRL.out⟩ (gf := 88) (lb := #[.pointer (some ⟨A.heap.size + 2 + 1 + 1, 0, none⟩), .pointer (some ⟨A.heap.size + 2 + 1 + 1 + 1, 0, none⟩)]) rfl (enters_of Tryz.func88 (by kernel_rfl) rfl) (HGO.out _) (fun _ => rfl)
      (fun pre2 A2 => ∃ va, DI w p N D v u too A.heap.size W va (XM.detsOf LO pre ++ XM.rowOf (u, too) pre2) A2)
      (fun pre2 B B' h hk => by
        obtain ⟨va, h⟩ := h
        rw [HB1.out.2] at hk
        exact ⟨va, h.kept hpl hu9 hk⟩)
      (fun pre2 B h => by
        obtain ⟨va, h⟩ := h
        exact h.rd)
      ⟨_, HDI.out⟩
      (fun y B => { tmps := #[.pointer (some ⟨p, 0, none⟩), .int .i64 v, .pointer (some ⟨w.heap.size, 0, none⟩), .pointer (some ⟨w.heap.size + 1, 0, none⟩), .slice none 0 0, .pointer (some ⟨w.heap.size + 1 + 1, 0, none⟩), .pointer (some ⟨A.heap.size, 0, none⟩), .pointer (some ⟨A.heap.size + 1, 0, none⟩), .int .i64 (y.1 : Nat), .int .i64 y.2, undef, .pointer (some ⟨p, 0, none⟩), .int .i64 v, .func (.func 88) #[] #[.pointer (some ⟨w.heap.size + 3 + 1 + 1, 0, none⟩), .pointer (some ⟨w.heap.size + 3 + 1 + 1 + 1, 0, none⟩)], .int .i64 (u : Nat), .int .i64 too, .pointer (some ⟨p, 0, none⟩), .int .i64 v, .func (.func 88) #[] #[.pointer (some ⟨A.heap.size + 2 + 1 + 1, 0, none⟩), .pointer (some ⟨A.heap.size + 2 + 1 + 1 + 1, 0, none⟩)], .int .i64 (y.1 : Nat), .int .i64 y.2, undef, undef, undef, undef, undef, undef, undef, undef, undef, undef, undef, undef, undef, undef, undef, undef, undef], defers := [] })
      (fun y B => B) (fun y B => Below.refl _ _) ?assign ?body ?done
    case assign =>
      intro l x B K hK
      simp only [stepV]
      gi_wp2
      exact hK
    case done =>
      rintro W9 ⟨va, h⟩
      exact ⟨fun b h1 h2 => h.bk b (by omega) (by omega), va, by rw [HSN.out]; exact h.q⟩
    case body =>
      rintro l pre2 ⟨y, fr⟩ B W2 rfl ⟨r2, hr2⟩ ⟨va2, hI⟩ hp2 hB hkB hsB
      dsimp only
      have c6 := hI.xu.cell
      have hl2 : A.heap.size + 6 < W2.heap.size := by have := (Array.getElem?_eq_some_iff.1 hr2).1; rw [HB1.out.2] at this; exact this
      have HI : Hid (DI w p N D v u too A.heap.size W va2 (XM.detsOf LO pre ++ XM.rowOf (u, too) pre2) W2) := hI
      by_cases huy : u = y
      · have hE : XM.rowOf (u, too) (pre2 ++ [(y, fr)]) = XM.rowOf (u, too) pre2 := XM.rowOf_skip pre2 huy
        have HE2 : Hid (∃ va, DI w p N D v u too A.heap.size W va (XM.detsOf LO pre ++ XM.rowOf (u, too) (pre2 ++ [(y, fr)])) W2) := by
          show ∃ _, _
          rw [hE]
          exact ⟨_, hI⟩
        have hne : ((u : Int) != (y : Int)) = false := by simp [huy]
        clear hI hE huy
        gi_wp2_with fail
        exact ⟨fun _ _ _ => rfl, HE2.out⟩
      · have hE : XM.rowOf (u, too) (pre2 ++ [(y, fr)]) = XM.rowOf (u, too) pre2 ++ [⟨u, y, DM.two too fr⟩] := XM.rowOf_take pre2 huy
        have hne : ((u : Int) != (y : Int)) = true := by simp; omega
        have c7 := hI.xt.cell
        have c3 := hI.q.bv.cell
        have c5 := hI.q.bd.cell
        clear hI huy
        generalize hbu : A.heap.size = bu at *
        gi_wp2_with fail
        refine wpIn_mono (Q := fun e a' W' => e = .normal ∧ ∃ (g : Nat) (sl : Value), a' = { tmps := #[.pointer (some ⟨p, 0, none⟩), .int .i64 v, .pointer (some ⟨w.heap.size, 0, none⟩), .pointer (some ⟨w.heap.size + 1, 0, none⟩), .slice none 0 0, .pointer (some ⟨w.heap.size + 1 + 1, 0, none⟩), .pointer (some ⟨bu, 0, none⟩), .pointer (some ⟨bu + 1, 0, none⟩), .int .i64 (y : Nat), .int .i64 fr, .pointer (some ⟨g, 0, none⟩), .pointer (some ⟨p, 0, none⟩), .int .i64 v, .func (.func 88) #[] #[.pointer (some ⟨w.heap.size + 3 + 1 + 1, 0, none⟩), .pointer (some ⟨w.heap.size + 3 + 1 + 1 + 1, 0, none⟩)], .int .i64 (u : Nat), .int .i64 too, .pointer (some ⟨p, 0, none⟩), .int .i64 v, .func (.func 88) #[] #[.pointer (some ⟨bu + 2 + 1 + 1, 0, none⟩), .pointer (some ⟨bu + 2 + 1 + 1 + 1, 0, none⟩)], .int .i64 (y : Nat), .int .i64 fr, .int .i64 (u : Nat), .int .i64 (y : Nat), .bool true, .int .i64 too, .int .i64 fr, sl, .int .i64 (DM.two too fr), .int .i64 v, .agg #[.int .i64 (DM.two too fr), .int .i64 (-1), .int .i64 v], undef, undef, undef, undef, undef, undef, undef, undef], defers := [] } ∧ W'.heap[g]? = some (.cells #[.int .i64 (DM.two too fr), .int .i64 (-1), .int .i64 v] 92 (0, 0)) ∧ Below W2.heap.size W2 W') ?region ?rest
        case region =>
          have HS : Hid (∀ X, Below W2.heap.size W2 X → X.cell? ⟨bu + 1, 0, none⟩ = some (.int .i64 too) ∧ X.cell? ⟨w.heap.size + 1, 0, none⟩ = some (.int .i64 v)) := fun X hX => ⟨(hX.cell (p := ⟨bu + 1, 0, none⟩) (cell_lt c7)).trans c7, (hX.cell (p := ⟨w.heap.size + 1, 0, none⟩) (cell_lt c3)).trans c3⟩
          have HC1 : Hid (Calls Tryz.prog 74 #[.slice (some ⟨W2.heap.size, 0, none⟩) 2 2] (W2.alloc (.cells #[.int .i64 too, .int .i64 fr] 3)).drew fun e w' => e = .returned (.int .i64 (DM.two too fr)) ∧ w' = (W2.alloc (.cells #[.int .i64 too, .int .i64 fr] 3)).drew) := addTwo_any (by simp) (by simp)
          have HC2 : Hid (Calls Tryz.prog 74 #[.slice (some ⟨W2.heap.size, 0, none⟩) 2 2] ((W2.alloc (.cells #[.int .i64 too, .int .i64 fr] 3)).alloc (.cells #[.int .i64 0, .int .i64 0, .int .i64 0] 92)).drew fun e w' => e = .returned (.int .i64 (DM.two too fr)) ∧ w' = ((W2.alloc (.cells #[.int .i64 too, .int .i64 fr] 3)).alloc (.cells #[.int .i64 0, .int .i64 0, .int .i64 0] 92)).drew) := addTwo_any (by simp) (by simp)
          have HC3 : Hid (Calls Tryz.prog 74 #[.slice (some ⟨W2.heap.size + 1, 0, none⟩) 2 2] ((W2.alloc (.cells #[.int .i64 0, .int .i64 0, .int .i64 0] 92)).alloc (.cells #[.int .i64 too, .int .i64 fr] 3)).drew fun e w' => e = .returned (.int .i64 (DM.two too fr)) ∧ w' = ((W2.alloc (.cells #[.int .i64 0, .int .i64 0, .int .i64 0] 92)).alloc (.cells #[.int .i64 too, .int .i64 fr] 3)).drew) := addTwo_any (by simp) (by simp)
          clear HSN HDI HRL HI hE hr2 hkB hp2 hB hsB
          generalize DM.two too fr = d2 at *
          refine wpIn_region_held (S := fun W => W.cell? ⟨bu + 1, 0, none⟩ = some (.int .i64 too) ∧ W.cell? ⟨w.heap.size + 1, 0, none⟩ = some (.int .i64 v)) (by kernel_rfl) (by kernel_rfl) (fun a w h => ⟨rfl, h⟩) ⟨c7, c3⟩ (fun hHeld => ?_)
          refine wpAnyH_take (i := 0) (oi := { dst := some 24, op := Op.load 3 (Operand.tmp 7), type := 3, pos := "mesh.go:83", after := #[], guard := none }) (v := ?_) rfl (by kernel_rfl) (by kernel_rfl) (by kernel_rfl) (fun _ _ _ h => nomatch h.1) (Or.inl ⟨by rfl, ?_⟩) (by assumption) ?_
          rotate_left
          · intro w0 hSw
            (try dsimp only at hSw)
            go_simp <;> with_reducible rfl
          try simp only [Act.put, List.setIfInBounds_toArray, List.set_cons_zero, List.set_cons_succ]
          refine wpAnyH_take (i := 1) (oi := { dst := some 25, op := Op.move (Operand.tmp 9), type := 3, pos := "mesh.go:83", after := #[], guard := none }) (v := ?_) rfl (by kernel_rfl) (by kernel_rfl) (by kernel_rfl) (fun _ _ _ h => nomatch h.1) (Or.inl ⟨by rfl, ?_⟩) (by assumption) ?_
          rotate_left
          · intro w0 hSw
            (try dsimp only at hSw)
            go_simp <;> with_reducible rfl
          try simp only [Act.put, List.setIfInBounds_toArray, List.set_cons_zero, List.set_cons_succ]
          refine wpAnyH_take (i := 4) (oi := { dst := some 28, op := Op.load 3 (Operand.tmp 3), type := 3, pos := "mesh.go:83", after := #[], guard := none }) (v := ?_) rfl (by kernel_rfl) (by kernel_rfl) (by kernel_rfl) (fun _ _ _ h => nomatch h.1) (Or.inl ⟨by rfl, ?_⟩) (by assumption) ?_
          rotate_left
          · intro w0 hSw
            (try dsimp only at hSw)
            go_simp <;> with_reducible rfl
          try simp only [Act.put, List.setIfInBounds_toArray, List.set_cons_zero, List.set_cons_succ]
          refine wpAnyH_ready (rs := [2, 6]) (by kernel_rfl) (by simp) ?_
          refine AllReadyH.cons (o := { dst := some 26, op := Op.buildSlice 28 2 #[(0, Operand.tmp 24), (1, Operand.tmp 25)], type := 28, pos := "mesh.go:83", after := #[{ on := 0, ground := Ground.data }, { on := 1, ground := Ground.data }], guard := none }) rfl (fun K hK => ?_) (AllReadyH.cons (o := { dst := some 10, op := Op.alloc 92, type := 0, pos := "mesh.go:83", after := #[], guard := none }) rfl (fun K hK => ?_) AllReadyH.nil)
          · go_simp
            refine hK.out _ _ (HS.out _ ((Below.refl _ W2).alloc (by simp) _).drew) (fun hHeld => ?_)
            clear hK K
            try simp only [Act.put, List.setIfInBounds_toArray, List.set_cons_zero, List.set_cons_succ]
            refine wpAnyH_ready (rs := [3, 6]) (by kernel_rfl) (by simp) ?_
            refine AllReadyH.cons (o := { dst := some 27, op := Op.call { callee := Callee.value (Operand.func 74), args := #[Operand.tmp 26], argTypes := #[28] }, type := 3, pos := "mesh.go:83", after := #[{ on := 2, ground := Ground.data }], guard := none }) rfl (fun K hK => ?_) (AllReadyH.cons (o := { dst := some 10, op := Op.alloc 92, type := 0, pos := "mesh.go:83", after := #[], guard := none }) rfl (fun K hK => ?_) AllReadyH.nil)
            · go_simp
              refine (HC1.out).mono ?_
              rintro e w4 ⟨rfl, hw4⟩
              rw [hw4]
              clear hw4 w4
              go_wp2_with fail
              refine hK.out _ _ (HS.out _ ((Below.refl _ W2).alloc (by simp) _).drew) (fun hHeld => ?_)
              clear hK K
              try simp only [Act.put, List.setIfInBounds_toArray, List.set_cons_zero, List.set_cons_succ]
              refine wpAnyH_take (i := 5) (oi := { dst := some 29, op := Op.build 92 #[(0, Operand.tmp 27), (1, Operand.const (Value.int IntKind.i64 (-1))), (2, Operand.tmp 28)], type := 92, pos := "mesh.go:83", after := #[{ on := 3, ground := Ground.data }, { on := 4, ground := Ground.data }], guard := none }) (v := ?_) rfl (by kernel_rfl) (by kernel_rfl) (by kernel_rfl) (fun _ _ _ h => nomatch h.1) (Or.inl ⟨by rfl, ?_⟩) (by assumption) ?_
              rotate_left
              · intro w0 hSw
                (try dsimp only at hSw)
                go_simp <;> with_reducible rfl
              try simp only [Act.put, List.setIfInBounds_toArray, List.set_cons_zero, List.set_cons_succ]
              refine wpAnyH_ready (rs := [6]) (by kernel_rfl) (by simp) ?_
              refine AllReadyH.cons (o := { dst := some 10, op := Op.alloc 92, type := 0, pos := "mesh.go:83", after := #[], guard := none }) rfl (fun K hK => ?_) AllReadyH.nil
              go_simp
              refine hK.out _ _ (HS.out _ (((Below.refl _ W2).alloc (by simp) _).alloc (by simp) _).drew) (fun hHeld => ?_)
              clear hK K
              try simp only [Act.put, List.setIfInBounds_toArray, List.set_cons_zero, List.set_cons_succ]
              refine wpAnyH_ready (rs := [7]) (by kernel_rfl) (by simp) ?_
              refine AllReadyH.cons (o := { dst := none, op := Op.store 92 (Operand.tmp 10) (Operand.tmp 29), type := 0, pos := "mesh.go:83", after := #[{ on := 6, ground := Ground.data }, { on := 5, ground := Ground.data }, { on := 3, ground := Ground.chain }, { on := 0, ground := Ground.phase }, { on := 1, ground := Ground.phase }, { on := 2, ground := Ground.phase }, { on := 3, ground := Ground.phase }, { on := 4, ground := Ground.phase }, { on := 5, ground := Ground.phase }, { on := 6, ground := Ground.phase }], guard := none }) rfl (fun K hK => ?_) AllReadyH.nil
              go_simp
              refine hK.out _ _ (HS.out _ (((Below.refl _ W2).alloc (by simp) _).alloc (by simp) _).drew) (fun hHeld => ?_)
              clear hK K
              try simp only [Act.put, List.setIfInBounds_toArray, List.set_cons_zero, List.set_cons_succ]
              refine wpAnyH_done (by kernel_rfl) ?_ _
              refine ⟨rfl, _, _, rfl, ?_, ?_⟩
              · exact heap_second _ _ _
              · exact (((Below.refl _ W2).alloc (by simp) _).alloc (by simp) _).drew
            · go_simp
              refine hK.out _ _ (HS.out _ (((Below.refl _ W2).alloc (by simp) _).alloc (by simp) _).drew) (fun hHeld => ?_)
              clear hK K
              try simp only [Act.put, List.setIfInBounds_toArray, List.set_cons_zero, List.set_cons_succ]
              refine wpAnyH_ready (rs := [3]) (by kernel_rfl) (by simp) ?_
              refine AllReadyH.cons (o := { dst := some 27, op := Op.call { callee := Callee.value (Operand.func 74), args := #[Operand.tmp 26], argTypes := #[28] }, type := 3, pos := "mesh.go:83", after := #[{ on := 2, ground := Ground.data }], guard := none }) rfl (fun K hK => ?_) AllReadyH.nil
              go_simp
              refine (HC2.out).mono ?_
              rintro e w4 ⟨rfl, hw4⟩
              rw [hw4]
              clear hw4 w4
              go_wp2_with fail
              refine hK.out _ _ (HS.out _ (((Below.refl _ W2).alloc (by simp) _).alloc (by simp) _).drew) (fun hHeld => ?_)
              clear hK K
              try simp only [Act.put, List.setIfInBounds_toArray, List.set_cons_zero, List.set_cons_succ]
              refine wpAnyH_take (i := 5) (oi := { dst := some 29, op := Op.build 92 #[(0, Operand.tmp 27), (1, Operand.const (Value.int IntKind.i64 (-1))), (2, Operand.tmp 28)], type := 92, pos := "mesh.go:83", after := #[{ on := 3, ground := Ground.data }, { on := 4, ground := Ground.data }], guard := none }) (v := ?_) rfl (by kernel_rfl) (by kernel_rfl) (by kernel_rfl) (fun _ _ _ h => nomatch h.1) (Or.inl ⟨by rfl, ?_⟩) (by assumption) ?_
              rotate_left
              · intro w0 hSw
                (try dsimp only at hSw)
                go_simp <;> with_reducible rfl
              try simp only [Act.put, List.setIfInBounds_toArray, List.set_cons_zero, List.set_cons_succ]
              refine wpAnyH_ready (rs := [7]) (by kernel_rfl) (by simp) ?_
              refine AllReadyH.cons (o := { dst := none, op := Op.store 92 (Operand.tmp 10) (Operand.tmp 29), type := 0, pos := "mesh.go:83", after := #[{ on := 6, ground := Ground.data }, { on := 5, ground := Ground.data }, { on := 3, ground := Ground.chain }, { on := 0, ground := Ground.phase }, { on := 1, ground := Ground.phase }, { on := 2, ground := Ground.phase }, { on := 3, ground := Ground.phase }, { on := 4, ground := Ground.phase }, { on := 5, ground := Ground.phase }, { on := 6, ground := Ground.phase }], guard := none }) rfl (fun K hK => ?_) AllReadyH.nil
              go_simp
              refine hK.out _ _ (HS.out _ (((Below.refl _ W2).alloc (by simp) _).alloc (by simp) _).drew) (fun hHeld => ?_)
              clear hK K
              try simp only [Act.put, List.setIfInBounds_toArray, List.set_cons_zero, List.set_cons_succ]
              refine wpAnyH_done (by kernel_rfl) ?_ _
              refine ⟨rfl, _, _, rfl, ?_, ?_⟩
              · exact heap_second _ _ _
              · exact (((Below.refl _ W2).alloc (by simp) _).alloc (by simp) _).drew
          · go_simp
            refine hK.out _ _ (HS.out _ ((Below.refl _ W2).alloc (by simp) _).drew) (fun hHeld => ?_)
            clear hK K
            try simp only [Act.put, List.setIfInBounds_toArray, List.set_cons_zero, List.set_cons_succ]
            refine wpAnyH_ready (rs := [2]) (by kernel_rfl) (by simp) ?_
            refine AllReadyH.cons (o := { dst := some 26, op := Op.buildSlice 28 2 #[(0, Operand.tmp 24), (1, Operand.tmp 25)], type := 28, pos := "mesh.go:83", after := #[{ on := 0, ground := Ground.data }, { on := 1, ground := Ground.data }], guard := none }) rfl (fun K hK => ?_) AllReadyH.nil
            go_simp
            refine hK.out _ _ (HS.out _ (((Below.refl _ W2).alloc (by simp) _).alloc (by simp) _).drew) (fun hHeld => ?_)
            clear hK K
            try simp only [Act.put, List.setIfInBounds_toArray, List.set_cons_zero, List.set_cons_succ]
            refine wpAnyH_ready (rs := [3]) (by kernel_rfl) (by simp) ?_
            refine AllReadyH.cons (o := { dst := some 27, op := Op.call { callee := Callee.value (Operand.func 74), args := #[Operand.tmp 26], argTypes := #[28] }, type := 3, pos := "mesh.go:83", after := #[{ on := 2, ground := Ground.data }], guard := none }) rfl (fun K hK => ?_) AllReadyH.nil
            go_simp
            refine (HC3.out).mono ?_
            rintro e w4 ⟨rfl, hw4⟩
            rw [hw4]
            clear hw4 w4
            go_wp2_with fail
            refine hK.out _ _ (HS.out _ (((Below.refl _ W2).alloc (by simp) _).alloc (by simp) _).drew) (fun hHeld => ?_)
            clear hK K
            try simp only [Act.put, List.setIfInBounds_toArray, List.set_cons_zero, List.set_cons_succ]
            refine wpAnyH_take (i := 5) (oi := { dst := some 29, op := Op.build 92 #[(0, Operand.tmp 27), (1, Operand.const (Value.int IntKind.i64 (-1))), (2, Operand.tmp 28)], type := 92, pos := "mesh.go:83", after := #[{ on := 3, ground := Ground.data }, { on := 4, ground := Ground.data }], guard := none }) (v := ?_) rfl (by kernel_rfl) (by kernel_rfl) (by kernel_rfl) (fun _ _ _ h => nomatch h.1) (Or.inl ⟨by rfl, ?_⟩) (by assumption) ?_
            rotate_left
            · intro w0 hSw
              (try dsimp only at hSw)
              go_simp <;> with_reducible rfl
            try simp only [Act.put, List.setIfInBounds_toArray, List.set_cons_zero, List.set_cons_succ]
            refine wpAnyH_ready (rs := [7]) (by kernel_rfl) (by simp) ?_
            refine AllReadyH.cons (o := { dst := none, op := Op.store 92 (Operand.tmp 10) (Operand.tmp 29), type := 0, pos := "mesh.go:83", after := #[{ on := 6, ground := Ground.data }, { on := 5, ground := Ground.data }, { on := 3, ground := Ground.chain }, { on := 0, ground := Ground.phase }, { on := 1, ground := Ground.phase }, { on := 2, ground := Ground.phase }, { on := 3, ground := Ground.phase }, { on := 4, ground := Ground.phase }, { on := 5, ground := Ground.phase }, { on := 6, ground := Ground.phase }], guard := none }) rfl (fun K hK => ?_) AllReadyH.nil
            go_simp
            refine hK.out _ _ (HS.out _ (((Below.refl _ W2).alloc (by simp) _).alloc (by simp) _).drew) (fun hHeld => ?_)
            clear hK K
            try simp only [Act.put, List.setIfInBounds_toArray, List.set_cons_zero, List.set_cons_succ]
            refine wpAnyH_done (by kernel_rfl) ?_ _
            refine ⟨rfl, _, _, rfl, ?_, ?_⟩
            · exact heap_first _ _ _
            · exact (((Below.refl _ W2).alloc (by simp) _).alloc (by simp) _).drew
        case rest =>
          rintro e a' W4 ⟨rfl, g, sl, rfl, hg4, hb4⟩
          dsimp only
          have hI4 := HI.out.on hb4 hu9
          have hr4 : W4.heap[bu + 6]? = some (.loop r2) := (hb4.block _ hl2).trans (by rw [← HB1.out.2]; exact hr2)
          have c5 := hI4.q.bd.cell
          have c6 := hI4.xu.cell
          have d0 : W4.cell? ⟨g, 0, none⟩ = some (.int .i64 (DM.two too fr)) := by simp [World.cell?, hg4]
          have d1 : W4.cell? ⟨g, 1, none⟩ = some (.int .i64 (-1)) := by simp [World.cell?, hg4]
          have d2 : W4.cell? ⟨g, 2, none⟩ = some (.int .i64 v) := by simp [World.cell?, hg4]
          have HE2 : Hid (XM.detsOf LO pre ++ XM.rowOf (u, too) (pre2 ++ [(y, fr)]) = XM.detsOf LO pre ++ XM.rowOf (u, too) pre2 ++ [⟨u, y, DM.two too fr⟩]) := by
            show _ = _
            rw [hE, List.append_assoc]
          have hdl : (XM.detsOf LO pre ++ XM.rowOf (u, too) pre2).length ≤ 700 := by
            have h1 := XM.rowOf_len (u, too) pre2
            have h2 := HLO.out
            have h3 := ((List.prefix_append _ _).trans hp2 : pre2 <+: LO).length_le
            have h4 := HLN.out
            rw [List.length_append]
            omega
          have HI4 : Hid (DI w p N D v u too bu W va2 (XM.detsOf LO pre ++ XM.rowOf (u, too) pre2) W4) := hI4
          have HR4 : Hid (W4.heap[bu + 6]? = some (.loop r2) ∧ bu + 6 < W4.heap.size) := ⟨hr4, Nat.lt_of_lt_of_le hl2 hb4.size⟩
          have h9 : w.heap.size + 9 ≤ W4.heap.size := by have := HR4.out.2; omega
          have HIN : Hid (∀ va B, DI w p N D v u too bu W va (XM.detsOf LO pre ++ XM.rowOf (u, too) pre2 ++ [⟨u, y, DM.two too fr⟩]) B → ∃ va, DI w p N D v u too bu W va (XM.detsOf LO pre ++ XM.rowOf (u, too) (pre2 ++ [(y, fr)])) B) := fun va B h => ⟨va, by rw [HE2.out]; exact h⟩
          have HBK : Hid (∀ b, W1.heap.size ≤ b → b < W1.heap.size + 1 → W4.heap[b]? = W2.heap[b]? ∧ b = bu + 6) := fun b h1 h2 => ⟨hb4.block _ (by rw [HB1.out.2] at h2; omega), by rw [HB1.out.2] at h1 h2; omega⟩
          clear hI4 hr4 hg4 hb4 HE2 hE hr2 HI HRL HDI HSN hl2 hp2 hkB hB hsB HD0 HLN
          generalize XM.detsOf LO pre ++ XM.rowOf (u, too) pre2 = Ds at *
          generalize DM.two too fr = x at *
          gi_wp2_with (gi_at_builtin; refine wpListIn_append_own _ rfl _ _ 89 rfl (w.heap.size + 9) 94 i0 zLink 5 40 Tryz.underlying89 hi hz0 hz1 hz2 rfl (by decide) va2 Ds.length (linkCells v Ds) rfl (HI4.out.q.own.alloc _) ⟨W4.heap.size, 0, none⟩ 1 1 (detCells v ⟨u, y, x⟩) rfl rfl (cell_new5 _ _ _ _ _ _ _) (detCells_one _ _) (by unfold maxLen; omega) (by omega) (by simp; omega) ?_)
          intro v2 w2 hown2 hgrow2 _
          have ho2 : OwnL w2 (w.heap.size + 9) v2 v (Ds ++ [⟨u, y, x⟩]) := by
            unfold OwnL
            rw [List.length_append, linkCells_snoc]
            exact hown2
          have hbl : Below W4.heap.size W4 (W4.alloc (.cells #[.int .i64 (u : Nat), .int .i64 (y : Nat), .int .i64 x, .int .i64 (-1), .int .i64 v] 94)) := (Below.refl _ _).alloc (Nat.le_refl _) _
          obtain ⟨b2, hI5, h65⟩ := (HI4.out.on hbl hu9).app hpl hu9 ((hbl.block _ HR4.out.2).trans HR4.out.1) hgrow2 ho2
          obtain ⟨g2, cp2, rfl⟩ := ownsRow_succ hown2
          have HI5 : Hid (∃ va, DI w p N D v u too bu W va (XM.detsOf LO pre ++ XM.rowOf (u, too) (pre2 ++ [(y, fr)])) (w2.setCell ⟨w.heap.size + 1 + 1, 0, none⟩ (.slice (some ⟨g2, 0, none⟩) (Ds.length + 1) cp2))) := HIN.out _ _ hI5
          have H65 : Hid (∀ b, W1.heap.size ≤ b → b < W1.heap.size + 1 → (w2.setCell ⟨w.heap.size + 1 + 1, 0, none⟩ (.slice (some ⟨g2, 0, none⟩) (Ds.length + 1) cp2)).heap[b]? = W2.heap[b]?) := fun b h1 h2 => by
            obtain ⟨e1, rfl⟩ := HBK.out b h1 h2
            exact (h65.trans (hbl.block _ HR4.out.2)).trans e1
          have c5' := b2.cell
          have f5 := b2.frozen
          clear b2 hI5 h65 ho2 hown2 hgrow2 c5 c6 d0 d1 d2 HI4 HIN HBK HR4 hbl
          gi_wp2_with fail
          exact ⟨H65.out, HI5.out⟩
/-- The program's Detours. -/
theorem det_any {w : World} {p N : Nat} {D : Nat → Nat → Int} (hg : XMem w p N D) (hm : XM.Mesh N D) (hN : N ≤ 24) (v : Int) :
    Calls Tryz.prog 46 #[.pointer (some ⟨p, 0, none⟩), .int .i64 v] w fun e w' => ∃ r, e = .returned r ∧ OwnL w' w.heap.size r v (XM.dets N D v N) ∧ Below w.heap.size w w' := by
  rw [XM.dets_eq hm]
  exact callsIn_wide.1 (det_in hg hN v)
end Go.Proofs.YtkcfepppnclniaaGreatDoor
