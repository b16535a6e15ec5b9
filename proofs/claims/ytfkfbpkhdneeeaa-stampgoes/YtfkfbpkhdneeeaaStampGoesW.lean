/-
  The walk of the law StampGoes.
-/
import Derived.Test.YtfkfbpkhdneeeaaStampSeq
import Derived.Deep.DeepCutAuto
namespace Go.Proofs.Ytfkfbpkhdneeeaa
open Go.RowKit Go.Shelf
attribute [local go_sem] Oper.semAt_some

/-- A row of texts, and behind it a list of numbers whose slice lies in block ga. -/
structure Fill (W : World) (B ga p n : Nat) (F : Nat → Prop) (m : Nat → Option ByteArray) (va : Value) (zs : List Int) : Prop where
  obj : ObjS W B p n m F
  box : Boxed W ga 43 va
  own : Own .i64 3 W (ga + 1) va zs
  fl : ∀ b, F b → b < ga
  lo : B ≤ ga
section
variable {W W' : World} {B ga p n : Nat} {F : Nat → Prop} {m m' : Nat → Option ByteArray} {va : Value} {zs : List Int}
theorem Fill.set (h : Fill W B ga p n F m va zs) (hk : Keeps F W W') (ho : ObjS W' B p n m' F) : Fill W' B ga p n F m' va zs where
  obj := ho
  box := (hk.block ga h.box.lt (fun hf => by have := h.fl ga hf; omega)).trans h.box
  own := hk.row h.own (fun g hg hf => by
    have := h.fl g hf
    have := h.own.block g hg
    omega)
  fl := h.fl
  lo := h.lo
theorem Fill.below (h : Fill W B ga p n F m va zs) (hb : Below W.heap.size W W') : Fill W' B ga p n F m va zs := h.set (Below.keeps hb F) (h.obj.below hb)
theorem Fill.app (h : Fill W B ga p n F m va zs) {o : Go.Obj} {W2 : World} (hg : (W.alloc o).grownBy W2 va.ownBlock) {v' : Value} {zs' : List Int} (ho : Own .i64 3 W2 (ga + 1) v' zs') :
    Boxed W2 ga 43 va ∧ Fill (W2.setCell ⟨ga, 0, none⟩ v') B ga p n F m v' zs' ∧ Below B W (W2.setCell ⟨ga, 0, none⟩ v') := by
  have h1 : Fill (W.alloc o) B ga p n F m va zs := h.below ((Below.refl _ _).alloc (Nat.le_refl _) _)
  have hlo := h.lo
  have hk : Keeps (fun b => ga + 1 ≤ b) (W.alloc o) W2 := (Keeps.refl _ _).grown hg (fun k hk => .inl (h.own.block k hk))
  have hb2 : Boxed W2 ga 43 va := (hk.block ga h1.box.lt (by omega)).trans h1.box
  have ho2 : ObjS W2 B p n m F := h1.obj.kept hk (fun b hb hn => by have := h.fl b hb; omega)
  have hk2 : Keeps (fun b => b = ga) W2 (W2.setCell ⟨ga, 0, none⟩ v') := keeps_set _ _ _ _
  refine ⟨hb2, ⟨ho2.kept hk2 (fun b hb e => by have := h.fl b hb; omega), hb2.set v', hk2.row ho (fun g hg e => by have := ho.block g hg; omega), h.fl, hlo⟩, ?_⟩
  have hB : B ≤ W.heap.size := h.obj.base
  have b1 : Below B W (W.alloc o) := (Below.refl _ _).alloc hB _
  have b2 : Below B (W.alloc o) W2 := hk.below (fun b hb => by omega) (by simp; omega)
  exact (b1.trans b2).setCell (p := ⟨ga, 0, none⟩) hlo _
end
/-- The chosen places, as numbers. -/
def atsI (bs : List Bool) (k : Nat) : List Int := (ats bs k).map (fun i : Nat => (i : Int))
theorem atsI_len (bs : List Bool) (k : Nat) : (atsI bs k).length ≤ k := by
  unfold atsI
  rw [List.length_map]
  exact ats_len bs k
theorem atsI_take (bs : List Bool) (k : Nat) (h : bat bs k = true) : atsI bs (k + 1) = atsI bs k ++ [(k : Int)] := by simp [atsI, ats, h]
theorem atsI_skip (bs : List Bool) (k : Nat) (h : bat bs k = false) : atsI bs (k + 1) = atsI bs k := by simp [atsI, ats, h]
theorem bat_out {bs : List Bool} {k : Nat} (h : bs.length ≤ k) : bat bs k = false := by simp [bat, List.getElem?_eq_none h]

set_option maxRecDepth 100000 in
/-- The way out: the answer lies in its cell; nothing is deferred. -/
theorem goes_out {n : Nat} {w W : World} {t : Array Value} {D : Nat} {b : Bool} (hb : b = true) (ht : t[6]?.getD undef = .pointer (some ⟨w.heap.size + 1 + 1, 0, none⟩)) (hcr : W.cell? ⟨w.heap.size + 1 + 1, 0, none⟩ = some (.bool false))
    (hK : W.heap[D]? = some (.deferred (some []))) (hB : Below w.heap.size w W) (hD : w.heap.size ≤ D) :
    bodyPostM Fence.wide n Try.prog Try.f4 (fun e w' => e = .returned (.bool true) ∧ Below w.heap.size w w') Exit.ret { tmps := t, defers := [{ target := .collected D, args := #[] }] } (W.setCell ⟨w.heap.size + 1 + 1, 0, none⟩ (.bool b)) := by
  subst hb
  have hK' := (KeepsOthers.setCell W ⟨w.heap.size + 1 + 1, 0, none⟩ (.bool true)).same D _ hK rfl
  refine ⟨by simp, .inl ⟨_, _, rfl, run_takeDeferred hK', ?_⟩⟩
  have hc5 := cell_kept (World.cell?_setCell_same' W ⟨w.heap.size + 1 + 1, 0, none⟩ (.bool true) (by rw [hcr]; rfl)) (grownBy_putObj' _ D (.deferred none)) (fun r e => by cases e; exact ⟨_, hK', rfl⟩)
  refine ⟨.bool true, ?_, rfl, (hB.setCell (p := ⟨w.heap.size + 1 + 1, 0, none⟩) (by show w.heap.size ≤ w.heap.size + 1 + 1; omega) _).trans (belowK_b (w := w) (Nat.le_refl _) _ D _ _ hD hK' rfl rfl)⟩
  simp [results, Try.f4, go_sem, hc5, ht]
theorem outs_get (ss : List ByteArray) (bs : List Bool) (n : Nat) : ∀ j (h : j < (outs (mks ss bs n) n 0).length), ∃ i : Nat, i < n ∧ (atsI bs n)[j]?.getD 0 = (i : Int) ∧ (outs (mks ss bs n) n 0)[j] = (i, tx ss i) := by
  intro j h
  have hl : (outs (mks ss bs n) n 0).length = (ats bs n).length := by rw [outs_all, List.length_map]
  have hj : j < (ats bs n).length := by omega
  refine ⟨(ats bs n)[j], ats_lt bs n _ (List.getElem_mem hj), ?_, ?_⟩
  · simp [atsI, hj]
  · simp [outs_all]
theorem outs_len (ss : List ByteArray) (bs : List Bool) (n : Nat) : (outs (mks ss bs n) n 0).length = (atsI bs n).length := by rw [outs_all]; simp [atsI]

set_option maxRecDepth 100000 in
set_option maxHeartbeats 4000000 in
theorem goes_in (v u : Value) (ss : List ByteArray) (bs : List Bool) (mo : Int) (w : World) (htx : Texts w v ss) (hbo : Bools w u bs) (hm0 : 0 ≤ mo) (hm1 : mo ≤ 255) :
    CallsIn Fence.wide 5 Try.prog 4 #[v, u, .int .u8 mo] w fun e w' => e = .returned (.bool true) ∧ Below w.heap.size w w' := by
  obtain ⟨ao, cap, rfl, hml, hcells⟩ := htx
  obtain ⟨bo, cap2, rfl, hml2, hcells2⟩ := hbo
  have HC : Hid (0 < ss.length → ∃ b o, ao = some ⟨b, o, none⟩ ∧ b < w.heap.size ∧ ∀ i, i < ss.length → w.cell? ⟨b, o + i, none⟩ = some (.string (tx ss i))) := hcells
  have HD : Hid (0 < bs.length → ∃ b o, bo = some ⟨b, o, none⟩ ∧ b < w.heap.size ∧ ∀ i, i < bs.length → w.cell? ⟨b, o + i, none⟩ = some (.bool (bat bs i))) := hcells2
  have hml' : ss.length ≤ 9223372036854775807 := by unfold maxLen at hml; omega
  have hml2' : bs.length ≤ 9223372036854775807 := by unfold maxLen at hml2; omega
  have HBO : Hid (∀ k, bs.length ≤ k → bat bs k = false) := fun k hk => bat_out hk
  clear hcells hcells2 hml hml2
  obtain ⟨N, hN⟩ : ∃ N, N = ss.length := ⟨_, rfl⟩
  obtain ⟨M, hM⟩ : ∃ M, M = bs.length := ⟨_, rfl⟩
  rw [← hN] at HC hml' ⊢
  rw [← hM] at HD hml2' HBO ⊢
  clear hN hM
  have hw0 : Below w.heap.size w (((w.alloc (.cells #[.slice ao N cap] 38)).alloc (.cells #[.int .u8 mo] 5)).alloc (.cells #[.bool false] 4)) := (((Below.refl _ _).alloc (Nat.le_refl _) _).alloc (by simp) _).alloc (by simp; omega) _
  have hS0 : (((w.alloc (.cells #[.slice ao N cap] 38)).alloc (.cells #[.int .u8 mo] 5)).alloc (.cells #[.bool false] 4)).heap.size = w.heap.size + 1 + 1 + 1 := by simp
  have bL : Boxed (((w.alloc (.cells #[.slice ao N cap] 38)).alloc (.cells #[.int .u8 mo] 5)).alloc (.cells #[.bool false] 4)) w.heap.size 38 (.slice ao N cap) := ((Boxed.new w 38 (.slice ao N cap)).alloc _).alloc _
  have bM : Boxed (((w.alloc (.cells #[.slice ao N cap] 38)).alloc (.cells #[.int .u8 mo] 5)).alloc (.cells #[.bool false] 4)) (w.heap.size + 1) 5 (.int .u8 mo) := by
    have := (Boxed.new (w.alloc (.cells #[.slice ao N cap] 38)) 5 (.int .u8 mo)).alloc (.cells #[.bool false] 4)
    rwa [World.size_alloc] at this
  have bR : Boxed (((w.alloc (.cells #[.slice ao N cap] 38)).alloc (.cells #[.int .u8 mo] 5)).alloc (.cells #[.bool false] 4)) (w.heap.size + 1 + 1) 4 (.bool false) := by
    have := Boxed.new ((w.alloc (.cells #[.slice ao N cap] 38)).alloc (.cells #[.int .u8 mo] 5)) 4 (.bool false)
    simpa using this
  have haw := awake_any (((w.alloc (.cells #[.slice ao N cap] 38)).alloc (.cells #[.int .u8 mo] 5)).alloc (.cells #[.bool false] 4))
  refine callsIn_of_wp_marks Try.func4 rfl trivial ?_ rfl
  simp only [Try.ntmps4, List.size_toArray, List.length_cons, List.length_nil, Nat.reduceAdd, Nat.reduceSub, Array.replicate_succ, Array.replicate_zero, List.push_toArray, List.append_toArray, List.nil_append, List.cons_append]
  refine wpIn_wide.2 ?_
  go_wp2_with fail
  generalize ((w.alloc (.cells #[.slice ao N cap] 38)).alloc (.cells #[.int .u8 mo] 5)).alloc (.cells #[.bool false] 4) = w0 at *
  refine haw.mono ?_
  rintro e w1 ⟨rfl, hb1⟩
  have hS1 : w.heap.size + 1 + 1 + 1 ≤ w1.heap.size := by have := hb1.size; omega
  have bL1 : Boxed w1 w.heap.size 38 (.slice ao N cap) := (hb1.block _ (by omega)).trans bL
  have bM1 : Boxed w1 (w.heap.size + 1) 5 (.int .u8 mo) := (hb1.block _ (by omega)).trans bM
  have bR1 : Boxed w1 (w.heap.size + 1 + 1) 4 (.bool false) := (hb1.block _ (by omega)).trans bR
  have hw1 : Below w.heap.size w w1 := hw0.trans (hb1.mono (by omega))
  have cL := bL1.cell
  clear haw bL bM bR hb1 hw0 hS0
  by_cases hlong : 64 < N
  · have h2 : (64 : Int) < (N : Int) := by omega
    have cR := bR1.cell
    have fR := bR1.frozen
    clear hlong
    go_wp2_with fail
    refine ⟨.bool true, ?_, rfl, hw1.setCell (p := ⟨w.heap.size + 1 + 1, 0, none⟩) (by show w.heap.size ≤ w.heap.size + 1 + 1; omega) _⟩
    have cR' := World.cell?_setCell_same w1 ⟨w.heap.size + 1 + 1, 0, none⟩ (.bool true) cR
    generalize w1.setCell ⟨w.heap.size + 1 + 1, 0, none⟩ (.bool true) = w3 at *
    simp [results, Try.f4, go_sem, cR']
  · have h64 : N ≤ 64 := by omega
    have h2 : ¬ (64 : Int) < (N : Int) := by omega
    have hnew := os_new N h64 w1
    clear hlong
    go_wp2_with fail
    refine hnew.mono ?_
    rintro e w2 ⟨p, F, rfl, ho2, hb2⟩
    -- what lies ahead of the row stays
    have HB1 : Hid (∀ W, Below w1.heap.size w1 W → Boxed W w.heap.size 38 (.slice ao N cap) ∧ Boxed W (w.heap.size + 1) 5 (.int .u8 mo) ∧ Boxed W (w.heap.size + 1 + 1) 4 (.bool false) ∧ Below w.heap.size w W) := fun W hW =>
      ⟨(hW.block _ (by omega)).trans bL1, (hW.block _ (by omega)).trans bM1, (hW.block _ (by omega)).trans bR1, hw1.trans (hW.mono (by omega))⟩
    clear hnew bL1 bM1 bR1 cL
    have hf0 : Fill (w2.alloc (.cells #[.slice none 0 0] 43)) w1.heap.size w2.heap.size p N F (mks ss bs 0) (.slice none 0 0) (atsI bs 0) := by
      rw [mks_zero]
      exact ⟨ho2.below ((Below.refl _ _).alloc (Nat.le_refl _) _), Boxed.new _ _ _, Own.nil _ _ _ _, fun b hb => (ho2.lt b hb).2, ho2.base⟩
    have hb20 : Below w1.heap.size w1 (w2.alloc (.cells #[.slice none 0 0] 43)) := hb2.alloc hb2.size _
    clear ho2 hb2
    go_wp2_with fail
    rw [show decide ((64 : Int) < (N : Int)) = false from decide_eq_false (by omega)]
    generalize w2.alloc (.cells #[.slice none 0 0] 43) = w3 at *
    generalize w2.heap.size = ga at *
    clear h2
    obtain ⟨i0, hi, hzz⟩ := Option.map_eq_some_iff.1 infoI
    simp only [Prod.mk.injEq] at hzz
    obtain ⟨hz0, hz1, hz2⟩ := hzz
    have HI : Hid (Try.prog.info? 3 = some i0 ∧ i0.zero = some (.int .i64 0) ∧ i0.size = 1 ∧ i0.bytes = 8) := ⟨hi, hz0, hz1, hz2⟩
    clear hi hz0 hz1 hz2
    go_loopw [10] (fun iv wr => ∃ (k : Nat) (va : Value), k ≤ N ∧ iv = .int .i64 k ∧ Fill wr w1.heap.size ga p N F (mks ss bs k) va (atsI bs k) ∧ Below w1.heap.size w1 wr) (fun iv _ => N - (intOf iv).toNat)
    case atStart => exact ⟨0, _, Nat.zero_le _, rfl, hf0, hb20⟩
    case round =>
      obtain ⟨k, va, hk, rfl, hf, hbr⟩ := hrel
      clear hf0 hb20
      obtain ⟨bLr, -, -, hwr⟩ := HB1.out wr hbr
      have cL := bLr.cell
      have HF : Hid (Fill wr w1.heap.size ga p N F (mks ss bs k) va (atsI bs k)) := hf
      have HB : Hid (Below w1.heap.size w1 wr) := hbr
      have HW : Hid (Below w.heap.size w wr) := hwr
      clear bLr hwr hf hbr
      by_cases hlt : k < N
      · have kN : (k : Int) < (N : Int) := by omega
        by_cases hkM : k < M
        · have kM : (k : Int) < (M : Int) := by omega
          obtain ⟨b2, o2, rfl, hbl2, hc2⟩ := HD.out (by omega)
          have ck := hc2 k hkM
          rw [← HW.out.cell (p := ⟨b2, _, none⟩) (by exact hbl2)] at ck
          clear hc2
          cases hb : bat bs k with
          | false =>
            rw [hb] at ck
            have HF2 : Hid (Fill wr w1.heap.size ga p N F (mks ss bs (k + 1)) va (atsI bs (k + 1))) := by
              show Fill _ _ _ _ _ _ _ _ _
              rw [← mks_skip ss bs k hb, atsI_skip bs k hb]
              exact HF.out
            clear hb
            go_wp2_with fail
            go_roundw
            case rel => exact ⟨k + 1, va, by omega, by go_num, HF2.out, HB.out⟩
            case measure => simp [intOf]; omega
          | true =>
            rw [hb] at ck
            obtain ⟨b1, o1, rfl, hbl1, hc1⟩ := HC.out (by omega)
            have tk := hc1 k hlt
            rw [← HW.out.cell (p := ⟨b1, _, none⟩) (by exact hbl1)] at tk
            have hst := os_set HF.out.obj h64 k hlt (tx ss k)
            rw [mks_set ss bs k hb] at hst
            have HA : Hid (atsI bs (k + 1) = atsI bs k ++ [(k : Int)]) := atsI_take bs k hb
            have HL : Hid ((atsI bs k).length ≤ k) := atsI_len bs k
            clear hc1 hb
            generalize tx ss k = s at *
            go_wp2_with fail
            refine hst.mono ?_
            rintro e w4 ⟨rfl, ho4, hk4⟩
            have HF4 : Hid (Fill w4 w1.heap.size ga p N F (mks ss bs (k + 1)) va (atsI bs k)) := HF.out.set hk4 ho4
            have HB4 : Hid (Below w1.heap.size w1 w4) := HB.out.trans (HF.out.obj.rest hk4)
            have cA := HF4.out.box.cell
            have hsz : ga + 1 ≤ w4.heap.size := HF4.out.box.lt
            clear hst ho4 hk4 ck tk
            go_wp2_with (at_builtin; refine wpList_append_row _ rfl _ _ 43 rfl .i64 (ga + 1) 3 i0 8 Try.underlying43 HI.out.1 HI.out.2.1 HI.out.2.2.1 HI.out.2.2.2 va (atsI bs k) rfl (HF4.out.own.alloc _) (some ⟨w4.heap.size, 0, none⟩) 1 1 [(k : Int)] rfl rfl (rowAt_lit1 _ _ _ _) (by have := HL.out; unfold maxLen; simp; omega) (by have := HL.out; simp; omega) (by simp; omega) ?_)
            intro v2 w5 hown2 hgrow2 _
            obtain ⟨a5, c5, rfl, -⟩ := hown2.at
            obtain ⟨bA5, hf5, hb5⟩ := HF4.out.app hgrow2 hown2
            have HF5 : Hid (Fill (w5.setCell ⟨ga, 0, none⟩ (.slice a5 (atsI bs k ++ [(k : Int)]).length c5)) w1.heap.size ga p N F (mks ss bs (k + 1)) (.slice a5 (atsI bs k ++ [(k : Int)]).length c5) (atsI bs (k + 1))) := by
              show Fill _ _ _ _ _ _ _ _ _
              rw [HA.out]
              exact hf5
            have HB5 : Hid (Below w1.heap.size w1 (w5.setCell ⟨ga, 0, none⟩ (.slice a5 (atsI bs k ++ [(k : Int)]).length c5))) := HB4.out.trans hb5
            have cA5 := bA5.cell
            have fA5 := bA5.frozen
            clear hown2 hgrow2 hf5 hb5 cA bA5
            generalize (atsI bs k ++ [(k : Int)]).length = L5 at *
            go_wp2_with fail
            go_roundw
            case rel => exact ⟨k + 1, _, by omega, by go_num, HF5.out, HB5.out⟩
            case measure => simp [intOf]; omega
        · have kM : ¬ (k : Int) < (M : Int) := by omega
          have hb := HBO.out k (by omega)
          have HF2 : Hid (Fill wr w1.heap.size ga p N F (mks ss bs (k + 1)) va (atsI bs (k + 1))) := by
            show Fill _ _ _ _ _ _ _ _ _
            rw [← mks_skip ss bs k hb, atsI_skip bs k hb]
            exact HF.out
          clear hb
          go_wp2_with fail
          go_roundw
          case rel => exact ⟨k + 1, va, by omega, by go_num, HF2.out, HB.out⟩
          case measure => simp [intOf]; omega
      · obtain rfl : k = N := by omega
        clear hlt hk
        have hall := fun W => all_any p W
        have HAL : Hid (∀ W, Calls Try.prog 17 #[.pointer (some ⟨p, 0, none⟩)] W fun e w' => e = .returned (.func (.func 28) #[] #[.pointer (some ⟨W.heap.size, 0, none⟩)]) ∧ w' = W.alloc (.cells #[.pointer (some ⟨p, 0, none⟩)] 40)) := hall
        clear hall
        go_wp2_with fail
        refine (HAL.out _).mono ?_
        rintro e w5 ⟨rfl, rfl⟩
        clear HAL
        go_wp2_with fail
        have hoS := HF.out.obj
        obtain ⟨a3, c3, hva, hat⟩ := HF.out.own.at
        have hbA := HF.out.box
        rw [hva] at hbA
        have hga : ga < wr.heap.size := hbA.lt
        have hloA := HF.out.lo
        have hfl := HF.out.fl
        obtain ⟨Ls, hLs⟩ : ∃ Ls, Ls = outs (mks ss bs k) k 0 := ⟨_, rfl⟩
        have HLen : Hid (Ls.length = (atsI bs k).length) := by rw [hLs]; exact outs_len ss bs k
        have HGet : Hid (∀ j (h : j < Ls.length), ∃ i : Nat, i < k ∧ (atsI bs k)[j]?.getD 0 = (i : Int) ∧ Ls[j] = (i, tx ss i)) := by
          subst hLs
          exact outs_get ss bs k
        have hzl := atsI_len bs k
        have hS3 : ((wr.alloc (.cells #[.int .i64 0] 3)).alloc (.cells #[.pointer (some ⟨p, 0, none⟩)] 40)).heap.size = wr.heap.size + 1 + 1 := by simp
        have hB3 : Below wr.heap.size wr ((wr.alloc (.cells #[.int .i64 0] 3)).alloc (.cells #[.pointer (some ⟨p, 0, none⟩)] 40)) := ((Below.refl _ _).alloc (Nat.le_refl _) _).alloc (by simp) _
        have bK : Boxed ((wr.alloc (.cells #[.int .i64 0] 3)).alloc (.cells #[.pointer (some ⟨p, 0, none⟩)] 40)) wr.heap.size 3 (.int .i64 0) := (Boxed.new wr 3 (.int .i64 0)).alloc _
        have bP : Boxed ((wr.alloc (.cells #[.int .i64 0] 3)).alloc (.cells #[.pointer (some ⟨p, 0, none⟩)] 40)) (wr.heap.size + 1) 40 (.pointer (some ⟨p, 0, none⟩)) := by
          have := Boxed.new (wr.alloc (.cells #[.int .i64 0] 3)) 40 (.pointer (some ⟨p, 0, none⟩))
          rwa [World.size_alloc] at this
        have hgo := all_goes 4 (by decide) (wr.heap.size + 1) p w1.heap.size k (mks ss bs k) F ((wr.alloc (.cells #[.int .i64 0] 3)).alloc (.cells #[.pointer (some ⟨p, 0, none⟩)] 40)) h64
        rw [← hLs] at hgo
        generalize (wr.alloc (.cells #[.int .i64 0] 3)).alloc (.cells #[.pointer (some ⟨p, 0, none⟩)] 40) = W0 at *
        have HK : Hid (∀ W, Below wr.heap.size W0 W → Below wr.heap.size wr W) := fun W hW => hB3.trans hW
        have HX : Hid (∀ W, Below wr.heap.size W0 W → Boxed W w.heap.size 38 (.slice ao k cap) ∧ Boxed W (w.heap.size + 1) 5 (.int .u8 mo) ∧ Boxed W (w.heap.size + 1 + 1) 4 (.bool false) ∧ Below w.heap.size w W) := fun W hW => HB1.out W (HB.out.trans ((HK.out W hW).mono HB.out.size))
        have HXA : Hid (∀ W, Below wr.heap.size W0 W → Boxed W ga 43 (.slice a3 (atsI bs k).length c3) ∧ RowAt .i64 W a3 c3 (atsI bs k)) := fun W hW => ⟨((HK.out W hW).block _ hga).trans hbA, hat.below (HK.out W hW)⟩
        have HXO : Hid (∀ W, Below wr.heap.size W0 W → ObjS W w1.heap.size p k (mks ss bs k) F) := fun W hW => hoS.below (HK.out W hW)
        have HXT : Hid (∀ W, Below wr.heap.size W0 W → 0 < k → ∃ b o, ao = some ⟨b, o, none⟩ ∧ ∀ i, i < k → W.cell? ⟨b, o + i, none⟩ = some (.string (tx ss i))) := fun W hW hp => by
          obtain ⟨b, o, h1, h2, h3⟩ := HC.out hp
          exact ⟨b, o, h1, fun i hi => ((HX.out W hW).2.2.2.cell (p := ⟨b, _, none⟩) (by exact h2)).trans (h3 i hi)⟩
        have hz1 : w1.heap.size ≤ wr.heap.size := HB.out.size
        clear hLs hoS hva hat hbA hfl HF HB HW HC HB1 hB3 cL HK
        generalize wr.heap.size = kc at *
        refine (wpIn_wide (n := 5)).1 (range_goes (by decide) (gf := 28) (lb := #[.pointer (some ⟨kc + 1, 0, none⟩)]) rfl (enters_of Try.func28 (by kernel_rfl) rfl) hgo (fun _ => rfl)
          (fun pre W => (pre <+: Ls ∧ (pre = [] ∨ (pre.length : Int) < mo)) ∧ Boxed W kc 3 (.int .i64 (pre.length : Nat)) ∧ Boxed W (kc + 1) 40 (.pointer (some ⟨p, 0, none⟩)) ∧ Below kc W0 W)
          (fun c pre W => (c = .ret ∧ ¬ pre <+: Ls) ∨ ((c = .exit 2 ∧ pre <+: Ls ∧ (pre.length : Int) = max mo 1) ∧ Boxed W kc 3 (.int .i64 (pre.length : Nat)) ∧ Below kc W0 W))
          (fun pre A A' h hb => ⟨h.1, (hb.block _ (by omega)).trans h.2.1, (hb.block _ (by omega)).trans h.2.2.1, h.2.2.2.trans (hb.mono (by omega))⟩)
          (fun c pre A A' h hb => h.imp id (fun h => ⟨h.1, (hb.block _ (by omega)).trans h.2.1, h.2.2.trans (hb.mono (by omega))⟩))
          (fun pre A h => ⟨h.2.2.1.cell, HXO.out A h.2.2.2⟩)
          ⟨⟨List.nil_prefix, .inl rfl⟩, bK, bP, Below.refl _ _⟩
          (fun y => { tmps := #[.slice ao k cap, .slice bo M cap2, .int .u8 mo, .pointer (some ⟨w.heap.size, 0, none⟩), undef, .pointer (some ⟨w.heap.size + 1, 0, none⟩), .pointer (some ⟨w.heap.size + 1 + 1, 0, none⟩), .pointer (some ⟨p, 0, none⟩), .int .i64 0, .pointer (some ⟨ga, 0, none⟩), .int .i64 k, .pointer (some ⟨kc, 0, none⟩), .int .i64 (y.1 : Nat), .string y.2, .bool true, .bool false, .slice ao k cap, .int .i64 k, .bool false, .tuple #[.pointer (some ⟨p, 0, none⟩), .int .i64 0], .slice ao k cap, .int .i64 k, .tuple #[.pointer (some ⟨p, 0, none⟩), .int .i64 0], .pointer (some ⟨p, 0, none⟩), .int .i64 0, .pointer (some ⟨p, 0, none⟩), .bool false, .int .i64 k, .slice ao k cap, .int .i64 k, .bool false, u31, u32, u33, u34, u35, u36, u37, u38, u39, u40, u41, u42, u43, u44, u45, u46, u47, u48, u49, u50, u51, u52, u53, .pointer (some ⟨p, 0, none⟩), .func (.func 28) #[] #[.pointer (some ⟨kc + 1, 0, none⟩)], .int .i64 (y.1 : Nat), .string y.2, undef, undef, undef, undef, undef, undef, undef, undef, undef, undef, undef, undef, undef, undef, undef, undef, undef, undef, undef, undef, undef, undef, undef, undef, undef, undef, undef, undef, undef, undef, undef, undef, undef, undef, undef, undef, undef, undef, undef, undef, undef, undef, undef], defers := [] }) ?assign ?body ?done ?stop)
        case assign =>
          intro l y W K hK
          simp only [two]
          gi_wp2
          exact hK
        case body =>
          rintro l pre ⟨y1, y2⟩ W ⟨⟨hpre, hmost⟩, hbn, hbp, hB⟩ hlt
          obtain ⟨i, hik, hzi, hz⟩ := HGet.out pre.length hlt
          obtain ⟨bLw, bMw, bRw, -⟩ := HX.out W hB
          obtain ⟨bAw, hat⟩ := HXA.out W hB
          obtain ⟨b1, o1, rfl, htx⟩ := HXT.out W hB (by omega)
          have hlc : pre.length < (atsI bs k).length := by have := HLen.out; omega
          obtain ⟨b3, o3, rfl, hc3⟩ := hat.2.2.2 (by omega)
          have ca := hc3 pre.length hlc
          rw [hzi] at ca
          have ct := htx i hik
          have HPX : Hid (pre ++ [(y1, y2)] <+: Ls ↔ Ls[pre.length] = (y1, y2)) := pre_snoc hpre hlt
          rw [hz] at HPX
          have cl := bLw.cell
          have cm := bMw.cell
          have cr := bRw.cell
          have fr := bRw.frozen
          have cA := bAw.cell
          have cn := hbn.cell
          have fn := hbn.frozen
          have HBN : Hid (Boxed W kc 3 (.int .i64 (pre.length : Nat))) := hbn
          have HBP : Hid (Boxed W (kc + 1) 40 (.pointer (some ⟨p, 0, none⟩))) := hbp
          have HBB : Hid (Below kc W0 W) := hB
          have hln : Hid (pre = [] → pre.length = 0) := fun h => by rw [h]; rfl
          have hpl : pre.length ≤ 64 := by omega
          generalize tx ss i = t at *
          clear hat htx hc3 hzi hz bLw bMw bRw bAw hbn hbp hB hgo bK bP
          generalize (atsI bs k).length = C at *
          have hlC : (pre.length : Int) < (C : Int) := by omega
          have ik : (i : Int) < (k : Int) := by omega
          by_cases h1 : y1 = i
          · subst h1
            by_cases h2 : y2 = t
            · subst h2
              have HP2 : Hid (pre ++ [(y1, y2)] <+: Ls) := HPX.out.2 rfl
              have el : ((pre ++ [(y1, y2)]).length : Int) = (pre.length : Int) + 1 := by simp
              have HBN2 : Hid (Boxed (W.setCell ⟨kc, 0, none⟩ (.int .i64 ((pre.length : Int) + 1))) kc 3 (.int .i64 ((pre ++ [(y1, y2)]).length : Nat))) := by
                show Boxed _ _ _ _
                rw [el]
                exact HBN.out.set _
              have HBP2 : Hid (Boxed (W.setCell ⟨kc, 0, none⟩ (.int .i64 ((pre.length : Int) + 1))) (kc + 1) 40 (.pointer (some ⟨p, 0, none⟩))) := HBP.out.other (by omega) _
              have HBB2 : Hid (Below kc W0 (W.setCell ⟨kc, 0, none⟩ (.int .i64 ((pre.length : Int) + 1)))) := HBB.out.setCell (p := ⟨kc, 0, none⟩) (Nat.le_refl _) _
              have HAS : Hid (Above W0.heap.size W (W.setCell ⟨kc, 0, none⟩ (.int .i64 ((pre.length : Int) + 1)))) := (keeps_set W kc 0 _).mono (fun b hb => by omega)
              clear el HPX
              by_cases hmp : mo ≤ (pre.length : Int) + 1
              · have HMX : Hid (((pre ++ [(y1, y2)]).length : Int) = max mo 1) := by
                  show _ = _
                  simp
                  rcases hmost with h | h
                  · have := hln.out h; omega
                  · omega
                clear hmost
                gi_wp2
                exact ⟨HAS.out, .inr ⟨⟨rfl, HP2.out, HMX.out⟩, HBN2.out, HBB2.out⟩⟩
              · have HMX : Hid (((pre ++ [(y1, y2)]).length : Int) < mo) := by
                  show _ < _
                  simp
                  omega
                clear hmost
                gi_wp2
                exact ⟨by first | exact HAS.out | (rw [← hS3]; exact HAS.out), ⟨HP2.out, .inr HMX.out⟩, HBN2.out, HBP2.out, HBB2.out⟩
            · have h2' : (t.toList == y2.toList) = false := by
                refine beq_eq_false_iff_ne.2 fun h => h2 ?_
                apply ByteArray.ext
                rw [← Array.toList_inj]
                simpa [ByteArray.toList_eq] using h.symm
              have HP2 : Hid (¬ pre ++ [(y1, y2)] <+: Ls) := fun h => by
                have := HPX.out.1 h
                simp only [Prod.mk.injEq, true_and] at this
                exact h2 this.symm
              have HAS : Hid (Above W0.heap.size W (W.setCell ⟨w.heap.size + 1 + 1, 0, none⟩ (.bool false))) := (keeps_set W (w.heap.size + 1 + 1) 0 _).mono (fun b hb => by omega)
              clear HPX hmost h2
              gi_wp2
              exact ⟨HAS.out, .inl ⟨rfl, HP2.out⟩⟩
          · have h1' : ((i : Int) == (y1 : Int)) = false := by simp; omega
            have HP2 : Hid (¬ pre ++ [(y1, y2)] <+: Ls) := fun h => by
              have := HPX.out.1 h
              simp only [Prod.mk.injEq] at this
              exact h1 this.1.symm
            have HAS : Hid (Above W0.heap.size W (W.setCell ⟨w.heap.size + 1 + 1, 0, none⟩ (.bool false))) := (keeps_set W (w.heap.size + 1 + 1) 0 _).mono (fun b hb => by omega)
            clear HPX hmost ct
            gi_wp2
            exact ⟨HAS.out, .inl ⟨rfl, HP2.out⟩⟩
        case done =>
          rintro ys W rfl ⟨⟨hpre, hmost⟩, hbn, hbp, hB⟩ hK
          rw [hS3] at hK
          obtain ⟨bLw, bMw, bRw, hBW⟩ := HX.out W hB
          obtain ⟨bAw, -⟩ := HXA.out W hB
          have cm := bMw.cell
          have cr := bRw.cell
          have fr := bRw.frozen
          have cA := bAw.cell
          have cn := hbn.cell
          rw [HLen.out] at cn
          have HM1 : Hid (((atsI bs k).length : Int) = 0 ∨ ((atsI bs k).length : Int) < mo) := by
            show _ ∨ _
            rw [← HLen.out]
            exact hmost.imp (fun h => by rw [h]; rfl) id
          have hDw : w.heap.size ≤ kc + 1 + 1 := by omega
          clear hmost hpre hbn hbp hB bLw bMw bRw bAw hgo bK bP
          generalize (atsI bs k).length = C at *
          go_wp2_with fail
          all_goals (refine goes_out ?_ rfl cr hK hBW hDw)
          all_goals (have hm := HM1.out)
          all_goals first
            | rfl
            | (simp; omega)
            | omega
        case stop =>
          rintro c pre W hpre (⟨rfl, h⟩ | ⟨⟨rfl, hp, hmx⟩, hbn, hB⟩) hK
          · exact absurd hpre h
          · rw [hS3] at hK
            obtain ⟨bLw, bMw, bRw, hBW⟩ := HX.out W hB
            obtain ⟨bAw, -⟩ := HXA.out W hB
            have cm := bMw.cell
            have cr := bRw.cell
            have fr := bRw.frozen
            have cA := bAw.cell
            have cn := hbn.cell
            have HM1 : Hid ((pre.length : Int) = max mo 1 ∧ pre.length ≤ (atsI bs k).length) := ⟨hmx, by rw [← HLen.out]; exact hp.length_le⟩
            have hDw : w.heap.size ≤ kc + 1 + 1 := by omega
            have hpl : pre.length ≤ 64 := by have := HM1.out.2; omega
            clear hmx hp hpre hbn hB bLw bMw bRw bAw hgo bK bP
            generalize (atsI bs k).length = C at *
            generalize pre.length = Q at *
            refine wpIn_wide.2 ?_
            go_wp2_with fail
            all_goals (refine goes_out ?_ rfl cr hK hBW hDw)
            all_goals (have hm := HM1.out)
            all_goals first
              | rfl
              | (simp; omega)
              | omega

theorem goes_walk (v : Value) (ss : List ByteArray) (u : Value) (bs : List Bool) (mo : Int) (w : World) (htx : Texts w v ss) (hbo : Bools w u bs) (hm0 : 0 ≤ mo) (hm1 : mo ≤ 255) :
    Calls Try.prog 4 #[v, u, .int .u8 mo] w fun e w' => e = .returned (.bool true) ∧ Below w.heap.size w w' :=
  callsIn_wide.1 (goes_in v u ss bs mo w htx hbo hm0 hm1)
end Go.Proofs.Ytfkfbpkhdneeeaa
