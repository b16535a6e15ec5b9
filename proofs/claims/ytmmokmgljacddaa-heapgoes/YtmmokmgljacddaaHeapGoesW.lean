/-
  The walk of the law HeapGoes.
-/
import Derived.Test.YtmmokmgljacddaaHeapSeq
import Derived.Deep.DeepCutAuto
import Derived.Deep.CutBlock
import Derived.Deep.RegionHeld3
namespace Go.Proofs.Ytmmokmgljacddaa
open Go.RowKit Go.Shelf
attribute [local go_sem] Oper.semAt_some

/-- Both heaps in blocks below B0, none of which is in X. -/
def TwoB (w : World) (B p q n : Nat) (m mr : Nat → Option Int) (B0 : Nat) (X : Nat → Prop) : Prop := ∃ F G, Hp w B p n m F ∧ Rf w B q n mr G ∧ (∀ b, F b → ¬ G b) ∧ (∀ b, F b → b < B0) ∧ ∀ b, G b → b < B0 ∧ ¬ X b
section
variable {w w' : World} {B p q n : Nat} {m mr : Nat → Option Int} {B0 : Nat} {X : Nat → Prop}
theorem TwoB.below (h : TwoB w B p q n m mr B0 X) (hb : Below B0 w w') : TwoB w' B p q n m mr B0 X := by
  obtain ⟨F, G, h1, h2, h3, h4, h5⟩ := h
  have hk : Keeps (fun b => B0 ≤ b) w w' := ⟨hb.os, hb.tape, hb.output, hb.size, fun k _ hn => hb.block k (by omega)⟩
  exact ⟨F, G, h1.kept hk (fun b hf hn => by have := h4 b hf; omega), h2.kept hk (fun b hf hn => by have := (h5 b hf).1; omega), h3, h4, h5⟩
theorem TwoB.one (h : TwoB w B p q n m mr B0 X) : One w B p n m := by
  obtain ⟨F, G, h1, _⟩ := h
  exact ⟨F, h1⟩
theorem TwoX.twoB (h : TwoX w B p q n m mr X) (hs : w.heap.size ≤ B0) : TwoB w B p q n m mr B0 X := by
  obtain ⟨F, G, h1, h2, h3, h4⟩ := h
  refine ⟨F, G, h1, h2, h3, fun b hb => ?_, fun b hb => ⟨?_, fun hx => (h4 b hx).2.2 hb⟩⟩
  · have := (h1.lt b hb).2
    omega
  · have := (h2.lt b hb).2
    omega
theorem TwoB.rpop (h : TwoB w B p q n m mr B0 X) (hn : n ≤ 64) :
    Calls Try.prog 14 #[.pointer (some ⟨q, 0, none⟩)] w fun e w' => e = .returned (peekT (Value.int .i64) 0 (HM.firstOf HM.TI mr)) ∧ TwoB w' B p q n m (HM.popped HM.TI mr) B0 X ∧ Keeps (fun b => B ≤ b ∧ b < B0 ∧ ¬ X b) w w' := by
  obtain ⟨F, G, h1, h2, h3, h4, h5⟩ := h
  have hlt := h2.lt
  obtain ⟨bi, bq, ins, ps, r1, r2, rfl⟩ := h2
  refine (HR.pop_any r1 r2 hn).mono ?_
  rintro e w' ⟨rfl, ins', a1, a2, a3⟩
  exact ⟨rfl, ⟨F, _, h1.kept a3 h3, ⟨bi, bq, ins', ps, a1, a2, rfl⟩, h3, h4, h5⟩, a3.mono (fun b hb => ⟨(hlt b hb).1, h5 b hb⟩)⟩
end

set_option maxRecDepth 100000 in
/-- The way out: the answer lies in its cell; nothing is deferred. -/
theorem goes_out {n : Nat} {w W : World} {t : Array Value} {D : Nat} {b : Bool} (hb : b = true) (ht : t[6]?.getD undef = .pointer (some ⟨w.heap.size + 1, 0, none⟩)) (hcr : W.cell? ⟨w.heap.size + 1, 0, none⟩ = some (.bool false))
    (hK : W.heap[D]? = some (.deferred (some []))) (hB : Below w.heap.size w W) (hD : w.heap.size ≤ D) :
    bodyPostM Fence.wide n Try.prog Try.f4 (fun e w' => e = .returned (.bool true) ∧ Below w.heap.size w w') Exit.ret { tmps := t, defers := [{ target := .collected D, args := #[] }] } (W.setCell ⟨w.heap.size + 1, 0, none⟩ (.bool b)) := by
  subst hb
  have hK' := (KeepsOthers.setCell W ⟨w.heap.size + 1, 0, none⟩ (.bool true)).same D _ hK rfl
  refine ⟨by simp, .inl ⟨_, _, rfl, run_takeDeferred hK', ?_⟩⟩
  have hc5 := cell_kept (World.cell?_setCell_same' W ⟨w.heap.size + 1, 0, none⟩ (.bool true) (by rw [hcr]; rfl)) (grownBy_putObj' _ D (.deferred none)) (fun r e => by cases e; exact ⟨_, hK', rfl⟩)
  refine ⟨.bool true, ?_, rfl, (hB.setCell (p := ⟨w.heap.size + 1, 0, none⟩) (by simp) _).trans (belowK_b (w := w) (Nat.le_refl _) _ D _ _ hD hK' rfl rfl)⟩
  simp [results, Try.f4, go_sem, hc5, ht]

set_option maxRecDepth 100000 in
set_option maxHeartbeats 4000000 in
theorem goes_in (a mo : Int) (v : Value) (xs : List (Int × Int × Int)) (w : World) (hacts : Acts w v xs) (ha0 : 0 ≤ a) (ha1 : a ≤ 255) (hm0 : 0 ≤ mo) (hm1 : mo ≤ 255) :
    CallsIn Fence.wide 5 Try.prog 4 #[.int .u8 a, v, .int .u8 mo] w fun e w' => e = .returned (.bool true) ∧ Below w.heap.size w w' := by
  obtain ⟨ao, cap, rfl, hml, hcells⟩ := hacts
  have HC : Hid (0 < xs.length → ∃ b o, ao = some ⟨b, o, none⟩ ∧ b < w.heap.size ∧ ∀ i, i < xs.length → w.cell? ⟨b, o + i * 3, none⟩ = some (.int .i64 (xs[i]?.getD (0, 0, 0)).1) ∧ w.cell? ⟨b, o + i * 3 + 1, none⟩ = some (.int .i64 (xs[i]?.getD (0, 0, 0)).2.1) ∧ w.cell? ⟨b, o + i * 3 + 2, none⟩ = some (.int .i64 (xs[i]?.getD (0, 0, 0)).2.2)) := hcells
  clear hcells
  have hml' : xs.length ≤ 9223372036854775807 := by unfold maxLen at hml; omega
  clear hml
  obtain ⟨L, hL⟩ : ∃ L, L = xs.length := ⟨_, rfl⟩
  rw [← hL] at HC hml' ⊢
  clear hL
  obtain ⟨x, rfl⟩ : ∃ x : Nat, a = x := ⟨a.toNat, by omega⟩
  obtain ⟨s, hs⟩ : ∃ s, s = x % 65 := ⟨_, rfl⟩
  have h64 : s ≤ 64 := by omega
  have hxs : (x : Int) % 65 = (s : Int) := by omega
  clear hs
  have hw0 : Below w.heap.size w ((w.alloc (.cells #[.int .u8 mo] 5)).alloc (.cells #[.bool false] 4)) := ((Below.refl _ _).alloc (Nat.le_refl _) _).alloc (by simp) _
  have hS0 : ((w.alloc (.cells #[.int .u8 mo] 5)).alloc (.cells #[.bool false] 4)).heap.size = w.heap.size + 1 + 1 := by simp
  have bM : Boxed ((w.alloc (.cells #[.int .u8 mo] 5)).alloc (.cells #[.bool false] 4)) w.heap.size 5 (.int .u8 mo) := (Boxed.new w 5 (.int .u8 mo)).alloc _
  have bR : Boxed ((w.alloc (.cells #[.int .u8 mo] 5)).alloc (.cells #[.bool false] 4)) (w.heap.size + 1) 4 (.bool false) := by
    have := Boxed.new (w.alloc (.cells #[.int .u8 mo] 5)) 4 (.bool false)
    rwa [World.size_alloc] at this
  have haw := awake_any ((w.alloc (.cells #[.int .u8 mo] 5)).alloc (.cells #[.bool false] 4))
  refine callsIn_of_wp_marks Try.func4 rfl trivial ?_ rfl
  simp only [Try.ntmps4, List.size_toArray, List.length_cons, List.length_nil, Nat.reduceAdd, Nat.reduceSub, Array.replicate_succ, Array.replicate_zero, List.push_toArray, List.append_toArray, List.nil_append, List.cons_append]
  refine wpIn_wide.2 ?_
  go_wp2_with fail
  generalize (w.alloc (.cells #[.int .u8 mo] 5)).alloc (.cells #[.bool false] 4) = w0 at *
  refine haw.mono ?_
  rintro e w1 ⟨rfl, hb1⟩
  have hS1 : w.heap.size + 1 + 1 ≤ w1.heap.size := by have := hb1.size; omega
  have bM1 : Boxed w1 w.heap.size 5 (.int .u8 mo) := (hb1.block _ (by omega)).trans bM
  have bR1 : Boxed w1 (w.heap.size + 1) 4 (.bool false) := (hb1.block _ (by omega)).trans bR
  have hw1 : Below w.heap.size w w1 := hw0.trans (hb1.mono (by omega))
  have hnew := one_new s h64 w1
  clear haw bM bR hb1 hw0 hS0
  go_wp2_with fail
  rw [hxs]
  refine hnew.mono ?_
  rintro e w2 ⟨p, rfl, ho2, hb2⟩
  have hrn := two_new ho2 h64
  clear hnew
  go_wp2_with fail
  refine hrn.mono ?_
  rintro e w3 ⟨q, rfl, ho3, hb3⟩
  have hb13 : Below w1.heap.size w1 w3 := hb2.trans hb3
  clear hrn hb2 hb3 ho2
  go_upto_block 0 with fail
  have hbq : Below w3.heap.size w3 (w3.alloc (.cells #[.pointer (some ⟨q, 0, none⟩)] 28)) := (Below.refl _ _).alloc (Nat.le_refl _) _
  have hoX := ho3.guest hbq (Nat.le_refl _) (by simp)
  have bQ := Boxed.new w3 28 (.pointer (some ⟨q, 0, none⟩))
  have hb1q : Below w1.heap.size w1 (w3.alloc (.cells #[.pointer (some ⟨q, 0, none⟩)] 28)) := hb13.trans (hbq.mono hb13.size)
  have hgq : w3.heap.size < (w3.alloc (.cells #[.pointer (some ⟨q, 0, none⟩)] 28)).heap.size := by simp
  have hg3 : w1.heap.size ≤ w3.heap.size := hb13.size
  generalize w3.alloc (.cells #[.pointer (some ⟨q, 0, none⟩)] 28) = wq at *
  generalize w3.heap.size = gq at *
  clear hbq ho3 hb13
  obtain ⟨X, hX⟩ : ∃ X : Nat → Prop, X = (fun b => b < w1.heap.size ∨ b = gq) := ⟨_, rfl⟩
  rw [← hX] at hoX
  have X1 : Hid (∀ b, b < w1.heap.size → X b) := fun b hb => by rw [hX]; exact .inl hb
  have XQ : Hid (X gq) := by rw [hX]; exact .inr rfl
  have XN : Hid (∀ b, X b → b < wq.heap.size) := fun b hb => by
    rw [hX] at hb
    have := hb1q.size
    rcases hb with h | h <;> omega
  clear hX
  have bMq : Boxed wq w.heap.size 5 (.int .u8 mo) := (hb1q.block _ (by omega)).trans bM1
  have bRq : Boxed wq (w.heap.size + 1) 4 (.bool false) := (hb1q.block _ (by omega)).trans bR1
  have hwq : Below w.heap.size w wq := hw1.trans (hb1q.mono (by omega))
  -- what rounds leave alone
  have HBX : Hid (∀ W, Rest X wq W → Boxed W w.heap.size 5 (.int .u8 mo) ∧ Boxed W (w.heap.size + 1) 4 (.bool false) ∧ Boxed W gq 28 (.pointer (some ⟨q, 0, none⟩)) ∧ Below w.heap.size w W) := fun W hW => by
    have hz := hwq.size
    have hz1 := hb1q.size
    exact ⟨(hW.block _ (by omega) (fun hn => hn (X1.out _ (by omega)))).trans bMq, (hW.block _ (by omega) (fun hn => hn (X1.out _ (by omega)))).trans bRq, (hW.block _ hgq (fun hn => hn XQ.out)).trans bQ, hwq.trans (Rest.below hW (fun b hb => X1.out b (by omega)) hz)⟩
  clear bM1 bR1 bMq bRq bQ
  go_cut [11] from 33 to 66 (fun _ wx => ∃ m, TwoX wx w1.heap.size p q s m m X ∧ Rest X wq wx)
  case first =>
    go_wp2_with fail
    go_loopw [11] (fun iv wr => ∃ (k : Nat) (m : Nat → Option Int), k ≤ L ∧ iv = .int .i64 k ∧ TwoX wr w1.heap.size p q s m m X ∧ Rest X wq wr) (fun iv _ => L - (intOf iv).toNat)
    case atStart => exact ⟨0, _, Nat.zero_le _, rfl, hoX, Keeps.refl _ _⟩
    case round =>
      obtain ⟨k, m, hk, rfl, ho, hrr⟩ := hrel
      clear hoX
      have HO : Hid (TwoX wr w1.heap.size p q s m m X) := ho
      have HR : Hid (Rest X wq wr) := hrr
      clear ho hrr
      by_cases hlt : k < L ∧ k < 200
      · obtain ⟨b, o, rfl, hbl, hc⟩ := HC.out (by omega)
        obtain ⟨_, c1, c2⟩ := hc k hlt.1
        generalize xs[k]?.getD (0, 0, 0) = y at c1 c2
        obtain ⟨kd, t, pv⟩ := y
        simp only at c1 c2
        have HCE : Hid (∀ W, Rest X wq W → W.cell? ⟨b, o + k * 3 + 1, none⟩ = some (.int .i64 t) ∧ W.cell? ⟨b, o + k * 3 + 2, none⟩ = some (.int .i64 pv) ∧ W.cell? ⟨gq, 0, none⟩ = some (.pointer (some ⟨q, 0, none⟩))) := fun W hW => by
          obtain ⟨_, _, h3, h4⟩ := HBX.out W hW
          exact ⟨(h4.cell (by exact hbl)).trans c1, (h4.cell (by exact hbl)).trans c2, h3.cell⟩
        obtain ⟨e1, e2, e3⟩ := HCE.out wr HR.out
        have k1 : (k : Int) < (L : Int) := by omega
        have k2 : (k : Int) < 200 := by omega
        have hd : Below wr.heap.size wr wr.drew := (Below.refl _ _).drew
        have HD : Hid (TwoX wr.drew w1.heap.size p q s m m X) := HO.out.below hd
        have HRD : Hid (Rest X wq wr.drew) := HR.out.trans (Rest.of_below hd)
        clear hc c1 c2 hd hlt
        go_wp2_with fail
        go_region_held3 (fun w' => w'.cell? ⟨b, o + k * 3 + 1, none⟩ = some (.int .i64 t) ∧ w'.cell? ⟨b, o + k * 3 + 2, none⟩ = some (.int .i64 pv)) (go_keep) (
          (go_at_call 11; refine (x_put HD.out h64 t pv).mono ?_; rintro e w5 ⟨rfl, ho5, hr5⟩; have R5 : Hid (Rest X wq w5) := HRD.out.trans hr5; obtain ⟨f1, f2, f3⟩ := HCE.out w5 R5.out))
        have HO5 : Hid (TwoX w5.drew w1.heap.size p q s (HM.put HM.TI s m t pv) m X) := ho5.below ((Below.refl _ _).drew)
        have R5D : Hid (Rest X wq w5.drew) := R5.out.trans (Rest.of_below ((Below.refl _ _).drew))
        clear ho5 hr5 e1 e2 e3
        go_wp2_with fail
        go_region_held3 (fun w' => w'.cell? ⟨b, o + k * 3 + 1, none⟩ = some (.int .i64 t) ∧ w'.cell? ⟨b, o + k * 3 + 2, none⟩ = some (.int .i64 pv) ∧ w'.cell? ⟨gq, 0, none⟩ = some (.pointer (some ⟨q, 0, none⟩))) (go_keep) (
          (go_at_call 12; refine (x_rput HO5.out t pv).mono ?_; rintro e w6 ⟨rfl, ho6, hr6⟩; have R6 : Hid (Rest X wq w6) := R5D.out.trans hr6; obtain ⟨d1, d2, d3⟩ := HCE.out w6 R6.out))
        have HO6 : Hid (TwoX w6 w1.heap.size p q s (HM.put HM.TI s m t pv) (HM.put HM.TI s m t pv) X) := ho6
        clear ho6 hr6 f1 f2 f3
        go_wp2_with fail
        go_roundw
        case rel => exact ⟨k + 1, _, by omega, by go_num, HO6.out, R6.out⟩
        case measure => simp [intOf]; omega
      · have hend : ((k : Int) < (L : Int) ∧ ¬ (k : Int) < 200) ∨ ¬ (k : Int) < (L : Int) := by omega
        clear hlt
        rcases hend with ⟨k1, k2⟩ | k1
        · go_wp2_with fail
          go_meet
          exact ⟨m, HO.out, HR.out⟩
        · go_wp2_with fail
          go_meet
          exact ⟨m, HO.out, HR.out⟩
  case rest =>
    obtain ⟨m, ho, hrr⟩ := hcut
    have HO : Hid (TwoX wc w1.heap.size p q s m m X) := ho
    have HR : Hid (Rest X wq wc) := hrr
    clear ho hrr hoX HC
    obtain ⟨g1, g2, g3, hBW⟩ := HBX.out wc HR.out
    have c3 := g3.cell
    have hln := x_rlen HO.out h64
    have hall := fun W => HI.all_any p W
    have HAL : Hid (∀ W, Calls Try.prog 21 #[.pointer (some ⟨p, 0, none⟩)] W fun e w' => e = .returned (.func (.func 31) #[] #[.pointer (some ⟨W.heap.size, 0, none⟩)]) ∧ w' = W.alloc (.cells #[.pointer (some ⟨p, 0, none⟩)] 24)) := hall
    clear hall
    go_wp2_with fail
    refine hln.mono ?_
    rintro e w4 ⟨rfl, rfl⟩
    go_wp2_with fail
    refine (HAL.out _).mono ?_
    rintro e w5 ⟨rfl, rfl⟩
    clear HAL hln
    go_wp2_with fail
    have hB3 : Below w4.heap.size w4 ((w4.alloc (.cells #[.int .i64 0] 3)).alloc (.cells #[.pointer (some ⟨p, 0, none⟩)] 24)) := ((Below.refl _ _).alloc (Nat.le_refl _) _).alloc (by simp) _
    have hS3 : ((w4.alloc (.cells #[.int .i64 0] 3)).alloc (.cells #[.pointer (some ⟨p, 0, none⟩)] 24)).heap.size = w4.heap.size + 1 + 1 := by simp
    have bK : Boxed ((w4.alloc (.cells #[.int .i64 0] 3)).alloc (.cells #[.pointer (some ⟨p, 0, none⟩)] 24)) w4.heap.size 3 (.int .i64 0) := (Boxed.new w4 3 (.int .i64 0)).alloc _
    have bP : Boxed ((w4.alloc (.cells #[.int .i64 0] 3)).alloc (.cells #[.pointer (some ⟨p, 0, none⟩)] 24)) (w4.heap.size + 1) 24 (.pointer (some ⟨p, 0, none⟩)) := by
      have := Boxed.new (w4.alloc (.cells #[.int .i64 0] 3)) 24 (.pointer (some ⟨p, 0, none⟩))
      rwa [World.size_alloc] at this
    have hT0 : TwoB ((w4.alloc (.cells #[.int .i64 0] 3)).alloc (.cells #[.pointer (some ⟨p, 0, none⟩)] 24)) w1.heap.size p q s m m w4.heap.size X := (HO.out.twoB (Nat.le_refl _)).below hB3
    have hz4 : w1.heap.size ≤ w4.heap.size := Nat.le_trans hb1q.size HR.out.size
    have hgq4 : gq < w4.heap.size := Nat.lt_of_lt_of_le hgq HR.out.size
    have g10 : Boxed ((w4.alloc (.cells #[.int .i64 0] 3)).alloc (.cells #[.pointer (some ⟨p, 0, none⟩)] 24)) w.heap.size 5 (.int .u8 mo) := (hB3.block _ (by omega)).trans g1
    have g20 : Boxed ((w4.alloc (.cells #[.int .i64 0] 3)).alloc (.cells #[.pointer (some ⟨p, 0, none⟩)] 24)) (w.heap.size + 1) 4 (.bool false) := (hB3.block _ (by omega)).trans g2
    have g30 : Boxed ((w4.alloc (.cells #[.int .i64 0] 3)).alloc (.cells #[.pointer (some ⟨p, 0, none⟩)] 24)) gq 28 (.pointer (some ⟨q, 0, none⟩)) := (hB3.block _ hgq4).trans g3
    have hBW0 : Below w.heap.size w ((w4.alloc (.cells #[.int .i64 0] 3)).alloc (.cells #[.pointer (some ⟨p, 0, none⟩)] 24)) := hBW.trans (hB3.mono (by omega))
    generalize (w4.alloc (.cells #[.int .i64 0] 3)).alloc (.cells #[.pointer (some ⟨p, 0, none⟩)] 24) = W0 at *
    clear g1 g2 g3 c3 hBW hB3 HO HR
    obtain ⟨Ls, hLs⟩ : ∃ Ls, Ls = outs (HM.cnt s m) m := ⟨_, rfl⟩
    have hgo := all_goes 4 (by decide) (w4.heap.size + 1) p w1.heap.size s m W0 bP.cell hT0.one h64
    have HLen : Hid (Ls.length = HM.cnt s m) := by
      show _ = _
      rw [hLs]
      exact outs_len s _ _ hT0.one.out rfl
    have HGet : Hid (∀ (k : Nat) (h : k < Ls.length), HM.firstOf HM.TI (aft m k) = some Ls[k]) := by
      subst hLs
      exact outs_get _ _
    rw [← hLs] at hgo
    clear hLs bP
    obtain ⟨Bx, hBx⟩ : ∃ Bx : World → Prop, Bx = fun W => Boxed W w.heap.size 5 (.int .u8 mo) ∧ Boxed W (w.heap.size + 1) 4 (.bool false) ∧ Boxed W gq 28 (.pointer (some ⟨q, 0, none⟩)) ∧ Below w.heap.size w W := ⟨_, rfl⟩
    have BxI : Hid (∀ W, Bx W ↔ (Boxed W w.heap.size 5 (.int .u8 mo) ∧ Boxed W (w.heap.size + 1) 4 (.bool false) ∧ Boxed W gq 28 (.pointer (some ⟨q, 0, none⟩)) ∧ Below w.heap.size w W)) := fun W => by rw [hBx]
    have BxB : Hid (∀ A A', Bx A → Below W0.heap.size A A' → Bx A') := fun A A' h hb => by
      rw [hBx] at h ⊢
      exact ⟨(hb.block _ (by omega)).trans h.1, (hb.block _ (by omega)).trans h.2.1, (hb.block _ (by omega)).trans h.2.2.1, h.2.2.2.trans (hb.mono (by omega))⟩
    have BxK : Hid (∀ A A', Bx A → Keeps (fun b => w1.heap.size ≤ b ∧ b < w4.heap.size ∧ ¬ X b) A A' → Bx A') := fun A A' h hk => by
      rw [hBx] at h ⊢
      have z := h.2.2.2.size
      have l1 := (Array.getElem?_eq_some_iff.1 h.1).1
      have l2 := (Array.getElem?_eq_some_iff.1 h.2.1).1
      have l3 := (Array.getElem?_eq_some_iff.1 h.2.2.1).1
      exact ⟨(hk.block _ l1 (fun hn => by omega)).trans h.1, (hk.block _ l2 (fun hn => by omega)).trans h.2.1, (hk.block _ l3 (fun hn => hn.2.2 XQ.out)).trans h.2.2.1, h.2.2.2.trans (hk.below (fun b hb => by omega) z)⟩
    have BxS : Hid (∀ A u, Bx A → Bx (A.setCell ⟨w4.heap.size, 0, none⟩ u)) := fun A u h => by
      rw [hBx] at h ⊢
      have hk := keeps_set A w4.heap.size 0 u
      have l1 := (Array.getElem?_eq_some_iff.1 h.1).1
      have l2 := (Array.getElem?_eq_some_iff.1 h.2.1).1
      have l3 := (Array.getElem?_eq_some_iff.1 h.2.2.1).1
      exact ⟨(hk.block _ l1 (by omega)).trans h.1, (hk.block _ l2 (by omega)).trans h.2.1, (hk.block _ l3 (by omega)).trans h.2.2.1, h.2.2.2.setCell (p := ⟨w4.heap.size, 0, none⟩) (by show w.heap.size ≤ w4.heap.size; omega) _⟩
    have hBx0 : Bx W0 := by rw [hBx]; exact ⟨g10, g20, g30, hBW0⟩
    clear hBx g10 g20 g30 hBW0 HBX
    refine (wpIn_wide (n := 5)).1 (range_goes (by decide) (gf := 31) (lb := #[.pointer (some ⟨w4.heap.size + 1, 0, none⟩)]) rfl (enters_of Try.func31 (by kernel_rfl) rfl) hgo (fun _ => rfl)
      (fun pre W => (pre <+: Ls ∧ (pre = [] ∨ (pre.length : Int) < mo)) ∧ Boxed W w4.heap.size 3 (.int .i64 (pre.length : Nat)) ∧ TwoB W w1.heap.size p q s m (aft m pre.length) w4.heap.size X ∧ Bx W)
      (fun c pre W => (c = .ret ∧ ¬ pre <+: Ls) ∨ ((c = .exit 2 ∧ pre <+: Ls ∧ (pre.length : Int) = max mo 1) ∧ Boxed W w4.heap.size 3 (.int .i64 (pre.length : Nat)) ∧ TwoB W w1.heap.size p q s m (aft m pre.length) w4.heap.size X ∧ Bx W))
      (fun pre A A' h hb => ⟨h.1, (hb.block _ (by omega)).trans h.2.1, h.2.2.1.below (hb.mono (by omega)), BxB.out A A' h.2.2.2 hb⟩)
      (fun c pre A A' h hb => h.imp id (fun h => ⟨h.1, (hb.block _ (by omega)).trans h.2.1, h.2.2.1.below (hb.mono (by omega)), BxB.out A A' h.2.2.2 hb⟩))
      ⟨⟨List.nil_prefix, .inl rfl⟩, bK, hT0, hBx0⟩
      (fun y => { tmps := #[.int .u8 x, .slice ao L cap, .int .u8 mo, undef, undef, .pointer (some ⟨w.heap.size, 0, none⟩), .pointer (some ⟨w.heap.size + 1, 0, none⟩), .int .i64 s, .pointer (some ⟨p, 0, none⟩), .int .i64 0, .pointer (some ⟨gq, 0, none⟩), u11, .int .i64 (HM.cnt s m : Nat), .pointer (some ⟨w4.heap.size, 0, none⟩), .int .i64 (y.1 : Nat), .int .i64 y.2, undef, undef, undef, .bool true, .bool false, .int .u8 x, .int .i64 x, .int .i64 s, .tuple #[.pointer (some ⟨p, 0, none⟩), .int .i64 0], .int .i64 s, .tuple #[.pointer (some ⟨p, 0, none⟩), .int .i64 0], .pointer (some ⟨p, 0, none⟩), .int .i64 0, .pointer (some ⟨p, 0, none⟩), .bool false, .int .i64 s, .pointer (some ⟨q, 0, none⟩), u33, u34, u35, u36, u37, u38, u39, u40, u41, u42, u43, u44, u45, u46, u47, u48, u49, u50, u51, u52, u53, u54, u55, u56, u57, u58, u59, u60, u61, u62, u63, u64, u65, u66, .pointer (some ⟨q, 0, none⟩), .int .i64 (HM.cnt s m : Nat), .pointer (some ⟨p, 0, none⟩), .func (.func 31) #[] #[.pointer (some ⟨w4.heap.size + 1, 0, none⟩)], .int .i64 (y.1 : Nat), .int .i64 y.2, undef, undef, undef, undef, undef, undef, undef, undef, undef, undef, undef, undef, undef, undef, undef, undef, undef, undef, undef, undef, undef, undef, undef, undef, undef, undef, undef, undef, undef, undef, undef, undef, undef, undef, undef, undef, undef, undef, undef, undef, undef, undef, undef, undef, undef], defers := [] }) ?assign ?body ?done ?stop)
    case assign =>
      intro l y W K hK
      simp only [two]
      gi_wp2
      exact hK
    case body =>
      rintro l pre ⟨y1, y2⟩ W ⟨⟨hpre, hmost⟩, hbn, hT, hBx⟩ hlt
      obtain ⟨⟨t, r⟩, hz⟩ : ∃ z, Ls[pre.length] = z := ⟨_, rfl⟩
      have hf := HGet.out pre.length hlt
      rw [hz] at hf
      have hpop := hT.rpop h64
      rw [hf] at hpop
      simp only [peekT] at hpop
      have HPX : Hid (pre ++ [(y1, y2)] <+: Ls ↔ Ls[pre.length] = (y1, y2)) := pre_snoc hpre hlt
      rw [hz] at HPX
      have hcq := ((BxI.out W).1 hBx).2.2.1.cell
      have hln : Hid (pre = [] → pre.length = 0) := fun h => by rw [h]; rfl
      clear hf hz hT
      gi_wp2_with fail
      refine ⟨trivial, (CallsIn.inRound l (callsIn_wide.2 hpop)).mono ?_⟩
      rintro e W2 ⟨rfl, hT2, hK2⟩
      have hBx2 := BxK.out W W2 hBx hK2
      obtain ⟨m1, m2, _, _⟩ := (BxI.out W2).1 hBx2
      have cm := m1.cell
      have cr := m2.cell
      have fr := m2.frozen
      have hbn2 : Boxed W2 w4.heap.size 3 (.int .i64 (pre.length : Nat)) := (hK2.block _ (Array.getElem?_eq_some_iff.1 hbn).1 (fun hn => by omega)).trans hbn
      have cn := hbn2.cell
      have fn := hbn2.frozen
      have HA2 : Hid (Above W0.heap.size W W2) := Keeps.mono hK2 (fun b hb => by omega)
      have HT2 : Hid (TwoB W2 w1.heap.size p q s m (aft m (pre.length + 1)) w4.heap.size X) := hT2
      have HB2 : Hid (Bx W2) := hBx2
      have HN2 : Hid (Boxed W2 w4.heap.size 3 (.int .i64 (pre.length : Nat))) := hbn2
      clear hcq hpop hbn hBx hT2 hK2 hBx2 m1 m2 hbn2
      by_cases h1 : y1 = t
      · subst h1
        by_cases h2 : y2 = r
        · subst h2
          have HP2 : Hid (pre ++ [(y1, y2)] <+: Ls) := HPX.out.2 rfl
          have HAS : Hid (Above W0.heap.size W2 (W2.setCell ⟨w4.heap.size, 0, none⟩ (.int .i64 ((pre.length : Int) + 1)))) := (keeps_set W2 w4.heap.size 0 _).mono (fun b hb => by omega)
          have el : ((pre ++ [(y1, y2)]).length : Int) = (pre.length : Int) + 1 := by simp
          have el2 : (pre ++ [(y1, y2)]).length = pre.length + 1 := by simp
          have HBN : Hid (Boxed (W2.setCell ⟨w4.heap.size, 0, none⟩ (.int .i64 ((pre.length : Int) + 1))) w4.heap.size 3 (.int .i64 ((pre ++ [(y1, y2)]).length : Nat))) := by
            show Boxed _ _ _ _
            rw [el]
            exact HN2.out.set _
          have HTN : Hid (TwoB (W2.setCell ⟨w4.heap.size, 0, none⟩ (.int .i64 ((pre.length : Int) + 1))) w1.heap.size p q s m (aft m (pre ++ [(y1, y2)]).length) w4.heap.size X) := by
            show TwoB _ _ _ _ _ _ _ _ _
            rw [el2]
            exact HT2.out.below ((Below.refl _ W2).setCell (p := ⟨w4.heap.size, 0, none⟩) (Nat.le_refl _) _)
          have HBXN : Hid (Bx (W2.setCell ⟨w4.heap.size, 0, none⟩ (.int .i64 ((pre.length : Int) + 1)))) := BxS.out _ _ HB2.out
          clear el el2 HPX
          have hpl : pre.length ≤ 64 := by
            have := HLen.out
            have := HM.cnt_le s m
            omega
          by_cases hmp : mo ≤ (pre.length : Int) + 1
          · have HMX : Hid (((pre ++ [(y1, y2)]).length : Int) = max mo 1) := by
              show _ = _
              simp
              rcases hmost with h | h
              · have := hln.out h; omega
              · omega
            clear hmost
            gi_wp2
            exact ⟨HA2.out.trans HAS.out, .inr ⟨⟨rfl, HP2.out, HMX.out⟩, HBN.out, HTN.out, HBXN.out⟩⟩
          · have HMX : Hid (((pre ++ [(y1, y2)]).length : Int) < mo) := by
              show _ < _
              simp
              omega
            clear hmost
            gi_wp2
            exact ⟨HA2.out.trans HAS.out, ⟨HP2.out, .inr HMX.out⟩, HBN.out, HTN.out, HBXN.out⟩
        · have h2' : (y2 == r) = false := by simp [h2]
          have HP2 : Hid (¬ pre ++ [(y1, y2)] <+: Ls) := fun h => by
            have := HPX.out.1 h
            simp only [Prod.mk.injEq, true_and] at this
            exact h2 this.symm
          have HAS : Hid (Above W0.heap.size W2 (W2.setCell ⟨w.heap.size + 1, 0, none⟩ (.bool false))) := (keeps_set W2 (w.heap.size + 1) 0 _).mono (fun b hb => by omega)
          clear HPX hmost
          gi_wp2
          exact ⟨HA2.out.trans HAS.out, .inl ⟨rfl, HP2.out⟩⟩
      · have h1' : ((y1 : Int) == (t : Int)) = false := by simp; omega
        have HP2 : Hid (¬ pre ++ [(y1, y2)] <+: Ls) := fun h => by
          have := HPX.out.1 h
          simp only [Prod.mk.injEq] at this
          exact h1 this.1.symm
        have HAS : Hid (Above W0.heap.size W2 (W2.setCell ⟨w.heap.size + 1, 0, none⟩ (.bool false))) := (keeps_set W2 (w.heap.size + 1) 0 _).mono (fun b hb => by omega)
        clear HPX hmost
        gi_wp2
        exact ⟨HA2.out.trans HAS.out, .inl ⟨rfl, HP2.out⟩⟩
    case done =>
      rintro ys W rfl ⟨⟨hpre, hmost⟩, hbn, hT, hBx⟩ hK
      rw [hS3] at hK
      obtain ⟨m1, m2, _, hBW⟩ := (BxI.out W).1 hBx
      have cm := m1.cell
      have cr := m2.cell
      have fr := m2.frozen
      have cn := hbn.cell
      have hln := one_len hT.one
      have HM1 : Hid ((HM.cnt s m : Int) = 0 ∨ (HM.cnt s m : Int) < mo) := by
        show _ ∨ _
        rw [← HLen.out]
        exact hmost.imp (fun h => by rw [h]; rfl) id
      have hDw : w.heap.size ≤ w4.heap.size + 1 + 1 := by omega
      rw [HLen.out] at cn
      have hcl := HM.cnt_le s m
      clear hmost hpre hbn hT hBx m1 m2 hgo hT0 hBx0 bK
      generalize HM.cnt s m = C at *
      go_wp2_with fail
      refine hln.mono ?_
      rintro e w6 ⟨rfl, rfl⟩
      go_wp2_with fail
      all_goals (refine goes_out ?_ rfl cr hK hBW hDw)
      all_goals (have hm := HM1.out)
      all_goals first
        | rfl
        | (simp; omega)
        | omega
    case stop =>
      rintro c pre W hpre (⟨rfl, h⟩ | ⟨⟨rfl, hp, hmx⟩, hbn, hT, hBx⟩) hK
      · exact absurd hpre h
      · rw [hS3] at hK
        obtain ⟨m1, m2, _, hBW⟩ := (BxI.out W).1 hBx
        have cm := m1.cell
        have cr := m2.cell
        have fr := m2.frozen
        have cn := hbn.cell
        have hln := one_len hT.one
        have HM1 : Hid ((pre.length : Int) = max mo 1 ∧ pre.length ≤ HM.cnt s m) := ⟨hmx, by rw [← HLen.out]; exact hp.length_le⟩
        have hDw : w.heap.size ≤ w4.heap.size + 1 + 1 := by omega
        have hcl := HM.cnt_le s m
        clear hmx hp hpre hbn hT hBx m1 m2 hgo hT0 hBx0 bK
        generalize HM.cnt s m = C at *
        generalize pre.length = N at *
        refine wpIn_wide.2 ?_
        go_wp2_with fail
        refine hln.mono ?_
        rintro e w6 ⟨rfl, rfl⟩
        go_wp2_with fail
        all_goals (refine goes_out ?_ rfl cr hK hBW hDw)
        all_goals (have hm := HM1.out)
        all_goals first
          | rfl
          | (simp; omega)
          | omega

theorem goes_walk (a : Int) (v : Value) (xs : List (Int × Int × Int)) (mo : Int) (w : World) (ha0 : 0 ≤ a) (ha1 : a ≤ 255) (hacts : Acts w v xs) (hm0 : 0 ≤ mo) (hm1 : mo ≤ 255) :
    Calls Try.prog 4 #[.int .u8 a, v, .int .u8 mo] w fun e w' => e = .returned (.bool true) ∧ Below w.heap.size w w' :=
  callsIn_wide.1 (goes_in a mo v xs w hacts ha0 ha1 hm0 hm1)
end Go.Proofs.Ytmmokmgljacddaa
