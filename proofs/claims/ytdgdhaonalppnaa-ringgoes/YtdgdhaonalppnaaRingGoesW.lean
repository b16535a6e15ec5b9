/-
  The walk of the law RingGoes.
-/
import Derived.Test.YtdgdhaonalppnaaRingAll
import Derived.Test.YtdgdhaonalppnaaRingOS
import Derived.Test.YtdgdhaonalppnaaRingAwake
import Derived.Test.YtdgdhaonalppnaaLists
import Derived.Deep.DeepCutAuto
namespace Go.Proofs.Ytdgdhaonalppnaa
open Go.RowKit Go.Shelf
attribute [local go_sem] Oper.semAt_some

theorem goes_out {n : Nat} {w W : World} {t : Array Value} {D : Nat} {b : Bool} (hb : b = true) (ht : t[6]?.getD undef = .pointer (some ⟨w.heap.size + 1 + 1, 0, none⟩)) (hcr : W.cell? ⟨w.heap.size + 1 + 1, 0, none⟩ = some (.bool false))
    (hK : W.heap[D]? = some (.deferred (some []))) (hB : Below w.heap.size w W) (hD : w.heap.size ≤ D) :
    bodyPostM Fence.wide n Try.prog Try.f4 (fun e w' => e = .returned (.bool true) ∧ Below w.heap.size w w') Exit.ret { tmps := t, defers := [{ target := .collected D, args := #[] }] } (W.setCell ⟨w.heap.size + 1 + 1, 0, none⟩ (.bool b)) := by
  subst hb
  have hK' := (KeepsOthers.setCell W ⟨w.heap.size + 1 + 1, 0, none⟩ (.bool true)).same D _ hK rfl
  refine ⟨by simp, .inl ⟨_, _, rfl, run_takeDeferred hK', ?_⟩⟩
  have hc5 := cell_kept (World.cell?_setCell_same' W ⟨w.heap.size + 1 + 1, 0, none⟩ (.bool true) (by rw [hcr]; rfl)) (grownBy_putObj' _ D (.deferred none)) (fun r e => by cases e; exact ⟨_, hK', rfl⟩)
  refine ⟨.bool true, ?_, rfl, (hB.setCell (p := ⟨w.heap.size + 1 + 1, 0, none⟩) (by show w.heap.size ≤ w.heap.size + 1 + 1; omega) _).trans (belowK_b (w := w) (Nat.le_refl _) _ D _ _ hD hK' rfl rfl)⟩
  simp [results, Try.f4, go_sem, hc5, ht]
theorem pre_snoc {α : Type} {pre zs : List α} {x : α} (h : pre <+: zs) (hlt : pre.length < zs.length) : pre ++ [x] <+: zs ↔ zs[pre.length] = x := by
  obtain ⟨r, rfl⟩ := h
  cases r with
  | nil => simp at hlt
  | cons y r =>
    constructor
    · rintro ⟨q, hq⟩
      simp at hq
      simp [hq.1]
    · intro e
      simp at e
      subst e
      exact ⟨r, by simp⟩
/-- From the top down: the last ones, the other way round. -/
theorem kept_rev (K : Nat) (ss : List ByteArray) (j : Nat) (h : j < (RK.kept K ss ss.length).reverse.length) : (RK.kept K ss ss.length).reverse[j] = RK.el ⟨#[]⟩ ss (ss.length - 1 - j) := by
  have hl : (RK.kept K ss ss.length).length = min ss.length K := RK.kept_len (Nat.le_refl _)
  rw [List.length_reverse, hl] at h
  rw [RK.el_eq (by omega), List.getElem_reverse]
  simp only [RK.kept, List.getElem_drop, List.getElem_take]
  congr 1
  simp
  omega

set_option maxRecDepth 100000 in
set_option maxHeartbeats 4000000 in
theorem goes_in (room : Int) (v : Value) (ss : List ByteArray) (mo : Int) (w : World) (hr0 : 0 ≤ room) (hr1 : room ≤ 255) (htx : Texts w v ss) (hm0 : 0 ≤ mo) (hm1 : mo ≤ 255) :
    CallsIn Fence.wide 8 Try.prog 4 #[.int .u8 room, v, .int .u8 mo] w fun e w' => e = .returned (.bool true) ∧ Below w.heap.size w w' := by
  obtain ⟨x, rfl⟩ : ∃ x : Nat, room = x := ⟨room.toNat, by omega⟩
  obtain ⟨r, hr⟩ : ∃ r : Nat, r = x % 32 := ⟨_, rfl⟩
  obtain ⟨K, hK⟩ : ∃ K : Nat, K = 1 + r := ⟨_, rfl⟩
  have e1 : (x : Int) % 32 = (r : Int) := by omega
  have e2 : (1 : Int) + (r : Int) = (K : Int) := by omega
  have hK32 : K ≤ 32 := by omega
  have hK1 : 1 ≤ K := by omega
  obtain ⟨ao, cap, rfl, hml, hcells⟩ := htx
  have HC : Hid (0 < ss.length → ∃ b o, ao = some ⟨b, o, none⟩ ∧ b < w.heap.size ∧ ∀ i, i < ss.length → w.cell? ⟨b, o + i, none⟩ = some (.string (RK.el ⟨#[]⟩ ss i))) := hcells
  have hml' : ss.length ≤ 9223372036854775807 := by unfold maxLen at hml; omega
  clear hcells hml hr hK
  obtain ⟨N, hN⟩ : ∃ N, N = ss.length := ⟨_, rfl⟩
  rw [← hN] at hml' ⊢
  have HN : Hid (N = ss.length) := hN
  clear hN
  have hw0 : Below w.heap.size w (((w.alloc (.cells #[.slice ao N cap] 37)).alloc (.cells #[.int .u8 mo] 5)).alloc (.cells #[.bool false] 4)) := (((Below.refl _ _).alloc (Nat.le_refl _) _).alloc (by simp) _).alloc (by simp; omega) _
  have hS0 : (((w.alloc (.cells #[.slice ao N cap] 37)).alloc (.cells #[.int .u8 mo] 5)).alloc (.cells #[.bool false] 4)).heap.size = w.heap.size + 1 + 1 + 1 := by simp
  have bL : Boxed (((w.alloc (.cells #[.slice ao N cap] 37)).alloc (.cells #[.int .u8 mo] 5)).alloc (.cells #[.bool false] 4)) w.heap.size 37 (.slice ao N cap) := ((Boxed.new w 37 (.slice ao N cap)).alloc _).alloc _
  have bM : Boxed (((w.alloc (.cells #[.slice ao N cap] 37)).alloc (.cells #[.int .u8 mo] 5)).alloc (.cells #[.bool false] 4)) (w.heap.size + 1) 5 (.int .u8 mo) := by
    have := (Boxed.new (w.alloc (.cells #[.slice ao N cap] 37)) 5 (.int .u8 mo)).alloc (.cells #[.bool false] 4)
    rwa [World.size_alloc] at this
  have bR : Boxed (((w.alloc (.cells #[.slice ao N cap] 37)).alloc (.cells #[.int .u8 mo] 5)).alloc (.cells #[.bool false] 4)) (w.heap.size + 1 + 1) 4 (.bool false) := by
    have := Boxed.new ((w.alloc (.cells #[.slice ao N cap] 37)).alloc (.cells #[.int .u8 mo] 5)) 4 (.bool false)
    simpa using this
  have haw := awake_any (((w.alloc (.cells #[.slice ao N cap] 37)).alloc (.cells #[.int .u8 mo] 5)).alloc (.cells #[.bool false] 4))
  refine callsIn_of_wp_marks Try.func4 rfl trivial ?_ rfl
  simp only [Try.ntmps4, List.size_toArray, List.length_cons, List.length_nil, Nat.reduceAdd, Nat.reduceSub, Array.replicate_succ, Array.replicate_zero, List.push_toArray, List.append_toArray, List.nil_append, List.cons_append]
  refine wpIn_wide.2 ?_
  go_wp2_with fail
  generalize ((w.alloc (.cells #[.slice ao N cap] 37)).alloc (.cells #[.int .u8 mo] 5)).alloc (.cells #[.bool false] 4) = w0 at *
  refine haw.mono ?_
  rintro e w1 ⟨rfl, hb1⟩
  have hS1 : w.heap.size + 1 + 1 + 1 ≤ w1.heap.size := by have := hb1.size; omega
  have bL1 : Boxed w1 w.heap.size 37 (.slice ao N cap) := (hb1.block _ (by omega)).trans bL
  have bM1 : Boxed w1 (w.heap.size + 1) 5 (.int .u8 mo) := (hb1.block _ (by omega)).trans bM
  have bR1 : Boxed w1 (w.heap.size + 1 + 1) 4 (.bool false) := (hb1.block _ (by omega)).trans bR
  have hw1 : Below w.heap.size w w1 := hw0.trans (hb1.mono (by omega))
  have cL := bL1.cell
  clear haw bL bM bR hb1 hw0 hS0
  by_cases hlong : 100 < N
  · have h2 : (100 : Int) < (N : Int) := by omega
    have cR := bR1.cell
    have fR := bR1.frozen
    clear hlong
    go_wp2_with fail
    refine ⟨.bool true, ?_, rfl, hw1.setCell (p := ⟨w.heap.size + 1 + 1, 0, none⟩) (by show w.heap.size ≤ w.heap.size + 1 + 1; omega) _⟩
    have cR' := World.cell?_setCell_same w1 ⟨w.heap.size + 1 + 1, 0, none⟩ (.bool true) cR
    generalize w1.setCell ⟨w.heap.size + 1 + 1, 0, none⟩ (.bool true) = w3 at *
    simp [results, Try.f4, go_sem, cR']
  · have h100 : N ≤ 100 := by omega
    have h2 : ¬ (100 : Int) < (N : Int) := by omega
    clear hlong
    have hnew := oS_new K hK1 hK32 (w1.alloc (.cells #[.int .i64 (K : Nat)] 3))
    have hu : Below w1.heap.size w1 (w1.alloc (.cells #[.int .i64 (K : Nat)] 3)) := (Below.refl _ _).alloc (Nat.le_refl _) _
    have bN : Boxed (w1.alloc (.cells #[.int .i64 (K : Nat)] 3)) w1.heap.size 3 (.int .i64 (K : Nat)) := Boxed.new _ _ _
    have hsu : (w1.alloc (.cells #[.int .i64 (K : Nat)] 3)).heap.size = w1.heap.size + 1 := by simp
    -- what lies ahead of the stack stays
    have HB1 : Hid (∀ W, Below (w1.heap.size + 1) (w1.alloc (.cells #[.int .i64 (K : Nat)] 3)) W → Boxed W w.heap.size 37 (.slice ao N cap) ∧ Boxed W (w.heap.size + 1) 5 (.int .u8 mo) ∧ Boxed W (w.heap.size + 1 + 1) 4 (.bool false) ∧ Boxed W w1.heap.size 3 (.int .i64 (K : Nat)) ∧ Below w.heap.size w W) := fun W hW => by
      have h3 := hu.trans (hW.mono (by omega))
      exact ⟨(h3.block _ (by omega)).trans bL1, (h3.block _ (by omega)).trans bM1, (h3.block _ (by omega)).trans bR1, (hW.block _ (by omega)).trans bN, hw1.trans (h3.mono (by omega))⟩
    clear bM1 bR1 bN hu hw1 bL1
    go_wp2_with fail
    generalize w1.alloc (.cells #[.int .i64 (K : Nat)] 3) = u1 at *
    generalize w1.heap.size = gn at *
    refine hnew.mono ?_
    rintro e w2 ⟨p, F, rfl, ho2, hb2⟩
    rw [hsu] at ho2 hb2
    have H0 : Hid (ObjS w2 (gn + 1) p K (RK.kept K ss 0) F) := by
      show Obj _ _ _ _ _ _ _ _
      rw [RK.kept_zero]
      exact ho2
    have HB2 : Hid (Below (gn + 1) u1 w2) := hb2
    clear hnew ho2 hb2 cL
    go_wp2_with fail
    rw [show decide ((100 : Int) < (N : Int)) = false from decide_eq_false (by omega)]
    clear h2
    go_loopw [10] (fun iv wr => ∃ k : Nat, k ≤ N ∧ iv = .int .i64 k ∧ ObjS wr (gn + 1) p K (RK.kept K ss k) F ∧ Below (gn + 1) u1 wr) (fun iv _ => N - (intOf iv).toNat)
    case atStart => exact ⟨0, Nat.zero_le _, rfl, H0.out, HB2.out⟩
    case round =>
      obtain ⟨k, hk, rfl, ho, hbr⟩ := hrel
      clear H0 HB2
      have HB : Hid (Below (gn + 1) u1 wr) := hbr
      have HO : Hid (ObjS wr (gn + 1) p K (RK.kept K ss k) F) := ho
      obtain ⟨bL, -, -, -, hBW⟩ := HB1.out wr hbr
      have cL := bL.cell
      have HBW : Hid (Below w.heap.size w wr) := hBW
      clear ho hbr bL hBW
      by_cases hlt : k < N
      · have hzl : k < ss.length := by have := HN.out; omega
        obtain ⟨b, o, rfl, hbl, hcell⟩ := HC.out (by omega)
        have ck : wr.cell? ⟨b, o + k, none⟩ = some (.string (RK.el ⟨#[]⟩ ss k)) := (HBW.out.cell (p := ⟨b, _, none⟩) (by exact hbl)).trans (hcell k hzl)
        have hps := oS_push HO.out (RK.el ⟨#[]⟩ ss k)
        rw [RK.kept_push hK1 hzl] at hps
        have kN : (k : Int) < (N : Int) := by omega
        clear hcell hzl
        generalize RK.el ⟨#[]⟩ ss k = z at *
        go_wp2_with fail
        refine hps.mono ?_
        rintro e w3 ⟨rfl, h3, k3⟩
        have HB3 : Hid (Below (gn + 1) u1 w3) := HB.out.trans (HO.out.rest k3)
        have HO3 : Hid (ObjS w3 (gn + 1) p K (RK.kept K ss (k + 1)) F) := h3
        clear hps h3 k3 ck cL
        go_wp2_with fail
        go_roundw
        case rel => exact ⟨k + 1, by omega, by go_num, HO3.out, HB3.out⟩
        case measure => simp [intOf]; omega
      · obtain rfl : k = N := by omega
        clear hlt hk
        have hall := all_any p (wr.alloc (.cells #[.int .i64 0] 3))
        go_wp2_with fail
        refine hall.mono ?_
        rintro e w5 ⟨rfl, rfl⟩
        clear hall
        go_wp2_with fail
        have hoS := HO.out
        obtain ⟨bt, xs, o, hkm, hrep, -, -⟩ := HO.out
        obtain ⟨Ls, hLs⟩ : ∃ Ls, Ls = (RK.kept K ss k).reverse := ⟨_, rfl⟩
        have hlen0 : (RK.kept K ss k).length = min k K := RK.kept_len (by have := HN.out; omega)
        have HLen : Hid (Ls.length = min k K) := by
          show _ = _
          rw [hLs, List.length_reverse, hlen0]
        have HGet : Hid (∀ j (h : j < Ls.length), Ls[j] = RK.el ⟨#[]⟩ ss (k - 1 - j)) := by
          intro j h
          subst hLs
          have hkn := HN.out
          subst hkn
          exact kept_rev K ss j h
        have hgo := all_goes 7 (by decide) (wr.heap.size + 1) p (gn + 1) bt K xs o (RK.kept K ss k) ((wr.alloc (.cells #[.int .i64 0] 3)).alloc (.cells #[.pointer (some ⟨p, 0, none⟩)] 38)) hrep hK32
        rw [← hLs] at hgo
        have hS3 : ((wr.alloc (.cells #[.int .i64 0] 3)).alloc (.cells #[.pointer (some ⟨p, 0, none⟩)] 38)).heap.size = wr.heap.size + 1 + 1 := by simp
        have hB3 : Below wr.heap.size wr ((wr.alloc (.cells #[.int .i64 0] 3)).alloc (.cells #[.pointer (some ⟨p, 0, none⟩)] 38)) := ((Below.refl _ _).alloc (Nat.le_refl _) _).alloc (by simp) _
        have bK : Boxed ((wr.alloc (.cells #[.int .i64 0] 3)).alloc (.cells #[.pointer (some ⟨p, 0, none⟩)] 38)) wr.heap.size 3 (.int .i64 0) := (Boxed.new wr 3 (.int .i64 0)).alloc _
        have bP : Boxed ((wr.alloc (.cells #[.int .i64 0] 3)).alloc (.cells #[.pointer (some ⟨p, 0, none⟩)] 38)) (wr.heap.size + 1) 38 (.pointer (some ⟨p, 0, none⟩)) := by
          have := Boxed.new (wr.alloc (.cells #[.int .i64 0] 3)) 38 (.pointer (some ⟨p, 0, none⟩))
          rwa [World.size_alloc] at this
        generalize (wr.alloc (.cells #[.int .i64 0] 3)).alloc (.cells #[.pointer (some ⟨p, 0, none⟩)] 38) = W0 at *
        have HK : Hid (∀ W, Below wr.heap.size W0 W → Below wr.heap.size wr W) := fun W hW => hB3.trans hW
        have hz1 : gn + 1 ≤ wr.heap.size := hoS.base
        have HX : Hid (∀ W, Below wr.heap.size W0 W → Boxed W w.heap.size 37 (.slice ao k cap) ∧ Boxed W (w.heap.size + 1) 5 (.int .u8 mo) ∧ Boxed W (w.heap.size + 1 + 1) 4 (.bool false) ∧ Boxed W gn 3 (.int .i64 (K : Nat)) ∧ Below w.heap.size w W) := fun W hW => HB1.out W (HB.out.trans ((HK.out W hW).mono hz1))
        have HXK : Hid (∀ W, Below wr.heap.size W0 W → KMem 9 W (gn + 1) p bt K xs o Ls.length) := fun W hW => by
          rw [hLs, List.length_reverse]
          exact hkm.below (HK.out W hW)
        have HXO : Hid (∀ W, Below wr.heap.size W0 W → ObjS W (gn + 1) p K (RK.kept K ss k) F) := fun W hW => hoS.below (HK.out W hW)
        have HXT : Hid (∀ W, Below wr.heap.size W0 W → 0 < k → ∃ b o, ao = some ⟨b, o, none⟩ ∧ ∀ i, i < k → W.cell? ⟨b, o + i, none⟩ = some (.string (RK.el ⟨#[]⟩ ss i))) := fun W hW hp => by
          have hkn := HN.out
          obtain ⟨b, o, h1, h2, h3⟩ := HC.out (by omega)
          exact ⟨b, o, h1, fun i hi => ((HX.out W hW).2.2.2.2.cell (p := ⟨b, _, none⟩) (by exact h2)).trans (h3 i (by omega))⟩
        have hlg : (RK.kept K ss k).length = Ls.length := by rw [hLs, List.length_reverse]
        rw [hlg] at hgo
        have HKL : Hid ((RK.kept K ss k).length = Ls.length) := hlg
        clear hLs hoS hkm hrep HB HO HC HB1 hB3 cL HK HBW hlen0 hlg
        generalize wr.heap.size = kc at *
        refine (wpIn_wide (n := 8)).1 (range_goes (by decide) (gf := 27) (lb := #[.pointer (some ⟨kc + 1, 0, none⟩)]) rfl (enters_of Try.func27 (by kernel_rfl) rfl) hgo (fun _ => rfl)
          (fun pre W => (pre <+: Ls ∧ (pre = [] ∨ (pre.length : Int) < mo)) ∧ Boxed W kc 3 (.int .i64 (pre.length : Nat)) ∧ Boxed W (kc + 1) 38 (.pointer (some ⟨p, 0, none⟩)) ∧ Below kc W0 W)
          (fun c pre W => (c = .ret ∧ ¬ pre <+: Ls) ∨ ((c = .exit 2 ∧ pre <+: Ls ∧ (pre.length : Int) = max mo 1) ∧ Boxed W kc 3 (.int .i64 (pre.length : Nat)) ∧ Below kc W0 W))
          (fun pre A A' h hb => ⟨h.1, (hb.block _ (by omega)).trans h.2.1, (hb.block _ (by omega)).trans h.2.2.1, h.2.2.2.trans (hb.mono (by omega))⟩)
          (fun c pre A A' h hb => h.imp id (fun h => ⟨h.1, (hb.block _ (by omega)).trans h.2.1, h.2.2.trans (hb.mono (by omega))⟩))
          (fun pre A h => ⟨h.2.2.1.cell, HXK.out A h.2.2.2⟩)
          ⟨⟨List.nil_prefix, .inl rfl⟩, bK, bP, Below.refl _ _⟩
          (fun y => { tmps := #[.int .u8 x, .slice ao k cap, .int .u8 mo, undef, .pointer (some ⟨w.heap.size, 0, none⟩), .pointer (some ⟨w.heap.size + 1, 0, none⟩), .pointer (some ⟨w.heap.size + 1 + 1, 0, none⟩), .pointer (some ⟨gn, 0, none⟩), .pointer (some ⟨p, 0, none⟩), .int .i64 0, .int .i64 k, .pointer (some ⟨kc, 0, none⟩), .string y, undef, .bool true, .bool false, .slice ao k cap, .int .i64 k, .bool false, .int .u8 x, .int .i64 x, .int .i64 r, .int .i64 K, .tuple #[.pointer (some ⟨p, 0, none⟩), .int .i64 0], .int .i64 K, .tuple #[.pointer (some ⟨p, 0, none⟩), .int .i64 0], .pointer (some ⟨p, 0, none⟩), .int .i64 0, .pointer (some ⟨p, 0, none⟩), .bool false, .int .i64 k, .slice ao k cap, .int .i64 k, .bool false, u34, u35, u36, u37, u38, u39, u40, u41, .pointer (some ⟨p, 0, none⟩), .func (.func 27) #[] #[.pointer (some ⟨kc + 1, 0, none⟩)], .string y, undef, undef, undef, undef, undef, undef, undef, undef, undef, undef, undef, undef, undef, undef, undef, undef, undef, undef, undef, undef, undef, undef, undef, undef, undef, undef, undef, undef, undef, undef, undef, undef, undef, undef, undef, undef, undef, undef, undef, undef, undef, undef, undef, undef, undef, undef, undef, undef, undef, undef, undef, undef], defers := [] }) ?assign ?body ?done ?stop)
        case assign =>
          intro l y W K' hK'
          simp only [one]
          gi_wp2
          exact hK'
        case body =>
          rintro l pre y W ⟨⟨hpre, hmost⟩, hbn, hbp, hB⟩ hlt
          have hz := HGet.out pre.length hlt
          have hlk : pre.length < min k K := by have := HLen.out; omega
          obtain ⟨bLw, bMw, bRw, bNw, -⟩ := HX.out W hB
          obtain ⟨b1, o1, rfl, htx⟩ := HXT.out W hB (by omega)
          obtain ⟨i, hi⟩ : ∃ i, i = k - 1 - pre.length := ⟨_, rfl⟩
          rw [← hi] at hz
          have ct := htx i (by omega)
          have e3 : (k : Int) - 1 - (pre.length : Int) = (i : Int) := by omega
          have ik : (i : Int) < (k : Int) := by omega
          have q1 : ¬ (K : Int) ≤ (pre.length : Int) := by omega
          have q2 : ¬ (k : Int) ≤ (pre.length : Int) := by omega
          have HPX : Hid (pre ++ [y] <+: Ls ↔ Ls[pre.length] = y) := pre_snoc hpre hlt
          rw [hz] at HPX
          have cl := bLw.cell
          have cm := bMw.cell
          have cr := bRw.cell
          have fr := bRw.frozen
          have cN := bNw.cell
          have cn := hbn.cell
          have fn := hbn.frozen
          have HBN : Hid (Boxed W kc 3 (.int .i64 (pre.length : Nat))) := hbn
          have HBP : Hid (Boxed W (kc + 1) 38 (.pointer (some ⟨p, 0, none⟩))) := hbp
          have HBB : Hid (Below kc W0 W) := hB
          have hln : Hid (pre = [] → pre.length = 0) := fun h => by rw [h]; rfl
          have hpl : pre.length ≤ 100 := by omega
          generalize RK.el ⟨#[]⟩ ss i = t at *
          clear htx hz bLw bMw bRw bNw hbn hbp hB hgo bK bP hi hlk
          by_cases h2 : y = t
          · subst h2
            have HP2 : Hid (pre ++ [y] <+: Ls) := HPX.out.2 rfl
            have el : ((pre ++ [y]).length : Int) = (pre.length : Int) + 1 := by simp
            have HBN2 : Hid (Boxed (W.setCell ⟨kc, 0, none⟩ (.int .i64 ((pre.length : Int) + 1))) kc 3 (.int .i64 ((pre ++ [y]).length : Nat))) := by
              show Boxed _ _ _ _
              rw [el]
              exact HBN.out.set _
            have HBP2 : Hid (Boxed (W.setCell ⟨kc, 0, none⟩ (.int .i64 ((pre.length : Int) + 1))) (kc + 1) 38 (.pointer (some ⟨p, 0, none⟩))) := HBP.out.other (by omega) _
            have HBB2 : Hid (Below kc W0 (W.setCell ⟨kc, 0, none⟩ (.int .i64 ((pre.length : Int) + 1)))) := HBB.out.setCell (p := ⟨kc, 0, none⟩) (Nat.le_refl _) _
            have HAS : Hid (Above W0.heap.size W (W.setCell ⟨kc, 0, none⟩ (.int .i64 ((pre.length : Int) + 1)))) := (keeps_set W kc 0 _).mono (fun b hb => by omega)
            clear el HPX
            by_cases hmp : mo ≤ (pre.length : Int) + 1
            · have HMX : Hid (((pre ++ [y]).length : Int) = max mo 1) := by
                show _ = _
                simp
                rcases hmost with h | h
                · have := hln.out h; omega
                · omega
              clear hmost
              gi_wp2
              exact ⟨by first | exact HAS.out | (rw [← hS3]; exact HAS.out), .inr ⟨⟨rfl, HP2.out, HMX.out⟩, HBN2.out, HBB2.out⟩⟩
            · have HMX : Hid (((pre ++ [y]).length : Int) < mo) := by
                show _ < _
                simp
                omega
              clear hmost
              gi_wp2
              exact ⟨by first | exact HAS.out | (rw [← hS3]; exact HAS.out), ⟨HP2.out, .inr HMX.out⟩, HBN2.out, HBP2.out, HBB2.out⟩
          · have h2' : (y.toList == t.toList) = false := by
              refine beq_eq_false_iff_ne.2 fun h => h2 ?_
              apply ByteArray.ext
              rw [← Array.toList_inj]
              simpa [ByteArray.toList_eq] using h
            have HP2 : Hid (¬ pre ++ [y] <+: Ls) := fun h => h2 (HPX.out.1 h).symm
            have HAS : Hid (Above W0.heap.size W (W.setCell ⟨w.heap.size + 1 + 1, 0, none⟩ (.bool false))) := (keeps_set W (w.heap.size + 1 + 1) 0 _).mono (fun b hb => by omega)
            clear HPX hmost h2
            gi_wp2
            exact ⟨by first | exact HAS.out | (rw [← hS3]; exact HAS.out), .inl ⟨rfl, HP2.out⟩⟩
        case done =>
          rintro ys W rfl ⟨⟨hpre, hmost⟩, hbn, hbp, hB⟩ hK
          rw [hS3] at hK
          obtain ⟨bLw, bMw, bRw, bNw, hBW⟩ := HX.out W hB
          have hlen := oS_len (HXO.out W hB)
          rw [HKL.out] at hlen
          have cl := bLw.cell
          have cm := bMw.cell
          have cr := bRw.cell
          have fr := bRw.frozen
          have cN := bNw.cell
          have cn := hbn.cell
          have HM1 : Hid (((ys.length : Nat) : Int) = 0 ∨ ((ys.length : Nat) : Int) < mo) := hmost.imp (fun h => by rw [h]; rfl) id
          have hDw : w.heap.size ≤ kc + 1 + 1 := by omega
          have HC1 : Hid (ys.length = min k K) := HLen.out
          clear hmost hpre hbn hbp hB bLw bMw bRw bNw hgo bK bP HLen HGet HKL HX HXK HXO HXT
          generalize ys.length = C at *
          by_cases hkK : k < K
          · obtain rfl : C = k := by have := HC1.out; omega
            have kK : (C : Int) < (K : Int) := by omega
            go_wp2_with fail
            refine hlen.mono ?_
            rintro e W5 ⟨rfl, rfl⟩
            clear hlen
            go_wp2_with fail
            all_goals (refine goes_out ?_ rfl cr hK hBW hDw)
            all_goals (have hm := HM1.out)
            all_goals first
              | rfl
              | (simp; omega)
              | omega
          · obtain rfl : C = K := by have := HC1.out; omega
            have kK : (C : Int) ≤ (k : Int) := by omega
            go_wp2_with fail
            refine hlen.mono ?_
            rintro e W5 ⟨rfl, rfl⟩
            clear hlen
            go_wp2_with fail
            all_goals (refine goes_out ?_ rfl cr hK hBW hDw)
            all_goals (have hm := HM1.out)
            all_goals first
              | rfl
              | (simp; omega)
              | omega
        case stop =>
          rintro c pre W hpre (⟨rfl, h⟩ | ⟨⟨rfl, hp, hmx⟩, hbn, hB⟩) hK
          · exact absurd hpre h
          · rw [hS3] at hK
            obtain ⟨bLw, bMw, bRw, bNw, hBW⟩ := HX.out W hB
            have hlen := oS_len (HXO.out W hB)
            rw [HKL.out] at hlen
            have cl := bLw.cell
            have cm := bMw.cell
            have cr := bRw.cell
            have fr := bRw.frozen
            have cN := bNw.cell
            have cn := hbn.cell
            have HM1 : Hid ((pre.length : Int) = max mo 1 ∧ pre.length ≤ Ls.length) := ⟨hmx, hp.length_le⟩
            have hDw : w.heap.size ≤ kc + 1 + 1 := by omega
            have HC1 : Hid (Ls.length = min k K) := HLen.out
            clear hmx hp hpre hbn hB bLw bMw bRw bNw hgo bK bP HLen HGet HKL HX HXK HXO HXT
            generalize Ls.length = C at *
            generalize pre.length = Q at *
            refine wpIn_wide.2 ?_
            by_cases hkK : k < K
            · obtain rfl : C = k := by have := HC1.out; omega
              have kK : (C : Int) < (K : Int) := by omega
              go_wp2_with fail
              refine hlen.mono ?_
              rintro e W5 ⟨rfl, rfl⟩
              clear hlen
              go_wp2_with fail
              all_goals (refine goes_out ?_ rfl cr hK hBW hDw)
              all_goals (have hm := HM1.out)
              all_goals first
                | rfl
                | (simp; omega)
                | omega
            · obtain rfl : C = K := by have := HC1.out; omega
              have kK : (C : Int) ≤ (k : Int) := by omega
              go_wp2_with fail
              refine hlen.mono ?_
              rintro e W5 ⟨rfl, rfl⟩
              clear hlen
              go_wp2_with fail
              all_goals (refine goes_out ?_ rfl cr hK hBW hDw)
              all_goals (have hm := HM1.out)
              all_goals first
                | rfl
                | (simp; omega)
                | omega

theorem goes_walk (room : Int) (v : Value) (ss : List ByteArray) (mo : Int) (w : World) (hr0 : 0 ≤ room) (hr1 : room ≤ 255) (htx : Texts w v ss) (hm0 : 0 ≤ mo) (hm1 : mo ≤ 255) :
    Calls Try.prog 4 #[.int .u8 room, v, .int .u8 mo] w fun e w' => e = .returned (.bool true) ∧ Below w.heap.size w w' :=
  callsIn_wide.1 (goes_in room v ss mo w hr0 hr1 htx hm0 hm1)
end Go.Proofs.Ytdgdhaonalppnaa
