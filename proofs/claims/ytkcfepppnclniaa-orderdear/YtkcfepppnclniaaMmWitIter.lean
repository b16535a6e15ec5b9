/-
  WitIter, WitFindM, WitFind, WitFindN.
-/
import Derived.Test.YtkcfepppnclniaaMmWitIterM
import Derived.Maps.AppendAt
section
/-
  The walks of settled, and of what it answers, gone through (layer 13).
-/
namespace Go.Proofs.Ytkcfepppnclniaa
open Go.RowKit Go.Shelf
attribute [local go_sem] Oper.semAt_some

/-- What settled lays. -/
def setW (q s : Nat) (most settles : Int) (W : World) : World := (((W.alloc (.cells #[.pointer (some ⟨q, 0, none⟩)] 72)).alloc (.cells #[.int .i64 (s : Nat)] 3)).alloc (.cells #[.int .i64 most] 3)).alloc (.cells #[.int .i64 settles] 3)
theorem setW_ib (z : Wid) (s : Nat) (most settles : Int) (w : World) : IB z s most settles w.heap.size (setW z.q s most settles w) ∧ Below w.heap.size w (setW z.q s most settles w) ∧ (setW z.q s most settles w).heap.size = w.heap.size + 4 := by
  have s1 : (w.alloc (.cells #[.pointer (some ⟨z.q, 0, none⟩)] 72)).heap.size = w.heap.size + 1 := by simp
  have b1 := Boxed.new w 72 (.pointer (some ⟨z.q, 0, none⟩))
  have l1 : Below w.heap.size w (w.alloc (.cells #[.pointer (some ⟨z.q, 0, none⟩)] 72)) := (Below.refl _ _).alloc (Nat.le_refl _) _
  unfold setW
  generalize w.alloc (.cells #[.pointer (some ⟨z.q, 0, none⟩)] 72) = w1 at *
  have s2 : (w1.alloc (.cells #[.int .i64 (s : Nat)] 3)).heap.size = w.heap.size + 1 + 1 := by simp [s1]
  have b2 := Boxed.new w1 3 (.int .i64 (s : Nat))
  have b1 := b1.alloc (.cells #[.int .i64 (s : Nat)] 3)
  have l2 : Below w.heap.size w (w1.alloc (.cells #[.int .i64 (s : Nat)] 3)) := l1.alloc (by omega) _
  rw [s1] at b2
  generalize w1.alloc (.cells #[.int .i64 (s : Nat)] 3) = w2 at *
  have s3 : (w2.alloc (.cells #[.int .i64 most] 3)).heap.size = w.heap.size + 1 + 1 + 1 := by simp [s2]
  have b3 := Boxed.new w2 3 (.int .i64 most)
  have b1 := b1.alloc (.cells #[.int .i64 most] 3)
  have b2 := b2.alloc (.cells #[.int .i64 most] 3)
  have l3 : Below w.heap.size w (w2.alloc (.cells #[.int .i64 most] 3)) := l2.alloc (by omega) _
  rw [s2] at b3
  generalize w2.alloc (.cells #[.int .i64 most] 3) = w3 at *
  have b4 := Boxed.new w3 3 (.int .i64 settles)
  rw [s3] at b4
  have l4 : Below w.heap.size w (w3.alloc (.cells #[.int .i64 settles] 3)) := l3.alloc (by omega) _
  exact ⟨⟨b1.alloc _, b2.alloc _, b3.alloc _, b4⟩, l4, by simp [s3]⟩
def setF (c : Nat) : Value := .func (.func 51) #[] #[.pointer (some ⟨c, 0, none⟩), .pointer (some ⟨c + 1, 0, none⟩), .pointer (some ⟨c + 1 + 1 + 1, 0, none⟩), .pointer (some ⟨c + 1 + 1, 0, none⟩)]
set_option maxHeartbeats 400000 in
theorem settled_any (q s : Nat) (most settles : Int) (w : World) :
    Calls Try.prog 36 #[.pointer (some ⟨q, 0, none⟩), .int .i64 (s : Nat), .int .i64 most, .int .i64 settles] w fun e w' => e = .returned (setF w.heap.size) ∧ w' = setW q s most settles w := by
  go_enter Try.func36, Try.ntmps36
  go_wp2_with fail
  go_ret
  exact ⟨by simp [setF], rfl⟩
set_option maxRecDepth 100000 in
set_option maxHeartbeats 2000000 in
theorem settled_goes (n : Nat) (_hn : 1 ≤ n) (B : Nat) (z : Wid) (mp N O : Nat) (D : Nat → Nat → Int) (s : Nat) (most settles : Int) (c : Nat) (hBc : B ≤ c) (hmp : mp < B) (hmm : XM.Mesh N D) (hO : O < 18446744073709551616) (hs : s < N) (hOs : WM.outOf O s = false) :
    GoesS n Try.prog 51 #[.pointer (some ⟨c, 0, none⟩), .pointer (some ⟨c + 1, 0, none⟩), .pointer (some ⟨c + 1 + 1 + 1, 0, none⟩), .pointer (some ⟨c + 1 + 1, 0, none⟩)] setV (Z0 B z mp N O s most settles c) (ZW B z mp N O D s (DM.norm most) settles.toNat) (WM.Got N D s (WM.outOf O) (DM.norm most) settles.toNat) (fun A => XMem A mp N D) := by
  intro l J Jx X W hR hJ hJx hY h0 hz hX
  have HR : Hid (∀ s X A, J s X A → XMem A mp N D) := hR
  have HJ : Hid (Apart J) := hJ
  have HY : Hid (∀ pre x X W1, J pre X W1 → ZW B z mp N O D s (DM.norm most) settles.toNat (pre ++ [x]) X W1 → (∀ b, X b → b < W1.heap.size) → YieldAt Fence.wide (n - 1) Try.prog l (setV x) W1 fun e W' => (e = .returned (.bool true) ∧ J (pre ++ [x]) X W' ∧ Rest X W1 W') ∨ (e = .returned (.bool false) ∧ Jx (pre ++ [x]) X W' ∧ Rest X W1 W')) := hY
  have H0 : Hid (J [] X W ∧ Z0 B z mp N O s most settles c X W ∧ ∀ b, X b → b < W.heap.size) := ⟨h0, hz, hX⟩
  have hib : IB z s most settles c W := by obtain ⟨F, -, h, -⟩ := hz; exact h
  have cq : W.cell? ⟨z.q, 2, none⟩ = some (.pointer (some ⟨z.p, 0, none⟩)) := by obtain ⟨F, h, -⟩ := hz; exact h.c2
  have hBW : B ≤ W.heap.size := by have := hib.lt; omega
  have k0 := hib.b0.cell
  have k1 := hib.b1.cell
  have k3 := hib.b3.cell
  have k0d : W.drew.cell? ⟨c, 0, none⟩ = some (.pointer (some ⟨z.q, 0, none⟩)) := k0
  have k1d : W.drew.cell? ⟨c + 1, 0, none⟩ = some (.int .i64 (s : Nat)) := k1
  have k3d : W.drew.cell? ⟨c + 1 + 1 + 1, 0, none⟩ = some (.int .i64 settles) := k3
  have cqd : W.drew.cell? ⟨z.q, 2, none⟩ = some (.pointer (some ⟨z.p, 0, none⟩)) := cq
  have HPUT : Hid (Calls Try.prog 52 #[.pointer (some ⟨z.p, 0, none⟩), .int .i64 (s : Nat), .int .i64 0] W.drew fun e A' => e = .returned (.int .i64 0) ∧ ∃ X', J [] X' A' ∧ ZS B z mp N O D s most settles c [] X' A' ∧ (∀ b, X' b → b < A'.heap.size)) := by
    have hd := hz.rest (Rest.of_below (Below.refl _ W).drew)
    refine (hd.begin (D := D) hX hBW hs hOs).mono ?_
    rintro e A' ⟨rfl, hk, hzs⟩
    exact ⟨rfl, _, grow_apart hJ (hJ _ _ X _ _ h0 (Below.keeps (Below.refl _ W).drew _) (fun b hb => .inl hb)) hk, hzs, grow_lt (A := W.drew) hX hk.size⟩
  have HC : Hid (∀ L X A, ZS B z mp N O D s most settles c L X A → (A.cell? ⟨c, 0, none⟩ = some (.pointer (some ⟨z.q, 0, none⟩)) ∧ A.cell? ⟨c + 1, 0, none⟩ = some (.int .i64 (s : Nat)) ∧ A.cell? ⟨z.q, 2, none⟩ = some (.pointer (some ⟨z.p, 0, none⟩)) ∧ A.cell? ⟨c + 1 + 1 + 1, 0, none⟩ = some (.int .i64 settles))) := fun L X A h => by
    obtain ⟨k, hm, T, F, h1, -, -, -, -, -, h7, -, -⟩ := h
    exact ⟨h7.b0.cell, h7.b1.cell, h1.c2, h7.b3.cell⟩
  clear hR hJ hY h0 hz hX hib
  refine callsIn_of_wp Try.func51 rfl trivial ?_ rfl
  simp only [Try.ntmps51, List.size_toArray, List.length_cons, List.length_nil, Nat.reduceAdd, Nat.reduceSub, Array.replicate_succ, Array.replicate_zero, List.push_toArray, List.append_toArray, List.nil_append, List.cons_append]
  refine wpIn_wide.2 ?_
  go_upto_region 1 with (go_region_held3 (fun W => W.cell? ⟨c, 0, none⟩ = some (.pointer (some ⟨z.q, 0, none⟩)) ∧ W.cell? ⟨c + 1, 0, none⟩ = some (.int .i64 (s : Nat)) ∧ W.cell? ⟨z.q, 2, none⟩ = some (.pointer (some ⟨z.p, 0, none⟩)) ∧ W.cell? ⟨c + 1 + 1 + 1, 0, none⟩ = some (.int .i64 settles)) (first | go_keep | exact HC.out _ _ _ HS2.out.2.1) (first
    | (go_at_call 52; refine HPUT.out.mono ?_; rintro e w2 ⟨rfl, X2, hr2⟩; have HS2 : Hid (J [] X2 w2 ∧ ZS B z mp N O D s most settles c [] X2 w2 ∧ (∀ b, X2 b → b < w2.heap.size)) := hr2; clear hr2; obtain ⟨g21, g22, g23, g24⟩ := HC.out _ _ _ HS2.out.2.1)))
  have HB2 : Hid (J [] X2 w2 ∧ ZS B z mp N O D s most settles c [] X2 w2 ∧ (∀ b, X2 b → b < w2.heap.size) ∧ B ≤ w2.heap.size) := ⟨HS2.out.1, HS2.out.2.1, HS2.out.2.2, by
    obtain ⟨k, hm, T, F, h1, -⟩ := HS2.out.2.1
    have := h1.ql
    have := (h1.lt _ (h1.f _ (.inl rfl))).1
    omega⟩
  clear HPUT k0 k1 k3 k0d k1d k3d cq cqd HS2 H0 hBW g21 g22 g23
  go_wp2_with fail
  clear g24
  refine (wpIn_wide (n := n)).1 ?_
  gi_loopw [16] (fun iv wr => ∃ (L : List (Nat × Int)) (X : Nat → Prop), iv = .int .i64 (L.length : Nat) ∧ J L X wr ∧ ZS B z mp N O D s most settles c L X wr ∧ (∀ b, X b → b < wr.heap.size) ∧ B ≤ wr.heap.size) (fun iv _ => settles.toNat - (intOf iv).toNat)
  case atStart => exact ⟨[], X2, rfl, HB2.out⟩
  case round =>
    obtain ⟨L, X, rfl, hJL, hZ, hXb, hBr⟩ := hrel
    clear HB2
    have hL24 : L.length ≤ 24 := by
      obtain ⟨k, hm, T, F, h1, -, -, -, h5, -⟩ := hZ
      exact Nat.le_trans (h5.len hs hOs) h1.few
    have hLK : L.length ≤ settles.toNat := by
      obtain ⟨k, hm, T, F, h1, -, -, -, h5, h6, -⟩ := hZ
      exact h6
    have c0 : wr.cell? ⟨c, 0, none⟩ = some (.pointer (some ⟨z.q, 0, none⟩)) := (HC.out _ _ _ hZ).1
    have cq : wr.cell? ⟨z.q, 2, none⟩ = some (.pointer (some ⟨z.p, 0, none⟩)) := (HC.out _ _ _ hZ).2.2.1
    by_cases hlt : (L.length : Int) < settles
    · have hsq : WM.Seq N D s (WM.outOf O) (DM.norm most) L := by
        obtain ⟨k, hm, T, F, h1, -, -, -, h5, h6, -⟩ := hZ
        exact h5
      have hln : L.length < settles.toNat := by omega
      rcases hZ.pop hs hOs with ⟨hst, hpop⟩ | ⟨v, d, hn, hpop⟩
      · have HE : Hid (∀ A', Keeps X wr A' → ZW B z mp N O D s (DM.norm most) settles.toNat L X A' → ∃ xs, WM.Got N D s (WM.outOf O) (DM.norm most) settles.toNat xs ∧ ∃ X, J xs X A' ∧ ZW B z mp N O D s (DM.norm most) settles.toNat xs X A') := fun A' hk hz => ⟨L, ⟨hsq, hLK, .inr hst⟩, X, HJ.out _ _ X _ _ hJL hk (fun b hb => .inl hb), hz⟩
        clear hJL hZ hXb hBr hLK HJ HC HR HY hJx hmm hO hs hOs hmp hBc hst hsq hln
        generalize L.length = q at *
        gi_wp2_with fail
        refine ⟨trivial, (callsIn_wide.2 hpop).mono ?_⟩
        rintro e w3 ⟨rfl, hk, hzw⟩
        have HX : Hid _ := HE.out _ hk hzw
        clear hpop hk hzw HE c0 cq
        gi_wp2_with fail
        refine ⟨trivial, ?_⟩
        gi_wp2_with fail
        (try simp only [Exit.inBlock, Exit.then]); refine bodyPost_ret (results_none rfl _ _ _) rfl ?_
        exact ⟨⟨_, rfl⟩, .inl HX.out⟩
      · have hdb := WM.key_bd D s L v
        rw [hn.is] at hdb
        have hless := less_any most d
        rw [show GM.norm d = d from DM.norm_of hdb.1 hdb.2, show GM.norm most = DM.norm most from rfl] at hless
        have HGOT : Hid (DM.norm most < d → WM.Got N D s (WM.outOf O) (DM.norm most) settles.toNat L) := fun hc => ⟨hsq, hLK, .inr (fun v' d' hn' hd' => by
          obtain ⟨-, e⟩ := hn'.one hn
          omega)⟩
        have HP : Hid (Calls Try.prog 53 #[.pointer (some ⟨z.p, 0, none⟩)] wr fun e A' => e = .returned (.tuple #[.int .i64 (v : Nat), .int .i64 d, .bool true]) ∧ J L X A' ∧ ZP B z mp N O D s most settles c L v d X A' ∧ (∀ b, X b → b < A'.heap.size) ∧ B ≤ A'.heap.size) := by
          refine hpop.mono ?_
          rintro e A' ⟨rfl, hk, hzp⟩
          have := hk.size
          exact ⟨rfl, HJ.out _ _ X _ _ hJL hk (fun b hb => .inl hb), hzp, fun b hb => by have := hXb b hb; omega, by omega⟩
        have HL24 : Hid (L.length ≤ 24 ∧ L.length < settles.toNat) := ⟨hL24, hln⟩
        have HHY : Hid (s < N ∧ WM.outOf O s = false ∧ mp < B ∧ XM.Mesh N D ∧ O < 18446744073709551616 ∧ B ≤ c) := ⟨hs, hOs, hmp, hmm, hO, hBc⟩
        clear hJL hZ hXb hBr hLK hpop hsq hln hn hdb hmm hs hOs hmp hBc hL24 HC hO
        obtain ⟨q, hq⟩ : ∃ q, q = L.length := ⟨_, rfl⟩
        rw [← hq]
        rw [← hq] at hlt
        have HQ : Hid (q = L.length) := hq
        clear hq
        gi_wp2_with fail
        refine ⟨trivial, (callsIn_wide.2 HP.out).mono ?_⟩
        rintro e w3 ⟨rfl, hr3⟩
        have HR3 : Hid (J L X w3 ∧ ZP B z mp N O D s most settles c L v d X w3 ∧ (∀ b, X b → b < w3.heap.size) ∧ B ≤ w3.heap.size) := hr3
        clear hr3 HP c0 cq
        have c2 : w3.cell? ⟨c + 1 + 1, 0, none⟩ = some (.int .i64 most) := by
          obtain ⟨-, ⟨k, hm, T, F, h1, -, -, -, -, -, -, h8, -⟩, -⟩ := HR3.out
          exact h8.b2.cell
        have c0 : w3.cell? ⟨c, 0, none⟩ = some (.pointer (some ⟨z.q, 0, none⟩)) := by
          obtain ⟨-, ⟨k, hm, T, F, h1, -, -, -, -, -, -, h8, -⟩, -⟩ := HR3.out
          exact h8.b0.cell
        by_cases hc : DM.norm most < d
        · rw [decide_eq_true hc] at hless
          have HX : Hid (∃ xs, WM.Got N D s (WM.outOf O) (DM.norm most) settles.toNat xs ∧ ∃ X, J xs X w3 ∧ ZW B z mp N O D s (DM.norm most) settles.toNat xs X w3) := ⟨L, HGOT.out hc, X, HR3.out.1, HR3.out.2.1.weak⟩
          clear hc HGOT HR3 HL24 HHY HQ hlt HJ HR HY hJx
          gi_wp2_with fail
          refine ⟨trivial, (callsIn_wide.2 (hless w3)).mono ?_⟩
          rintro e w4 ⟨rfl, hw4⟩
          rw [hw4]
          clear hw4 w4 hless c0 c2
          gi_wp2_with fail
          (try simp only [Exit.inBlock, Exit.then]); refine bodyPost_ret (results_none rfl _ _ _) rfl ?_
          exact ⟨⟨_, rfl⟩, .inl HX.out⟩
        · rw [decide_eq_false hc] at hless
          have HST : Hid (Calls Try.prog 55 #[.pointer (some ⟨z.q, 0, none⟩), .int .i64 (v : Nat), .int .i64 d] w3 fun e A' => e = .returned (.tuple #[]) ∧ ∃ X', J L X' A' ∧ ZS B z mp N O D s most settles c (L ++ [(v, d)]) X' A' ∧ (∀ b, X' b → b < A'.heap.size) ∧ B ≤ A'.heap.size) := by
            obtain ⟨h1, h2, h3, h4⟩ := HR3.out
            obtain ⟨g1, g2, g3, g4, g5, g6⟩ := HHY.out
            refine (h2.settle h4 (HR.out _ _ _ h1) g3 g4 g5 (by omega) HL24.out.2).mono ?_
            rintro e A' ⟨rfl, hk, hzs⟩
            have := hk.size
            exact ⟨rfl, _, grow_apart HJ.out h1 hk, hzs, grow_lt h3 hk.size, by omega⟩
          clear hc HGOT HR3
          gi_wp2_with fail
          refine ⟨trivial, (callsIn_wide.2 (hless w3)).mono ?_⟩
          rintro e w4 ⟨rfl, hw4⟩
          rw [hw4]
          clear hw4 w4 hless c2
          gi_wp2_with fail
          refine ⟨trivial, (callsIn_wide.2 HST.out).mono ?_⟩
          rintro e w5 ⟨rfl, X5, hr5⟩
          have HR5 : Hid (J L X5 w5 ∧ ZS B z mp N O D s most settles c (L ++ [(v, d)]) X5 w5 ∧ (∀ b, X5 b → b < w5.heap.size) ∧ B ≤ w5.heap.size) := hr5
          clear hr5 HST c0
          have HYX : Hid (YieldAt Fence.wide (n - 1) Try.prog l #[.int .i64 (v : Nat)] w5 fun e W' => (e = .returned (.bool true) ∧ J (L ++ [(v, d)]) X5 W' ∧ Rest X5 w5 W') ∨ (e = .returned (.bool false) ∧ Jx (L ++ [(v, d)]) X5 W' ∧ Rest X5 w5 W')) := HY.out L (v, d) X5 w5 HR5.out.1 HR5.out.2.1.weak HR5.out.2.2.1
          obtain ⟨fn, tmps, assign, body, hy, hRd⟩ := HYX.out
          clear HYX HY
          gi_wp2_with fail
          refine hRd.mono ?_
          rintro e W4 (⟨rfl, hJ4, hRs⟩ | ⟨rfl, hJ4, hRs⟩)
          · have HN : Hid (J (L ++ [(v, d)]) X5 W4 ∧ ZS B z mp N O D s most settles c (L ++ [(v, d)]) X5 W4 ∧ (∀ b, X5 b → b < W4.heap.size) ∧ B ≤ W4.heap.size) := by
              obtain ⟨h1, h2, h3, h4⟩ := HR5.out
              have := hRs.size
              exact ⟨hJ4, h2.rest hRs, fun b hb => by have := h3 b hb; omega, by omega⟩
            clear hJ4 hRs hy hRd HR5
            have hq24 : q ≤ 24 := by have := HL24.out.1; have := HQ.out; omega
            gi_wp2_with fail
            go_roundw
            case rel =>
              refine ⟨L ++ [(v, d)], X5, ?_, HN.out⟩
              rw [List.length_append, ← HQ.out]
              simp
            case measure => simp [intOf]; omega
          · have HX : Hid (∃ pre X, Jx pre X W4 ∧ ZW B z mp N O D s (DM.norm most) settles.toNat pre X W4) := ⟨_, X5, hJ4, (HR5.out.2.1.rest hRs).weak⟩
            clear hJ4 hRs hy hRd HR5
            gi_wp2_with fail
            (try simp only [Exit.inBlock, Exit.then]); refine bodyPost_ret (results_none rfl _ _ _) rfl ?_
            exact ⟨⟨_, rfl⟩, .inr HX.out⟩
    · have HE : Hid (∃ xs, WM.Got N D s (WM.outOf O) (DM.norm most) settles.toNat xs ∧ ∃ X, J xs X wr ∧ ZW B z mp N O D s (DM.norm most) settles.toNat xs X wr) := by
        refine ⟨L, ⟨?_, hLK, .inl (by omega)⟩, X, hJL, hZ.weak⟩
        obtain ⟨k, hm, T, F, h1, -, -, -, h5, h6, -⟩ := hZ
        exact h5
      clear hJL hZ hXb hBr hLK HJ HC HR HY hJx hmm hO hs hOs hmp hBc
      generalize L.length = q at *
      gi_wp2_with fail
      go_end0
      exact ⟨⟨_, rfl⟩, .inl HE.out⟩
end Go.Proofs.Ytkcfepppnclniaa
end

section
/-
  What Search has while its search is gone through (layer 13): its answer's cells, the search, Found with two rows of the call's own.
-/
namespace Go.Proofs.Ytkcfepppnclniaa
open Go.RowKit Go.Shelf

/-- append onto an own row, with where the new one lies. -/
theorem wpListIn_append_atW {F : Fence} {n : Nat} {P : Program} (w : World) {ops : Array Oper} {rest : List Oper} {o : Oper} {a : Act} {Q : Exit → Act → World → Prop}
    (hg : o.guard = none) (s x : Operand) (t : TypeId) (hop : o.op = Op.call { callee := Callee.builtin Builtin.append, args := #[s, x], argTypes := #[t, t] })
    (base : Nat) (e : TypeId) (i : TypeInfo) (z : Value) (size bytes : Nat) (h1 : P.underlying t = some (.slice e)) (h2 : P.info? e = some i) (h3 : i.zero = some z) (h4 : i.size = size) (h5 : i.bytes = bytes) (h6 : z.cells.size = size) (h7 : 0 < size)
    (v : Value) (k : Nat) (xs : List Value) (hs : a.eval s = v) (hown : w.ownsRow base e size v k xs) (ad : Addr) (m c : Nat) (news : List Value) (hx : a.eval x = .slice (some ad) m c) (hn : news.length = m * size)
    (hc : ∀ j u, news[j]? = some u → w.cell? (ad.add j) = some u) (h1c : ∀ u ∈ news, u.oneCell' = true) (b1 : k + m ≤ maxLen) (b2 : (k + m) * bytes ≤ 140737488355328) (b3 : base ≤ w.heap.size)
    (hK : ∀ v' w', w'.ownsRow base e size v' (k + m) (xs ++ news) → w.grownBy w' v.ownBlock → (v'.ownBlock = v.ownBlock ∨ v'.ownBlock = some w.heap.size) → wpListIn F n P ops Q rest (a.put o.dst v') w') :
    wpListIn F n P ops Q (o :: rest) a w := by
  refine wpListIn_plain hg fun K hK' => ?_
  obtain ⟨v', w', hrun, r1, r2, _, r3⟩ := run_append_own_at (P := P) w base t o.type e i z size bytes h1 h2 h3 h4 h5 h6 h7 v k xs hown ad m c news hn hc h1c b1 b2 b3
  unfold Oper.wpIn
  refine ⟨?_, ?_⟩
  · simp [Oper.about, hop, resolve, Target.leads, Sem.run_pure]
  · rw [Oper.semAt_plain F _ _ (by rw [hop]; intro c hc'; cases hc')]
    simp [execOp, hop, resolve, invoke, builtin, hs, hx, hrun, Result.andThen]
    exact hK' _ _ (hK v' w' r1 r2 r3)

section
variable {w A A' : World} {mp N : Nat} {D : Nat → Nat → Int} {z : Wid} {bs : Nat} {sv dv : Value} {vs ds : List Int} {X X' : Nat → Prop}
end
end Go.Proofs.Ytkcfepppnclniaa
end

section
/-
  The walk of the program's Search (layer 13).
-/
namespace Go.Proofs.Ytkcfepppnclniaa
open Go.RowKit Go.Shelf
attribute [local go_sem] Oper.semAt_some

end Go.Proofs.Ytkcfepppnclniaa
end

section
/-
  The walk of the program's Search from a vertex that isn't there, or is left out (layer 13).
-/
namespace Go.Proofs.Ytkcfepppnclniaa
open Go.RowKit Go.Shelf

theorem set_three {W : World} {b : Nat} {a0 a1 a2 x y z : Value} (r0 : W.cell? ⟨b, 0, none⟩ = some a0) (r1 : W.cell? ⟨b, 1, none⟩ = some a1) (r2 : W.cell? ⟨b, 2, none⟩ = some a2) :
    (((W.setCell ⟨b, 0, none⟩ x).setCell ⟨b, 1, none⟩ y).setCell ⟨b, 2, none⟩ z).cell? ⟨b, 0, none⟩ = some x ∧ (((W.setCell ⟨b, 0, none⟩ x).setCell ⟨b, 1, none⟩ y).setCell ⟨b, 2, none⟩ z).cell? ⟨b, 1, none⟩ = some y ∧ (((W.setCell ⟨b, 0, none⟩ x).setCell ⟨b, 1, none⟩ y).setCell ⟨b, 2, none⟩ z).cell? ⟨b, 2, none⟩ = some z := by
  have c0 := World.cell?_setCell_same W ⟨b, 0, none⟩ x r0
  have c1 : (W.setCell ⟨b, 0, none⟩ x).cell? ⟨b, 1, none⟩ = some a1 := by rw [World.cell?_setCell_other _ _ _ _ (by simp)]; exact r1
  have c2 : (W.setCell ⟨b, 0, none⟩ x).cell? ⟨b, 2, none⟩ = some a2 := by rw [World.cell?_setCell_other _ _ _ _ (by simp)]; exact r2
  have b0 : ((W.setCell ⟨b, 0, none⟩ x).setCell ⟨b, 1, none⟩ y).cell? ⟨b, 0, none⟩ = some x := by rw [World.cell?_setCell_other _ _ _ _ (by simp)]; exact c0
  have b1 := World.cell?_setCell_same _ ⟨b, 1, none⟩ y c1
  have b2 : ((W.setCell ⟨b, 0, none⟩ x).setCell ⟨b, 1, none⟩ y).cell? ⟨b, 2, none⟩ = some a2 := by rw [World.cell?_setCell_other _ _ _ _ (by simp)]; exact c2
  exact ⟨by rw [World.cell?_setCell_other _ _ _ _ (by simp)]; exact b0, by rw [World.cell?_setCell_other _ _ _ _ (by simp)]; exact b1, World.cell?_setCell_same _ _ _ b2⟩
end Go.Proofs.Ytkcfepppnclniaa
end
