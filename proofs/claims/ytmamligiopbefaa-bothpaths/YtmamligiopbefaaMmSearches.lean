/-
  NearSearchO, NearSearchI, NearFromTo.
-/
import Derived.Test.YtmamligiopbefaaMmMems
import Derived.Test.YtmamligiopbefaaMmNearWays
import Derived.Test.YtmamligiopbefaaMmNearRound
import Derived.Test.YtmamligiopbefaaMmWalkDist
import Derived.Deep.LoopGhost
import Derived.Deep.DeepCutAuto
section
/-
  The walk of search, forwards.
-/
namespace Go.Proofs.Ytmamligiopbefaa
open Go.RowKit Go.Shelf
attribute [local go_sem] Oper.semAt_some

theorem not_in0O {a b c : Nat} (h1 : a ≤ b) (h2 : b ≠ c) : ¬ (b < a ∨ b = c ∨ b ∈ ([] : List Nat)) := by
  rintro (h | h | h)
  · omega
  · exact h2 h
  · cases h
set_option maxRecDepth 100000 in
set_option maxHeartbeats 4000000 in
theorem searchO_any {w : World} {gp N most : Nat} {m : GM.M} (hg : GMem w gp N most m) (hm : GM.Good most m) (hN : N ≤ 24) (hi : WK.Inn N m) (s : Nat) (hs : s < N) :
    Calls Try.prog 33 #[.pointer (some ⟨gp, 0, none⟩), .int .i64 s, .func (.func 34) #[.agg #[.pointer (some ⟨gp, 0, none⟩)]] #[]] w fun e w' => ∃ fb, e = .returned (.tuple #[.slice (some ⟨fb, 0, none⟩) N N, .int .i64 0]) ∧
      ∃ far, w'.ownsRow w.heap.size 3 1 (.slice (some ⟨fb, 0, none⟩) N N) N (farV N far) ∧ (∀ v : Nat, v < N → NM.Dst m s v (far v)) ∧ Below w.heap.size w w' := by
  have HG : Hid (∀ W, Below w.heap.size w W → GMem W gp N most m) := fun W hW => hg.on hW
  have hv := nvertex_any hg (s : Int)
  rw [show GM.vert N (s : Int) = true from decide_eq_true (by omega)] at hv
  have hb1 : Below w.heap.size w (w.alloc (.cells #[.int .i64 4611686018427387906] 3)) := (Below.refl _ _).alloc (Nat.le_refl _) _
  have hvs := vertices_any (HG.out _ hb1)
  have hrep := HN.repeat_of w.heap.size N 4611686018427387906 (by omega) (w.alloc (.cells #[.int .i64 4611686018427387906] 3)) (by simp)
  rw [World.size_alloc] at hrep
  have HB1 : Hid (Below w.heap.size w (w.alloc (.cells #[.int .i64 4611686018427387906] 3))) := hb1
  have HW := NM.ways_fwd hi
  clear hg hb1
  refine (callsIn_wide (n := 12)).1 ?_
  refine callsIn_of_wp_marks Try.func33 rfl trivial ?_ rfl
  simp only [Try.ntmps33, List.size_toArray, List.length_cons, List.length_nil, Nat.reduceAdd, Nat.reduceSub, Array.replicate_succ, Array.replicate_zero, List.push_toArray, List.append_toArray, List.nil_append, List.cons_append]
  refine wpIn_wide.2 ?_
  go_wp2_with fail
  refine hv.mono ?_
  rintro e w' ⟨rfl, rfl⟩
  clear hv
  go_wp2_with fail
  refine hvs.mono ?_
  rintro e w0 ⟨rfl, rfl⟩
  clear hvs
  go_wp2_with fail
  refine hrep.mono ?_
  rintro e w2 ⟨rfl, ho2, hb2⟩
  clear hrep
  have HB2 : Hid (Below w'.heap.size w' w2) := HB1.out.trans (hb2.mono (by omega))
  have HO2 : Hid (w2.ownsRow w'.heap.size 3 1 (.slice (some ⟨w'.heap.size + 1, 0, none⟩) N N) N ((List.replicate N (4611686018427387906 : Int)).map (Value.int .i64))) := row_base ho2 (by omega)
  clear ho2 hb2 HB1
  generalize hfb : w'.heap.size + 1 = fb at *
  have HFB : Hid (w'.heap.size + 1 = fb) := hfb
  clear hfb
  have hb3 : Below w'.heap.size w' (w2.alloc (.cells #[.slice (some ⟨fb, 0, none⟩) N N] 41)) := HB2.out.alloc HB2.out.size _
  have hvs3 := vertices_any (HG.out _ hb3)
  have hnew := HI.new_any N (by omega) (w2.alloc (.cells #[.slice (some ⟨fb, 0, none⟩) N N] 41))
  clear hb3
  go_wp2_with fail
  refine hvs3.mono ?_
  rintro e w3 ⟨rfl, hw3⟩
  rw [hw3]
  clear hvs3 hw3 w3
  go_wp2_with fail
  refine hnew.mono ?_
  rintro e w4 ⟨p, bp, bc, rfl, hM, hb4⟩
  clear hnew
  have hs3 : (w2.alloc (.cells #[.slice (some ⟨fb, 0, none⟩) N N] 41)).heap.size = w2.heap.size + 1 := by simp
  rw [hs3] at hM hb4
  have hsi : SI w'.heap.size w2.heap.size fb w4.heap.size p N (fun _ => 4611686018427387906) (fun _ => none) (fun b => b < w'.heap.size ∨ b = w4.heap.size + 1 ∨ b ∈ ([] : List Nat)) ((w4.alloc (.cells #[.pointer (some ⟨p, 0, none⟩)] 99)).alloc (.cells #[.func (.func 64) #[] #[.pointer (some ⟨w2.heap.size, 0, none⟩), .pointer (some ⟨w4.heap.size, 0, none⟩)]] 103)) := by
    have e1 := HB2.out.size
    have e2 := hb4.size
    have e3 := HFB.out
    have e4 : w2.heap.size < w4.heap.size := by omega
    have l1 := (World.ownsRow.lt HO2.out fb rfl)
    have lM := hM.lt
    have lp := lM p (.inl rfl)
    have lbp := lM bp (.inr (.inl rfl))
    have lbc := lM bc (.inr (.inr (.inl rfl)))
    have hb6 : Below w4.heap.size w4 ((w4.alloc (.cells #[.pointer (some ⟨p, 0, none⟩)] 99)).alloc (.cells #[.func (.func 64) #[] #[.pointer (some ⟨w2.heap.size, 0, none⟩), .pointer (some ⟨w4.heap.size, 0, none⟩)]] 103)) := ((Below.refl _ _).alloc (Nat.le_refl _) _).alloc (by simp) _
    have bF3 := Boxed.new w2 41 (.slice (some ⟨fb, 0, none⟩) N N)
    refine si_new (bp := bp) (bc := bc) ((hb6.block _ e4).trans ((hb4.block _ (by omega)).trans bF3)) ?_ ((Boxed.new w4 _ _).alloc _) (hmem_base (hM.below hb6) (by omega)) ?_ (by omega) (by omega) ⟨not_in0O (by omega) (by omega), not_in0O (by omega) (by omega), not_in0O (by omega) (by omega)⟩ hN
    · exact below_row (below_row HO2.out ((Below.refl _ w2).alloc (Nat.le_refl _) (.cells #[.slice (some ⟨fb, 0, none⟩) N N] 41) |>.trans (hb4.mono (by omega)))) hb6
    · intro b hb
      rcases hb with rfl | rfl | rfl
      · exact ⟨by omega, by omega, by omega, not_in0O (by omega) (by omega)⟩
      · exact ⟨by omega, by omega, by omega, not_in0O (by omega) (by omega)⟩
      · exact ⟨by omega, by omega, by omega, not_in0O (by omega) (by omega)⟩
  have hboxR : Boxed ((w4.alloc (.cells #[.pointer (some ⟨p, 0, none⟩)] 99)).alloc (.cells #[.func (.func 64) #[] #[.pointer (some ⟨w2.heap.size, 0, none⟩), .pointer (some ⟨w4.heap.size, 0, none⟩)]] 103)) (w4.heap.size + 1) 103 (.func (.func 64) #[] #[.pointer (some ⟨w2.heap.size, 0, none⟩), .pointer (some ⟨w4.heap.size, 0, none⟩)]) := by
    have := Boxed.new (w4.alloc (.cells #[.pointer (some ⟨p, 0, none⟩)] 99)) 103 (.func (.func 64) #[] #[.pointer (some ⟨w2.heap.size, 0, none⟩), .pointer (some ⟨w4.heap.size, 0, none⟩)])
    rwa [World.size_alloc] at this
  have hB6 : Below w'.heap.size w' ((w4.alloc (.cells #[.pointer (some ⟨p, 0, none⟩)] 99)).alloc (.cells #[.func (.func 64) #[] #[.pointer (some ⟨w2.heap.size, 0, none⟩), .pointer (some ⟨w4.heap.size, 0, none⟩)]] 103)) := by
    have e1 := HB2.out.size
    have e2 := hb4.size
    exact (((HB2.out.alloc e1 _).trans (hb4.mono (by omega))).alloc (by omega) _).alloc (by simp; omega) _
  have hre := reach_any hsi s hs 0 (by omega) (by omega) (fun b hb => by
    have e1 := hB6.size
    rcases hb with hb | hb | hb
    · omega
    · rw [hb]
      simp
    · cases hb) (fun _ => by rw [if_pos rfl])
  rw [if_pos (by omega), if_pos (by omega)] at hre
  have HSZ : Hid (w'.heap.size ≤ w4.heap.size) := by have := hb4.size; have := HB2.out.size; show _ ≤ _; omega
  clear hM hb4 hs3 HB2 HO2 HFB
  go_upto_region 6 with fail
  generalize w4.heap.size = bW at *
  generalize w2.heap.size = bF at *
  generalize (w4.alloc (.cells #[.pointer (some ⟨p, 0, none⟩)] 99)).alloc (.cells #[.func (.func 64) #[] #[.pointer (some ⟨bF, 0, none⟩), .pointer (some ⟨bW, 0, none⟩)]] 103) = W6 at *
  have HBR : Hid (Boxed W6 (bW + 1) 103 (.func (.func 64) #[] #[.pointer (some ⟨bF, 0, none⟩), .pointer (some ⟨bW, 0, none⟩)])) := hboxR
  have HB6 : Hid (Below w'.heap.size w' W6) := hB6
  have cR := hboxR.cell
  clear hboxR hB6 hsi
  go_wp2_with fail
  refine hre.mono ?_
  rintro e W7 ⟨rfl, hr7, hsi7⟩
  have HSO : Hid (SO w' bF fb bW p (bW + 1) [] N s m (fun v => NM.wayO (NM.opens m (GM.ends m (v : Int) false))) N W7) := by
    have e1 := HB6.out.size
    have e2 := HSZ.out
    exact ⟨⟨_, _, fun _ => false, hsi7, NM.DJ.begin hs, NM.rest_le _ _⟩, (Keeps.block hr7 _ HBR.out.lt (fun hn => hn (.inr (.inl rfl)))).trans HBR.out, by omega, (fun D h => by cases h), List.nodup_nil, (fun D h => by cases h), HB6.out.trans (Rest.below hr7 (fun b hb => .inl hb) e1)⟩
  clear hr7 hsi7 hre cR HBR HB6 HSZ
  generalize hbR : bW + 1 = bR at *
  clear hbR
  have HWA : Hid (NM.Ways m N (fun v => NM.wayO (NM.opens m (GM.ends m (v : Int) false)))) := HW
  clear HW
  go_wp2_with fail
  refine wp_loop_ghost_k (fun k a wr => ∃ (ds : List Nat) (u12 u13 u14 u15 u16 u35 u36 u37 u38 u39 u40 u41 u42 u43 u44 u45 u46 u49 u50 u51 u52 u53 u54 u55 : Value), SO w' bF fb bW p bR ds N s m (fun v => NM.wayO (NM.opens m (GM.ends m (v : Int) false))) k wr ∧ a = { tmps := #[.pointer (some ⟨gp, 0, none⟩), .int .i64 (s : Nat), .func (.func 34) #[.agg #[.pointer (some ⟨gp, 0, none⟩)]] #[], undef, undef, undef, .slice none 0 0, .int .i64 0, .pointer (some ⟨bF, 0, none⟩), .pointer (some ⟨bW, 0, none⟩), .int .i64 0, .pointer (some ⟨bR, 0, none⟩), u12, u13, u14, u15, u16, .pointer (some ⟨gp, 0, none⟩), .int .i64 (s : Nat), .bool true, .bool false, .slice (some ⟨w'.heap.size, 0, none⟩) 1 1, .pointer (some ⟨gp, 0, none⟩), .int .i64 (N : Nat), .slice (some ⟨fb, 0, none⟩) N N, .tuple #[.pointer (some ⟨p, 0, none⟩), .int .i64 0], .pointer (some ⟨gp, 0, none⟩), .int .i64 (N : Nat), .tuple #[.pointer (some ⟨p, 0, none⟩), .int .i64 0], .pointer (some ⟨p, 0, none⟩), .int .i64 0, .func (.func 64) #[] #[.pointer (some ⟨bF, 0, none⟩), .pointer (some ⟨bW, 0, none⟩)], .func (.func 64) #[] #[.pointer (some ⟨bF, 0, none⟩), .pointer (some ⟨bW, 0, none⟩)], .int .i64 (s : Nat), .tuple #[], u35, u36, u37, u38, u39, u40, u41, u42, u43, u44, u45, u46, undef, undef, u49, u50, u51, u52, u53, u54, u55, undef], defers := ds.map mark }) N ?_ ?_
  · refine ⟨[], ?_⟩
    repeat apply Exists.intro
    exact ⟨HSO.out, rfl⟩
  · intro gk _ wr hinv
    obtain ⟨ds, u12, u13, u14, u15, u16, u35, u36, u37, u38, u39, u40, u41, u42, u43, u44, u45, u46, u49, u50, u51, u52, u53, u54, u55, hrel, ha⟩ := hinv
    subst ha
    try dsimp only
    intro _ _ _ _
    clear HSO
    obtain ⟨⟨far, hmm, dn, hsi, hdj, hrest⟩, hR, hlr, hmk, hnd, hlm, hbel⟩ := hrel
    have HMK : Hid (Marks ds wr ∧ ds.Nodup ∧ ∀ D ∈ ds, w'.heap.size ≤ D) := ⟨hmk, hnd, hlm⟩
    clear hmk hnd hlm
    have HSI : Hid (SI w'.heap.size bF fb bW p N far hmm (fun b => b < w'.heap.size ∨ b = bR ∨ b ∈ ds) wr) := hsi
    have HDJ : Hid (NM.DJ m (fun v => NM.wayO (NM.opens m (GM.ends m (v : Int) false))) N s N [] far hmm dn) := hdj
    have HRE : Hid (NM.rest N dn ≤ gk ∧ w'.heap.size ≤ bR) := ⟨hrest, hlr⟩
    have HR : Hid (Boxed wr bR 103 (.func (.func 64) #[] #[.pointer (some ⟨bF, 0, none⟩), .pointer (some ⟨bW, 0, none⟩)])) := hR
    have HBE : Hid (Below w'.heap.size w' wr) := hbel
    have hlen := si_len hsi
    have cW := hsi.w.cell
    have cF := hsi.f.cell
    clear hsi hdj hrest hR hlr hbel
    go_wp2_with fail
    refine hlen.mono ?_
    rintro e w8 ⟨c, rfl, rfl, h0, h1⟩
    clear hlen
    by_cases hc : c = 0
    · subst hc
      have hnone := h0 rfl
      have HN0 : Hid (∀ v, hmm v = none) := hnone
      clear h0 h1 hnone
      go_wp2_with fail
      refine leaves_marks (fun _ => trivial) ds w8 HMK.out.2.1 HMK.out.1 (fun W' hk => ?_)
      have hnds := HMK.out.2.2
      have hsz8 := HBE.out.size
      refine ⟨.tuple #[.slice (some ⟨fb, 0, none⟩) N N, .int .i64 0], ?_, fb, rfl, far, hk.row HSI.out.fr (fun g hg hgd => ?_), fun v hv => HDJ.out.done HWA.out hs HN0.out hv, HBE.out.trans (hk.below (fun b hb => hnds b hb) hsz8)⟩
      · simp [results, Try.f33, go_sem]
      · cases hg
        exact HSI.out.nX.2.1 (.inr (.inr hgd))
    · have hc0 : (0 : Int) < (c : Int) := by omega
      obtain ⟨⟨u, r⟩, hf⟩ := h1 (by omega)
      obtain ⟨hu, hdu, hfu, hfn, hdj2⟩ := HDJ.out.pop HWA.out hs (fun v hv => si_out HSI.out hv) hf
      have hpop := si_pop HSI.out hf
      have HJ2 : Hid (NM.DJ m (fun v => NM.wayO (NM.opens m (GM.ends m (v : Int) false))) N s u [] far (HM.upd hmm u none) (NM.updB dn u)) := hdj2
      have HUF : Hid (dn u = false ∧ far u = r ∧ r ≠ 4611686018427387906) := ⟨hdu, hfu, hfu ▸ hfn⟩
      clear h0 h1 hf hdu hfu hfn hdj2 hc
      go_wp2_with fail
      refine hpop.mono ?_
      rintro e w9 ⟨rfl, hr9, hsi9⟩
      clear hpop
      have HR9 : Hid (Rest (fun b => b < w'.heap.size ∨ b = bR ∨ b ∈ ds) w8 w9) := hr9
      have HS9 : Hid (SI w'.heap.size bF fb bW p N far (HM.upd hmm u none) (fun b => b < w'.heap.size ∨ b = bR ∨ b ∈ ds) w9) := hsi9
      have hD := Boxed.new w9 3 (.int .i64 r)
      have HD : Hid (Boxed (w9.alloc (.cells #[.int .i64 r] 3)) w9.heap.size 3 (.int .i64 r)) := hD
      have hon := forwards_any gp (u : Int) (w9.alloc (.cells #[.int .i64 r] 3))
      rw [World.size_alloc] at hon
      clear hr9 hsi9 hD cW cF
      go_wp2_with fail
      refine hon.mono ?_
      rintro e w11 ⟨b1, rfl, hb1, bg, bv, bel11, hs11⟩
      have HB11 : Hid (b1 = w9.heap.size + 1 ∧ Boxed w11 b1 76 (.pointer (some ⟨gp, 0, none⟩)) ∧ Boxed w11 (b1 + 1) 3 (.int .i64 (u : Nat)) ∧ Below (w9.heap.size + 1) (w9.alloc (.cells #[.int .i64 r] 3)) w11 ∧ w11.heap.size = b1 + 2) := ⟨hb1, bg, bv, bel11, hs11⟩
      clear hon hb1 bg bv bel11 hs11
      go_wp2_with fail
      have hsr : SR w' bF fb bW p gp bR w9.heap.size b1 ds N s u m (fun v => NM.wayO (NM.opens m (GM.ends m (v : Int) false))) (NM.updB dn u) r [] (fun _ => False) w11 := by
        obtain ⟨q1, q2, q3, q4, q5⟩ := HB11.out
        have hb : Below w9.heap.size w9 w11 := ((Below.refl _ w9).alloc (Nat.le_refl _) _).trans (q4.mono (by omega))
        have e1 := HBE.out.size
        have e2 := HR9.out.size
        refine ⟨⟨far, _, HS9.out.apart (Below.keeps hb _) (fun b hb => ?_), HJ2.out, HUF.out.2.1⟩, ⟨(hb.block _ (by have := HR.out.lt; omega)).trans ((Keeps.block HR9.out _ HR.out.lt (fun hn => hn (.inr (.inl rfl)))).trans HR.out), (q4.block _ (by omega)).trans HD.out, q2, q3, fun D hD => (hb.block _ (by have := HMK.out.1.lt D hD; omega)).trans ((Keeps.block HR9.out _ (HMK.out.1.lt D hD) (fun hn => hn (.inr (.inr hD)))).trans (HMK.out.1 D hD))⟩, fun b _ h => h, fun b h => h.elim, HBE.out.trans ((Rest.below HR9.out (fun b hb => .inl hb) e1).trans (hb.mono (by omega)))⟩
        rcases hb with hb | hb | hb
        · exact .inl (.inl hb)
        · exact hb.elim
        · rcases hb with hb | hb | hb | hb | hb
          · exact .inl (.inr (.inl hb))
          · exact .inr (by omega)
          · exact .inr (by omega)
          · exact .inr (by omega)
          · exact .inl (.inr (.inr hb))
      have HJ0 : Hid (dn u = false ∧ r ≠ 4611686018427387906 ∧ NM.rest N dn ≤ gk ∧ w'.heap.size ≤ bR) := ⟨HUF.out.1, HUF.out.2.2, HRE.out.1, HRE.out.2⟩
      have HDL : Hid (∀ D ∈ ds, D < w11.heap.size) := fun D hD => by
        obtain ⟨q1, q2, q3, q4, q5⟩ := HB11.out
        have := HMK.out.1.lt D hD
        have := HR9.out.size
        omega
      have hdB : w9.heap.size < w11.heap.size := by obtain ⟨q1, q2, q3, q4, q5⟩ := HB11.out; omega
      clear HR9 HS9 HD HB11 HJ2 HUF HRE HSI HDJ HR HBE
      generalize hL : (fun v : Nat => NM.wayO (NM.opens m (GM.ends m (v : Int) false))) = L at *
      have hfw := forwards_goesP 11 (by decide) b1 (b1 + 1) gp N most (u : Int) m hm
      have hLu : NM.wayO (NM.opens m (GM.ends m (u : Int) false)) = L u := by rw [← hL]
      rw [hLu] at hfw
      clear hLu hL
      refine (wpIn_wide (n := 12)).1 ?_
      refine range_goesP (by omega) (gf := 69) (lb := #[.pointer (some ⟨b1, 0, none⟩), .pointer (some ⟨b1 + 1, 0, none⟩)]) rfl (enters_of Try.func69 (by kernel_rfl) rfl) hfw (fun _ => rfl)
        (SR w' bF fb bW p gp bR w9.heap.size b1 ds N s u m L (NM.updB dn u) r) (fun _ _ _ _ => False) SR.apart (fun _ _ _ _ _ _ h _ _ => h)
        (fun pre X' A h => ⟨h.k.g.cell, h.k.v.cell, HG.out _ h.bel⟩) hsr
        (fun x A => { tmps := #[.pointer (some ⟨gp, 0, none⟩), .int .i64 s, .func (.func 34) #[.agg #[.pointer (some ⟨gp, 0, none⟩)]] #[], undef, undef, undef, .slice none 0 0, .int .i64 0, .pointer (some ⟨bF, 0, none⟩), .pointer (some ⟨bW, 0, none⟩), .int .i64 0, .pointer (some ⟨bR, 0, none⟩), .int .i64 u, .pointer (some ⟨w9.heap.size, 0, none⟩), .bool true, .int .i64 x.1, .int .i64 x.2, .pointer (some ⟨gp, 0, none⟩), .int .i64 s, .bool true, .bool false, .slice (some ⟨w'.heap.size, 0, none⟩) 1 1, .pointer (some ⟨gp, 0, none⟩), .int .i64 N, .slice (some ⟨fb, 0, none⟩) N N, .tuple #[.pointer (some ⟨p, 0, none⟩), .int .i64 0], .pointer (some ⟨gp, 0, none⟩), .int .i64 N, .tuple #[.pointer (some ⟨p, 0, none⟩), .int .i64 0], .pointer (some ⟨p, 0, none⟩), .int .i64 0, .func (.func 64) #[] #[.pointer (some ⟨bF, 0, none⟩), .pointer (some ⟨bW, 0, none⟩)], .func (.func 64) #[] #[.pointer (some ⟨bF, 0, none⟩), .pointer (some ⟨bW, 0, none⟩)], .int .i64 s, .tuple #[], .pointer (some ⟨p, 0, none⟩), .int .i64 c, .bool true, .tuple #[.int .i64 u, .int .i64 r, .bool true], .pointer (some ⟨p, 0, none⟩), .tuple #[.int .i64 u, .int .i64 r, .bool true], .int .i64 u, .int .i64 r, .bool true, .func (.func 34) #[.agg #[.pointer (some ⟨gp, 0, none⟩)]] #[], .int .i64 u, .func (.func 69) #[] #[.pointer (some ⟨b1, 0, none⟩), .pointer (some ⟨b1 + 1, 0, none⟩)], .int .i64 x.1, .int .i64 x.2, u49, u50, u51, u52, u53, u54, u55, undef], defers := [] })
        (fun x A => A)
        (fun x W => Below.refl _ _) ?assign ?body ?done ?stop
      case assign =>
        rintro l' ⟨h, x⟩ A K hK
        simp only [twoNum]
        gi_wp2
        exact hK
      case body =>
        rintro l' pre ⟨h, x⟩ X0 A B hi hlt - - hAs hblk hsz hXb
        have hxL : (h, x) ∈ L u := hlt.subset (by simp)
        obtain ⟨⟨far2, hm2, hsi, hdj, hfu⟩, hk, hn, hlo, hbel⟩ := hi
        obtain ⟨k, hke, hkN, hy, hno⟩ := hdj.reach HWA.out hu (show NM.updB dn u u = true from if_pos rfl) hxL (by rw [hfu]; exact HJ0.out.2.1)
        dsimp only at hke
        subst hke
        dsimp only at hy hno
        rw [hfu] at hy hno
        have bfar := hdj.bd k hkN
        have b2 := DM.two_bd r x
        obtain ⟨B4, hB4⟩ : ∃ B4, B4 = (B.alloc (.cells #[.int .i64 r, .int .i64 x] 3)).drew := ⟨_, rfl⟩
        have hb4 : Below B.heap.size B B4 := by rw [hB4]; exact ((Below.refl _ B).alloc (Nat.le_refl _) _).drew
        have hl := (ex_holds bR w9.heap.size b1 ds gp bF bW u r).lt B hk
        have hXl : ∀ z, (z < w'.heap.size ∨ (X0 z ∨ (A.heap.size ≤ z ∧ z < B.heap.size)) ∨ exB bR w9.heap.size b1 ds z) → z < B4.heap.size := fun z hz => by
          have e1 := hbel.size
          have e2 := hb4.size
          have e3 : A.heap.size ≤ B.heap.size := by rw [hsz]; exact Nat.le_refl _
          rcases hz with hz | (hz | hz) | hz
          · omega
          · have := hXb z hz; omega
          · omega
          · have := hl z hz; omega
        have hre := reach_any (hsi.on hb4) k hkN (DM.two r x) b2 bfar hXl (fun hlt => (hy hlt).1)
        have hadd := add_row (.slice (some ⟨B.heap.size, 0, none⟩) 2 2) [r, x] B4 (by
          rw [hB4]
          have h1 := (Own.lit .i64 3 B B.heap.size (Nat.le_refl _) [r, x] #[.int .i64 r, .int .i64 x] 2 rfl rfl (by unfold maxLen; decide)).row
          exact h1.drew)
        rw [WK.two_norm] at hadd
        have HSR : Hid (∀ w6, Rest (fun z => z < w'.heap.size ∨ (X0 z ∨ (A.heap.size ≤ z ∧ z < B.heap.size)) ∨ exB bR w9.heap.size b1 ds z) B4 w6 →
            SI w'.heap.size bF fb bW p N (if DM.two r x < far2 k then NM.updF far2 k (DM.two r x) else far2) (if DM.two r x < far2 k then HM.upd hm2 k (some (DM.two r x)) else hm2) (fun z => z < w'.heap.size ∨ (X0 z ∨ (A.heap.size ≤ z ∧ z < B.heap.size)) ∨ exB bR w9.heap.size b1 ds z) w6 →
            Rest X0 B w6 ∧ SR w' bF fb bW p gp bR w9.heap.size b1 ds N s u m L (NM.updB dn u) r (pre ++ [((k : Int), x)]) X0 w6) := fun w6 h1 h2 => by
          have e1 := hbel.size
          have hK6 : ExK bR w9.heap.size b1 ds gp bF bW u r w6 := (ex_holds bR w9.heap.size b1 ds gp bF bW u r).same _ _ hk (fun z hz => (Keeps.block h1 z (by have := hl z hz; have := hb4.size; omega) (fun hq => hq (.inr (.inr hz)))).trans (hb4.block z (hl z hz)))
          refine ⟨(Rest.of_below hb4).trans (Keeps.mono h1 (fun z hz hx => hz (.inr (.inl (.inl hx))))), SR.apart (pre ++ [((k : Int), x)]) _ X0 w6 w6 ⟨?_, hK6, hn, hlo, (hbel.trans (hb4.mono e1)).trans (Rest.below h1 (fun z hz => .inl hz) (Nat.le_trans e1 hb4.size))⟩ (Keeps.refl _ _) (fun z hz => .inl (.inl hz))⟩
          by_cases hd : DM.two r x < far2 k
          · rw [if_pos hd, if_pos hd] at h2
            exact ⟨_, _, h2, (hy hd).2.1, (hy hd).2.2⟩
          · rw [if_neg hd, if_neg hd] at h2
            exact ⟨_, _, h2, hno hd, hfu⟩
        have HSX : Hid (∀ W', Below B.heap.size B W' → W'.cell? ⟨bR, 0, none⟩ = some (.func (.func 64) #[] #[.pointer (some ⟨bF, 0, none⟩), .pointer (some ⟨bW, 0, none⟩)]) ∧ W'.cell? ⟨w9.heap.size, 0, none⟩ = some (.int .i64 r)) := fun W' h => by
          have h1 := (ex_holds bR w9.heap.size b1 ds gp bF bW u r).same _ _ hk (fun z hz => h.block z (hl z hz))
          exact ⟨h1.r.cell, h1.d.cell⟩
        have HSY : Hid (∀ W', Rest (fun z => z < w'.heap.size ∨ (X0 z ∨ (A.heap.size ≤ z ∧ z < B.heap.size)) ∨ exB bR w9.heap.size b1 ds z) B4 W' → W'.cell? ⟨bR, 0, none⟩ = some (.func (.func 64) #[] #[.pointer (some ⟨bF, 0, none⟩), .pointer (some ⟨bW, 0, none⟩)]) ∧ W'.cell? ⟨w9.heap.size, 0, none⟩ = some (.int .i64 r)) := fun W' h1 => by
          have h2 := (ex_holds bR w9.heap.size b1 ds gp bF bW u r).same _ _ hk (fun z hz => (Keeps.block h1 z (by have := hl z hz; have := hb4.size; omega) (fun hq => hq (.inr (.inr hz)))).trans (hb4.block z (hl z hz)))
          exact ⟨h2.r.cell, h2.d.cell⟩
        have HB4 : Hid (Below B.heap.size B B4) := hb4
        have HADD : Hid (Calls Try.prog 62 #[.slice (some ⟨B.heap.size, 0, none⟩) 2 2] B4 fun e w' => e = .returned (.int .i64 (DM.two r x)) ∧ w' = B4) := hadd
        have HRE := hre
        have cX := HSX.out B.drew (Below.refl _ B).drew
        clear hxL hsi hdj hfu hk hn hlo hbel hy hno bfar b2 hb4 hl hXl hadd hblk hsz hXb hAs hre hlt
        have HRE' : Hid (Calls Try.prog 64 #[.int .i64 (k : Nat), .int .i64 (DM.two r x), .pointer (some ⟨bF, 0, none⟩), .pointer (some ⟨bW, 0, none⟩)] B4 fun e w6 => e = .returned (.tuple #[]) ∧ Rest (fun z => z < w'.heap.size ∨ (X0 z ∨ (A.heap.size ≤ z ∧ z < B.heap.size)) ∨ exB bR w9.heap.size b1 ds z) B4 w6 ∧ SI w'.heap.size bF fb bW p N (if DM.two r x < far2 k then NM.updF far2 k (DM.two r x) else far2) (if DM.two r x < far2 k then HM.upd hm2 k (some (DM.two r x)) else hm2) (fun z => z < w'.heap.size ∨ (X0 z ∨ (A.heap.size ≤ z ∧ z < B.heap.size)) ∨ exB bR w9.heap.size b1 ds z) w6) := HRE
        clear HRE
        generalize DM.two r x = d2 at *
        generalize (if d2 < far2 k then NM.updF far2 k d2 else far2) = far3 at *
        generalize (if d2 < far2 k then HM.upd hm2 k (some d2) else hm2) = hm3 at *
        generalize hg : A.heap.size = g at *
        clear hg
        have HRE := HRE'
        clear HRE'
        have HB4E : Hid (B4 = (B.alloc (.cells #[.int .i64 r, .int .i64 x] 3)).drew) := hB4
        clear hB4
        gi_wp2_with fail
        refine wpIn_region_held (R := fun _ w6 => Rest X0 B w6 ∧ SR w' bF fb bW p gp bR w9.heap.size b1 ds N s u m L (NM.updB dn u) r (pre ++ [((k : Int), x)]) X0 w6) (S := fun W => W.cell? ⟨bR, 0, none⟩ = some (.func (.func 64) #[] #[.pointer (some ⟨bF, 0, none⟩), .pointer (some ⟨bW, 0, none⟩)]) ∧ W.cell? ⟨w9.heap.size, 0, none⟩ = some (.int .i64 r)) (by kernel_rfl) (by kernel_rfl) (fun a w h => h) cX (fun hHeld => ?_)
        refine wpAnyH_take (i := 0) (oi := { dst := some 49, op := Op.load 103 (Operand.tmp 11), type := 103, pos := "near.go:109", after := #[], guard := none }) (v := ?_) rfl (by kernel_rfl) (by kernel_rfl) (by kernel_rfl) (fun _ _ _ h => h) (Or.inl ⟨by rfl, ?_⟩) (by assumption) ?_
        rotate_left
        · intro w0 hSw
          (try dsimp only at hSw)
          go_simp <;> with_reducible rfl
        try simp only [Act.put, List.setIfInBounds_toArray, List.set_cons_zero, List.set_cons_succ]
        refine wpAnyH_take (i := 1) (oi := { dst := some 50, op := Op.move (Operand.tmp 15), type := 3, pos := "near.go:109", after := #[], guard := none }) (v := ?_) rfl (by kernel_rfl) (by kernel_rfl) (by kernel_rfl) (fun _ _ _ h => h) (Or.inl ⟨by rfl, ?_⟩) (by assumption) ?_
        rotate_left
        · intro w0 hSw
          (try dsimp only at hSw)
          go_simp <;> with_reducible rfl
        try simp only [Act.put, List.setIfInBounds_toArray, List.set_cons_zero, List.set_cons_succ]
        refine wpAnyH_take (i := 2) (oi := { dst := some 51, op := Op.load 3 (Operand.tmp 13), type := 3, pos := "near.go:109", after := #[], guard := none }) (v := ?_) rfl (by kernel_rfl) (by kernel_rfl) (by kernel_rfl) (fun _ _ _ h => h) (Or.inl ⟨by rfl, ?_⟩) (by assumption) ?_
        rotate_left
        · intro w0 hSw
          (try dsimp only at hSw)
          go_simp <;> with_reducible rfl
        try simp only [Act.put, List.setIfInBounds_toArray, List.set_cons_zero, List.set_cons_succ]
        refine wpAnyH_take (i := 3) (oi := { dst := some 52, op := Op.move (Operand.tmp 16), type := 3, pos := "near.go:109", after := #[], guard := none }) (v := ?_) rfl (by kernel_rfl) (by kernel_rfl) (by kernel_rfl) (fun _ _ _ h => h) (Or.inl ⟨by rfl, ?_⟩) (by assumption) ?_
        rotate_left
        · intro w0 hSw
          (try dsimp only at hSw)
          go_simp <;> with_reducible rfl
        try simp only [Act.put, List.setIfInBounds_toArray, List.set_cons_zero, List.set_cons_succ]
        refine wpAnyH_ready (rs := [4]) (by kernel_rfl) (by simp) ?_
        refine AllReadyH.cons (o := { dst := some 53, op := Op.buildSlice 41 2 #[(0, Operand.tmp 51), (1, Operand.tmp 52)], type := 41, pos := "near.go:109", after := #[{ on := 2, ground := Ground.data }, { on := 3, ground := Ground.data }], guard := none }) rfl (fun K hK => ?_) AllReadyH.nil
        go_simp
        refine hK.out _ _ (by rw [← HB4E.out]; exact HSX.out _ HB4.out) (fun hHeld => ?_)
        clear hK K
        rw [← HB4E.out] at hHeld ⊢
        try simp only [Act.put, List.setIfInBounds_toArray, List.set_cons_zero, List.set_cons_succ]
        refine wpAnyH_ready (rs := [5]) (by kernel_rfl) (by simp) ?_
        refine AllReadyH.cons (o := { dst := some 54, op := Op.call { callee := Callee.value (Operand.func 62), args := #[Operand.tmp 53], argTypes := #[41] }, type := 3, pos := "near.go:109", after := #[{ on := 4, ground := Ground.data }], guard := none }) rfl (fun K hK => ?_) AllReadyH.nil
        go_simp
        refine HADD.out.mono ?_
        rintro e w5 ⟨rfl, hw5⟩
        rw [hw5]
        clear hw5 w5
        go_wp2_with fail
        refine hK.out _ _ (HSX.out _ HB4.out) (fun hHeld => ?_)
        clear hK K
        try simp only [Act.put, List.setIfInBounds_toArray, List.set_cons_zero, List.set_cons_succ]
        refine wpAnyH_ready (rs := [6]) (by kernel_rfl) (by simp) ?_
        refine AllReadyH.cons (o := { dst := some 55, op := Op.call { callee := Callee.value (Operand.tmp 49), args := #[Operand.tmp 50, Operand.tmp 54], argTypes := #[3, 3] }, type := 0, pos := "near.go:109", after := #[{ on := 0, ground := Ground.data }, { on := 1, ground := Ground.data }, { on := 5, ground := Ground.data }, { on := 5, ground := Ground.chain }], guard := none }) rfl (fun K hK => ?_) AllReadyH.nil
        go_simp
        refine HRE.out.mono ?_
        rintro e w6 ⟨rfl, hr6, hsi6⟩
        have HR6 : Hid (Rest (fun b => b < w'.heap.size ∨ (X0 b ∨ (g ≤ b ∧ b < B.heap.size)) ∨ exB bR w9.heap.size b1 ds b) B4 w6) := hr6
        have HS6 := hsi6
        clear hr6 hsi6
        go_wp2_with fail
        refine hK.out _ _ (HSY.out _ HR6.out) (fun hHeld => ?_)
        clear hK K
        try simp only [Act.put, List.setIfInBounds_toArray, List.set_cons_zero, List.set_cons_succ]
        refine wpAnyH_done (by kernel_rfl) ?_ _
        exact ⟨rfl, HSR.out _ HR6.out HS6⟩
      case done =>
        intro W hi hK
        obtain ⟨⟨far2, hm2, hsi, hdj, hfu⟩, hk, hn, hlo, hbel⟩ := hi
        have hrest := NM.rest_upd (dn := dn) hu HJ0.out.1
        have hgk := HJ0.out.2.2.1
        have HO : Hid (SO w' bF fb bW p bR (w11.heap.size :: ds) N s m L (gk - 1) W) := by
          refine ⟨⟨far2, hm2, NM.updB dn u, hsi.apart (Keeps.refl _ _) (fun b hb => ?_), hdj.next, by omega⟩, hk.r, HJ0.out.2.2.2, fun D hD => ?_, List.nodup_cons.2 ⟨fun hD => ?_, HMK.out.2.1⟩, fun D hD => ?_, hbel⟩
          · rcases hb with hb | hb | hb
            · exact .inl (.inl hb)
            · exact .inl (.inr (.inr (.inl hb)))
            · rcases List.mem_cons.1 hb with hb | hb
              · exact .inl (.inr (.inl hb))
              · exact .inl (.inr (.inr (.inr (.inr (.inr (.inr hb))))))
          · rcases List.mem_cons.1 hD with hD | hD
            · rw [hD]; exact hK
            · exact hk.m D hD
          · have := HDL.out _ hD
            omega
          · rcases List.mem_cons.1 hD with hD | hD
            · have := hlo _ hD
              omega
            · exact HMK.out.2.2 D hD
        have HGK : Hid (gk - 1 < gk) := by show _ < _; omega
        clear hsi hdj hfu hk hn hlo hbel hrest hgk
        go_wp2_with fail
        refine Handed.intro (gk - 1) HGK.out ?_
        go_step
        refine ⟨w11.heap.size :: ds, ?_⟩
        repeat apply Exists.intro
        exact ⟨HO.out, rfl⟩
      case stop =>
        intro c' pre W _ h
        exact h.elim
end Go.Proofs.Ytmamligiopbefaa
end

section
/-
  The walk of search, back.
-/
namespace Go.Proofs.Ytmamligiopbefaa
open Go.RowKit Go.Shelf
attribute [local go_sem] Oper.semAt_some

theorem not_in0I {a b c : Nat} (h1 : a ≤ b) (h2 : b ≠ c) : ¬ (b < a ∨ b = c ∨ b ∈ ([] : List Nat)) := by
  rintro (h | h | h)
  · omega
  · exact h2 h
  · cases h
end Go.Proofs.Ytmamligiopbefaa
end

section
/-
  The walks of From and To.
-/
namespace Go.Proofs.Ytmamligiopbefaa
open Go.RowKit Go.Shelf

set_option maxHeartbeats 400000 in
theorem search_no {w : World} {gp N most : Nat} {m : GM.M} (hg : GMem w gp N most m) (s : Int) (hs : GM.vert N s = false) (F : Nat) (ca : Array Value) :
    Calls Try.prog 33 #[.pointer (some ⟨gp, 0, none⟩), .int .i64 s, .func (.func F) ca #[]] w fun e w' => e = .returned (.tuple #[.slice none 0 0, .int .i64 1]) ∧ w' = w := by
  have hv := nvertex_any hg s
  rw [hs] at hv
  clear hg
  go_enter Try.func33, Try.ntmps33
  go_wp2_with fail
  refine hv.mono ?_
  rintro e w' ⟨rfl, rfl⟩
  clear hv
  go_wp2_with fail
  go_ret2
  exact ⟨rfl, rfl⟩
/-- A row of how far it is. -/
def farL (N : Nat) (far : Nat → Int) : List Int := (List.range N).map far
theorem farL_len (N : Nat) (far : Nat → Int) : (farL N far).length = N := by simp [farL]
theorem farL_own {w : World} {B N : Nat} {v : Value} {far : Nat → Int} (h : w.ownsRow B 3 1 v N (farV N far)) : Own .i64 3 w B v (farL N far) := by
  unfold Own
  rw [farL_len]
  have e : (farL N far).map (Value.int .i64) = farV N far := by
    unfold farL farV
    rw [List.map_map]
    rfl
  rw [e]
  exact h
set_option maxHeartbeats 400000 in
theorem from_ok {w : World} {gp N most : Nat} {m : GM.M} (hg : GMem w gp N most m) (hm : GM.Good most m) (hN : N ≤ 24) (hi : WK.Inn N m) (s : Nat) (hs : s < N) :
    Calls Try.prog 15 #[.pointer (some ⟨gp, 0, none⟩), .int .i64 s] w fun e w' => ∃ fb, e = .returned (.tuple #[.slice (some ⟨fb, 0, none⟩) N N, .int .i64 0]) ∧
      ∃ far, Own .i64 3 w' w.heap.size (.slice (some ⟨fb, 0, none⟩) N N) (farL N far) ∧ (∀ v : Nat, v < N → NM.Dst m s v (far v)) ∧ Below w.heap.size w w' := by
  have hsr := searchO_any hg hm hN hi s hs
  clear hg hm hN hi hs
  go_enter Try.func15, Try.ntmps15
  go_wp2_with fail
  refine hsr.mono ?_
  rintro e w' ⟨fb, rfl, far, h1, h2, h3⟩
  have H : Hid (Own .i64 3 w' w.heap.size (.slice (some ⟨fb, 0, none⟩) N N) (farL N far) ∧ (∀ v : Nat, v < N → NM.Dst m s v (far v)) ∧ Below w.heap.size w w') := ⟨farL_own h1, h2, h3⟩
  clear hsr h1 h2 h3
  go_wp2_with fail
  go_ret2
  exact ⟨fb, rfl, far, H.out⟩
set_option maxHeartbeats 400000 in
theorem from_no {w : World} {gp N most : Nat} {m : GM.M} (hg : GMem w gp N most m) (s : Int) (hs : GM.vert N s = false) :
    Calls Try.prog 15 #[.pointer (some ⟨gp, 0, none⟩), .int .i64 s] w fun e w' => e = .returned (.tuple #[.slice none 0 0, .int .i64 1]) ∧ w' = w := by
  have hsr := search_no hg s hs 34 #[.agg #[.pointer (some ⟨gp, 0, none⟩)]]
  clear hg hs
  go_enter Try.func15, Try.ntmps15
  go_wp2_with fail
  refine hsr.mono ?_
  rintro e w' ⟨rfl, rfl⟩
  clear hsr
  go_wp2_with fail
  go_ret2
  exact ⟨rfl, rfl⟩
end Go.Proofs.Ytmamligiopbefaa
end
