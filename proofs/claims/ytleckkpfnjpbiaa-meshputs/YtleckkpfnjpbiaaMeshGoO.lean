/-
  The walk of the law's goes, where it goes through Out.
-/
import Derived.Test.YtleckkpfnjpbiaaMeshGoM
namespace Go.Proofs.Ytleckkpfnjpbiaa
open Go.RowKit Go.Shelf
attribute [local go_sem] Oper.semAt_some

set_option maxRecDepth 100000 in
set_option maxHeartbeats 4000000 in
theorem goXO_in {w : World} {p q N : Nat} {D : Nat → Nat → Int} (hg : XMem w p N D) (hq : XMem w q N D) (hm : XM.Mesh N D) (hN : N ≤ 24) (v mo : Int) :
    CallsIn Fence.wide 6 Try.prog 13 #[.pointer (some ⟨p, 0, none⟩), .pointer (some ⟨q, 0, none⟩), .int .i64 v, .bool false, .int .i64 mo] w fun e w' => e = .returned (.bool true) ∧ Below w.heap.size w w' := by
  have HGO : Hid (∀ B, GoesQ 5 Try.prog 63 #[.pointer (some ⟨B + 1 + 1, 0, none⟩), .pointer (some ⟨B + 1 + 1 + 1, 0, none⟩)] stepV (XM.steps N D v false N) (Reads 45 p N D v B)) := fun B => out_goes 5 (by decide) B p N hN D v
  have HOUT : Hid (∀ W, Calls Try.prog 32 #[.pointer (some ⟨p, 0, none⟩), .int .i64 v] W fun e w' => e = .returned (iterV W.heap.size) ∧ w' = iterW 45 p v W) := fun W => outX_any p v W
  have HIN : Hid (∀ W, Calls Try.prog 33 #[.pointer (some ⟨p, 0, none⟩), .int .i64 v] W fun e w' => e = .returned (iterV W.heap.size) ∧ w' = iterW 46 p v W) := fun W => inX_any p v W
  have HST : Hid (∀ W, Below w.heap.size w W → Calls Try.prog 31 #[.pointer (some ⟨q, 0, none⟩), .int .i64 v, .bool false] W fun e w' => ∃ r, e = .returned r ∧ Own .i64 3 w' W.heap.size r (firsts (XM.steps N D v false N)) ∧ Below W.heap.size W w') := fun W hW => rsteps_any (hq.on hW) hm hN v false
  have HAT : Hid (∀ W, XMem W q N D → ∀ a b : Int, Calls Try.prog 29 #[.pointer (some ⟨q, 0, none⟩), .int .i64 a, .int .i64 b] W fun e w' => e = .returned (.int .i64 (XM.atE N D a b)) ∧ w' = W) := fun W hW a b => rat_any hW hm hN a b
  have HX : Hid (∀ W, Below w.heap.size w W → XMem W p N D ∧ XMem W q N D) := fun W hW => ⟨hg.on hW, hq.on hW⟩
  have hpl := hg.lt
  have hql := hq.lt
  have HSM : Hid (∀ x ∈ XM.steps N D v false N, x.2 = XM.dirE N D v false (x.1 : Nat)) := fun x hx => (XM.steps_mem hx).2.1
  have hL24 : (XM.steps N D v false N).length ≤ 24 := Nat.le_trans (XM.steps_len N) hN
  obtain ⟨w5, hw5, hG5, hs5⟩ := five_new w q v mo false
  clear hg hq hm hN
  generalize XM.steps N D v false N = L at *
  obtain ⟨C, hC⟩ : ∃ C, C = L.length := ⟨_, rfl⟩
  have HCL : Hid (C = L.length) := hC
  rw [← hC] at hL24
  clear hC
  have hst := HST.out w5 hG5.bel
  have c6 := hG5.br.cell
  have c7 := hG5.bv.cell
  have c8 := hG5.bb.cell
  have HG5 : Hid (GB w q v mo false w5) := hG5
  clear hG5 HST
  refine callsIn_of_wp_marks Try.func13 rfl trivial ?_ rfl
  simp only [Try.ntmps13, List.size_toArray, List.length_cons, List.length_nil, Nat.reduceAdd, Nat.reduceSub, Array.replicate_succ, Array.replicate_zero, List.push_toArray, List.append_toArray, List.nil_append, List.cons_append]
  refine wpIn_wide.2 ?_
  go_upto_region 1 with fail
  rw [← hw5]
  clear hw5
  go_wp2_with fail
  refine hst.mono ?_
  rintro e w6 ⟨r, rfl, ho, hb6⟩
  obtain ⟨w8, hw8, hG8, bL8, bK8, hb8, hs8⟩ := two_new (HG5.out.on hb6) r
  have HO6 : Hid (Own .i64 3 w8 (w.heap.size + 5) r (firsts L)) := by
    have := ho.below hb8
    rw [hs5] at this
    exact this
  have HLO : Hid (∀ g, r.ownBlock = some g → g < w6.heap.size) := fun g hg => (World.ownsRow.lt ho g hg).2
  obtain ⟨ao, cap, hr, hat⟩ := ho.at
  rw [firsts_len, ← HCL.out] at hr
  have hcp := hat.1
  rw [firsts_len, ← HCL.out] at hcp
  have hc5 : w.heap.size + 5 ≤ w6.heap.size := by have := hb6.size; omega
  have hcpI : (C : Int) ≤ (cap : Int) := by omega
  have c7' := hG8.bv.cell
  have c8' := hG8.bb.cell
  have HB8 : Hid (GB w q v mo false w8 ∧ Boxed w8 w6.heap.size 47 r ∧ Boxed w8 (w6.heap.size + 1) 3 (.int .i64 0) ∧ w8.heap.size = w6.heap.size + 2) := ⟨hG8, bL8, bK8, hs8⟩
  clear hst ho hb6 hb8 hat c6 c7 c8 hG8 bL8 bK8
  subst hr
  go_upto_region 3 with fail
  rw [← hw8]
  clear hw8
  generalize w6.heap.size = c at *
  have hout := HOUT.out w8
  have rO := iterW_reads (HX.out w8 HB8.out.1.bel).1 45 v
  rw [HB8.out.2.2.2] at hout rO
  obtain ⟨rO1, rO2, rO3⟩ := rO
  have hb9 : Below w8.heap.size w8 (iterW 45 p v w8) := by rw [HB8.out.2.2.2]; exact rO2
  have g9 := HB8.out.1.on hb9
  have c7n := g9.bv.cell
  have c8n := g9.bb.cell
  have HB9 : Hid (Below w8.heap.size w8 (iterW 45 p v w8) ∧ (iterW 45 p v w8).heap.size = c + 2 + 4 ∧ Reads 45 p N D v (c + 2) (iterW 45 p v w8)) := ⟨hb9, rO3, rO1⟩
  clear hb9 rO1 rO2 rO3 g9
  go_wp2_with fail
  refine hout.mono ?_
  rintro e w9 ⟨rfl, hw9⟩
  rw [hw9]
  clear hw9 w9 hout c7' c8'
  generalize iterW 45 p v w8 = w9 at *
  unfold iterV
  go_wp2_with fail
  clear c7n c8n
  have HF0 : Hid (GF w q v mo false 45 p N D (c + 2) c (.slice ao C cap) (firsts L) (([] : List (Nat × Int)).length : Nat) w9) := by
    have hb := HB9.out.1
    obtain ⟨g1, g2, g3, g4⟩ := HB8.out
    exact ⟨g1.on hb, (hb.block _ g2.lt).trans g2, (hb.block _ g3.lt).trans g3, HO6.out.below hb, HLO.out, HB9.out.2.2, (HX.out _ (g1.on hb).bel).2⟩
  have HSZ : Hid (w9.heap.size = c + 2 + 4) := HB9.out.2.1
  generalize w9 = W0 at *
  clear HB8 HB9 HO6 HLO HG5 HOUT HIN HX
  have hgo := HGO.out (c + 2)
  clear HGO
  refine (wpIn_wide (n := 6)).1 (range_goesQ (by decide) (gf := 63) (lb := #[.pointer (some ⟨c + 2 + 1 + 1, 0, none⟩), .pointer (some ⟨c + 2 + 1 + 1 + 1, 0, none⟩)]) rfl (enters_of Try.func63 (by kernel_rfl) rfl) hgo (fun _ => rfl)
    (fun pre W => (pre = [] ∨ (pre.length : Int) < mo) ∧ GF w q v mo false 45 p N D (c + 2) c (.slice ao C cap) (firsts L) (pre.length : Nat) W)
    (fun cd pre W => (cd = .exit 0 ∧ (pre.length : Int) = max mo 1) ∧ GF w q v mo false 45 p N D (c + 2) c (.slice ao C cap) (firsts L) (pre.length : Nat) W)
    (fun pre A A' h hk => ⟨h.1, h.2.kept hc5 hql hpl (by omega) hk (fun b hb => by have := HSZ.out; omega)⟩)
    (fun cd pre A A' h hk => ⟨h.1, h.2.kept hc5 hql hpl (by omega) hk (fun b hb => by have := HSZ.out; omega)⟩)
    (fun pre A h => h.2.rd)
    ⟨.inl rfl, HF0.out⟩
    (fun x A => { tmps := #[.pointer (some ⟨p, 0, none⟩), .pointer (some ⟨q, 0, none⟩), .int .i64 v, .bool false, .int .i64 mo, undef, .pointer (some ⟨w.heap.size, 0, none⟩), .pointer (some ⟨w.heap.size + 1, 0, none⟩), .pointer (some ⟨w.heap.size + 1 + 1, 0, none⟩), .pointer (some ⟨w.heap.size + 1 + 1 + 1, 0, none⟩), .pointer (some ⟨w.heap.size + 1 + 1 + 1 + 1, 0, none⟩), .pointer (some ⟨c, 0, none⟩), .pointer (some ⟨c + 1, 0, none⟩), .func (.func 63) #[] #[.pointer (some ⟨c + 2 + 1 + 1, 0, none⟩), .pointer (some ⟨c + 2 + 1 + 1 + 1, 0, none⟩)], .int .i64 (x.1 : Nat), .int .i64 x.2, .pointer (some ⟨q, 0, none⟩), .int .i64 v, .bool false, .slice ao C cap, .pointer (some ⟨p, 0, none⟩), .int .i64 v, .func (.func 63) #[] #[.pointer (some ⟨c + 2 + 1 + 1, 0, none⟩), .pointer (some ⟨c + 2 + 1 + 1 + 1, 0, none⟩)], .bool false, undef, undef, undef, .func (.func 63) #[] #[.pointer (some ⟨c + 2 + 1 + 1, 0, none⟩), .pointer (some ⟨c + 2 + 1 + 1 + 1, 0, none⟩)], .int .i64 (x.1 : Nat), .int .i64 x.2, undef, undef, undef, undef, undef, undef, undef, undef, undef, undef, undef, undef, undef, undef, undef, undef, undef, undef, undef, undef, undef, undef, undef, undef, undef, undef, undef, undef, undef, undef, undef, undef, undef, undef, undef, undef, undef, undef, undef, undef, undef, undef, undef, undef, undef, undef, undef, undef, undef, undef, undef, undef, undef, undef, undef, undef], defers := [] })
    (fun x A => A) (fun x W => Below.refl _ _) ?assign ?body ?done ?stop)
  case assign =>
    intro l x W K hK
    simp only [stepV]
    gi_wp2
    exact hK
  case body =>
    rintro l pre ⟨y, d⟩ A W rfl hr ⟨hmost, hF⟩ hpx hA hkA hsA
    dsimp only
    obtain ⟨hlc, hel⟩ := preX_snoc hpx
    have cl := hF.bl.cell
    have cn := hF.bk.cell
    have fn := hF.bk.frozen
    have cm := hF.b.bm.cell
    have c6 := hF.b.br.cell
    have c7 := hF.b.bv.cell
    have c8 := hF.b.bb.cell
    obtain ⟨ao', cap', he, hat⟩ := hF.row.at
    rw [firsts_len, ← HCL.out] at he
    cases he
    obtain ⟨b3, o3, rfl, hc⟩ := hat.2.2.2 (by rw [firsts_len]; omega)
    have ca := hc pre.length (by rw [firsts_len]; exact hlc)
    have hy : (firsts L)[pre.length]?.getD 0 = (y : Int) := by
      unfold firsts
      rw [List.getElem?_map, List.getElem?_eq_getElem hlc, hel]
      rfl
    rw [hy] at ca
    have hd : d = XM.dirE N D v false (y : Nat) := by
      have := HSM.out _ (List.getElem_mem hlc)
      rw [hel] at this
      exact this
    have hcall := HAT.out W hF.xq v y
    rw [show XM.atE N D v (y : Nat) = d from hd.symm] at hcall
    have hlC : (pre.length : Int) < (C : Int) := by have := HCL.out; omega
    have hp24 : pre.length ≤ 24 := by have := HCL.out; omega
    have hdc : decide (C ≤ pre.length) = false := decide_eq_false (by omega)
    have el : ((pre ++ [(y, d)]).length : Int) = (pre.length : Int) + 1 := by simp
    have HF : Hid (GF w q v mo false 45 p N D (c + 2) c (.slice (some ⟨b3, o3, none⟩) C cap) (firsts L) ((pre ++ [(y, d)]).length : Nat) (W.setCell ⟨c + 1, 0, none⟩ (.int .i64 ((pre.length : Int) + 1)))) := by
      show GF _ _ _ _ _ _ _ _ _ _ _ _ _ _ _
      rw [el]
      exact hF.count hc5 hql hpl (by omega) _
    have HBK : Hid (∀ b, W0.heap.size ≤ b → b < W0.heap.size + 2 → (W.setCell ⟨c + 1, 0, none⟩ (.int .i64 ((pre.length : Int) + 1))).heap[b]? = W.heap[b]?) := fun b h1 _ => Below.heap_setCell _ _ _ _ (by have := HSZ.out; show b ≠ c + 1; omega)
    have HME : Hid (pre = [] → pre.length = 0) := fun h => by rw [h]; rfl
    clear hF hat hc hy hd hel hlc hpx hr hkA hsA hgo HF0 HAT HSM hs5
    by_cases hmp : mo ≤ (pre.length : Int) + 1
    · have HMX : Hid (((pre ++ [(y, d)]).length : Int) = max mo 1) := by
        show _ = _
        rw [el]
        rcases hmost with h | h
        · have := HME.out h; omega
        · omega
      clear hmost el
      gi_wp2_with fail
      refine ⟨trivial, (CallsIn.inRound (W0.heap.size + 1) (callsIn_wide.2 hcall)).mono ?_⟩
      rintro e w4 ⟨rfl, hw4⟩
      rw [hw4]
      clear hw4 w4 hcall
      gi_wp2_with fail
      refine ⟨trivial, ?_⟩
      gi_wp2_with fail
      exact ⟨HBK.out, ⟨rfl, HMX.out⟩, HF.out⟩
    · have HMX : Hid (((pre ++ [(y, d)]).length : Int) < mo) := by
        show _ < _
        rw [el]
        omega
      clear hmost el
      gi_wp2_with fail
      refine ⟨trivial, (CallsIn.inRound (W0.heap.size + 1) (callsIn_wide.2 hcall)).mono ?_⟩
      rintro e w4 ⟨rfl, hw4⟩
      rw [hw4]
      clear hw4 w4 hcall
      gi_wp2_with fail
      refine ⟨trivial, ?_⟩
      gi_wp2_with fail
      exact ⟨HBK.out, .inr HMX.out, HF.out⟩
  case done =>
    rintro W ⟨hmost, hF⟩ hK
    have cl := hF.bl.cell
    have cn := hF.bk.cell
    have cm := hF.b.bm.cell
    have cr := hF.b.rs.cell
    have fr := hF.b.rs.frozen
    have HM1 : Hid (((L.length : Nat) : Int) = 0 ∨ ((L.length : Nat) : Int) < mo) := hmost.imp (fun h => by rw [h]; rfl) id
    rw [← HCL.out] at cn HM1
    have hBW := hF.b.bel
    have hDw : w.heap.size ≤ W0.heap.size := by have := HSZ.out; omega
    clear hmost hF hgo HF0 HAT HSM hs5
    go_wp2_with fail
    all_goals (refine goesX_out ?_ rfl cr hK hBW hDw)
    all_goals (have hm := HM1.out)
    all_goals first
      | rfl
      | (simp; omega)
      | omega
  case stop =>
    rintro cd pre W hpre ⟨⟨rfl, hmx⟩, hF⟩ hK
    have cl := hF.bl.cell
    have cn := hF.bk.cell
    have cm := hF.b.bm.cell
    have cr := hF.b.rs.cell
    have fr := hF.b.rs.frozen
    have HM1 : Hid ((pre.length : Int) = max mo 1 ∧ pre.length ≤ C) := ⟨hmx, by rw [HCL.out]; exact hpre.length_le⟩
    have hpl24 : pre.length ≤ 24 := by have := HM1.out.2; omega
    have hBW := hF.b.bel
    have hDw : w.heap.size ≤ W0.heap.size := by have := HSZ.out; omega
    clear hmx hpre hF hgo HF0 HAT HSM hs5
    generalize pre.length = Q at *
    refine wpIn_wide.2 ?_
    go_wp2_with fail
    all_goals (refine goesX_out ?_ rfl cr hK hBW hDw)
    all_goals (have hm := HM1.out)
    all_goals first
      | rfl
      | (simp; omega)
      | omega
theorem goXO_any {w : World} {p q N : Nat} {D : Nat → Nat → Int} (hg : XMem w p N D) (hq : XMem w q N D) (hm : XM.Mesh N D) (hN : N ≤ 24) (v mo : Int) :
    Calls Try.prog 13 #[.pointer (some ⟨p, 0, none⟩), .pointer (some ⟨q, 0, none⟩), .int .i64 v, .bool false, .int .i64 mo] w fun e w' => e = .returned (.bool true) ∧ Below w.heap.size w w' := callsIn_wide.1 (goXO_in hg hq hm hN v mo)
end Go.Proofs.Ytleckkpfnjpbiaa
