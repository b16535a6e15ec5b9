/-
  The walk of the law's goes, where it goes through In.
-/
import Derived.Test.YthoihkkabgedgaaGraphEndO
import Derived.Test.YthoihkkabgedgaaGraphEndI
import Derived.Test.YthoihkkabgedgaaGraphGoBase
namespace Go.Proofs.Ythoihkkabgedgaa
open Go.RowKit Go.Shelf
attribute [local go_sem] Oper.semAt_some

set_option maxRecDepth 100000 in
set_option maxHeartbeats 4000000 in
theorem goI_in {w : World} {p N most : Nat} {m : GM.M} (hg : GMem w p N most m) (hm : GM.Good most m) (v mo : Int) (lv : Value) (hrow : Row .i64 w lv ((GM.ends m v true).map (fun i : Nat => (i : Int)))) :
    CallsIn Fence.wide 6 Try.prog 18 #[.pointer (some ⟨p, 0, none⟩), .int .i64 v, .bool true, lv, .int .i64 mo] w fun e w' => e = .returned (.bool true) ∧ Below w.heap.size w w' := by
  have HGO : Hid (∀ B1 B2 Bv W, Goes 5 Try.prog 58 #[.pointer (some ⟨B1, 0, none⟩), .pointer (some ⟨B2, 0, none⟩)] oneNum (fun ys => ys = GM.ends m v true) (fun pre => pre <+: GM.ends m v true) 64
      (fun A => A.cell? ⟨B1, 0, none⟩ = some (.pointer (some ⟨p, 0, none⟩)) ∧ A.cell? ⟨B2, 0, none⟩ = some (.func (.func 56) #[] #[.pointer (some ⟨Bv, 0, none⟩)]) ∧ A.cell? ⟨Bv, 0, none⟩ = some (.int .i64 v) ∧ GMem A p N most m) W) := fun B1 B2 Bv W => thoseI_goes 5 (by decide) B1 B2 Bv p N most v m hm W
  have HG : Hid (∀ W, Below w.heap.size w W → GMem W p N most m) := fun W hW => hg.on hW
  obtain ⟨a3, c3, rfl, hat⟩ := hrow
  rw [List.length_map] at *
  have HAT : Hid (∀ W, Below w.heap.size w W → RowAt .i64 W a3 c3 ((GM.ends m v true).map (fun i : Nat => (i : Int)))) := fun W hW => hat.below hW
  have hc3 := hat.1
  have hc3' := hat.2.1
  rw [List.length_map] at hc3
  have hL64 : (GM.ends m v true).length ≤ 64 := by
    unfold GM.ends
    exact Nat.le_trans (List.length_filter_le _ _) (GM.ids_le m 64)
  have HOUT : Hid (∀ W, Calls Try.prog 41 #[.pointer (some ⟨p, 0, none⟩), .int .i64 v] W fun e w' => e = .returned (.func (.func 58) #[] #[.pointer (some ⟨W.heap.size + 1, 0, none⟩), .pointer (some ⟨W.heap.size + 1 + 1, 0, none⟩)]) ∧
      w' = ((W.alloc (.cells #[.int .i64 v] 3)).alloc (.cells #[.pointer (some ⟨p, 0, none⟩)] 24)).alloc (.cells #[.func (.func 55) #[] #[.pointer (some ⟨W.heap.size, 0, none⟩)]] 78)) := fun W => atO_any p v W
  have HIN : Hid (∀ W, Calls Try.prog 42 #[.pointer (some ⟨p, 0, none⟩), .int .i64 v] W fun e w' => e = .returned (.func (.func 58) #[] #[.pointer (some ⟨W.heap.size + 1, 0, none⟩), .pointer (some ⟨W.heap.size + 1 + 1, 0, none⟩)]) ∧
      w' = ((W.alloc (.cells #[.int .i64 v] 3)).alloc (.cells #[.pointer (some ⟨p, 0, none⟩)] 24)).alloc (.cells #[.func (.func 56) #[] #[.pointer (some ⟨W.heap.size, 0, none⟩)]] 78)) := fun W => atI_any p v W
  clear hg hm hat
  generalize GM.ends m v true = Ls at *
  obtain ⟨C, hC⟩ : ∃ C, C = Ls.length := ⟨_, rfl⟩
  have HCL : Hid (C = Ls.length) := hC
  rw [← hC] at hc3 hL64 ⊢
  clear hC
  refine callsIn_of_wp_marks Try.func18 rfl trivial ?_ rfl
  simp only [Try.ntmps18, List.size_toArray, List.length_cons, List.length_nil, Nat.reduceAdd, Nat.reduceSub, Array.replicate_succ, Array.replicate_zero, List.push_toArray, List.append_toArray, List.nil_append, List.cons_append]
  refine wpIn_wide.2 ?_
  go_wp2_with fail
  refine (HOUT.out _).mono ?_
  rintro e w1 ⟨rfl, hw1⟩
  simp only [World.size_alloc]
  have hF1 := go_fix w (.slice a3 C c3) (.int .i64 mo) p v 55 w1 hw1
  clear hw1 HOUT
  obtain ⟨hF1, hK1, hS1⟩ := hF1
  have HF1 : Hid (Fix w (.slice a3 C c3) (.int .i64 mo) p v 55 (w.heap.size + 4) w1) := hF1
  have HK1 : Hid (Boxed w1 (w.heap.size + 1 + 1 + 1) 3 (.int .i64 0)) := hK1
  have HS1 : Hid (w1.heap.size = w.heap.size + 7) := hS1
  clear hF1 hK1 hS1
  go_wp2_with fail
  refine (HIN.out w1).mono ?_
  rintro e W0 ⟨rfl, hw2⟩
  obtain ⟨hF2, hK1, hS2⟩ := go_fix2 HF1.out HK1.out HS1.out hw2
  obtain ⟨b, hb⟩ : ∃ b, w1.heap.size = b := ⟨_, rfl⟩
  have hb7 : w.heap.size + 7 = b := by rw [← hb]; exact HS1.out.symm
  have hF0 : Fix w (.slice a3 C c3) (.int .i64 mo) p v 56 b W0 := by
    rw [← hb7]
    exact hF2
  have hS0 : W0.heap.size = b + 3 := by omega
  have hbw : w.heap.size + 4 ≤ b := by omega
  rw [hb]
  clear HIN hF2 hS2 hb hb7 hw2 HF1 HK1 HS1
  go_wp2_with fail
  have hgo := HGO.out (b + 1) (b + 1 + 1) b W0
  clear HGO
  refine (wpIn_wide (n := 6)).1 (range_goes (by decide) (gf := 58) (lb := #[.pointer (some ⟨b + 1, 0, none⟩), .pointer (some ⟨b + 1 + 1, 0, none⟩)]) rfl (enters_of Try.func58 (by kernel_rfl) rfl) hgo (fun _ => rfl)
    (fun pre W => (pre <+: Ls ∧ (pre = [] ∨ (pre.length : Int) < mo)) ∧ Boxed W (w.heap.size + 1 + 1 + 1) 3 (.int .i64 (pre.length : Nat)) ∧ Fix w (.slice a3 C c3) (.int .i64 mo) p v 56 b W)
    (fun c pre W => (c = .ret ∧ ¬ pre <+: Ls) ∨ ((c = .exit 0 ∧ pre <+: Ls ∧ (pre.length : Int) = max mo 1) ∧ Boxed W (w.heap.size + 1 + 1 + 1) 3 (.int .i64 (pre.length : Nat)) ∧ Fix w (.slice a3 C c3) (.int .i64 mo) p v 56 b W))
    (fun pre A A' h hb => ⟨h.1, (hb.block _ (by omega)).trans h.2.1, h.2.2.below hb (by omega) (by omega)⟩)
    (fun c pre A A' h hb => h.imp id (fun h => ⟨h.1, (hb.block _ (by omega)).trans h.2.1, h.2.2.below hb (by omega) (by omega)⟩))
    (fun pre A h => ⟨h.2.2.bp.cell, h.2.2.bf.cell, h.2.2.bv.cell, HG.out A h.2.2.bel⟩)
    ⟨⟨List.nil_prefix, .inl rfl⟩, hK1, hF0⟩
    (fun y => { tmps := #[.pointer (some ⟨p, 0, none⟩), .int .i64 v, .bool true, .slice a3 C c3, .int .i64 mo, undef, undef, undef, .pointer (some ⟨w.heap.size, 0, none⟩), .pointer (some ⟨w.heap.size + 1, 0, none⟩), .pointer (some ⟨w.heap.size + 1 + 1, 0, none⟩), .pointer (some ⟨w.heap.size + 1 + 1 + 1, 0, none⟩), .func (.func 58) #[] #[.pointer (some ⟨b + 1, 0, none⟩), .pointer (some ⟨b + 1 + 1, 0, none⟩)], .int .i64 (y : Nat), .pointer (some ⟨p, 0, none⟩), .int .i64 v, .func (.func 58) #[] #[.pointer (some ⟨w.heap.size + 1 + 1 + 1 + 1 + 1, 0, none⟩), .pointer (some ⟨w.heap.size + 1 + 1 + 1 + 1 + 1 + 1, 0, none⟩)], .bool true, .pointer (some ⟨p, 0, none⟩), .int .i64 v, .func (.func 58) #[] #[.pointer (some ⟨b + 1, 0, none⟩), .pointer (some ⟨b + 1 + 1, 0, none⟩)], .func (.func 58) #[] #[.pointer (some ⟨b + 1, 0, none⟩), .pointer (some ⟨b + 1 + 1, 0, none⟩)], .int .i64 (y : Nat), undef, undef, undef, undef, undef, undef, undef, undef, undef, undef, undef, undef, undef, undef, undef, undef, undef, undef, undef, undef, undef, undef, undef, undef, undef, undef, undef, undef, undef, undef, undef, undef, undef], defers := [] }) ?assign ?body ?done ?stop)
  case assign =>
    intro l y W K hK
    simp only [oneNum]
    gi_wp2
    exact hK
  case body =>
    rintro l pre y W ⟨⟨hpre, hmost⟩, hbn, hF⟩ hlt
    have cl := hF.bl.cell
    have cm := hF.bm.cell
    have cr := hF.br.cell
    have fr := hF.br.frozen
    have cn := hbn.cell
    have fn := hbn.frozen
    have HBN : Hid (Boxed W (w.heap.size + 1 + 1 + 1) 3 (.int .i64 (pre.length : Nat))) := hbn
    have HF : Hid (Fix w (.slice a3 C c3) (.int .i64 mo) p v 56 b W) := hF
    have hat := HAT.out W hF.bel
    have hln : Hid (pre = [] → pre.length = 0) := fun h => by rw [h]; rfl
    have HASR : Hid (Above W0.heap.size W (W.setCell ⟨w.heap.size + 1 + 1, 0, none⟩ (.bool false))) := (keeps_set W (w.heap.size + 1 + 1) 0 _).mono (fun b' hb' => by omega)
    have HS0 : Hid (W0.heap.size = b + 3) := hS0
    clear hbn hF hgo hK1 hF0 hS0
    by_cases hlc : pre.length < Ls.length
    · obtain ⟨b3, o3, rfl, hc⟩ := hat.2.2.2 (by rw [List.length_map]; omega)
      have ca := hc pre.length (by rw [List.length_map]; exact hlc)
      have HPX : Hid (pre ++ [y] <+: Ls ↔ Ls[pre.length] = y) := pre_snoc hpre hlc y
      rw [List.getElem?_map, List.getElem?_eq_getElem hlc, Option.map_some, Option.getD_some] at ca
      have hlC : (pre.length : Int) < (C : Int) := by have := HCL.out; omega
      generalize Ls[pre.length] = z at *
      clear hat hc
      by_cases h1 : z = y
      · subst h1
        have HP2 : Hid (pre ++ [z] <+: Ls) := HPX.out.2 rfl
        have el : ((pre ++ [z]).length : Int) = (pre.length : Int) + 1 := by simp
        have HBN2 : Hid (Boxed (W.setCell ⟨w.heap.size + 1 + 1 + 1, 0, none⟩ (.int .i64 ((pre.length : Int) + 1))) (w.heap.size + 1 + 1 + 1) 3 (.int .i64 ((pre ++ [z]).length : Nat))) := by
          show Boxed _ _ _ _
          rw [el]
          exact HBN.out.set _
        have HF2 : Hid (Fix w (.slice (some ⟨b3, o3, none⟩) C c3) (.int .i64 mo) p v 56 b (W.setCell ⟨w.heap.size + 1 + 1 + 1, 0, none⟩ (.int .i64 ((pre.length : Int) + 1)))) := HF.out.count hbw _
        have HAS : Hid (Above W0.heap.size W (W.setCell ⟨w.heap.size + 1 + 1 + 1, 0, none⟩ (.int .i64 ((pre.length : Int) + 1)))) := (keeps_set W (w.heap.size + 1 + 1 + 1) 0 _).mono (fun b' hb' => by have := HS0.out; omega)
        clear el HPX
        by_cases hmp : mo ≤ (pre.length : Int) + 1
        · have HMX : Hid (((pre ++ [z]).length : Int) = max mo 1) := by
            show _ = _
            simp
            rcases hmost with h | h
            · have := hln.out h; omega
            · omega
          clear hmost
          gi_wp2
          exact ⟨HAS.out, .inr ⟨⟨rfl, HP2.out, HMX.out⟩, HBN2.out, HF2.out⟩⟩
        · have HMX : Hid (((pre ++ [z]).length : Int) < mo) := by
            show _ < _
            simp
            omega
          clear hmost
          gi_wp2
          exact ⟨HAS.out, ⟨HP2.out, .inr HMX.out⟩, HBN2.out, HF2.out⟩
      · have h1' : ((z : Int) != (y : Int)) = true := by simp; omega
        have hlC' : ¬ C ≤ pre.length := by omega
        have HP2 : Hid (¬ pre ++ [y] <+: Ls) := fun h => h1 (HPX.out.1 h)
        clear HPX hmost
        gi_wp2
        exact ⟨HASR.out, .inl ⟨rfl, HP2.out⟩⟩
    · have HP2 : Hid (¬ pre ++ [y] <+: Ls) := fun h => by
        have := h.length_le
        simp at this
        omega
      have hlC : ¬ (pre.length : Int) < (C : Int) := by have := HCL.out; omega
      clear hmost hat
      gi_wp2
      exact ⟨HASR.out, .inl ⟨rfl, HP2.out⟩⟩
  case done =>
    rintro ys W hys ⟨⟨hpre, hmost⟩, hbn, hF⟩ hK
    have cl := hF.bl.cell
    have cm := hF.bm.cell
    have cr := hF.br.cell
    have fr := hF.br.frozen
    have cn := hbn.cell
    have HM1 : Hid (((ys.length : Nat) : Int) = 0 ∨ ((ys.length : Nat) : Int) < mo) := hmost.imp (fun h => by rw [h]; rfl) id
    have hyl : ys.length = C := by rw [hys]; exact HCL.out.symm
    rw [hyl] at cn HM1
    have hBW := hF.bel
    have hDw : w.heap.size ≤ W0.heap.size := by omega
    clear hmost hpre hbn hF hgo hK1 hF0 hys hyl
    go_wp2_with fail
    all_goals (refine goes_out ?_ rfl cr (by first | exact hK | (rw [← hS0]; exact hK)) hBW (by omega))
    all_goals (have hm := HM1.out)
    all_goals first
      | rfl
      | (simp; omega)
      | omega
  case stop =>
    rintro c pre W hpre (⟨rfl, h⟩ | ⟨⟨rfl, hp, hmx⟩, hbn, hF⟩) hK
    · exact absurd hpre h
    · have cl := hF.bl.cell
      have cm := hF.bm.cell
      have cr := hF.br.cell
      have fr := hF.br.frozen
      have cn := hbn.cell
      have HM1 : Hid ((pre.length : Int) = max mo 1 ∧ pre.length ≤ C) := ⟨hmx, by rw [HCL.out]; exact hp.length_le⟩
      have hpl : pre.length ≤ 64 := by have := HM1.out.2; omega
      have hBW := hF.bel
      have hDw : w.heap.size ≤ W0.heap.size := by omega
      clear hmx hp hpre hbn hF hgo hK1 hF0
      generalize pre.length = Q at *
      refine wpIn_wide.2 ?_
      go_wp2_with fail
      all_goals (refine goes_out ?_ rfl cr (by first | exact hK | (rw [← hS0]; exact hK)) hBW (by omega))
      all_goals (have hm := HM1.out)
      all_goals first
        | rfl
        | (simp; omega)
        | omega
theorem goI_any {w : World} {p N most : Nat} {m : GM.M} (hg : GMem w p N most m) (hm : GM.Good most m) (v mo : Int) (lv : Value) (hrow : Row .i64 w lv ((GM.ends m v true).map (fun i : Nat => (i : Int)))) :
    Calls Try.prog 18 #[.pointer (some ⟨p, 0, none⟩), .int .i64 v, .bool true, lv, .int .i64 mo] w fun e w' => e = .returned (.bool true) ∧ Below w.heap.size w w' := callsIn_wide.1 (goI_in hg hm v mo lv hrow)
end Go.Proofs.Ythoihkkabgedgaa
