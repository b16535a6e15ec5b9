/-
  WalkRef, WalkRef2.
-/
import Derived.Test.YtmamligiopbefaaMmWalkDist
import Derived.Test.YtmamligiopbefaaMmMaths
import Derived.Test.YtmamligiopbefaaMmGraphIds
import Derived.Test.YtmamligiopbefaaMmInts
import Derived.Deep.DeepCutAuto
section
/-
  The walks of the document's Sum, Visits, Check and Simple (layer 9), to the same answers as the program's.
-/
namespace Go.Proofs.Ytmamligiopbefaa
open Go.RowKit

set_option maxRecDepth 100000 in
set_option maxHeartbeats 2000000 in
theorem rsum_any {w : World} {q N most : Nat} {m : GM.M} (hg : RMem w q N most m) {v : Value} {zs : List Int} (hrow : Row .i64 w v zs) :
    Calls Try.prog 28 #[.pointer (some ⟨q, 0, none⟩), v] w fun e w' => e = .returned (.int .i64 (WK.wsum (WK.list m zs))) ∧ Below w.heap.size w w' := by
  obtain ⟨ao, cap, rfl, hat⟩ := hrow
  have hml : zs.length ≤ 9223372036854775807 := by have := hat.1; have := hat.2.1; unfold maxLen at this; omega
  have HRW : Hid (∀ W, Below w.heap.size w W → RowAt .i64 W ao cap zs) := fun W hW => hat.below hW
  have HA : Hid (∀ W id, Below w.heap.size w W → Calls Try.prog 57 #[.pointer (some ⟨q, 0, none⟩), .int .i64 id] W fun e w' => e = .returned (.tuple #[arcV (GM.look m id).1, .bool (GM.look m id).2]) ∧ Below W.heap.size W w') := fun W id hW => rarc_any (hg.on hW) id
  have HC1 : Hid (∀ k, WK.gone (WK.list m (zs.take k)) = true → WK.wsum (WK.list m zs) = 4611686018427387906) := fun k h2 => WK.wsum_gone (WK.list_pre m zs k) h2
  have HC2 : Hid (WK.gone (WK.list m zs) = false → WK.wsum (WK.list m zs) = WK.tsum (WK.list m zs)) := fun h => WK.wsum_all h
  have HT : Hid (∀ k (hk : k < zs.length), WK.list m (zs.take (k + 1)) = WK.list m (zs.take k) ++ [WK.arcOf m zs[k]]) := fun k hk => WK.list_snoc m zs k hk
  clear hg hat
  obtain ⟨L, hL⟩ : ∃ L, L = zs.length := ⟨_, rfl⟩
  have HL : Hid (L = zs.length) := hL
  rw [← hL] at hml ⊢
  clear hL
  generalize WK.wsum (WK.list m zs) = C at *
  go_enter Try.func28, Try.ntmps28
  go_wp2_with fail
  go_loopw [5, 6] (fun sv iv wr => ∃ k : Nat, k ≤ L ∧ iv = .int .i64 k ∧ sv = .int .i64 (WK.tsum (WK.list m (zs.take k))) ∧ Hid (WK.gone (WK.list m (zs.take k)) = false) ∧ Below w.heap.size w wr) (fun _ iv _ => L - (intOf iv).toNat)
  case atStart => exact ⟨0, Nat.zero_le _, rfl, rfl, rfl, Below.refl _ _⟩
  case round =>
    obtain ⟨k, hk, rfl, rfl, hgn, hbr⟩ := hrel
    by_cases hlt : k < L
    · have hz : k < zs.length := by rw [← HL.out]; exact hlt
      obtain ⟨b, o, rfl, hc⟩ := (HRW.out wr hbr).2.2.2 (by omega)
      have hck := hc k hz
      rw [List.getElem?_eq_getElem hz, Option.getD_some] at hck
      have hca := HA.out wr zs[k] hbr
      have HE : Hid (WK.list m (zs.take (k + 1)) = WK.list m (zs.take k) ++ [((GM.look m zs[k]).1, WK.code1 (GM.look m zs[k]))]) := HT.out k hz
      have HBR : Hid (Below w.heap.size w wr) := hbr
      clear hc hbr
      generalize zs[k] = z at *
      generalize GM.look m z = lk at *
      obtain ⟨⟨t, h, x, c⟩, fd⟩ := lk
      simp only [arcV] at hca
      have HTS : Hid (WK.tsum (WK.list m (zs.take (k + 1))) = DM.two (WK.tsum (WK.list m (zs.take k))) x) := by
        show _ = _
        rw [HE.out, WK.tsum_snoc]
      have k1 : (k : Int) < (L : Int) := by omega
      cases fd with
      | false =>
        have HG1 : Hid (C = 4611686018427387906) := HC1.out (k + 1) (by
          rw [HE.out, WK.gone_snoc]
          simp [WK.code1])
        clear HE HTS hgn
        go_wp2_with fail
        refine hca.mono ?_
        rintro e w2 ⟨rfl, hb2⟩
        have HB2 : Hid (∀ o, Below w.heap.size w (w2.alloc o)) := fun o => below_new (below_on HBR.out hb2) o
        clear hca hb2
        go_wp2_with fail
        go_ret
        exact ⟨by rw [HG1.out]; rfl, HB2.out _⟩
      | true =>
        have HG1 : Hid (WK.gone (WK.list m (zs.take (k + 1))) = false) := by
          show _ = _
          rw [HE.out, WK.gone_snoc, hgn.out]
          cases c <;> simp [WK.code1]
        clear HE hgn
        generalize WK.tsum (WK.list m (zs.take k)) = s at *
        go_wp2_with fail
        refine hca.mono ?_
        rintro e w2 ⟨rfl, hb2⟩
        have HB2 : Hid (∀ o, Below w.heap.size w (w2.alloc o)) := fun o => below_new (below_on HBR.out hb2) o
        clear hca hb2
        go_wp2_with fail
        refine (two_any _ _ _).mono ?_
        rintro e w3 ⟨rfl, rfl⟩
        go_wp2_with fail
        go_roundw
        case rel => exact ⟨k + 1, by omega, by go_num, by rw [HTS.out], HG1, HB2.out _⟩
        case measure => simp [intOf]; omega
    · obtain rfl : k = L := by omega
      have HW : Hid (zs.take k = zs) := List.take_of_length_le (by rw [← HL.out]; exact Nat.le_refl _)
      rw [HW.out] at hgn ⊢
      have HG1 : Hid (C = WK.tsum (WK.list m zs)) := HC2.out hgn.out
      clear hgn
      go_wp2_with fail
      go_ret
      exact ⟨by rw [HG1.out]; rfl, hbr⟩

namespace WK
theorem list_split (m : GM.M) (zs : List Int) (k : Nat) (hk : k < zs.length) : list m zs = list m (zs.take k) ++ arcOf m zs[k] :: list m (zs.drop (k + 1)) := by
  unfold list
  rw [← List.map_cons, List.getElem_cons_drop, ← List.map_append, List.take_append_drop]
theorem heads_snoc (xs : List (Arc × Int)) (x : Arc × Int) : heads (xs ++ [x]) = heads xs ++ [x.1.head] := by
  unfold heads
  rw [List.map_append]
  rfl
theorem heads_len (xs : List (Arc × Int)) : (heads xs).length = xs.length := by simp [heads]
theorem here_at (u : Int) (xs : List (Arc × Int)) {k : Nat} (hk : xs.length = k) : (u :: heads xs)[k]?.getD 0 = last u xs := by
  unfold last
  rw [← heads_len] at hk
  subst hk
  cases h : heads xs with
  | nil => rfl
  | cons a l =>
    have h2 : (a :: l)[l.length]? = some ((a :: l).getLast (by simp)) := by
      rw [List.getLast_eq_getElem]
      simp
    rw [List.length_cons, List.getElem?_cons_succ, h2]
    rfl
theorem ends_self {u : Int} {xs : List (Arc × Int)} {b : Int} (h : ends u xs = some b) : ends u xs = some (last u xs) := by rw [(ends_last h).1, h]
end WK

set_option maxRecDepth 100000 in
set_option maxHeartbeats 4000000 in
theorem rvisits_any {w : World} {q N most : Nat} {m : GM.M} (hg : RMem w q N most m) (u : Int) {v : Value} {zs : List Int} (hrow : Row .i64 w v zs) (hzs : zs.length ≤ 1000) :
    Calls Try.prog 56 #[.pointer (some ⟨q, 0, none⟩), .int .i64 u, v] w fun e w' => ∃ r, e = .returned (.tuple #[r, .int .i64 (WK.vcode N u (WK.list m zs))]) ∧ Own .i64 3 w' w.heap.size r (WK.vlist N u (WK.list m zs)) ∧ Below w.heap.size w w' := by
  obtain ⟨i0, hi, hz0, hz1, hz2⟩ := info_parts info3
  have hve := vertex_any hg u
  obtain ⟨ao, cap, rfl, hat⟩ := hrow
  have HRW : Hid (∀ W, Below w.heap.size w W → RowAt .i64 W ao cap zs) := fun W hW => hat.below hW
  have HA : Hid (∀ W id, Below w.heap.size w W → Calls Try.prog 57 #[.pointer (some ⟨q, 0, none⟩), .int .i64 id] W fun e w' => e = .returned (.tuple #[arcV (GM.look m id).1, .bool (GM.look m id).2]) ∧ Below W.heap.size W w') := fun W id hW => rarc_any (hg.on hW) id
  cases hvu : GM.vert N u with
  | false =>
    have e1 : WK.vcode N u (WK.list m zs) = 1 := by unfold WK.vcode; rw [hvu]; rfl
    have e2 : WK.vlist N u (WK.list m zs) = [] := by unfold WK.vlist; rw [e1]; rfl
    rw [e1, e2]
    rw [hvu] at hve
    clear hg hat hvu e1 e2
    go_enter Try.func56, Try.ntmps56
    go_wp2_with fail
    refine hve.mono ?_
    rintro e w2 ⟨rfl, rfl⟩
    go_wp2_with fail
    go_ret2
    exact ⟨_, rfl, Own.nil _ _ _ _, Below.refl _ _⟩
  | true =>
    have HF : Hid (∀ k (hk : k < zs.length), WK.ends u (WK.list m (zs.take k)) = some (WK.last u (WK.list m (zs.take k))) → WK.codeAt (WK.last u (WK.list m (zs.take k))) (WK.arcOf m zs[k]) ≠ 0 → WK.vcode N u (WK.list m zs) = WK.codeAt (WK.last u (WK.list m (zs.take k))) (WK.arcOf m zs[k]) ∧ WK.vlist N u (WK.list m zs) = []) := fun k hk he h0 => by
      have e1 : WK.vcode N u (WK.list m zs) = WK.codeAt (WK.last u (WK.list m (zs.take k))) (WK.arcOf m zs[k]) := by
        unfold WK.vcode
        rw [hvu, if_pos rfl, WK.list_split m zs k hk]
        exact WK.tcode_at he h0
      refine ⟨e1, ?_⟩
      unfold WK.vlist
      rw [e1, if_neg h0]
    have HOK : Hid (∀ k (hk : k < zs.length), WK.ends u (WK.list m (zs.take k)) = some (WK.last u (WK.list m (zs.take k))) → WK.codeAt (WK.last u (WK.list m (zs.take k))) (WK.arcOf m zs[k]) = 0 → WK.ends u (WK.list m (zs.take (k + 1))) = some (WK.last u (WK.list m (zs.take (k + 1)))) ∧ u :: WK.heads (WK.list m (zs.take (k + 1))) = (u :: WK.heads (WK.list m (zs.take k))) ++ [(GM.look m zs[k]).1.head]) := fun k hk he h0 => by
      rw [WK.list_snoc m zs k hk]
      refine ⟨WK.ends_self (WK.ends_snoc he h0), ?_⟩
      rw [WK.heads_snoc]
      rfl
    have HEND : Hid (WK.ends u (WK.list m zs) = some (WK.last u (WK.list m zs)) → WK.vcode N u (WK.list m zs) = 0 ∧ WK.vlist N u (WK.list m zs) = u :: WK.heads (WK.list m zs)) := fun he => by
      have e1 : WK.vcode N u (WK.list m zs) = 0 := by
        unfold WK.vcode
        rw [hvu, if_pos rfl, (WK.ends_last he).2]
      refine ⟨e1, ?_⟩
      unfold WK.vlist
      rw [e1, if_pos rfl]
    have HAT : Hid (∀ k, k ≤ zs.length → (u :: WK.heads (WK.list m (zs.take k)))[k]?.getD 0 = WK.last u (WK.list m (zs.take k)) ∧ (u :: WK.heads (WK.list m (zs.take k))).length = k + 1) := fun k hk => by
      have hl : (WK.list m (zs.take k)).length = k := by rw [WK.list_len, List.length_take]; omega
      refine ⟨WK.here_at u _ hl, ?_⟩
      rw [List.length_cons, WK.heads_len, hl]
    rw [hvu] at hve
    clear hg hat hvu
    obtain ⟨L, hL⟩ : ∃ L, L = zs.length := ⟨_, rfl⟩
    have HL : Hid (L = zs.length) := hL
    rw [← hL] at hzs ⊢
    clear hL
    generalize WK.vcode N u (WK.list m zs) = C at *
    generalize WK.vlist N u (WK.list m zs) = V at *
    go_enter Try.func56, Try.ntmps56
    go_wp2_with fail
    refine hve.mono ?_
    rintro e w2 ⟨rfl, hw2⟩
    rw [hw2]
    clear hw2 w2 hve
    go_wp2_with fail
    go_loopw [8, 9] (fun ov iv wr => ∃ k : Nat, k ≤ L ∧ iv = .int .i64 k ∧ Own .i64 3 wr w.heap.size ov (u :: WK.heads (WK.list m (zs.take k))) ∧ Hid (WK.ends u (WK.list m (zs.take k)) = some (WK.last u (WK.list m (zs.take k)))) ∧ Below w.heap.size w wr) (fun _ iv _ => L - (intOf iv).toNat)
    case atStart => exact ⟨0, Nat.zero_le _, rfl, Own.lit .i64 3 w w.heap.size (Nat.le_refl _) [u] _ _ rfl rfl (by simp [maxLen]), rfl, below_new (Below.refl _ _) _⟩
    case round =>
      obtain ⟨k, hk, rfl, how, hends, hbr⟩ := hrel
      have hzk : k ≤ zs.length := by rw [← HL.out]; exact hk
      obtain ⟨hpos, hlen⟩ := HAT.out k hzk
      by_cases hlt : k < L
      · have hz : k < zs.length := by rw [← HL.out]; exact hlt
        obtain ⟨b, o, rfl, hc⟩ := (HRW.out wr hbr).2.2.2 (by omega)
        have hck := hc k hz
        rw [List.getElem?_eq_getElem hz, Option.getD_some] at hck
        have hca := HA.out wr zs[k] hbr
        have HF1 := HF.out k hz hends.out
        have HO1 := HOK.out k hz hends.out
        unfold WK.arcOf at HF1 HO1
        obtain ⟨ao2, cap2, rfl, hat2⟩ := how.at
        obtain ⟨b2, o2, rfl, hc2⟩ := hat2.2.2.2 (by omega)
        have hcp := hc2 k (by omega)
        rw [hpos] at hcp
        have HBR : Hid (Below w.heap.size w wr) := hbr
        have hbp := cell_lt hcp
        have HBP : Hid (b2 < wr.heap.size) := hbp
        have HHO : Hid (Own .i64 3 wr w.heap.size (.slice (some ⟨b2, o2, none⟩) (u :: WK.heads (WK.list m (zs.take k))).length cap2) (u :: WK.heads (WK.list m (zs.take k)))) := how
        clear hc hbr hc2 hat2 how hends hpos hbp
        generalize zs[k] = z at *
        generalize GM.look m z = lk at *
        generalize WK.last u (WK.list m (zs.take k)) = ps at *
        generalize u :: WK.heads (WK.list m (zs.take k)) = Z at *
        rw [hlen] at HHO ⊢
        obtain ⟨⟨t, h, x, c⟩, fd⟩ := lk
        simp only [arcV] at hca
        have k1 : (k : Int) < (L : Int) := by omega
        have k2 : (k : Int) < ((k + 1 : Nat) : Int) := by omega
        cases fd with
        | false =>
          have HX : Hid (C = 3 ∧ V = []) := HF1 (by simp [WK.codeAt, WK.code1])
          clear HF1 HO1
          go_wp2_with fail
          refine hca.mono ?_
          rintro e w2 ⟨rfl, hb2⟩
          have HB2 : Hid (∀ o, Below w.heap.size w (w2.alloc o)) := fun o => below_new (below_on HBR.out hb2) o
          clear hca hb2
          go_wp2_with fail
          go_ret2
          obtain ⟨rfl, rfl⟩ := HX.out
          exact ⟨_, rfl, Own.nil _ _ _ _, HB2.out _⟩
        | true =>
          cases c with
          | true =>
            have HX : Hid (C = 5 ∧ V = []) := HF1 (by simp [WK.codeAt, WK.code1])
            clear HF1 HO1
            go_wp2_with fail
            refine hca.mono ?_
            rintro e w2 ⟨rfl, hb2⟩
            have HB2 : Hid (∀ o, Below w.heap.size w (w2.alloc o)) := fun o => below_new (below_on HBR.out hb2) o
            clear hca hb2
            go_wp2_with fail
            go_ret2
            obtain ⟨rfl, rfl⟩ := HX.out
            exact ⟨_, rfl, Own.nil _ _ _ _, HB2.out _⟩
          | false =>
            by_cases htp : t = ps
            · have HX : Hid (WK.ends u (WK.list m (zs.take (k + 1))) = some (WK.last u (WK.list m (zs.take (k + 1)))) ∧ u :: WK.heads (WK.list m (zs.take (k + 1))) = Z ++ [h]) := HO1 (WK.codeAt_zero.2 ⟨rfl, htp⟩)
              clear HF1 HO1
              subst htp
              go_wp2_with fail
              refine hca.mono ?_
              rintro e w2 ⟨rfl, hb2⟩
              have hb3 : Below wr.heap.size wr (w2.alloc (.cells #[.int .i64 t, .int .i64 h, .int .i64 x, .bool false] 33)) := below_new hb2 _
              have hin := arcIn_new w2 t h x false
              have hcp3 := (hb3.cell (p := ⟨b2, o2 + k, none⟩) HBP.out).trans hcp
              have HB3 : Hid (Below w.heap.size w (w2.alloc (.cells #[.int .i64 t, .int .i64 h, .int .i64 x, .bool false] 33))) := below_on HBR.out hb3
              have HO3 : Hid (Own .i64 3 (w2.alloc (.cells #[.int .i64 t, .int .i64 h, .int .i64 x, .bool false] 33)) w.heap.size (.slice (some ⟨b2, o2, none⟩) (k + 1) cap2) Z) := HHO.out.below hb3
              clear hca hb2 hb3 hck hcp
              go_upto_region 12 with fail
              generalize hWg : w2.heap.size = g at *
              generalize w2.alloc (.cells #[.int .i64 t, .int .i64 h, .int .i64 x, .bool false] 33) = W3 at *
              obtain ⟨a0, a1, a2, a3⟩ := hin
              simp only [Nat.zero_add] at a1 a2 a3
              dsimp only at a0 a1
              go_cut [43] (fun s wx => s = .bool false ∧ Below W3.heap.size W3 wx)
              case first =>
                clear HO3 HB3 HX
                go_region
                all_goals
                  go_wp2_with fail
                  go_meet
                  exact ⟨by simp, below_drewN (Below.refl _ _) _⟩
              case rest =>
              obtain ⟨rfl, hbc⟩ := hcut
              have a1' := (hbc.cell (p := ⟨g, 1, none⟩) (cell_lt a1)).trans a1
              have HBC : Hid (Below w.heap.size w wc) := below_on HB3.out hbc
              have HOC : Hid (Own .i64 3 wc w.heap.size (.slice (some ⟨b2, o2, none⟩) (k + 1) cap2) Z) := HO3.out.below hbc
              clear hbc a0 a1 a2 a3 hcp3
              go_wp2_with (at_builtin; refine wpList_append_row _ rfl _ _ 41 rfl .i64 w.heap.size 3 i0 8 Try.underlying41 hi hz0 hz1 hz2 _ Z rfl (HOC.out.alloc _) (some ⟨wc.heap.size, 0, none⟩) 1 1 [h] rfl rfl (rowAt_lit1 _ _ _ _) (by unfold maxLen; simp; omega) (by simp; omega) (by have := HBC.out.size; simp; omega) ?_)
              intro v2 w2 hown2 hgrow2 _
              have hb2 : Below w.heap.size w w2 := (HBC.out.alloc HBC.out.size _).grown hgrow2 (by have := HBC.out.size; simp; omega) (fun g hg => HOC.out.block g hg)
              have HO2 : Hid (Own .i64 3 w2 w.heap.size v2 (u :: WK.heads (WK.list m (zs.take (k + 1))))) := by
                show Own _ _ _ _ _ _
                rw [HX.out.2]
                exact hown2
              have HB2 : Hid (Below w.heap.size w w2) := hb2
              clear hown2 hgrow2 hb2 a1'
              go_wp2_with fail
              go_roundw
              case rel => exact ⟨k + 1, by omega, by go_num, HO2.out, HX.out.1, HB2.out⟩
              case measure => simp [intOf]; omega
            · have htp' : (t != ps) = true := by simpa using htp
              have h8 : WK.codeAt ps ((⟨t, h, x, false⟩ : Arc), WK.code1 ((⟨t, h, x, false⟩ : Arc), true)) = 8 := by simp [WK.codeAt, WK.code1, htp]
              have HX : Hid (C = 8 ∧ V = []) := by
                have := HF1 (by show WK.codeAt ps ((⟨t, h, x, false⟩ : Arc), WK.code1 ((⟨t, h, x, false⟩ : Arc), true)) ≠ 0; rw [h8]; decide)
                exact ⟨this.1.trans h8, this.2⟩
              clear HF1 HO1 h8
              go_wp2_with fail
              refine hca.mono ?_
              rintro e w2 ⟨rfl, hb2⟩
              have hb3 : Below wr.heap.size wr (w2.alloc (.cells #[.int .i64 t, .int .i64 h, .int .i64 x, .bool false] 33)) := below_new hb2 _
              have hin := arcIn_new w2 t h x false
              have hcp3 := (hb3.cell (p := ⟨b2, o2 + k, none⟩) HBP.out).trans hcp
              have HB3 : Hid (Below w.heap.size w (w2.alloc (.cells #[.int .i64 t, .int .i64 h, .int .i64 x, .bool false] 33))) := below_on HBR.out hb3
              clear hca hb2 hb3 hck hcp
              go_upto_region 12 with fail
              generalize hWg : w2.heap.size = g at *
              generalize w2.alloc (.cells #[.int .i64 t, .int .i64 h, .int .i64 x, .bool false] 33) = W3 at *
              obtain ⟨a0, a1, a2, a3⟩ := hin
              simp only [Nat.zero_add] at a1 a2 a3
              dsimp only at a0 a1
              go_cut [43] (fun s wx => s = .bool true ∧ Below W3.heap.size W3 wx)
              case first =>
                clear HB3 HX
                go_region
                all_goals
                  go_wp2_with fail
                  go_meet
                  exact ⟨by simp, below_drewN (Below.refl _ _) _⟩
              case rest =>
              obtain ⟨rfl, hbc⟩ := hcut
              have HBC : Hid (Below w.heap.size w wc) := below_on HB3.out hbc
              clear hbc a0 a1 a2 a3 hcp3
              go_wp2_with fail
              go_ret2
              obtain ⟨rfl, rfl⟩ := HX.out
              exact ⟨_, rfl, Own.nil _ _ _ _, HBC.out⟩
      · obtain rfl : k = L := by omega
        have HW : Hid (zs.take k = zs) := List.take_of_length_le (by rw [← HL.out]; exact Nat.le_refl _)
        rw [HW.out] at hends how
        have HX := HEND.out hends.out
        have HO : Hid (Own .i64 3 wr w.heap.size u8 V) := by
          show Own _ _ _ _ _ _
          rw [HX.2]
          exact how
        obtain rfl := HX.1
        clear HX how hends hpos hlen HF HOK HEND HAT
        go_wp2_with fail
        go_ret2
        exact ⟨_, rfl, HO.out, hbr⟩
end Go.Proofs.Ytmamligiopbefaa
end

section
/-
  The walks of the document's Check and Simple (layer 9).
-/
namespace Go.Proofs.Ytmamligiopbefaa
open Go.RowKit

namespace WK
theorem vlist_ok {n : Nat} {u : Int} {xs : List (Arc × Int)} (h : vcode n u xs = 0) : vlist n u xs = u :: heads xs := by unfold vlist; rw [if_pos h]
theorem last_at {n : Nat} {u : Int} {xs : List (Arc × Int)} (h : vcode n u xs = 0) : (vlist n u xs)[(vlist n u xs).length - 1]?.getD 0 = last u xs ∧ 0 < (vlist n u xs).length ∧ (vlist n u xs).length = xs.length + 1 := by
  rw [vlist_ok h]
  have hl : (u :: heads xs).length = xs.length + 1 := by rw [List.length_cons, heads_len]
  rw [hl]
  exact ⟨here_at u xs rfl, by omega, rfl⟩
/-- No two alike below i. -/
def apart (Z : List Int) (i : Nat) : Prop := ∀ a b, a < b → b < i → Z[a]?.getD 0 ≠ Z[b]?.getD 0
theorem apart_succ {Z : List Int} {i : Nat} (h : apart Z i) (h2 : ∀ j, j < i → Z[j]?.getD 0 ≠ Z[i]?.getD 0) : apart Z (i + 1) := fun a b hab hb => by
  by_cases e : b = i
  · subst e
    exact h2 a hab
  · exact h a b hab (by omega)
theorem apart_all {Z : List Int} (h : apart Z Z.length) : Z.Nodup := by
  rw [List.Nodup, List.pairwise_iff_getElem]
  intro i j hi hj hij e
  refine h i j hij hj ?_
  rw [List.getElem?_eq_getElem hi, List.getElem?_eq_getElem hj, e]
theorem apart_not {Z : List Int} {i k : Nat} (hki : k < i) (hi : i < Z.length) (e : Z[k]?.getD 0 = Z[i]?.getD 0) : ¬ Z.Nodup := by
  rw [List.Nodup, List.pairwise_iff_getElem]
  intro h
  rw [List.getElem?_eq_getElem (by omega), List.getElem?_eq_getElem hi] at e
  exact h k i (by omega) hi hki e
theorem simple_bad {n : Nat} {u : Int} {xs : List (Arc × Int)} (h : vcode n u xs ≠ 0) : simple n u xs = false := decide_eq_false (fun e => h e.1)
theorem simple_ok {n : Nat} {u : Int} {xs : List (Arc × Int)} (h : vcode n u xs = 0) : simple n u xs = decide (vlist n u xs).Nodup := by
  unfold simple
  rw [vlist_ok h]
  simp [h]
end WK

set_option maxRecDepth 100000 in
set_option maxHeartbeats 2000000 in
theorem rcheck_any {w : World} {q N most : Nat} {m : GM.M} (hg : RMem w q N most m) (u tw : Int) {v : Value} {zs : List Int} (hrow : Row .i64 w v zs) (hzs : zs.length ≤ 1000) :
    Calls Try.prog 27 #[.pointer (some ⟨q, 0, none⟩), .int .i64 u, .int .i64 tw, v] w fun e w' => e = .returned (.int .i64 (WK.ccode N u tw (WK.list m zs))) ∧ Below w.heap.size w w' := by
  have hv1 := vertex_any hg u
  have hv2 := vertex_any hg tw
  have hvs := rvisits_any hg u hrow hzs
  have HC : Hid (WK.ccode N u tw (WK.list m zs) = if GM.vert N tw = true then (if WK.vcode N u (WK.list m zs) = 0 then (if WK.last u (WK.list m zs) = tw then 0 else 8) else WK.vcode N u (WK.list m zs)) else 1) := rfl
  have HV : Hid (GM.vert N u = false → WK.vcode N u (WK.list m zs) = 1) := fun h => by unfold WK.vcode; rw [h]; rfl
  have HLA : Hid (WK.vcode N u (WK.list m zs) = 0 → (WK.vlist N u (WK.list m zs))[(WK.vlist N u (WK.list m zs)).length - 1]?.getD 0 = WK.last u (WK.list m zs) ∧ 0 < (WK.vlist N u (WK.list m zs)).length ∧ (WK.vlist N u (WK.list m zs)).length ≤ 1001) := fun h => by
    obtain ⟨h1, h2, h3⟩ := WK.last_at h
    refine ⟨h1, h2, ?_⟩
    rw [h3, WK.list_len]
    omega
  clear hg
  generalize WK.ccode N u tw (WK.list m zs) = C at *
  generalize WK.vcode N u (WK.list m zs) = c at *
  generalize WK.vlist N u (WK.list m zs) = V at *
  generalize WK.last u (WK.list m zs) = la at *
  generalize GM.vert N u = b1 at *
  generalize GM.vert N tw = b2 at *
  cases b1 with
  | false =>
    obtain rfl : C = 1 := by
      rw [HC.out, HV.out rfl]
      cases b2 <;> rfl
    clear hvs
    go_enter Try.func27, Try.ntmps27
    go_wp2_with fail
    refine hv1.mono ?_
    rintro e w2 ⟨rfl, rfl⟩
    go_wp2_with fail
    go_ret
    exact ⟨rfl, Below.refl _ _⟩
  | true =>
    cases b2 with
    | false =>
      obtain rfl : C = 1 := by
        rw [HC.out]
        rfl
      clear hvs
      go_enter Try.func27, Try.ntmps27
      go_wp2_with fail
      refine hv1.mono ?_
      rintro e w2 ⟨rfl, hw2⟩
      rw [hw2]
      clear hw2 hv1
      go_wp2_with fail
      refine hv2.mono ?_
      rintro e w3 ⟨rfl, hw3⟩
      rw [hw3]
      clear hw3 hv2
      go_wp2_with fail
      go_ret
      exact ⟨rfl, Below.refl _ _⟩
    | true =>
      have HC' : Hid (C = if c = 0 then (if la = tw then 0 else 8) else c) := by
        show _ = _
        rw [HC.out]
        rfl
      clear HC HV
      go_enter Try.func27, Try.ntmps27
      go_wp2_with fail
      refine hv1.mono ?_
      rintro e w2 ⟨rfl, hw2⟩
      rw [hw2]
      clear hw2 hv1
      go_wp2_with fail
      refine hv2.mono ?_
      rintro e w3 ⟨rfl, hw3⟩
      rw [hw3]
      clear hw3 hv2
      go_wp2_with fail
      refine hvs.mono ?_
      rintro e w4 ⟨r, rfl, ho, hb4⟩
      clear hvs
      by_cases hc : c = 0
      · obtain ⟨l1, l2, l3⟩ := HLA.out hc
        obtain ⟨ao2, cap2, rfl, hat2⟩ := ho.at
        obtain ⟨bb, oo, rfl, hcc⟩ := hat2.2.2.2 l2
        obtain ⟨j, hj⟩ : ∃ j, V.length = j + 1 := ⟨V.length - 1, by omega⟩
        have hck := hcc j (by omega)
        rw [hj, Nat.add_sub_cancel] at l1
        rw [l1] at hck
        rw [hj]
        have HB4 : Hid (Below w.heap.size w w4) := hb4
        have hj2 : j ≤ 1000 := by omega
        have HCC : Hid (C = if la = tw then 0 else 8) := by
          show _ = _
          rw [HC'.out, if_pos hc]
        clear l1 l2 l3 hcc hat2 ho HLA HC' hb4 hj
        subst hc
        by_cases e : la = tw
        · have HC3 : Hid (C = 0) := by
            show _ = _
            rw [HCC.out, if_pos e]
          subst e
          clear HCC
          go_wp2_with fail
          go_ret
          exact ⟨by rw [HC3.out]; rfl, HB4.out⟩
        · have HC3 : Hid (C = 8) := by
            show _ = _
            rw [HCC.out, if_neg e]
          have e' : (la != tw) = true := by simpa using e
          clear HCC
          go_wp2_with fail
          go_ret
          exact ⟨by rw [HC3.out]; rfl, HB4.out⟩
      · have hc' : (c != 0) = true := by simpa using hc
        have HC3 : Hid (C = c) := by
          show _ = _
          rw [HC'.out, if_neg hc]
        have HB4 : Hid (Below w.heap.size w w4) := hb4
        obtain ⟨ao2, cap2, rfl, -⟩ := ho.at
        clear ho HLA HC' hb4
        go_wp2_with fail
        go_ret
        exact ⟨by rw [HC3.out]; rfl, HB4.out⟩

set_option maxRecDepth 100000 in
set_option maxHeartbeats 2000000 in
theorem rsimple_any {w : World} {q N most : Nat} {m : GM.M} (hg : RMem w q N most m) (u : Int) {v : Value} {zs : List Int} (hrow : Row .i64 w v zs) (hzs : zs.length ≤ 1000) :
    Calls Try.prog 29 #[.pointer (some ⟨q, 0, none⟩), .int .i64 u, v] w fun e w' => e = .returned (.bool (WK.simple N u (WK.list m zs))) ∧ Below w.heap.size w w' := by
  have hvs := rvisits_any hg u hrow hzs
  have HLA : Hid (WK.vcode N u (WK.list m zs) = 0 → (WK.vlist N u (WK.list m zs)).length ≤ 1001) := fun h => by
    obtain ⟨h1, h2, h3⟩ := WK.last_at h
    rw [h3, WK.list_len]
    omega
  have HC1 : Hid (WK.vcode N u (WK.list m zs) ≠ 0 → WK.simple N u (WK.list m zs) = false) := fun h => WK.simple_bad h
  have HC2 : Hid (WK.vcode N u (WK.list m zs) = 0 → WK.simple N u (WK.list m zs) = decide (WK.vlist N u (WK.list m zs)).Nodup) := fun h => WK.simple_ok h
  clear hg
  generalize WK.simple N u (WK.list m zs) = C at *
  generalize WK.vcode N u (WK.list m zs) = c at *
  generalize WK.vlist N u (WK.list m zs) = V at *
  go_enter Try.func29, Try.ntmps29
  go_wp2_with fail
  refine hvs.mono ?_
  rintro e w4 ⟨r, rfl, ho, hb4⟩
  clear hvs
  obtain ⟨ao2, cap2, rfl, hat2⟩ := ho.at
  have HB4 : Hid (Below w.heap.size w w4) := hb4
  by_cases hc : c = 0
  · have hvl := HLA.out hc
    have HCC : Hid (C = decide V.Nodup) := HC2.out hc
    have HR : Hid (∀ W, Below w4.heap.size w4 W → RowAt .i64 W ao2 cap2 V) := fun W hW => hat2.below hW
    obtain ⟨L, hL⟩ : ∃ L, L = V.length := ⟨_, rfl⟩
    have HL : Hid (L = V.length) := hL
    rw [← hL] at hvl ⊢
    clear hL ho hat2 HC1 HC2 HLA hb4
    subst hc
    go_wp2_with fail
    go_loopw [9] (fun iv wr => ∃ i : Nat, i ≤ L ∧ iv = .int .i64 i ∧ Hid (WK.apart V i) ∧ Below w4.heap.size w4 wr) (fun iv _ => L - (intOf iv).toNat)
    case atStart => exact ⟨0, Nat.zero_le _, rfl, (fun a b h1 h2 => by omega), Below.refl _ _⟩
    case round =>
      obtain ⟨i, hi, rfl, HAP, hbr⟩ := hrel
      by_cases hlt : i < L
      · have i1 : (i : Int) < (L : Int) := by omega
        go_wp2_with fail
        go_loopw [10] (fun kv wx => ∃ k : Nat, k ≤ i ∧ kv = .int .i64 k ∧ Hid (∀ j, j < k → V[j]?.getD 0 ≠ V[i]?.getD 0) ∧ Below w4.heap.size w4 wx) (fun kv _ => i - (intOf kv).toNat)
        case atStart => exact ⟨0, Nat.zero_le _, rfl, (fun j h => by omega), hbr⟩
        case round =>
          obtain ⟨k, hk, rfl, HJ, hbx⟩ := hrel
          by_cases hki : k < i
          · obtain ⟨b, o, rfl, hcc⟩ := (HR.out _ hbx).2.2.2 (by rw [← HL.out]; omega)
            have c1 := hcc k (by rw [← HL.out]; omega)
            have c2 := hcc i (by rw [← HL.out]; omega)
            have HJ2 : Hid (V[k]?.getD 0 ≠ V[i]?.getD 0 → ∀ j, j < k + 1 → V[j]?.getD 0 ≠ V[i]?.getD 0) := fun h j hj => by
              by_cases e : j = k
              · subst e
                exact h
              · exact HJ.out j (by omega)
            have HNO : Hid (V[k]?.getD 0 = V[i]?.getD 0 → C = false) := fun e => by
              rw [HCC.out]
              exact decide_eq_false (WK.apart_not hki (by rw [← HL.out]; exact hlt) e)
            have HBX := hbx
            have k1 : (k : Int) < (i : Int) := by omega
            have k2 : (k : Int) < (L : Int) := by omega
            clear hcc HJ
            generalize V[k]?.getD 0 = x at *
            generalize V[i]?.getD 0 = y at *
            by_cases hxy : x = y
            · have HC3 : Hid (C = false) := HNO.out hxy
              subst hxy
              clear HNO HJ2
              go_wp2_with fail
              go_region
              all_goals
                go_wp2_with fail
                go_ret
                exact ⟨by rw [HC3.out]; rfl, below_on HB4.out (below_drewN HBX _)⟩
            · have HJ3 : Hid (∀ j, j < k + 1 → V[j]?.getD 0 ≠ y) := HJ2.out hxy
              clear HNO HJ2
              go_wp2_with fail
              go_region
              go_wp2_with fail
              go_roundw
              case rel => exact ⟨k + 1, by omega, by go_num, HJ3, below_drewN HBX _⟩
              case measure => simp [intOf]; omega
          · obtain rfl : k = i := by omega
            have HAP2 : Hid (WK.apart V (k + 1)) := WK.apart_succ HAP.out HJ.out
            clear HJ HAP
            go_wp2_with fail
            go_roundw
            case rel => exact ⟨k + 1, by omega, by go_num, HAP2, hbx⟩
            case measure => simp [intOf]; omega
      · obtain rfl : i = L := by omega
        have HC3 : Hid (C = true) := by
          show _ = _
          rw [HCC.out]
          exact decide_eq_true (WK.apart_all (by rw [← HL.out]; exact HAP.out))
        have HBB : Hid (Below w.heap.size w wr) := below_on HB4.out hbr
        clear HAP HCC
        go_wp2_with fail
        go_ret
        exact ⟨by rw [HC3.out]; rfl, HBB.out⟩
  · have hc' : (c != 0) = true := by simpa using hc
    have HC3 : Hid (C = false) := HC1.out hc
    clear ho hat2 HC1 HC2 HLA hb4
    go_wp2_with fail
    go_ret
    exact ⟨by rw [HC3.out]; rfl, HB4.out⟩
end Go.Proofs.Ytmamligiopbefaa
end
