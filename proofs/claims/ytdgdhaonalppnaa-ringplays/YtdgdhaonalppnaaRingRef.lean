/-
  The walks of the reference's stack: Top, Pop, Push.
-/
import Derived.Test.YtdgdhaonalppnaaRingObj
import Derived.BigRegion
import Derived.BigQuiet
import Derived.BigFrame
import Derived.Deep.QuietTactic
import Derived.Deep.DeepCutAuto
import Derived.Deep.OwnRows
namespace Go.Proofs.Ytdgdhaonalppnaa
open Go.RowKit

/-- A stack of the reference's: its struct in block q, what lies on it under the slice v, in a block behind q. -/
structure RMem (w : World) (q n : Nat) (v : Value) (L : List Int) : Prop where
  c0 : w.cell? ⟨q, 0, none⟩ = some (.int .i64 (n : Nat))
  c1 : w.cell? ⟨q, 1, none⟩ = some v
  fz : w.frozen? ⟨q, 1, none⟩ = false
  own : Own .i64 3 w (q + 1) v L
section
variable {w w' : World} {q n : Nat} {v : Value} {L : List Int}
theorem RMem.lt (h : RMem w q n v L) : q < w.heap.size := cell_lt h.c0
theorem RMem.kept {G : Nat → Prop} (h : RMem w q n v L) (hk : Keeps G w w') (hG : ∀ b, q ≤ b → ¬ G b) : RMem w' q n v L where
  c0 := hk.cell h.c0 (hG q (Nat.le_refl _))
  c1 := hk.cell h.c1 (hG q (Nat.le_refl _))
  fz := (hk.frozen (p := ⟨q, 1, none⟩) (cell_lt h.c1) (hG q (Nat.le_refl _))).trans h.fz
  own := hk.row h.own (fun g hg => hG g (by have := (World.ownsRow.lt h.own g hg).1; omega))
theorem RMem.below (h : RMem w q n v L) (hb : Below w.heap.size w w') : RMem w' q n v L := h.kept (Below.keeps hb (fun _ => False)) (fun _ _ h => h)
/-- Another row is laid into it. -/
theorem RMem.setRow (h : RMem w q n v L) {v' : Value} {L' : List Int} (ho : Own .i64 3 w (q + 1) v' L') : RMem (w.setCell ⟨q, 1, none⟩ v') q n v' L' := by
  have hk : Keeps (fun b => b = q) w (w.setCell ⟨q, 1, none⟩ v') := keeps_set _ _ _ _
  refine ⟨?_, World.cell?_setCell_same _ _ _ h.c1, ?_, hk.row ho (fun g hg e => by have := (World.ownsRow.lt ho g hg).1; omega)⟩
  · rw [World.cell?_setCell_other _ _ _ _ (by simp)]; exact h.c0
  · simp [h.fz]
end
theorem infoI : (Try.prog.info? 3).map (fun i => (i.zero, i.size, i.bytes)) = some (some (.int .i64 0), 1, 8) := by kernel_rfl
/-- The first ones of a row of the call's own. -/
theorem Own.short {k : IntKind} {e : TypeId} {w : World} {base : Nat} {ao : Option Addr} {cap : Nat} {L : List Int} {x : Int} (h : Own k e w base (.slice ao (L ++ [x]).length cap) (L ++ [x])) : Own k e w base (.slice ao L.length cap) L := by
  rcases h.2 with ⟨h1, hn⟩ | ⟨g, cap', cur, hv, hb, hg, hnc, hcm, hcs, htake⟩
  · simp at hn
  · cases hv
    refine ⟨by simp, .inr ⟨g, cap, cur, rfl, hb, hg, by simp at hnc; omega, hcm, hcs, ?_⟩⟩
    have := congrArg (List.take L.length) htake
    simpa [List.take_take] using this
section
variable {w : World} {q n : Nat} {v : Value} {L : List Int}
set_option maxHeartbeats 1000000 in
theorem rtop_any (h : RMem w q n v L) (hl : L.length ≤ 32) :
    Calls Try.prog 14 #[.pointer (some ⟨q, 0, none⟩)] w fun e w' => e = .returned (getT (Value.int .i64) 0 L.getLast?) ∧ ∃ m, w' = w.drewN m := by
  obtain ⟨ao, cap, hv, hat⟩ := h.own.at
  have c1 := h.c1
  rw [hv] at c1
  clear h hv
  rcases RK.last_cases L with rfl | ⟨l, x, rfl⟩
  · simp only [List.length_nil, List.getLast?_nil, getT] at c1 ⊢
    clear hat
    go_enter Try.func14, Try.ntmps14
    go_wp2_with fail
    go_ret2
    exact ⟨rfl, 0, rfl⟩
  · obtain ⟨b, o, rfl, hc⟩ := hat.2.2.2 (by simp)
    have cl := hc l.length (by simp)
    simp only [List.getElem?_concat_length, Option.getD_some] at cl
    rw [List.getLast?_concat]
    simp only [List.length_append, List.length_cons, List.length_nil, getT] at c1 hl ⊢
    clear hc hat
    generalize l.length = c at *
    go_enter Try.func14, Try.ntmps14
    go_wp2_with fail
    go_quiet (fail)
    go_wp2_with fail
    go_ret2
    exact ⟨rfl, _, rfl⟩
set_option maxHeartbeats 1000000 in
theorem rpop_any (h : RMem w q n v L) (hl : L.length ≤ 32) :
    Calls Try.prog 10 #[.pointer (some ⟨q, 0, none⟩)] w fun e w' => e = .returned (getT (Value.int .i64) 0 L.getLast?) ∧ ∃ v', RMem w' q n v' L.dropLast ∧ Below q w w' := by
  have htp := rtop_any h hl
  have hq := h.lt
  rcases RK.last_cases L with rfl | ⟨l, x, rfl⟩
  · have H : Hid (RMem w q n v []) := h
    simp only [List.getLast?_nil, getT] at htp ⊢
    clear h
    go_enter Try.func10, Try.ntmps10
    go_wp2_with fail
    refine htp.mono ?_
    rintro e w1 ⟨rfl, m, rfl⟩
    have H1 : Hid (RMem (w.drewN m) q n v []) := H.out.below (below_drewN (Below.refl _ _) _)
    go_wp2_with fail
    go_ret2
    exact ⟨rfl, v, H1.out, below_drewN (Below.refl _ _) _⟩
  · obtain ⟨ao, cap, rfl, hat⟩ := h.own.at
    rw [List.getLast?_concat, List.dropLast_concat] at *
    simp only [getT] at htp ⊢
    have hcap := hat.1
    have hcm := hat.2.1
    unfold maxLen at hcm
    obtain ⟨b, o, rfl, -⟩ := hat.2.2.2 (by simp)
    have HM : Hid (∀ m, RMem ((w.drewN m).setCell ⟨q, 1, none⟩ (.slice (some ⟨b, o, none⟩) l.length cap)) q n (.slice (some ⟨b, o, none⟩) l.length cap) l) := fun m => (h.below (below_drewN (Below.refl _ _) m)).setRow (Own.short (h.own.below (below_drewN (Below.refl _ _) m)))
    have c1 := h.c1
    have fz := h.fz
    simp only [List.length_append, List.length_cons, List.length_nil] at c1 hl hcap ⊢
    clear h hat
    generalize l.length = c at *
    go_enter Try.func10, Try.ntmps10
    go_wp2_with fail
    refine htp.mono ?_
    rintro e w1 ⟨rfl, m, rfl⟩
    clear htp
    go_wp2_with fail
    go_region
    all_goals (go_wp2_with fail; go_ret2)
    all_goals exact ⟨rfl, _, HM.out _, (below_drewN (Below.refl _ _) _).setCell (p := ⟨q, 1, none⟩) (Nat.le_refl _) _⟩
/-- What the struct's own cells say behind an append. -/
theorem RMem.grown (h : RMem w q n v L) {v' : Value} {L' : List Int} {w' : World} {o : Go.Obj} {row : Option Nat} (hg : (w.alloc o).grownBy w' row) (hr : ∀ g, row = some g → q + 1 ≤ g) (_ho : Own .i64 3 w' (q + 1) v' L') :
    w'.cell? ⟨q, 0, none⟩ = some (.int .i64 (n : Nat)) ∧ w'.cell? ⟨q, 1, none⟩ = some v ∧ w'.frozen? ⟨q, 1, none⟩ = false ∧ Keeps (fun b => q + 1 ≤ b) w w' := by
  have hk : Keeps (fun b => q + 1 ≤ b) w w' := ((Keeps.refl _ w).alloc o).grown hg (fun g e => .inl (hr g e))
  exact ⟨hk.cell h.c0 (by simp), hk.cell h.c1 (by simp), (hk.frozen (p := ⟨q, 1, none⟩) h.lt (by simp)).trans h.fz, hk⟩
/-- A row laid into the struct. -/
theorem rmem_set {w3 : World} {v0 v3 : Value} (d0 : w3.cell? ⟨q, 0, none⟩ = some (.int .i64 (n : Nat))) (d1 : w3.cell? ⟨q, 1, none⟩ = some v0) (df : w3.frozen? ⟨q, 1, none⟩ = false) (ho : Own .i64 3 w3 (q + 1) v3 L) : RMem (w3.setCell ⟨q, 1, none⟩ v3) q n v3 L := by
  refine ⟨?_, World.cell?_setCell_same _ _ _ d1, by simp [df], ?_⟩
  · rw [World.cell?_setCell_other _ _ _ _ (by simp)]; exact d0
  · have hkq : Keeps (fun b => b = q) w3 (w3.setCell ⟨q, 1, none⟩ v3) := keeps_set _ _ _ _
    exact hkq.row ho (fun g hg e => by have := (World.ownsRow.lt ho g hg).1; omega)
set_option maxHeartbeats 1000000 in
theorem rpush_room (h : RMem w q n v L) (hn : n ≤ 32) (hl : L.length < n) (x : Int) :
    Calls Try.prog 12 #[.pointer (some ⟨q, 0, none⟩), .int .i64 x] w fun e w' => e = .returned (.tuple #[.int .i64 0, .bool false]) ∧ ∃ v', RMem w' q n v' (L ++ [x]) ∧ Below q w w' := by
  obtain ⟨i0, hi, hz0, hz1, hz2⟩ := info_parts infoI
  obtain ⟨ao, cap, rfl, -⟩ := h.own.at
  have c0 := h.c0
  have c1 := h.c1
  have HM : Hid (RMem w q n (.slice ao L.length cap) L) := h
  clear h
  obtain ⟨c, hc⟩ : ∃ c, c = L.length := ⟨_, rfl⟩
  have HC : Hid (c = L.length) := hc
  rw [← hc] at c1 hl HM
  clear hc
  have e1 : ((c : Int) == (n : Int)) = false := beq_eq_false_iff_ne.2 (by omega)
  go_enter Try.func12, Try.ntmps12
  go_wp2_with fail
  go_quiet (fail)
  have h2 : RMem (w.drewN nq) q n (.slice ao c cap) L := HM.out.below (below_drewN (Below.refl _ _) _)
  have hb2 : Below q w (w.drewN nq) := below_drewN (Below.refl _ _) _
  clear c0 c1 HM
  generalize w.drewN nq = w2 at *
  have c0 := h2.c0
  have c1 := h2.c1
  have hq := h2.lt
  have H2 : Hid (RMem w2 q n (.slice ao c cap) L) := h2
  have HB2 : Hid (Below q w w2) := hb2
  clear h2 hb2
  go_wp2_with (at_builtin; refine wpList_append_row _ rfl _ _ 22 rfl .i64 (q + 1) 3 i0 8 Try.underlying22 hi hz0 hz1 hz2 (.slice ao c cap) L rfl (H2.out.own.alloc _) (some ⟨w2.heap.size, 0, none⟩) 1 1 [x] rfl rfl (rowAt_lit1 _ _ _ _) (by have := HC.out; unfold maxLen; simp; omega) (by have := HC.out; simp; omega) (by simp; omega) ?_)
  intro v3 w3 hown3 hgrow3 _
  obtain ⟨d0, d1, df, hk3⟩ := H2.out.grown hgrow3 (fun g e => H2.out.own.block g e) hown3
  obtain ⟨a3, c3, rfl, -⟩ := hown3.at
  have HM : Hid (RMem (w3.setCell ⟨q, 1, none⟩ (.slice a3 (L ++ [x]).length c3)) q n (.slice a3 (L ++ [x]).length c3) (L ++ [x])) := rmem_set d0 d1 df hown3
  have HB3 : Hid (Below q w (w3.setCell ⟨q, 1, none⟩ (.slice a3 (L ++ [x]).length c3))) := (HB2.out.trans (hk3.below (fun b hb => by omega) (by omega))).setCell (p := ⟨q, 1, none⟩) (Nat.le_refl _) _
  clear hown3 hgrow3 hk3 c0 c1 H2 HB2
  generalize (L ++ [x]).length = c4 at *
  go_wp2_with fail
  go_ret2
  exact ⟨rfl, _, HM.out, HB3.out⟩
set_option maxHeartbeats 2000000 in
theorem rpush_full {u : Int} (h : RMem w q n v (u :: L)) (hn : n ≤ 32) (hl : L.length + 1 = n) (x : Int) :
    Calls Try.prog 12 #[.pointer (some ⟨q, 0, none⟩), .int .i64 x] w fun e w' => e = .returned (.tuple #[.int .i64 u, .bool true]) ∧ ∃ v', RMem w' q n v' (L ++ [x]) ∧ Below q w w' := by
  obtain ⟨i0, hi, hz0, hz1, hz2⟩ := info_parts infoI
  obtain ⟨ao, cap, rfl, hat⟩ := h.own.at
  obtain ⟨b, o, rfl, hc0⟩ := hat.2.2.2 (by simp)
  have cu := hc0 0 (by simp)
  simp only [Nat.add_zero, List.getElem?_cons_zero, Option.getD_some] at cu
  have hcap := hat.1
  have HS : Hid (∃ a' m' k', (Value.slice (if cap = 1 then some ⟨b, o, none⟩ else some ⟨b, o + 1, none⟩) L.length (cap - 1)) = .slice a' m' k' ∧ m' = L.length ∧ RowAt .i64 w a' k' L) := by
    by_cases hc1 : cap = 1
    · subst hc1
      obtain ⟨a', k', hv, hr⟩ := hat.drop_end (n := 1) rfl
      rw [if_pos rfl]
      simp only [List.length_cons, Nat.add_sub_cancel, List.drop_succ_cons, List.drop_zero, Value.slice.injEq] at hv hr
      obtain ⟨rfl, -, rfl⟩ := hv
      exact ⟨_, _, _, rfl, rfl, hr⟩
    · obtain ⟨a', k', hv, hr⟩ := hat.drop (n := 1) (by simp) hc1
      rw [if_neg hc1]
      simp only [List.length_cons, Nat.add_sub_cancel, List.drop_succ_cons, List.drop_zero, Value.slice.injEq, Option.map_some, Addr.add_lit] at hv hr
      obtain ⟨rfl, -, rfl⟩ := hv
      exact ⟨_, _, _, rfl, rfl, hr⟩
  clear hat hc0
  have c0 := h.c0
  have c1 := h.c1
  simp only [List.length_cons] at c1 hcap
  have HM : Hid (RMem w q n (.slice (some ⟨b, o, none⟩) (L.length + 1) cap) (u :: L)) := h
  clear h
  obtain ⟨c, hc⟩ : ∃ c, c = L.length := ⟨_, rfl⟩
  have HC : Hid (c = L.length) := hc
  rw [← hc] at c1 hl HM hcap HS
  clear hc
  subst hl
  go_enter Try.func12, Try.ntmps12
  go_wp2_with fail
  go_quiet (fail)
  have hbd : Below w.heap.size w (w.drewN nq) := below_drewN (Below.refl _ _) _
  have h2 : RMem (w.drewN nq) q (c + 1) (.slice (some ⟨b, o, none⟩) (c + 1) cap) (u :: L) := HM.out.below hbd
  have hb2 : Below q w (w.drewN nq) := below_drewN (Below.refl _ _) _
  have cu2 : (w.drewN nq).cell? ⟨b, o, none⟩ = some (.int .i64 u) := cu
  have HS2 : Hid (∃ a' m' k', (Value.slice (if cap = 1 then some ⟨b, o, none⟩ else some ⟨b, o + 1, none⟩) c (cap - 1)) = .slice a' m' k' ∧ m' = c ∧ RowAt .i64 (w.drewN nq) a' k' L) := by
    obtain ⟨a', m', k', e1, e2, e3⟩ := HS.out
    exact ⟨a', m', k', e1, e2, e3.below hbd⟩
  clear c0 c1 HM cu hbd HS
  generalize w.drewN nq = w2 at *
  have c0 := h2.c0
  have c1 := h2.c1
  have hq := h2.lt
  have H2 : Hid (RMem w2 q (c + 1) (.slice (some ⟨b, o, none⟩) (c + 1) cap) (u :: L)) := h2
  have HB2 : Hid (Below q w w2) := hb2
  clear h2 hb2
  go_upto_region 5 with fail
  go_cut [] (fun wx => ∃ v', RMem wx q (c + 1) v' L ∧ Below q w wx)
  case first =>
    have fz := H2.out.fz
    by_cases hc1 : cap = 1
    · subst hc1
      obtain rfl : c = 0 := by omega
      obtain rfl : L = [] := List.eq_nil_of_length_eq_zero HC.out.symm
      have hbA : Below w2.heap.size w2 (w2.alloc (.cells #[] 3)) := (Below.refl _ _).alloc (Nat.le_refl _) _
      have hA := H2.out.below hbA
      have HM : Hid (RMem ((w2.alloc (.cells #[] 3)).setCell ⟨q, 1, none⟩ (.slice (some ⟨w2.heap.size, 0, none⟩) 0 0)) q 1 (.slice (some ⟨w2.heap.size, 0, none⟩) 0 0) []) := hA.setRow (Own.lit .i64 3 w2 (q + 1) hq [] _ 0 rfl rfl (by decide))
      have HB : Hid (Below q w ((w2.alloc (.cells #[] 3)).setCell ⟨q, 1, none⟩ (.slice (some ⟨w2.heap.size, 0, none⟩) 0 0))) := (HB2.out.trans (hbA.mono (by omega))).setCell (p := ⟨q, 1, none⟩) (Nat.le_refl _) _
      clear hA hbA hcap HS2 HC
      go_wp2_with fail
      go_meet
      rw [← World.setCell_alloc_past (w := w2) (.cells #[] 3) q 1 _ hq]
      exact ⟨_, HM.out, HB.out⟩
    · obtain ⟨a', m', k', e1, e2, e3⟩ := HS2.out
      rw [if_neg hc1] at e1
      cases e1
      have HRW : Hid (RowAt .i64 w2 (some ⟨b, o + 1, none⟩) (cap - 1) L) := e3
      have hc1' : ¬ (1 = cap) := fun h => hc1 h.symm
      clear e2 e3 HS2
      go_wp2_with (at_builtin; refine wpList_append_row _ rfl _ _ 22 rfl .i64 (q + 1) 3 i0 8 Try.underlying22 hi hz0 hz1 hz2 (.slice (some ⟨w2.heap.size, 0, none⟩) 0 0) [] rfl (Own.lit .i64 3 w2 (q + 1) hq [] _ 0 rfl rfl (by decide)) (some ⟨b, o + 1, none⟩) c (cap - 1) L rfl HC.out (HRW.out.below ((Below.refl _ _).alloc (Nat.le_refl _) _)) (by have := HC.out; unfold maxLen; simp; omega) (by have := HC.out; simp; omega) (by simp; omega) ?_)
      intro v3 w3 hown3 hgrow3 _
      obtain ⟨d0, d1, df, hk3⟩ := H2.out.grown hgrow3 (fun g e => by cases e; exact hq) hown3
      obtain ⟨a3, c3, rfl, -⟩ := hown3.at
      have HM : Hid (RMem (w3.setCell ⟨q, 1, none⟩ (.slice a3 L.length c3)) q (c + 1) (.slice a3 L.length c3) L) := rmem_set d0 d1 df hown3
      have HB3 : Hid (Below q w (w3.setCell ⟨q, 1, none⟩ (.slice a3 L.length c3))) := (HB2.out.trans (hk3.below (fun b hb => by omega) (by omega))).setCell (p := ⟨q, 1, none⟩) (Nat.le_refl _) _
      clear hown3 hgrow3 hk3 c0 c1 H2 HB2 HRW HC
      generalize L.length = c4 at *
      go_wp2_with fail
      go_meet
      exact ⟨_, HM.out, HB3.out⟩
  case rest =>
    obtain ⟨v', h4, hb4⟩ := hcut
    obtain ⟨ao, cap', rfl, -⟩ := h4.own.at
    clear c0 c1 cu2 H2 HB2 HS2 hcap
    have H2 : Hid (RMem wc q (c + 1) (.slice ao L.length cap') L) := h4
    have HB2 : Hid (Below q w wc) := hb4
    rw [← HC.out] at H2
    have c1 := H2.out.c1
    have hq4 := h4.lt
    clear h4 hb4
    go_wp2_with (at_builtin; refine wpList_append_row _ rfl _ _ 22 rfl .i64 (q + 1) 3 i0 8 Try.underlying22 hi hz0 hz1 hz2 (.slice ao c cap') L rfl (H2.out.own.alloc _) (some ⟨wc.heap.size, 0, none⟩) 1 1 [x] rfl rfl (rowAt_lit1 _ _ _ _) (by have := HC.out; unfold maxLen; simp; omega) (by have := HC.out; simp; omega) (by simp; omega) ?_)
    intro v3 w3 hown3 hgrow3 _
    obtain ⟨d0, d1, df, hk3⟩ := H2.out.grown hgrow3 (fun g e => H2.out.own.block g e) hown3
    obtain ⟨a3, c3, rfl, -⟩ := hown3.at
    have HM : Hid (RMem (w3.setCell ⟨q, 1, none⟩ (.slice a3 (L ++ [x]).length c3)) q (c + 1) (.slice a3 (L ++ [x]).length c3) (L ++ [x])) := rmem_set d0 d1 df hown3
    have HB3 : Hid (Below q w (w3.setCell ⟨q, 1, none⟩ (.slice a3 (L ++ [x]).length c3))) := (HB2.out.trans (hk3.below (fun b hb => by omega) (by omega))).setCell (p := ⟨q, 1, none⟩) (Nat.le_refl _) _
    clear hown3 hgrow3 hk3 c1 H2 HB2 HC
    generalize (L ++ [x]).length = c4 at *
    go_wp2_with fail
    go_ret2
    exact ⟨rfl, _, HM.out, HB3.out⟩
end
end Go.Proofs.Ytdgdhaonalppnaa
