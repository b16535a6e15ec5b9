/-
  The walk of package walk's Check: a range over stops that keeps where the walk is in a cell.
-/
import Derived.Test.YtjnihkfnnokmdaaRangeLow
import Derived.Test.YtjnihkfnnokmdaaWalkStops
namespace Go.Proofs.Ytjnihkfnnokmdaa
open Go.RowKit Go.Shelf
attribute [local go_sem] Oper.semAt_some

set_option maxHeartbeats 400000 in
theorem wvertex_same {w : World} {p n most : Nat} {m : GM.M} (hg : GMem w p n most m) (v : Int) :
    Calls Try.prog 28 #[.pointer (some ⟨p, 0, none⟩), .int .i64 v] w fun e w' => e = .returned (.bool (GM.vert n v)) ∧ w' = w := by
  have HV : Hid (∀ W, Below w.heap.size w W → Calls Try.prog 53 #[.pointer (some ⟨p, 0, none⟩)] W fun e w' => e = .returned (.int .i64 (n : Nat)) ∧ w' = W) := fun W hW => vertices_any (hg.on hW)
  clear hg
  by_cases h : 0 ≤ v
  · go_enter Try.func28, Try.ntmps28
    go_wp2_with fail
    refine (HV.out _ (Below.refl _ _)).mono ?_
    rintro e w' ⟨rfl, rfl⟩
    go_wp2
    all_goals go_ret
    all_goals refine ⟨ret_bool ?_, rfl⟩
    all_goals unfold GM.vert
    all_goals simp
    all_goals omega
  · go_enter Try.func28, Try.ntmps28
    go_wp2_with fail
    all_goals go_ret
    all_goals refine ⟨ret_bool ?_, rfl⟩
    all_goals unfold GM.vert
    all_goals simp
    all_goals omega

/-- What lies in Check's cells, from the call's first block on. -/
structure Chk (w : World) (p : Nat) (u : Int) (v : Value) (c k : Int) (W : World) : Prop where
  res : Boxed W w.heap.size 29 (.int .i64 c)
  at' : Boxed W (w.heap.size + 1) 3 (.int .i64 k)
  bg : Boxed W (w.heap.size + 1 + 1) 25 (.pointer (some ⟨p, 0, none⟩))
  bf : Boxed W (w.heap.size + 1 + 1 + 1) 3 (.int .i64 u)
  bi : Boxed W (w.heap.size + 1 + 1 + 1 + 1) 23 v
  bel : Below w.heap.size w W
theorem Chk.below {w W W' : World} {p : Nat} {u c k : Int} {v : Value} (h : Chk w p u v c k W) (hb : Below (w.heap.size + 5) W W') : Chk w p u v c k W' :=
  ⟨(hb.block _ (by omega)).trans h.res, (hb.block _ (by omega)).trans h.at', (hb.block _ (by omega)).trans h.bg, (hb.block _ (by omega)).trans h.bf, (hb.block _ (by omega)).trans h.bi, h.bel.trans (hb.mono (by omega))⟩
theorem Chk.code {w W : World} {p : Nat} {u c k : Int} {v : Value} (h : Chk w p u v c k W) (c' : Int) : Chk w p u v c' k (W.setCell ⟨w.heap.size, 0, none⟩ (.int .i64 c')) :=
  ⟨h.res.set _, h.at'.other (by omega) _, h.bg.other (by omega) _, h.bf.other (by omega) _, h.bi.other (by omega) _, h.bel.setCell (p := ⟨w.heap.size, 0, none⟩) (Nat.le_refl _) _⟩
theorem Chk.go {w W : World} {p : Nat} {u c k : Int} {v : Value} (h : Chk w p u v c k W) (k' : Int) : Chk w p u v c k' (W.setCell ⟨w.heap.size + 1, 0, none⟩ (.int .i64 k')) :=
  ⟨h.res.other (by omega) _, h.at'.set _, h.bg.other (by omega) _, h.bf.other (by omega) _, h.bi.other (by omega) _, h.bel.setCell (p := ⟨w.heap.size + 1, 0, none⟩) (by show w.heap.size ≤ w.heap.size + 1; omega) _⟩
theorem above_set {W : World} (N g o : Nat) (hN : g < N) (x : Value) : Above N W (W.setCell ⟨g, o, none⟩ x) := (Keeps.refl (fun b => b < N) W).setCell (p := ⟨g, o, none⟩) (.inl hN) _
theorem chk_new (w : World) (p : Nat) (u : Int) (v : Value) : Chk w p u v 0 u (((((w.alloc (.cells #[.int .i64 0] 29)).alloc (.cells #[.int .i64 u] 3)).alloc (.cells #[.pointer (some ⟨p, 0, none⟩)] 25)).alloc (.cells #[.int .i64 u] 3)).alloc (.cells #[v] 23)) := by
  have s1 : (w.alloc (.cells #[.int .i64 0] 29)).heap.size = w.heap.size + 1 := by simp
  have b1 := Boxed.new w 29 (.int .i64 0)
  have l1 : Below w.heap.size w (w.alloc (.cells #[.int .i64 0] 29)) := (Below.refl _ _).alloc (Nat.le_refl _) _
  generalize w.alloc (.cells #[.int .i64 0] 29) = w1 at *
  have s2 : (w1.alloc (.cells #[.int .i64 u] 3)).heap.size = w.heap.size + 1 + 1 := by simp [s1]
  have b2 := Boxed.new w1 3 (.int .i64 u)
  rw [s1] at b2
  replace b1 := b1.alloc (.cells #[.int .i64 u] 3)
  replace l1 := l1.alloc (by omega) (.cells #[.int .i64 u] 3)
  generalize w1.alloc (.cells #[.int .i64 u] 3) = w2 at *
  have s3 : (w2.alloc (.cells #[.pointer (some ⟨p, 0, none⟩)] 25)).heap.size = w.heap.size + 1 + 1 + 1 := by simp [s2]
  have b3 := Boxed.new w2 25 (.pointer (some ⟨p, 0, none⟩))
  rw [s2] at b3
  replace b1 := b1.alloc (.cells #[.pointer (some ⟨p, 0, none⟩)] 25)
  replace b2 := b2.alloc (.cells #[.pointer (some ⟨p, 0, none⟩)] 25)
  replace l1 := l1.alloc (by omega) (.cells #[.pointer (some ⟨p, 0, none⟩)] 25)
  generalize w2.alloc (.cells #[.pointer (some ⟨p, 0, none⟩)] 25) = w3 at *
  have s4 : (w3.alloc (.cells #[.int .i64 u] 3)).heap.size = w.heap.size + 1 + 1 + 1 + 1 := by simp [s3]
  have b4 := Boxed.new w3 3 (.int .i64 u)
  rw [s3] at b4
  replace b1 := b1.alloc (.cells #[.int .i64 u] 3)
  replace b2 := b2.alloc (.cells #[.int .i64 u] 3)
  replace b3 := b3.alloc (.cells #[.int .i64 u] 3)
  replace l1 := l1.alloc (by omega) (.cells #[.int .i64 u] 3)
  generalize w3.alloc (.cells #[.int .i64 u] 3) = w4 at *
  have b5 := Boxed.new w4 23 v
  rw [s4] at b5
  exact ⟨b1.alloc _, b2.alloc _, b3.alloc _, b4.alloc _, b5, l1.alloc (by omega) _⟩
set_option maxRecDepth 100000 in
theorem check_out {n : Nat} {w W : World} {p : Nat} {u c k : Int} {v : Value} {t : Array Value} {D : Nat} (ht : t[8]?.getD undef = .pointer (some ⟨w.heap.size, 0, none⟩)) (hB : Chk w p u v c k W)
    (hK : W.heap[D]? = some (.deferred (some []))) (hD : w.heap.size + 5 ≤ D) :
    bodyPostM Fence.wide n Try.prog Try.f10 (fun e w' => e = .returned (.int .i64 c) ∧ Below w.heap.size w w') Exit.ret { tmps := t, defers := [{ target := .collected D, args := #[] }] } W := by
  refine ⟨by simp, .inl ⟨_, _, rfl, run_takeDeferred hK, ?_⟩⟩
  have hc := cell_kept hB.res.cell (grownBy_putObj' _ D (.deferred none)) (fun r e => by cases e; exact ⟨_, hK, rfl⟩)
  refine ⟨.int .i64 c, ?_, rfl, hB.bel.trans (belowK_b (w := w) (Nat.le_refl _) _ D _ _ (by omega) hK rfl rfl)⟩
  simp [results, Try.f10, go_sem, hc, ht]

/-- Where the walk is behind these stops. -/
def WK.here (u : Int) (pre : List (Int × Int)) : Int := (pre.map Prod.fst).getLastD u
theorem WK.here_snoc (u : Int) (pre : List (Int × Int)) (x : Int × Int) : WK.here u (pre ++ [x]) = x.1 := by
  unfold WK.here
  rw [List.map_append]
  simp
set_option maxRecDepth 100000 in
set_option maxHeartbeats 2000000 in
theorem check_in {w : World} {p N most : Nat} {m : GM.M} (hg : GMem w p N most m) (hm : GM.Good most m) (u to : Int) {v : Value} {zs : List Int} (hrow : Row .i64 w v zs) :
    CallsIn Fence.wide 5 Try.prog 10 #[.pointer (some ⟨p, 0, none⟩), .int .i64 u, .int .i64 to, v] w fun e w' => e = .returned (.int .i64 (WK.ccode N u to (WK.list m zs))) ∧ Below w.heap.size w w' := by
  have HG : Hid (∀ W, Below w.heap.size w W → GMem W p N most m) := fun W hW => hg.on hW
  have HR : Hid (∀ W, Below w.heap.size w W → Row .i64 W v zs) := fun W hW => hrow.below hW
  obtain ⟨ao, cap, rfl, -⟩ := hrow
  have hv := wvertex_same (HG.out (w.alloc (.cells #[.int .i64 0] 29)) ((Below.refl _ _).alloc (Nat.le_refl _) _)) to
  have HGO : Hid (∀ b1 b2 b3, GoesK 4 Try.prog 54 #[.pointer (some ⟨b1, 0, none⟩), .pointer (some ⟨b2, 0, none⟩), .pointer (some ⟨b3, 0, none⟩)] stopV (fun ys => ys = WK.stops N u (WK.list m zs)) (fun pre => pre <+: WK.stops N u (WK.list m zs)) (zs.length + 1) (StopsR b1 b2 b3 u (.slice ao zs.length cap) zs p N most m)) := fun b1 b2 b3 => stops_goes 4 (by decide) b1 b2 b3 u _ zs p N most m hm
  have HSA : Hid (∀ n c W, Calls Try.prog 29 #[.pointer (some ⟨p, 0, none⟩), .int .i64 u, .slice ao n c] W fun e w' => e = .returned (.func (.func 54) #[] #[.pointer (some ⟨W.heap.size, 0, none⟩), .pointer (some ⟨W.heap.size + 1, 0, none⟩), .pointer (some ⟨W.heap.size + 1 + 1, 0, none⟩)]) ∧ w' = ((W.alloc (.cells #[.pointer (some ⟨p, 0, none⟩)] 25)).alloc (.cells #[.int .i64 u] 3)).alloc (.cells #[.slice ao n c] 23)) := fun n c W => stops_any p u ao n c W
  have HC : Hid (WK.ccode N u to (WK.list m zs) = if GM.vert N to = true then (if WK.first (WK.stops N u (WK.list m zs)) = 0 then (if WK.here u (WK.stops N u (WK.list m zs)) = to then 0 else 8) else WK.first (WK.stops N u (WK.list m zs))) else 1) := by
    show _ = _
    unfold WK.ccode
    rw [WK.first_stops]
    split
    · split
      · rename_i h0
        rw [WK.here, WK.stops_last h0]
      · rfl
    · rfl
  have b0 := Boxed.new w 29 (.int .i64 0)
  clear hg hm
  generalize WK.ccode N u to (WK.list m zs) = C at *
  refine callsIn_of_wp_marks Try.func10 rfl trivial ?_ rfl
  simp only [Try.ntmps10, List.size_toArray, List.length_cons, List.length_nil, Nat.reduceAdd, Nat.reduceSub, Array.replicate_succ, Array.replicate_zero, List.push_toArray, List.append_toArray, List.nil_append, List.cons_append]
  refine wpIn_wide.2 ?_
  go_wp2_with fail
  refine hv.mono ?_
  rintro e w9 ⟨rfl, hw9⟩
  rw [hw9]
  clear hw9 w9 hv
  generalize hvt : GM.vert N to = vt at *
  cases vt with
  | false =>
    obtain rfl : C = 1 := by rw [HC.out]; rfl
    have hbw : Below w.heap.size w ((w.alloc (.cells #[.int .i64 0] 29)).setCell ⟨w.heap.size, 0, none⟩ (.int .i64 1)) := ((Below.refl _ _).alloc (Nat.le_refl _) _).setCell (p := ⟨w.heap.size, 0, none⟩) (Nat.le_refl _) _
    have hcr := (b0.set (.int .i64 1)).cell
    have c0 := b0.cell
    have f0 := b0.frozen
    have HBW : Hid (Below w.heap.size w ((w.alloc (.cells #[.int .i64 0] 29)).setCell ⟨w.heap.size, 0, none⟩ (.int .i64 1))) := hbw
    have HCR : Hid (((w.alloc (.cells #[.int .i64 0] 29)).setCell ⟨w.heap.size, 0, none⟩ (.int .i64 1)).cell? ⟨w.heap.size, 0, none⟩ = some (.int .i64 1)) := hcr
    clear hbw hcr hvt
    generalize w.alloc (.cells #[.int .i64 0] 29) = W1 at *
    go_wp2_with fail
    have hc := HCR.out
    refine ⟨.int .i64 1, ?_, rfl, HBW.out⟩
    simp [results, Try.f10, go_sem, hc]
  | true =>
    have hsa := HSA.out zs.length cap ((w.alloc (.cells #[.int .i64 0] 29)).alloc (.cells #[.int .i64 u] 3))
    clear HSA hvt
    go_wp2_with fail
    refine hsa.mono ?_
    rintro e w9 ⟨rfl, hw9⟩
    rw [hw9]
    clear hw9 w9 hsa
    simp only [World.size_alloc]
    have hB0 := chk_new w p u (.slice ao zs.length cap)
    have hS : (((((w.alloc (.cells #[.int .i64 0] 29)).alloc (.cells #[.int .i64 u] 3)).alloc (.cells #[.pointer (some ⟨p, 0, none⟩)] 25)).alloc (.cells #[.int .i64 u] 3)).alloc (.cells #[.slice ao zs.length cap] 23)).heap.size = w.heap.size + 5 := by simp
    generalize ((((w.alloc (.cells #[.int .i64 0] 29)).alloc (.cells #[.int .i64 u] 3)).alloc (.cells #[.pointer (some ⟨p, 0, none⟩)] 25)).alloc (.cells #[.int .i64 u] 3)).alloc (.cells #[.slice ao zs.length cap] 23) = W0 at *
    have hgo := HGO.out (w.heap.size + 1 + 1) (w.heap.size + 1 + 1 + 1) (w.heap.size + 1 + 1 + 1 + 1)
    clear HGO b0
    go_wp2_with fail
    refine (wpIn_wide (n := 5)).1 (range_low (by decide) (gf := 54) (lb := #[.pointer (some ⟨w.heap.size + 1 + 1, 0, none⟩), .pointer (some ⟨w.heap.size + 1 + 1 + 1, 0, none⟩), .pointer (some ⟨w.heap.size + 1 + 1 + 1 + 1, 0, none⟩)]) rfl (enters_of Try.func54 (by kernel_rfl) rfl) hgo (fun _ => rfl)
      (fun pre W => Chk w p u (.slice ao zs.length cap) 0 (WK.here u pre) W ∧ ∀ y ∈ pre, y.2 = 0)
      (fun c pre W => c = .ret ∧ ∃ q y k, pre = q ++ [y] ∧ (∀ z ∈ q, z.2 = 0) ∧ y.2 ≠ 0 ∧ Chk w p u (.slice ao zs.length cap) y.2 k W)
      (fun pre A A' h hb => ⟨h.1.below (hb.mono (by omega)), h.2⟩)
      (fun c pre A A' h hb => by
        obtain ⟨h1, q, y, k, h2, h3, h4, h5⟩ := h
        exact ⟨h1, q, y, k, h2, h3, h4, h5.below (hb.mono (by omega))⟩)
      (fun pre A h => ⟨h.1.bg.cell, h.1.bf.cell, h.1.bi.cell, HR.out A h.1.bel, HG.out A h.1.bel⟩)
      ⟨hB0, by simp⟩
      (fun x A => { tmps := #[.pointer (some ⟨p, 0, none⟩), .int .i64 u, .int .i64 to, .slice ao zs.length cap, undef, undef, undef, undef, .pointer (some ⟨w.heap.size, 0, none⟩), .pointer (some ⟨w.heap.size + 1, 0, none⟩), .int .i64 x.1, .int .i64 x.2, .pointer (some ⟨p, 0, none⟩), .int .i64 to, .bool true, .bool false, .int .i64 u, .pointer (some ⟨p, 0, none⟩), .int .i64 u, .slice ao zs.length cap, .func (.func 54) #[] #[.pointer (some ⟨w.heap.size + 1 + 1, 0, none⟩), .pointer (some ⟨w.heap.size + 1 + 1 + 1, 0, none⟩), .pointer (some ⟨w.heap.size + 1 + 1 + 1 + 1, 0, none⟩)], .int .i64 x.1, .int .i64 x.2, undef, undef, undef, undef, undef, undef, undef], defers := [] })
      (fun x A => A)
      (fun x W => Below.refl _ W) ?assign ?body ?done ?stop)
    case assign =>
      rintro l ⟨x, cd⟩ W K hK
      simp only [stopV]
      gi_wp2
      exact hK
    case body =>
      rintro l pre ⟨x, cd⟩ A W ⟨hb, hz⟩ hlt hA hblk hsz
      have k0 := hb.res.cell
      have f0 := hb.res.frozen
      have k1 := hb.at'.cell
      have f1 := hb.at'.frozen
      have HB : Hid (Chk w p u (.slice ao zs.length cap) 0 (WK.here u pre) W) := hb
      have HZ : Hid (∀ y ∈ pre, y.2 = 0) := hz
      have HS : Hid (w.heap.size + 5 ≤ W0.heap.size) := Nat.le_of_eq hS.symm
      clear hb hz hblk hgo hB0
      by_cases hcd : cd = 0
      · have HN : Hid (Chk w p u (.slice ao zs.length cap) 0 (WK.here u (pre ++ [(x, cd)])) (W.setCell ⟨w.heap.size + 1, 0, none⟩ (.int .i64 x)) ∧ ∀ y ∈ pre ++ [(x, cd)], y.2 = 0) := by
          refine ⟨?_, fun y hy => ?_⟩
          · rw [WK.here_snoc]
            exact HB.out.go x
          · rcases List.mem_append.1 hy with h | h
            · exact HZ.out y h
            · rw [List.mem_singleton.1 h]
              exact hcd
        have HA : Hid (Above W0.heap.size W (W.setCell ⟨w.heap.size + 1, 0, none⟩ (.int .i64 x))) := above_set _ _ _ (by have := HS.out; omega) _
        subst hcd
        gi_wp2_with fail
        exact ⟨HA.out, HN.out⟩
      · have hcd2 : (cd != 0) = true := by simpa using hcd
        have HN : Hid (∃ q y k, pre ++ [(x, cd)] = q ++ [y] ∧ (∀ z ∈ q, z.2 = 0) ∧ y.2 ≠ 0 ∧ Chk w p u (.slice ao zs.length cap) y.2 k (W.setCell ⟨w.heap.size, 0, none⟩ (.int .i64 cd))) := ⟨pre, (x, cd), _, rfl, HZ.out, hcd, HB.out.code cd⟩
        have HA : Hid (Above W0.heap.size W (W.setCell ⟨w.heap.size, 0, none⟩ (.int .i64 cd))) := above_set _ _ _ (by have := HS.out; omega) _
        gi_wp2_with fail
        exact ⟨HA.out, rfl, HN.out⟩
    case done =>
      rintro ys W rfl ⟨hb, hz⟩ hK
      have hC : C = if WK.here u (WK.stops N u (WK.list m zs)) = to then 0 else 8 := by rw [HC.out, WK.first_ok hz, if_pos (by trivial), if_pos rfl]
      have k0 := hb.res.cell
      have f0 := hb.res.frozen
      have k1 := hb.at'.cell
      have HB : Hid (Chk w p u (.slice ao zs.length cap) 0 (WK.here u (WK.stops N u (WK.list m zs))) W) := hb
      have HK : Hid (∀ c, (W.setCell ⟨w.heap.size, 0, none⟩ c).heap[W0.heap.size]? = some (.deferred (some []))) := fun c => by
        rw [Below.heap_setCell _ _ _ _ (by show W0.heap.size ≠ w.heap.size; omega)]
        exact hK
      clear hb hz hgo hB0 HC hK
      generalize WK.here u (WK.stops N u (WK.list m zs)) = H at *
      by_cases e : H = to
      · obtain rfl : C = 0 := by rw [hC, if_pos e]
        clear hC
        subst e
        go_wp2_with fail
        exact check_out rfl (HB.out.code 0) (HK.out _) (by omega)
      · obtain rfl : C = 8 := by rw [hC, if_neg e]
        clear hC
        have e' : (H != to) = true := by simpa using e
        go_wp2_with fail
        exact check_out rfl (HB.out.code 8) (HK.out _) (by omega)
    case stop =>
      rintro c pre W hpre ⟨rfl, q, y, k, rfl, hq, hy, hb⟩ hK
      have hf := WK.first_bad hq hy hpre
      obtain rfl : C = y.2 := by rw [HC.out, hf, if_pos (by trivial), if_neg hy]
      clear hgo hB0
      gi_wp2
      exact check_out rfl hb hK (by omega)
/-- Check: the document's answer. -/
theorem check_any {w : World} {p N most : Nat} {m : GM.M} (hg : GMem w p N most m) (hm : GM.Good most m) (u to : Int) {v : Value} {zs : List Int} (hrow : Row .i64 w v zs) :
    Calls Try.prog 10 #[.pointer (some ⟨p, 0, none⟩), .int .i64 u, .int .i64 to, v] w fun e w' => e = .returned (.int .i64 (WK.ccode N u to (WK.list m zs))) ∧ Below w.heap.size w w' := callsIn_wide.1 (check_in hg hm u to hrow)
end Go.Proofs.Ytjnihkfnnokmdaa
