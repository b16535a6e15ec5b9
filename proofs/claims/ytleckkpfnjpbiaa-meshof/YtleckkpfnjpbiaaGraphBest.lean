/-
  The walk of graph's Best: a range over all that keeps the best one so far in two cells.
-/
import Derived.Test.YtleckkpfnjpbiaaRange3
import Derived.Test.YtleckkpfnjpbiaaGraphSeq
namespace Go.Proofs.Ytleckkpfnjpbiaa
open Go.RowKit Go.Shelf
attribute [local go_sem] Oper.semAt_some

/-- What lies in Best's cells, from block g on. -/
structure Bests (w : World) (p : Nat) (u v : Int) (b : Int × Int) (W : World) : Prop where
  tl : Boxed W w.heap.size 3 (.int .i64 u)
  hd : Boxed W (w.heap.size + 1) 3 (.int .i64 v)
  wt : Boxed W (w.heap.size + 1 + 1) 3 (.int .i64 b.1)
  id : Boxed W (w.heap.size + 1 + 1 + 1) 3 (.int .i64 b.2)
  ptr : Boxed W (w.heap.size + 1 + 1 + 1 + 1) 40 (.pointer (some ⟨p, 0, none⟩))
  bel : Below w.heap.size w W
theorem Bests.below {w W W' : World} {p : Nat} {u v : Int} {b : Int × Int} (h : Bests w p u v b W) (hb : Below (w.heap.size + 5) W W') : Bests w p u v b W' :=
  ⟨(hb.block _ (by omega)).trans h.tl, (hb.block _ (by omega)).trans h.hd, (hb.block _ (by omega)).trans h.wt, (hb.block _ (by omega)).trans h.id, (hb.block _ (by omega)).trans h.ptr, h.bel.trans (hb.mono (by omega))⟩
theorem Bests.put {w W : World} {p : Nat} {u v : Int} {b : Int × Int} (h : Bests w p u v b W) (x i : Int) : Bests w p u v (x, i) ((W.setCell ⟨w.heap.size + 1 + 1, 0, none⟩ (.int .i64 x)).setCell ⟨w.heap.size + 1 + 1 + 1, 0, none⟩ (.int .i64 i)) :=
  ⟨(h.tl.other (by omega) _).other (by omega) _, (h.hd.other (by omega) _).other (by omega) _, (h.wt.set _).other (by omega) _, (h.id.other (by omega) _).set _, (h.ptr.other (by omega) _).other (by omega) _,
    (h.bel.setCell (p := ⟨w.heap.size + 1 + 1, 0, none⟩) (by show w.heap.size ≤ w.heap.size + 1 + 1; omega) _).setCell (p := ⟨w.heap.size + 1 + 1 + 1, 0, none⟩) (by show w.heap.size ≤ w.heap.size + 1 + 1 + 1; omega) _⟩
theorem bests_above {w W : World} (N : Nat) (hN : w.heap.size + 5 ≤ N) (x i : Value) : Above N W ((W.setCell ⟨w.heap.size + 1 + 1, 0, none⟩ x).setCell ⟨w.heap.size + 1 + 1 + 1, 0, none⟩ i) :=
  ((Keeps.refl (fun b => b < N) W).setCell (p := ⟨w.heap.size + 1 + 1, 0, none⟩) (.inl (by show w.heap.size + 1 + 1 < N; omega)) _).setCell (p := ⟨w.heap.size + 1 + 1 + 1, 0, none⟩) (.inl (by show w.heap.size + 1 + 1 + 1 < N; omega)) _

theorem bests_new (w : World) (p : Nat) (u v : Int) : Bests w p u v GM.best0 (((((w.alloc (.cells #[.int .i64 u] 3)).alloc (.cells #[.int .i64 v] 3)).alloc (.cells #[.int .i64 4611686018427387906] 3)).alloc (.cells #[.int .i64 (-1)] 3)).alloc (.cells #[.pointer (some ⟨p, 0, none⟩)] 40)) := by
  have s1 : (w.alloc (.cells #[.int .i64 u] 3)).heap.size = w.heap.size + 1 := by simp
  have b1 := Boxed.new w 3 (.int .i64 u)
  have l1 : Below w.heap.size w (w.alloc (.cells #[.int .i64 u] 3)) := (Below.refl _ _).alloc (Nat.le_refl _) _
  generalize w.alloc (.cells #[.int .i64 u] 3) = w1 at *
  have s2 : (w1.alloc (.cells #[.int .i64 v] 3)).heap.size = w.heap.size + 1 + 1 := by simp [s1]
  have b2 := Boxed.new w1 3 (.int .i64 v)
  rw [s1] at b2
  replace b1 := b1.alloc (.cells #[.int .i64 v] 3)
  replace l1 := l1.alloc (by omega) (.cells #[.int .i64 v] 3)
  generalize w1.alloc (.cells #[.int .i64 v] 3) = w2 at *
  have s3 : (w2.alloc (.cells #[.int .i64 4611686018427387906] 3)).heap.size = w.heap.size + 1 + 1 + 1 := by simp [s2]
  have b3 := Boxed.new w2 3 (.int .i64 4611686018427387906)
  rw [s2] at b3
  replace b1 := b1.alloc (.cells #[.int .i64 4611686018427387906] 3)
  replace b2 := b2.alloc (.cells #[.int .i64 4611686018427387906] 3)
  replace l1 := l1.alloc (by omega) (.cells #[.int .i64 4611686018427387906] 3)
  generalize w2.alloc (.cells #[.int .i64 4611686018427387906] 3) = w3 at *
  have s4 : (w3.alloc (.cells #[.int .i64 (-1)] 3)).heap.size = w.heap.size + 1 + 1 + 1 + 1 := by simp [s3]
  have b4 := Boxed.new w3 3 (.int .i64 (-1))
  rw [s3] at b4
  replace b1 := b1.alloc (.cells #[.int .i64 (-1)] 3)
  replace b2 := b2.alloc (.cells #[.int .i64 (-1)] 3)
  replace b3 := b3.alloc (.cells #[.int .i64 (-1)] 3)
  replace l1 := l1.alloc (by omega) (.cells #[.int .i64 (-1)] 3)
  generalize w3.alloc (.cells #[.int .i64 (-1)] 3) = w4 at *
  have b5 := Boxed.new w4 40 (.pointer (some ⟨p, 0, none⟩))
  rw [s4] at b5
  exact ⟨b1.alloc _, b2.alloc _, b3.alloc _, b4.alloc _, b5, l1.alloc (by omega) _⟩
theorem arcIn_block {W A : World} {t h x : Int} {c : Bool} (hb : W.heap[A.heap.size]? = (A.alloc (.cells #[.int .i64 t, .int .i64 h, .int .i64 x, .bool c] 83)).heap[A.heap.size]?) : ArcIn W A.heap.size 0 ⟨t, h, x, c⟩ :=
  (arcIn_new A t h x c).same (fun j => World.cell?_of_block (a := ⟨A.heap.size, j, none⟩) hb)
set_option maxRecDepth 100000 in
/-- The way out: both answers lie in their cells; nothing is deferred. -/
theorem best_out {n : Nat} {w W : World} {p : Nat} {u v : Int} {b : Int × Int} {t : Array Value} {D : Nat} (ht : t[6]?.getD undef = .pointer (some ⟨w.heap.size + 1 + 1, 0, none⟩)) (ht' : t[7]?.getD undef = .pointer (some ⟨w.heap.size + 1 + 1 + 1, 0, none⟩)) (hB : Bests w p u v b W)
    (hK : W.heap[D]? = some (.deferred (some []))) (hD : w.heap.size + 5 ≤ D) :
    bodyPostM Fence.wide n Try.prog Try.f41 (fun e w' => e = .returned (.tuple #[.int .i64 b.1, .int .i64 b.2]) ∧ Below w.heap.size w w') Exit.ret { tmps := t, defers := [{ target := .collected D, args := #[] }] } W := by
  refine ⟨by simp, .inl ⟨_, _, rfl, run_takeDeferred hK, ?_⟩⟩
  have hc6 := cell_kept hB.wt.cell (grownBy_putObj' _ D (.deferred none)) (fun r e => by cases e; exact ⟨_, hK, rfl⟩)
  have hc7 := cell_kept hB.id.cell (grownBy_putObj' _ D (.deferred none)) (fun r e => by cases e; exact ⟨_, hK, rfl⟩)
  refine ⟨.tuple #[.int .i64 b.1, .int .i64 b.2], ?_, rfl, hB.bel.trans (belowK_b (w := w) (Nat.le_refl _) _ D _ _ (by omega) hK rfl rfl)⟩
  simp [results, Try.f41, go_sem, hc6, hc7, ht, ht']

set_option maxRecDepth 100000 in
set_option maxHeartbeats 2000000 in
theorem best_in {w : World} {p N most : Nat} {m : GM.M} (hg : GMem w p N most m) (hm : GM.Good most m) (u v : Int) :
    CallsIn Fence.wide 5 Try.prog 41 #[.pointer (some ⟨p, 0, none⟩), .int .i64 u, .int .i64 v] w fun e w' => e = .returned (.tuple #[.int .i64 (GM.best m u v 64).1, .int .i64 (GM.best m u v 64).2]) ∧ Below w.heap.size w w' := by
  have HC : Hid ((GM.arcs m 64).foldl (GM.betterN u v) GM.best0 = GM.best m u v 64) := GM.bestN hm u v 64
  have HAL : Hid (∀ W, Calls Try.prog 61 #[.pointer (some ⟨p, 0, none⟩)] W fun e w' => e = .returned (.func (.func 77) #[] #[.pointer (some ⟨W.heap.size, 0, none⟩)]) ∧ w' = W.alloc (.cells #[.pointer (some ⟨p, 0, none⟩)] 40)) := fun W => all_any p W
  have HGO : Hid (∀ B W, Goes 4 Try.prog 77 #[.pointer (some ⟨B, 0, none⟩)] numArc (fun ys => ys = GM.arcs m 64) (fun pre => pre <+: GM.arcs m 64) 64 (fun A => A.cell? ⟨B, 0, none⟩ = some (.pointer (some ⟨p, 0, none⟩)) ∧ GMem A p N most m) W) := fun B W => all_goes 4 (by decide) B p N most m hm W
  have HG : Hid (∀ W, Below w.heap.size w W → GMem W p N most m) := fun W hW => hg.on hW
  clear hg hm
  generalize GM.best m u v 64 = C at *
  generalize GM.arcs m 64 = L at *
  refine callsIn_of_wp_marks Try.func41 rfl trivial ?_ rfl
  simp only [Try.ntmps41, List.size_toArray, List.length_cons, List.length_nil, Nat.reduceAdd, Nat.reduceSub, Array.replicate_succ, Array.replicate_zero, List.push_toArray, List.append_toArray, List.nil_append, List.cons_append]
  refine wpIn_wide.2 ?_
  go_wp2_with fail
  refine (HAL.out _).mono ?_
  rintro e w9 ⟨rfl, hw9⟩
  rw [hw9]
  clear hw9 w9 HAL
  simp only [World.size_alloc]
  have hB0 := bests_new w p u v
  have hS : (((((w.alloc (.cells #[.int .i64 u] 3)).alloc (.cells #[.int .i64 v] 3)).alloc (.cells #[.int .i64 4611686018427387906] 3)).alloc (.cells #[.int .i64 (-1)] 3)).alloc (.cells #[.pointer (some ⟨p, 0, none⟩)] 40)).heap.size = w.heap.size + 5 := by simp
  generalize ((((w.alloc (.cells #[.int .i64 u] 3)).alloc (.cells #[.int .i64 v] 3)).alloc (.cells #[.int .i64 4611686018427387906] 3)).alloc (.cells #[.int .i64 (-1)] 3)).alloc (.cells #[.pointer (some ⟨p, 0, none⟩)] 40) = W0 at *
  have hgo := HGO.out (w.heap.size + 1 + 1 + 1 + 1) W0
  clear HGO
  go_wp2_with fail
  refine (wpIn_wide (n := 5)).1 (range_goesA (by decide) (gf := 77) (lb := #[.pointer (some ⟨w.heap.size + 1 + 1 + 1 + 1, 0, none⟩)]) rfl (enters_of Try.func77 (by kernel_rfl) rfl) hgo (fun _ => rfl)
    (fun pre W => Bests w p u v (pre.foldl (GM.betterN u v) GM.best0) W)
    (fun _ _ _ => False)
    (fun pre A A' h hb => h.below (hb.mono (by omega)))
    (fun _ _ _ _ h _ => h)
    (fun pre A h => ⟨h.ptr.cell, HG.out A h.bel⟩)
    hB0
    (fun x A => { tmps := #[.pointer (some ⟨p, 0, none⟩), .int .i64 u, .int .i64 v, undef, .pointer (some ⟨w.heap.size, 0, none⟩), .pointer (some ⟨w.heap.size + 1, 0, none⟩), .pointer (some ⟨w.heap.size + 1 + 1, 0, none⟩), .pointer (some ⟨w.heap.size + 1 + 1 + 1, 0, none⟩), .int .i64 (x.1 : Nat), .pointer (some ⟨A.heap.size, 0, none⟩), .pointer (some ⟨p, 0, none⟩), .func (.func 77) #[] #[.pointer (some ⟨w.heap.size + 1 + 1 + 1 + 1, 0, none⟩)], .int .i64 (x.1 : Nat), .agg #[.int .i64 x.2.tail, .int .i64 x.2.head, .int .i64 x.2.weight, .bool x.2.closed], undef, undef, undef, undef, undef, undef, undef, undef, undef, undef, undef, undef, undef, undef, undef, undef, undef, undef, undef, undef, undef, undef, undef, undef, undef, undef], defers := [] })
    (fun x A => A.alloc (.cells #[.int .i64 x.2.tail, .int .i64 x.2.head, .int .i64 x.2.weight, .bool x.2.closed] 83))
    (fun x W => (Below.refl _ _).alloc (Nat.le_refl _) _) ?assign ?body ?done ?stop)
  case assign =>
    rintro l ⟨i, t, h, x, c⟩ W K hK
    simp only [numArc]
    gi_wp2
    exact hK
  case body =>
    rintro l pre ⟨i, t, h, x, c⟩ A W hb hlt hA hblk hsz
    have hin := arcIn_block (hblk A.heap.size (by omega))
    obtain ⟨a0, a1, a2, a3⟩ := hin
    simp only [Nat.zero_add] at a1 a2 a3
    have k0 := hb.tl.cell
    have k1 := hb.hd.cell
    have k2 := hb.wt.cell
    have f2 := hb.wt.frozen
    have k3 := hb.id.cell
    have f3 := hb.id.frozen
    have HB : Hid (Bests w p u v (pre.foldl (GM.betterN u v) GM.best0) W) := hb
    have HF : Hid ((pre ++ [(i, (⟨t, h, x, c⟩ : Arc))]).foldl (GM.betterN u v) GM.best0 = GM.betterN u v (pre.foldl (GM.betterN u v) GM.best0) (i, ⟨t, h, x, c⟩)) := by
      show _ = _
      rw [List.foldl_append]
      rfl
    have HS : Hid (w.heap.size + 5 ≤ W0.heap.size) := Nat.le_of_eq hS.symm
    clear hb hblk hgo hB0
    generalize pre.foldl (GM.betterN u v) GM.best0 = b at *
    obtain ⟨b1, b2⟩ := b
    dsimp only at k2 k3
    have hless := less_any x b1 W
    dsimp only at a0 a1 a2 a3
    generalize A.heap.size = g at *
    by_cases h1 : t = u
    · by_cases h2 : h = v
      · cases c with
        | false =>
          by_cases h3 : GM.norm x < GM.norm b1
          · rw [decide_eq_true h3] at hless
            have HN : Hid (Bests w p u v ((pre ++ [(i, (⟨t, h, x, false⟩ : Arc))]).foldl (GM.betterN u v) GM.best0) ((W.setCell ⟨w.heap.size + 1 + 1, 0, none⟩ (.int .i64 x)).setCell ⟨w.heap.size + 1 + 1 + 1, 0, none⟩ (.int .i64 (i : Nat)))) := by
              show Bests _ _ _ _ _ _
              rw [HF.out, GM.betterN, if_pos (by simp [GM.fits, h1, h2, h3])]
              exact HB.out.put _ _
            have HAS : Hid (Above W0.heap.size W ((W.setCell ⟨w.heap.size + 1 + 1, 0, none⟩ (.int .i64 x)).setCell ⟨w.heap.size + 1 + 1 + 1, 0, none⟩ (.int .i64 (i : Nat)))) := bests_above _ HS.out _ _
            subst h1 h2
            gi_wp2_with fail
            refine ⟨trivial, (CallsIn.inRound l (callsIn_wide.2 hless)).mono ?_⟩
            rintro e w9 ⟨rfl, hw9⟩
            rw [hw9]
            clear hw9 w9 hless
            gi_wp2_with fail
            exact ⟨HAS.out, HN.out⟩
          · rw [decide_eq_false h3] at hless
            have HN : Hid (Bests w p u v ((pre ++ [(i, (⟨t, h, x, false⟩ : Arc))]).foldl (GM.betterN u v) GM.best0) W) := by
              show Bests _ _ _ _ _ _
              rw [HF.out, GM.betterN, if_neg (by simp [GM.fits, h1, h2, h3])]
              exact HB.out
            subst h1 h2
            gi_wp2_with fail
            refine ⟨trivial, (CallsIn.inRound l (callsIn_wide.2 hless)).mono ?_⟩
            rintro e w9 ⟨rfl, hw9⟩
            rw [hw9]
            clear hw9 w9 hless
            gi_wp2_with fail
            exact ⟨Above.refl _ _, HN.out⟩
        | true =>
          have HN : Hid (Bests w p u v ((pre ++ [(i, (⟨t, h, x, true⟩ : Arc))]).foldl (GM.betterN u v) GM.best0) W) := by
            show Bests _ _ _ _ _ _
            rw [HF.out, GM.betterN, if_neg (by simp [GM.fits])]
            exact HB.out
          subst h1 h2
          clear hless
          gi_wp2_with fail
          refine ⟨trivial, ?_⟩
          gi_wp2_with fail
          exact ⟨Above.refl _ _, HN.out⟩
      · have h2' : (h == v) = false := beq_eq_false_iff_ne.2 h2
        have HN : Hid (Bests w p u v ((pre ++ [(i, (⟨t, h, x, c⟩ : Arc))]).foldl (GM.betterN u v) GM.best0) W) := by
          show Bests _ _ _ _ _ _
          rw [HF.out, GM.betterN, if_neg (by simp [GM.fits, h2])]
          exact HB.out
        subst h1
        clear hless
        gi_wp2_with fail
        refine ⟨trivial, ?_⟩
        gi_wp2_with fail
        exact ⟨Above.refl _ _, HN.out⟩
    · have h1' : (t == u) = false := beq_eq_false_iff_ne.2 h1
      have HN : Hid (Bests w p u v ((pre ++ [(i, (⟨t, h, x, c⟩ : Arc))]).foldl (GM.betterN u v) GM.best0) W) := by
        show Bests _ _ _ _ _ _
        rw [HF.out, GM.betterN, if_neg (by simp [GM.fits, h1])]
        exact HB.out
      clear hless
      gi_wp2_with fail
      refine ⟨trivial, ?_⟩
      gi_wp2_with fail
      exact ⟨Above.refl _ _, HN.out⟩
  case done =>
    rintro ys W rfl hb hK
    rw [HC.out] at hb
    have k2 := hb.wt.cell
    have f2 := hb.wt.frozen
    have k3 := hb.id.cell
    have f3 := hb.id.frozen
    have HB : Hid (Bests w p u v C W) := hb
    have HB2 : Hid (Bests w p u v C ((W.setCell ⟨w.heap.size + 1 + 1, 0, none⟩ (.int .i64 C.1)).setCell ⟨w.heap.size + 1 + 1 + 1, 0, none⟩ (.int .i64 C.2)).drew) := by
      have := hb.put C.1 C.2
      exact this.below ((Below.refl _ _).drew)
    have HK2 : Hid (((W.setCell ⟨w.heap.size + 1 + 1, 0, none⟩ (.int .i64 C.1)).setCell ⟨w.heap.size + 1 + 1 + 1, 0, none⟩ (.int .i64 C.2)).drew.heap[W0.heap.size]? = some (.deferred (some []))) := by
      show ((W.setCell ⟨w.heap.size + 1 + 1, 0, none⟩ (.int .i64 C.1)).setCell ⟨w.heap.size + 1 + 1 + 1, 0, none⟩ (.int .i64 C.2)).heap[W0.heap.size]? = _
      rw [Below.heap_setCell _ _ _ _ (by show W0.heap.size ≠ w.heap.size + 1 + 1 + 1; omega), Below.heap_setCell _ _ _ _ (by show W0.heap.size ≠ w.heap.size + 1 + 1; omega)]
      exact hK
    rw [hS] at HK2
    clear hb hgo hB0 hK
    obtain ⟨C1, C2⟩ := C
    dsimp only at k2 k3 HB2 HK2
    go_wp2_with fail
    go_region
    all_goals
      go_wp2_with fail
      exact best_out rfl rfl HB2.out HK2.out (by omega)
  case stop =>
    rintro c pre W _ h _
    exact h.elim
/-- The best open arc from u to v. -/
theorem best_any {w : World} {p N most : Nat} {m : GM.M} (hg : GMem w p N most m) (hm : GM.Good most m) (u v : Int) :
    Calls Try.prog 41 #[.pointer (some ⟨p, 0, none⟩), .int .i64 u, .int .i64 v] w fun e w' => e = .returned (.tuple #[.int .i64 (GM.best m u v 64).1, .int .i64 (GM.best m u v 64).2]) ∧ Below w.heap.size w w' := callsIn_wide.1 (best_in hg hm u v)
end Go.Proofs.Ytleckkpfnjpbiaa
