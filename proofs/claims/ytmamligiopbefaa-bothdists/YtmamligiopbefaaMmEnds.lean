/-
  GraphEndBase, GraphEndO, GraphEndI.
-/
import Derived.Test.YtmamligiopbefaaMmGraphBest
import Derived.Test.YtmamligiopbefaaMmRange3
import Derived.Laws.EntriesVeiled
section
/-
  What Out and In lean on: those, and a round within a round.
-/
namespace Go.Proofs.Ytmamligiopbefaa
open Go.RowKit Go.Shelf
attribute [local go_sem] Oper.semAt_some

/-- A number, as the loop's variable. -/
def oneNum (i : Nat) : Array Value := #[.int .i64 (i : Nat)]
set_option maxHeartbeats 400000 in
theorem those_any (p : Nat) (F : Nat) (caps : Array Value) (w : World) :
    Calls Try.prog 98 #[.pointer (some ⟨p, 0, none⟩), .func (.func F) #[] caps] w fun e w' => e = .returned (.func (.func 107) #[] #[.pointer (some ⟨w.heap.size, 0, none⟩), .pointer (some ⟨w.heap.size + 1, 0, none⟩)]) ∧
      w' = (w.alloc (.cells #[.pointer (some ⟨p, 0, none⟩)] 24)).alloc (.cells #[.func (.func F) #[] caps] 135) := by
  go_enter Try.func98, Try.ntmps98
  go_wp2_with fail
  go_ret
  exact ⟨rfl, rfl⟩
end Go.Proofs.Ytmamligiopbefaa
end

section
/-
  The program's Out, gone through: it goes through all arcs, and hands on the numbers of those whose tail the vertex is.
-/
namespace Go.Proofs.Ytmamligiopbefaa
open Go.RowKit Go.Shelf
attribute [local go_sem] Oper.semAt_some

set_option maxHeartbeats 400000 in
theorem soO_any (a : Arc) (B : Nat) (v : Int) (w : World) (hc : w.cell? ⟨B, 0, none⟩ = some (.int .i64 v)) :
    Calls Try.prog 99 #[.agg #[.int .i64 a.tail, .int .i64 a.head, .int .i64 a.weight, .bool a.closed], .pointer (some ⟨B, 0, none⟩)] w fun e w' => e = .returned (.bool (decide (GM.end1 false a = v))) ∧ Below w.heap.size w w' := by
  obtain ⟨t, h, x, c⟩ := a
  have hBl := cell_lt hc
  dsimp only at hBl
  by_cases he : t = v
  · subst he
    rw [show GM.end1 false ⟨t, h, x, c⟩ = t from rfl, decide_eq_true rfl]
    go_enter Try.func99, Try.ntmps99
    go_wp2_with fail
    go_ret
    exact ⟨by simp, (Below.refl _ _).alloc (Nat.le_refl _) _⟩
  · rw [show GM.end1 false ⟨t, h, x, c⟩ = t from rfl, decide_eq_false he]
    have he' : (t == v) = false := beq_eq_false_iff_ne.2 he
    go_enter Try.func99, Try.ntmps99
    go_wp2_with fail
    go_ret
    exact ⟨by simp, (Below.refl _ _).alloc (Nat.le_refl _) _⟩
set_option maxHeartbeats 400000 in
theorem atO_any (p : Nat) (v : Int) (w : World) :
    Calls Try.prog 71 #[.pointer (some ⟨p, 0, none⟩), .int .i64 v] w fun e w' => e = .returned (.func (.func 107) #[] #[.pointer (some ⟨w.heap.size + 1, 0, none⟩), .pointer (some ⟨w.heap.size + 1 + 1, 0, none⟩)]) ∧
      w' = ((w.alloc (.cells #[.int .i64 v] 3)).alloc (.cells #[.pointer (some ⟨p, 0, none⟩)] 24)).alloc (.cells #[.func (.func 99) #[] #[.pointer (some ⟨w.heap.size, 0, none⟩)]] 135) := by
  have ht := those_any p 99 #[.pointer (some ⟨w.heap.size, 0, none⟩)] (w.alloc (.cells #[.int .i64 v] 3))
  simp only [World.size_alloc] at ht
  go_enter Try.func71, Try.ntmps71
  go_wp2_with fail
  refine ht.mono ?_
  rintro e w9 ⟨rfl, hw9⟩
  rw [hw9]
  clear hw9 w9 ht
  go_wp2_with fail
  go_ret
  exact ⟨rfl, rfl⟩

set_option maxRecDepth 100000 in
set_option maxHeartbeats 4000000 in
theorem thoseO_goes (n : Nat) (hn : 4 ≤ n) (B1 B2 Bv p N most : Nat) (v : Int) (m : GM.M) (hm : GM.Good most m) (w : World) :
    Goes n Try.prog 107 #[.pointer (some ⟨B1, 0, none⟩), .pointer (some ⟨B2, 0, none⟩)] oneNum (fun ys => ys = GM.ends m v false) (fun pre => pre <+: GM.ends m v false) 64
      (fun A => A.cell? ⟨B1, 0, none⟩ = some (.pointer (some ⟨p, 0, none⟩)) ∧ A.cell? ⟨B2, 0, none⟩ = some (.func (.func 99) #[] #[.pointer (some ⟨Bv, 0, none⟩)]) ∧ A.cell? ⟨Bv, 0, none⟩ = some (.int .i64 v) ∧ GMem A p N most m) w := by
  intro l J Jx W hW hs hR hJ hJx hY h0
  obtain ⟨hcb, -, -, -⟩ := hR _ _ h0
  have HJ : Hid (∀ s A A', J s A → Below (w.heap.size + 2) A A' → J s A') := hJ
  have HJX : Hid (∀ s A A', Jx s A → Below (w.heap.size + 2) A A' → Jx s A') := hJx
  have HR : Hid (∀ s A, J s A → A.cell? ⟨B1, 0, none⟩ = some (.pointer (some ⟨p, 0, none⟩)) ∧ A.cell? ⟨B2, 0, none⟩ = some (.func (.func 99) #[] #[.pointer (some ⟨Bv, 0, none⟩)]) ∧ A.cell? ⟨Bv, 0, none⟩ = some (.int .i64 v) ∧ GMem A p N most m) := hR
  have HY : Hid (∀ pre x W1, J pre W1 → pre.length < 64 → YieldAt Fence.wide (n - 1) Try.prog l (oneNum x) W1 fun e W' => (e = .returned (.bool true) ∧ J (pre ++ [x]) W' ∧ Above (w.heap.size + 2) W1 W') ∨ (e = .returned (.bool false) ∧ Jx (pre ++ [x]) W' ∧ Above (w.heap.size + 2) W1 W')) := hY
  have H0 : Hid (J [] W) := h0
  have HEA : Hid (GM.those false v (GM.arcs m 64) = GM.ends m v false) := GM.those_all m v false
  obtain ⟨L, hL⟩ : ∃ L, GM.arcs m 64 = L := ⟨_, rfl⟩
  rw [hL] at HEA
  rw [← HEA.out]
  clear HEA
  have hal := all_any p (W.alloc (.cells #[.func (.yield l) #[] #[]] 44))
  have h1n : 1 ≤ n := by omega
  have h3n : 1 ≤ n - 1 - 1 := by omega
  have hb1 : Below W.heap.size W (W.alloc (.cells #[.func (.yield l) #[] #[]] 44)) := (Below.refl _ _).alloc (Nat.le_refl _) _
  have hcb1 := (hb1.cell (p := ⟨B1, 0, none⟩) (cell_lt hcb)).trans hcb
  clear hJ hJx hR hY h0
  refine callsIn_of_wp_marks Try.func107 rfl trivial ?_ rfl
  simp only [Try.ntmps107, List.size_toArray, List.length_cons, List.length_nil, Nat.reduceAdd, Nat.reduceSub, Array.replicate_succ, Array.replicate_zero, List.push_toArray, List.append_toArray, List.nil_append, List.cons_append]
  gi_wp2_with fail
  refine ⟨trivial, (callsIn_wide.2 hal).mono ?_⟩
  rintro e w2 ⟨rfl, hw2⟩
  rw [hw2]
  clear hal hw2 w2
  gi_wp2_with fail
  have bY : Boxed ((W.alloc (.cells #[.func (.yield l) #[] #[]] 44)).alloc (.cells #[.pointer (some ⟨p, 0, none⟩)] 24)) W.heap.size 44 (.func (.yield l) #[] #[]) := (Boxed.new W 44 (.func (.yield l) #[] #[])).alloc _
  have bP : Boxed ((W.alloc (.cells #[.func (.yield l) #[] #[]] 44)).alloc (.cells #[.pointer (some ⟨p, 0, none⟩)] 24)) (W.heap.size + 1) 24 (.pointer (some ⟨p, 0, none⟩)) := by
    have := Boxed.new (W.alloc (.cells #[.func (.yield l) #[] #[]] 44)) 24 (.pointer (some ⟨p, 0, none⟩))
    rwa [World.size_alloc] at this
  have hS2 : ((W.alloc (.cells #[.func (.yield l) #[] #[]] 44)).alloc (.cells #[.pointer (some ⟨p, 0, none⟩)] 24)).heap.size = W.heap.size + 1 + 1 := by simp
  have hB2 : Below W.heap.size W ((W.alloc (.cells #[.func (.yield l) #[] #[]] 44)).alloc (.cells #[.pointer (some ⟨p, 0, none⟩)] 24)) := ((Below.refl _ _).alloc (Nat.le_refl _) _).alloc (by simp) _
  have HJ2 : Hid (J [] ((W.alloc (.cells #[.func (.yield l) #[] #[]] 44)).alloc (.cells #[.pointer (some ⟨p, 0, none⟩)] 24))) := HJ.out _ _ _ H0.out (hB2.mono hs)
  have hgo := all_goes (n - 1) (by omega) (W.heap.size + 1) p N most m hm ((W.alloc (.cells #[.func (.yield l) #[] #[]] 44)).alloc (.cells #[.pointer (some ⟨p, 0, none⟩)] 24))
  generalize (W.alloc (.cells #[.func (.yield l) #[] #[]] 44)).alloc (.cells #[.pointer (some ⟨p, 0, none⟩)] 24) = W2 at *
  clear hcb hcb1 hb1 hB2 H0 hm
  rw [hL] at hgo
  clear hL
  refine range_goesA (by omega) (gf := 100) (lb := #[.pointer (some ⟨W.heap.size + 1, 0, none⟩)]) rfl (enters_of Try.func100 (by kernel_rfl) rfl) hgo (fun _ => rfl)
    (fun pre A => J (GM.those false v pre) A ∧ Boxed A W.heap.size 44 (.func (.yield l) #[] #[]) ∧ Boxed A (W.heap.size + 1) 24 (.pointer (some ⟨p, 0, none⟩)))
    (fun c pre A => c = .ret ∧ Jx (GM.those false v pre) A)
    (fun pre A A' h hb => ⟨HJ.out _ _ _ h.1 (hb.mono (by omega)), (hb.block _ (by omega)).trans h.2.1, (hb.block _ (by omega)).trans h.2.2⟩)
    (fun c pre A A' h hb => ⟨h.1, HJX.out _ _ _ h.2 (hb.mono (by omega))⟩)
    (fun pre A h => ⟨h.2.2.cell, (HR.out _ _ h.1).2.2.2⟩)
    ⟨HJ2.out, bY, bP⟩
    (fun x A => { tmps := #[.func (.yield l) #[] #[], .pointer (some ⟨B1, 0, none⟩), .pointer (some ⟨B2, 0, none⟩), .pointer (some ⟨W.heap.size, 0, none⟩), .int .i64 (x.1 : Nat), .pointer (some ⟨A.heap.size, 0, none⟩), .pointer (some ⟨p, 0, none⟩), .func (.func 100) #[] #[.pointer (some ⟨W.heap.size + 1, 0, none⟩)], .int .i64 (x.1 : Nat), .agg #[.int .i64 x.2.tail, .int .i64 x.2.head, .int .i64 x.2.weight, .bool x.2.closed], undef, undef, undef, undef, undef, undef, undef, undef, undef], defers := [] })
    (fun x A => A.alloc (.cells #[.int .i64 x.2.tail, .int .i64 x.2.head, .int .i64 x.2.weight, .bool x.2.closed] 33))
    (fun x W => (Below.refl _ _).alloc (Nat.le_refl _) _) ?assign ?body ?done ?stop
  case assign =>
    rintro l' ⟨i, t, h, x, c⟩ A K hK
    simp only [numArc]
    gi_wp2
    exact hK
  case body =>
    rintro l' pre ⟨i, t, h, x, c⟩ A0 A ⟨hJA, hbY, hbP⟩ hlt hA0 hblk hsz
    obtain ⟨-, k2, k3, -⟩ := HR.out _ _ hJA
    obtain ⟨a0, a1, a2, a3⟩ := arcIn_block (hblk A0.heap.size (by omega))
    simp only [Nat.zero_add] at a1 a2 a3
    dsimp only at a0 a1 a2 a3
    have hso := soO_any ⟨t, h, x, c⟩ Bv v A k3
    dsimp only at hso
    have HJA : Hid (J (GM.those false v pre) A) := hJA
    have HBY : Hid (Boxed A W.heap.size 44 (.func (.yield l) #[] #[])) := hbY
    have HBP : Hid (Boxed A (W.heap.size + 1) 24 (.pointer (some ⟨p, 0, none⟩))) := hbP
    have HAS : Hid (w.heap.size + 2 ≤ A.heap.size) := by
      have := hbP.lt
      show _ ≤ _
      omega
    have HTL : Hid ((GM.those false v pre).length < 64) := by
      show _ < _
      refine Nat.lt_of_le_of_lt ?_ hlt
      unfold GM.those
      rw [List.length_map]
      exact List.length_filter_le _ _
    have HTS : Hid (GM.those false v (pre ++ [(i, (⟨t, h, x, c⟩ : Arc))]) = GM.those false v pre ++ (if GM.end1 false ⟨t, h, x, c⟩ = v then [i] else [])) := GM.those_snoc _ _ _ _
    have hsW : W.heap.size + 1 + 1 = W2.heap.size := hS2.symm
    clear hJA hbY hbP hblk hgo bY bP k3 hsz
    generalize A0.heap.size = g at *
    by_cases he : GM.end1 false ⟨t, h, x, c⟩ = v
    · rw [decide_eq_true he] at hso
      rw [if_pos he] at HTS
      clear he
      gi_wp2_with fail
      refine ⟨trivial, (CallsIn.inRound l' (callsIn_wide.2 hso)).mono ?_⟩
      rintro e A1 ⟨rfl, hb1⟩
      have hJ1 : J (GM.those false v pre) A1 := HJ.out _ _ _ HJA.out (hb1.mono HAS.out)
      have HBY1 : Hid (Boxed A1 W.heap.size 44 (.func (.yield l) #[] #[])) := (hb1.block _ HBY.out.lt).trans HBY.out
      have HBP1 : Hid (Boxed A1 (W.heap.size + 1) 24 (.pointer (some ⟨p, 0, none⟩))) := (hb1.block _ HBP.out.lt).trans HBP.out
      have HAB1 : Hid (Above W2.heap.size A A1) := Below.keeps hb1 _
      obtain ⟨fn, tmps, assign, body, hy, hRd⟩ := HY.out _ i A1 hJ1 HTL.out
      dsimp only [oneNum] at hy
      have cY := HBY1.out.cell
      clear hso hb1 hJ1 a0 a1 a2 a3 k2 HBY HBP
      gi_wp2_with fail
      refine (roundIn_in hRd).mono ?_
      rintro e A4 (⟨rfl, hJ4, hk4⟩ | ⟨rfl, hJx4, hk4⟩)
      · have HJ4 : Hid (J (GM.those false v pre ++ [i]) A4) := hJ4
        have HK4 : Hid (Above (w.heap.size + 2) A1 A4) := hk4
        clear hRd hy cY hJ4 hk4
        gi_wp2_with fail
        have hy1 := HBY1.out.lt
        have hy2 := HBP1.out.lt
        exact ⟨HAB1.out.trans (HK4.out.mono (by omega)), by rw [HTS.out]; exact HJ4.out, (HK4.out.block _ hy1 (by omega)).trans HBY1.out, (HK4.out.block _ hy2 (by omega)).trans HBP1.out⟩
      · have HJ4 : Hid (Jx (GM.those false v pre ++ [i]) A4) := hJx4
        have HK4 : Hid (Above (w.heap.size + 2) A1 A4) := hk4
        clear hRd hy cY hJx4 hk4
        gi_wp2_with fail
        exact ⟨HAB1.out.trans (HK4.out.mono (by omega)), rfl, by rw [HTS.out]; exact HJ4.out⟩
    · rw [decide_eq_false he] at hso
      rw [if_neg he, List.append_nil] at HTS
      clear he
      gi_wp2_with fail
      refine ⟨trivial, (CallsIn.inRound l' (callsIn_wide.2 hso)).mono ?_⟩
      rintro e A1 ⟨rfl, hb1⟩
      have HJ1 : Hid (J (GM.those false v pre) A1) := HJ.out _ _ _ HJA.out (hb1.mono HAS.out)
      have HBY1 : Hid (Boxed A1 W.heap.size 44 (.func (.yield l) #[] #[])) := (hb1.block _ HBY.out.lt).trans HBY.out
      have HBP1 : Hid (Boxed A1 (W.heap.size + 1) 24 (.pointer (some ⟨p, 0, none⟩))) := (hb1.block _ HBP.out.lt).trans HBP.out
      have HAB1 : Hid (Above W2.heap.size A A1) := Below.keeps hb1 _
      clear hso hb1 a0 a1 a2 a3 k2 HBY HBP
      gi_wp2_with fail
      refine ⟨(fun _ h => by cases h), ?_⟩
      gi_wp2_with fail
      exact ⟨HAB1.out, by rw [HTS.out]; exact HJ1.out, HBY1.out, HBP1.out⟩
  case done =>
    rintro ys A rfl ⟨hJA, hbY, hbP⟩ hK
    gi_wp2
    refine ⟨by simp, .inl ⟨_, _, rfl, run_takeDeferred hK, ?_⟩⟩
    refine ⟨_, results_none rfl _ _ _, ⟨_, rfl⟩, .inl ⟨_, rfl, HJ.out _ _ _ hJA ?_⟩⟩
    exact belowK_b (w := W2) (by omega) A W2.heap.size _ _ (Nat.le_refl _) hK rfl rfl
  case stop =>
    rintro c pre A hpre ⟨rfl, hJA⟩ hK
    gi_wp2
    refine ⟨by simp, .inl ⟨_, _, rfl, run_takeDeferred hK, ?_⟩⟩
    refine ⟨_, results_none rfl _ _ _, ⟨_, rfl⟩, .inr ⟨_, GM.those_pre _ _ hpre, HJX.out _ _ _ hJA ?_⟩⟩
    exact belowK_b (w := W2) (by omega) A W2.heap.size _ _ (Nat.le_refl _) hK rfl rfl
end Go.Proofs.Ytmamligiopbefaa
end

section
/-
  The program's In, gone through: it goes through all arcs, and hands on the numbers of those whose head the vertex is.
-/
namespace Go.Proofs.Ytmamligiopbefaa
open Go.RowKit Go.Shelf
attribute [local go_sem] Oper.semAt_some

set_option maxHeartbeats 400000 in
theorem soI_any (a : Arc) (B : Nat) (v : Int) (w : World) (hc : w.cell? ⟨B, 0, none⟩ = some (.int .i64 v)) :
    Calls Try.prog 108 #[.agg #[.int .i64 a.tail, .int .i64 a.head, .int .i64 a.weight, .bool a.closed], .pointer (some ⟨B, 0, none⟩)] w fun e w' => e = .returned (.bool (decide (GM.end1 true a = v))) ∧ Below w.heap.size w w' := by
  obtain ⟨t, h, x, c⟩ := a
  have hBl := cell_lt hc
  dsimp only at hBl
  by_cases he : h = v
  · subst he
    rw [show GM.end1 true ⟨t, h, x, c⟩ = h from rfl, decide_eq_true rfl]
    go_enter Try.func108, Try.ntmps108
    go_wp2_with fail
    go_ret
    exact ⟨by simp, (Below.refl _ _).alloc (Nat.le_refl _) _⟩
  · rw [show GM.end1 true ⟨t, h, x, c⟩ = h from rfl, decide_eq_false he]
    have he' : (h == v) = false := beq_eq_false_iff_ne.2 he
    go_enter Try.func108, Try.ntmps108
    go_wp2_with fail
    go_ret
    exact ⟨by simp, (Below.refl _ _).alloc (Nat.le_refl _) _⟩
set_option maxHeartbeats 400000 in
theorem atI_any (p : Nat) (v : Int) (w : World) :
    Calls Try.prog 103 #[.pointer (some ⟨p, 0, none⟩), .int .i64 v] w fun e w' => e = .returned (.func (.func 107) #[] #[.pointer (some ⟨w.heap.size + 1, 0, none⟩), .pointer (some ⟨w.heap.size + 1 + 1, 0, none⟩)]) ∧
      w' = ((w.alloc (.cells #[.int .i64 v] 3)).alloc (.cells #[.pointer (some ⟨p, 0, none⟩)] 24)).alloc (.cells #[.func (.func 108) #[] #[.pointer (some ⟨w.heap.size, 0, none⟩)]] 135) := by
  have ht := those_any p 108 #[.pointer (some ⟨w.heap.size, 0, none⟩)] (w.alloc (.cells #[.int .i64 v] 3))
  simp only [World.size_alloc] at ht
  go_enter Try.func103, Try.ntmps103
  go_wp2_with fail
  refine ht.mono ?_
  rintro e w9 ⟨rfl, hw9⟩
  rw [hw9]
  clear hw9 w9 ht
  go_wp2_with fail
  go_ret
  exact ⟨rfl, rfl⟩

set_option maxRecDepth 100000 in
set_option maxHeartbeats 4000000 in
theorem thoseI_goes (n : Nat) (hn : 4 ≤ n) (B1 B2 Bv p N most : Nat) (v : Int) (m : GM.M) (hm : GM.Good most m) (w : World) :
    Goes n Try.prog 107 #[.pointer (some ⟨B1, 0, none⟩), .pointer (some ⟨B2, 0, none⟩)] oneNum (fun ys => ys = GM.ends m v true) (fun pre => pre <+: GM.ends m v true) 64
      (fun A => A.cell? ⟨B1, 0, none⟩ = some (.pointer (some ⟨p, 0, none⟩)) ∧ A.cell? ⟨B2, 0, none⟩ = some (.func (.func 108) #[] #[.pointer (some ⟨Bv, 0, none⟩)]) ∧ A.cell? ⟨Bv, 0, none⟩ = some (.int .i64 v) ∧ GMem A p N most m) w := by
  intro l J Jx W hW hs hR hJ hJx hY h0
  obtain ⟨hcb, -, -, -⟩ := hR _ _ h0
  have HJ : Hid (∀ s A A', J s A → Below (w.heap.size + 2) A A' → J s A') := hJ
  have HJX : Hid (∀ s A A', Jx s A → Below (w.heap.size + 2) A A' → Jx s A') := hJx
  have HR : Hid (∀ s A, J s A → A.cell? ⟨B1, 0, none⟩ = some (.pointer (some ⟨p, 0, none⟩)) ∧ A.cell? ⟨B2, 0, none⟩ = some (.func (.func 108) #[] #[.pointer (some ⟨Bv, 0, none⟩)]) ∧ A.cell? ⟨Bv, 0, none⟩ = some (.int .i64 v) ∧ GMem A p N most m) := hR
  have HY : Hid (∀ pre x W1, J pre W1 → pre.length < 64 → YieldAt Fence.wide (n - 1) Try.prog l (oneNum x) W1 fun e W' => (e = .returned (.bool true) ∧ J (pre ++ [x]) W' ∧ Above (w.heap.size + 2) W1 W') ∨ (e = .returned (.bool false) ∧ Jx (pre ++ [x]) W' ∧ Above (w.heap.size + 2) W1 W')) := hY
  have H0 : Hid (J [] W) := h0
  have HEA : Hid (GM.those true v (GM.arcs m 64) = GM.ends m v true) := GM.those_all m v true
  obtain ⟨L, hL⟩ : ∃ L, GM.arcs m 64 = L := ⟨_, rfl⟩
  rw [hL] at HEA
  rw [← HEA.out]
  clear HEA
  have hal := all_any p (W.alloc (.cells #[.func (.yield l) #[] #[]] 44))
  have h1n : 1 ≤ n := by omega
  have h3n : 1 ≤ n - 1 - 1 := by omega
  have hb1 : Below W.heap.size W (W.alloc (.cells #[.func (.yield l) #[] #[]] 44)) := (Below.refl _ _).alloc (Nat.le_refl _) _
  have hcb1 := (hb1.cell (p := ⟨B1, 0, none⟩) (cell_lt hcb)).trans hcb
  clear hJ hJx hR hY h0
  refine callsIn_of_wp_marks Try.func107 rfl trivial ?_ rfl
  simp only [Try.ntmps107, List.size_toArray, List.length_cons, List.length_nil, Nat.reduceAdd, Nat.reduceSub, Array.replicate_succ, Array.replicate_zero, List.push_toArray, List.append_toArray, List.nil_append, List.cons_append]
  gi_wp2_with fail
  refine ⟨trivial, (callsIn_wide.2 hal).mono ?_⟩
  rintro e w2 ⟨rfl, hw2⟩
  rw [hw2]
  clear hal hw2 w2
  gi_wp2_with fail
  have bY : Boxed ((W.alloc (.cells #[.func (.yield l) #[] #[]] 44)).alloc (.cells #[.pointer (some ⟨p, 0, none⟩)] 24)) W.heap.size 44 (.func (.yield l) #[] #[]) := (Boxed.new W 44 (.func (.yield l) #[] #[])).alloc _
  have bP : Boxed ((W.alloc (.cells #[.func (.yield l) #[] #[]] 44)).alloc (.cells #[.pointer (some ⟨p, 0, none⟩)] 24)) (W.heap.size + 1) 24 (.pointer (some ⟨p, 0, none⟩)) := by
    have := Boxed.new (W.alloc (.cells #[.func (.yield l) #[] #[]] 44)) 24 (.pointer (some ⟨p, 0, none⟩))
    rwa [World.size_alloc] at this
  have hS2 : ((W.alloc (.cells #[.func (.yield l) #[] #[]] 44)).alloc (.cells #[.pointer (some ⟨p, 0, none⟩)] 24)).heap.size = W.heap.size + 1 + 1 := by simp
  have hB2 : Below W.heap.size W ((W.alloc (.cells #[.func (.yield l) #[] #[]] 44)).alloc (.cells #[.pointer (some ⟨p, 0, none⟩)] 24)) := ((Below.refl _ _).alloc (Nat.le_refl _) _).alloc (by simp) _
  have HJ2 : Hid (J [] ((W.alloc (.cells #[.func (.yield l) #[] #[]] 44)).alloc (.cells #[.pointer (some ⟨p, 0, none⟩)] 24))) := HJ.out _ _ _ H0.out (hB2.mono hs)
  have hgo := all_goes (n - 1) (by omega) (W.heap.size + 1) p N most m hm ((W.alloc (.cells #[.func (.yield l) #[] #[]] 44)).alloc (.cells #[.pointer (some ⟨p, 0, none⟩)] 24))
  generalize (W.alloc (.cells #[.func (.yield l) #[] #[]] 44)).alloc (.cells #[.pointer (some ⟨p, 0, none⟩)] 24) = W2 at *
  clear hcb hcb1 hb1 hB2 H0 hm
  rw [hL] at hgo
  clear hL
  refine range_goesA (by omega) (gf := 100) (lb := #[.pointer (some ⟨W.heap.size + 1, 0, none⟩)]) rfl (enters_of Try.func100 (by kernel_rfl) rfl) hgo (fun _ => rfl)
    (fun pre A => J (GM.those true v pre) A ∧ Boxed A W.heap.size 44 (.func (.yield l) #[] #[]) ∧ Boxed A (W.heap.size + 1) 24 (.pointer (some ⟨p, 0, none⟩)))
    (fun c pre A => c = .ret ∧ Jx (GM.those true v pre) A)
    (fun pre A A' h hb => ⟨HJ.out _ _ _ h.1 (hb.mono (by omega)), (hb.block _ (by omega)).trans h.2.1, (hb.block _ (by omega)).trans h.2.2⟩)
    (fun c pre A A' h hb => ⟨h.1, HJX.out _ _ _ h.2 (hb.mono (by omega))⟩)
    (fun pre A h => ⟨h.2.2.cell, (HR.out _ _ h.1).2.2.2⟩)
    ⟨HJ2.out, bY, bP⟩
    (fun x A => { tmps := #[.func (.yield l) #[] #[], .pointer (some ⟨B1, 0, none⟩), .pointer (some ⟨B2, 0, none⟩), .pointer (some ⟨W.heap.size, 0, none⟩), .int .i64 (x.1 : Nat), .pointer (some ⟨A.heap.size, 0, none⟩), .pointer (some ⟨p, 0, none⟩), .func (.func 100) #[] #[.pointer (some ⟨W.heap.size + 1, 0, none⟩)], .int .i64 (x.1 : Nat), .agg #[.int .i64 x.2.tail, .int .i64 x.2.head, .int .i64 x.2.weight, .bool x.2.closed], undef, undef, undef, undef, undef, undef, undef, undef, undef], defers := [] })
    (fun x A => A.alloc (.cells #[.int .i64 x.2.tail, .int .i64 x.2.head, .int .i64 x.2.weight, .bool x.2.closed] 33))
    (fun x W => (Below.refl _ _).alloc (Nat.le_refl _) _) ?assign ?body ?done ?stop
  case assign =>
    rintro l' ⟨i, t, h, x, c⟩ A K hK
    simp only [numArc]
    gi_wp2
    exact hK
  case body =>
    rintro l' pre ⟨i, t, h, x, c⟩ A0 A ⟨hJA, hbY, hbP⟩ hlt hA0 hblk hsz
    obtain ⟨-, k2, k3, -⟩ := HR.out _ _ hJA
    obtain ⟨a0, a1, a2, a3⟩ := arcIn_block (hblk A0.heap.size (by omega))
    simp only [Nat.zero_add] at a1 a2 a3
    dsimp only at a0 a1 a2 a3
    have hso := soI_any ⟨t, h, x, c⟩ Bv v A k3
    dsimp only at hso
    have HJA : Hid (J (GM.those true v pre) A) := hJA
    have HBY : Hid (Boxed A W.heap.size 44 (.func (.yield l) #[] #[])) := hbY
    have HBP : Hid (Boxed A (W.heap.size + 1) 24 (.pointer (some ⟨p, 0, none⟩))) := hbP
    have HAS : Hid (w.heap.size + 2 ≤ A.heap.size) := by
      have := hbP.lt
      show _ ≤ _
      omega
    have HTL : Hid ((GM.those true v pre).length < 64) := by
      show _ < _
      refine Nat.lt_of_le_of_lt ?_ hlt
      unfold GM.those
      rw [List.length_map]
      exact List.length_filter_le _ _
    have HTS : Hid (GM.those true v (pre ++ [(i, (⟨t, h, x, c⟩ : Arc))]) = GM.those true v pre ++ (if GM.end1 true ⟨t, h, x, c⟩ = v then [i] else [])) := GM.those_snoc _ _ _ _
    have hsW : W.heap.size + 1 + 1 = W2.heap.size := hS2.symm
    clear hJA hbY hbP hblk hgo bY bP k3 hsz
    generalize A0.heap.size = g at *
    by_cases he : GM.end1 true ⟨t, h, x, c⟩ = v
    · rw [decide_eq_true he] at hso
      rw [if_pos he] at HTS
      clear he
      gi_wp2_with fail
      refine ⟨trivial, (CallsIn.inRound l' (callsIn_wide.2 hso)).mono ?_⟩
      rintro e A1 ⟨rfl, hb1⟩
      have hJ1 : J (GM.those true v pre) A1 := HJ.out _ _ _ HJA.out (hb1.mono HAS.out)
      have HBY1 : Hid (Boxed A1 W.heap.size 44 (.func (.yield l) #[] #[])) := (hb1.block _ HBY.out.lt).trans HBY.out
      have HBP1 : Hid (Boxed A1 (W.heap.size + 1) 24 (.pointer (some ⟨p, 0, none⟩))) := (hb1.block _ HBP.out.lt).trans HBP.out
      have HAB1 : Hid (Above W2.heap.size A A1) := Below.keeps hb1 _
      obtain ⟨fn, tmps, assign, body, hy, hRd⟩ := HY.out _ i A1 hJ1 HTL.out
      dsimp only [oneNum] at hy
      have cY := HBY1.out.cell
      clear hso hb1 hJ1 a0 a1 a2 a3 k2 HBY HBP
      gi_wp2_with fail
      refine (roundIn_in hRd).mono ?_
      rintro e A4 (⟨rfl, hJ4, hk4⟩ | ⟨rfl, hJx4, hk4⟩)
      · have HJ4 : Hid (J (GM.those true v pre ++ [i]) A4) := hJ4
        have HK4 : Hid (Above (w.heap.size + 2) A1 A4) := hk4
        clear hRd hy cY hJ4 hk4
        gi_wp2_with fail
        have hy1 := HBY1.out.lt
        have hy2 := HBP1.out.lt
        exact ⟨HAB1.out.trans (HK4.out.mono (by omega)), by rw [HTS.out]; exact HJ4.out, (HK4.out.block _ hy1 (by omega)).trans HBY1.out, (HK4.out.block _ hy2 (by omega)).trans HBP1.out⟩
      · have HJ4 : Hid (Jx (GM.those true v pre ++ [i]) A4) := hJx4
        have HK4 : Hid (Above (w.heap.size + 2) A1 A4) := hk4
        clear hRd hy cY hJx4 hk4
        gi_wp2_with fail
        exact ⟨HAB1.out.trans (HK4.out.mono (by omega)), rfl, by rw [HTS.out]; exact HJ4.out⟩
    · rw [decide_eq_false he] at hso
      rw [if_neg he, List.append_nil] at HTS
      clear he
      gi_wp2_with fail
      refine ⟨trivial, (CallsIn.inRound l' (callsIn_wide.2 hso)).mono ?_⟩
      rintro e A1 ⟨rfl, hb1⟩
      have HJ1 : Hid (J (GM.those true v pre) A1) := HJ.out _ _ _ HJA.out (hb1.mono HAS.out)
      have HBY1 : Hid (Boxed A1 W.heap.size 44 (.func (.yield l) #[] #[])) := (hb1.block _ HBY.out.lt).trans HBY.out
      have HBP1 : Hid (Boxed A1 (W.heap.size + 1) 24 (.pointer (some ⟨p, 0, none⟩))) := (hb1.block _ HBP.out.lt).trans HBP.out
      have HAB1 : Hid (Above W2.heap.size A A1) := Below.keeps hb1 _
      clear hso hb1 a0 a1 a2 a3 k2 HBY HBP
      gi_wp2_with fail
      refine ⟨(fun _ h => by cases h), ?_⟩
      gi_wp2_with fail
      exact ⟨HAB1.out, by rw [HTS.out]; exact HJ1.out, HBY1.out, HBP1.out⟩
  case done =>
    rintro ys A rfl ⟨hJA, hbY, hbP⟩ hK
    gi_wp2
    refine ⟨by simp, .inl ⟨_, _, rfl, run_takeDeferred hK, ?_⟩⟩
    refine ⟨_, results_none rfl _ _ _, ⟨_, rfl⟩, .inl ⟨_, rfl, HJ.out _ _ _ hJA ?_⟩⟩
    exact belowK_b (w := W2) (by omega) A W2.heap.size _ _ (Nat.le_refl _) hK rfl rfl
  case stop =>
    rintro c pre A hpre ⟨rfl, hJA⟩ hK
    gi_wp2
    refine ⟨by simp, .inl ⟨_, _, rfl, run_takeDeferred hK, ?_⟩⟩
    refine ⟨_, results_none rfl _ _ _, ⟨_, rfl⟩, .inr ⟨_, GM.those_pre _ _ hpre, HJX.out _ _ _ hJA ?_⟩⟩
    exact belowK_b (w := W2) (by omega) A W2.heap.size _ _ (Nat.le_refl _) hK rfl rfl
end Go.Proofs.Ytmamligiopbefaa
end
