/-
  The program's stops, gone through: the vertices at which a walk is.
-/
import Derived.Test.YtjnihkfnnokmdaaWalkArcs
namespace Go.Proofs.Ytjnihkfnnokmdaa
open Go.RowKit Go.Shelf
attribute [local go_sem] Oper.semAt_some

set_option maxHeartbeats 400000 in
theorem wvertex_any {w : World} {p n most : Nat} {m : GM.M} (hg : GMem w p n most m) (v : Int) :
    Calls Try.prog 28 #[.pointer (some ⟨p, 0, none⟩), .int .i64 v] w fun e w' => e = .returned (.bool (GM.vert n v)) ∧ Below w.heap.size w w' := by
  have HV : Hid (∀ W, Below w.heap.size w W → Calls Try.prog 53 #[.pointer (some ⟨p, 0, none⟩)] W fun e w' => e = .returned (.int .i64 (n : Nat)) ∧ w' = W) := fun W hW => vertices_any (hg.on hW)
  clear hg
  by_cases h : 0 ≤ v
  · go_enter Try.func28, Try.ntmps28
    go_wp2_with fail
    refine (HV.out _ (Below.refl _ _)).mono ?_
    rintro e w' ⟨rfl, rfl⟩
    go_wp2
    all_goals go_ret
    all_goals refine ⟨ret_bool ?_, Below.refl _ _⟩
    all_goals unfold GM.vert
    all_goals simp
    all_goals omega
  · go_enter Try.func28, Try.ntmps28
    go_wp2_with fail
    all_goals go_ret
    all_goals refine ⟨ret_bool ?_, Below.refl _ _⟩
    all_goals unfold GM.vert
    all_goals simp
    all_goals omega
set_option maxHeartbeats 400000 in
theorem stops_any (p : Nat) (u : Int) (ao : Option Addr) (n c : Nat) (w : World) :
    Calls Try.prog 29 #[.pointer (some ⟨p, 0, none⟩), .int .i64 u, .slice ao n c] w fun e w' => e = .returned (.func (.func 54) #[] #[.pointer (some ⟨w.heap.size, 0, none⟩), .pointer (some ⟨w.heap.size + 1, 0, none⟩), .pointer (some ⟨w.heap.size + 1 + 1, 0, none⟩)]) ∧ w' = ((w.alloc (.cells #[.pointer (some ⟨p, 0, none⟩)] 25)).alloc (.cells #[.int .i64 u] 3)).alloc (.cells #[.slice ao n c] 23) := by
  go_enter Try.func29, Try.ntmps29
  go_wp2_with fail
  go_ret
  exact ⟨rfl, rfl⟩

/-- A vertex and a code, as the loop's variables. -/
def stopV (x : Int × Int) : Array Value := #[.int .i64 x.1, .int .i64 x.2]
/-- What stops reads. -/
structure StopsR (bg bf bi : Nat) (u : Int) (v : Value) (zs : List Int) (p N most : Nat) (m : GM.M) (A : World) : Prop where
  cg : A.cell? ⟨bg, 0, none⟩ = some (.pointer (some ⟨p, 0, none⟩))
  cf : A.cell? ⟨bf, 0, none⟩ = some (.int .i64 u)
  ci : A.cell? ⟨bi, 0, none⟩ = some v
  row : Row .i64 A v zs
  g : GMem A p N most m
section
variable (l : Nat) (J Jx : List (Int × Int) → (Nat → Prop) → World → Prop) (X : Nat → Prop) (u : Int) (v : Value) (p Y T : Nat)
/-- Between the rounds: where the walk is lies in its cell. -/
structure StopI (pre : List (Arc × Int)) (X' : Nat → Prop) (A : World) : Prop where
  at' : ∃ u', WK.ends u pre = some u' ∧ Boxed A T 3 (.int .i64 u')
  j : J ((u, 0) :: WK.run u pre) (fun b => X' b ∨ X b ∨ b = Y ∨ b = T ∨ b = T + 1 ∨ b = T + 1 + 1) A
  by' : Boxed A Y 88 (.func (.yield l) #[] #[])
  bg : Boxed A (T + 1) 25 (.pointer (some ⟨p, 0, none⟩))
  bi : Boxed A (T + 1 + 1) 23 v
  nY : ¬ X' Y
  nT : ¬ X' T
  nG : ¬ X' (T + 1)
  nI : ¬ X' (T + 1 + 1)
def StopX (c : Code) (pre : List (Arc × Int)) (X' : Nat → Prop) (A : World) : Prop :=
  c = .ret ∧ (Jx ((u, 0) :: WK.run u pre) (fun b => X' b ∨ X b) A ∨ (WK.ends u pre = none ∧ J ((u, 0) :: WK.run u pre) (fun b => X' b ∨ X b) A))
theorem stopI_apart (hJ : Apart J) : Apart (StopI l J X u v p Y T) := by
  rintro s X0 X' A A' ⟨⟨u', e, hT⟩, j, hY, hG, hI, nY, nT, nG, nI⟩ hk hX
  have no : ∀ b, b < A.heap.size → ¬ X0 b → ¬ X' b := fun b hb hn hx => by
    rcases hX b hx with h | h
    · exact hn h
    · omega
  refine ⟨⟨u', e, (hk.block _ hT.lt nT).trans hT⟩, hJ _ _ _ _ _ j (hk.mono (fun b hb => .inl hb)) (fun b hb => ?_), (hk.block _ hY.lt nY).trans hY, (hk.block _ hG.lt nG).trans hG, (hk.block _ hI.lt nI).trans hI, no _ hY.lt nY, no _ hT.lt nT, no _ hG.lt nG, no _ hI.lt nI⟩
  rcases hb with hb | hb
  · rcases hX b hb with h | h
    · exact .inl (.inl h)
    · exact .inr h
  · exact .inl (.inr hb)
theorem stopX_apart (hJ : Apart J) (hJx : Apart Jx) (c : Code) : Apart (StopX J Jx X u c) := by
  rintro s X0 X' A A' ⟨rfl, h⟩ hk hX
  have hx : ∀ b, (X' b ∨ X b) → (X0 b ∨ X b) ∨ A.heap.size ≤ b := fun b hb => by
    rcases hb with hb | hb
    · rcases hX b hb with h | h
      · exact .inl (.inl h)
      · exact .inr h
    · exact .inl (.inr hb)
  refine ⟨rfl, ?_⟩
  rcases h with h | ⟨h1, h2⟩
  · exact .inl (hJx _ _ _ _ _ h (hk.mono (fun b hb => .inl hb)) hx)
  · exact .inr ⟨h1, hJ _ _ _ _ _ h2 (hk.mono (fun b hb => .inl hb)) hx⟩
end

theorem arcIn_block' {W A : World} {t h x : Int} {c : Bool} (hb : W.heap[A.heap.size]? = (A.alloc (.cells #[.int .i64 t, .int .i64 h, .int .i64 x, .bool c] 47)).heap[A.heap.size]?) : ArcIn W A.heap.size 0 ⟨t, h, x, c⟩ :=
  (arcIn_new A t h x c).same (fun j => World.cell?_of_block (a := ⟨A.heap.size, j, none⟩) hb)
theorem stopI_new (l : Nat) (J : List (Int × Int) → (Nat → Prop) → World → Prop) (X : Nat → Prop) (u : Int) (p Y : Nat) (W : World) (ao : Option Addr) (n c : Nat) (hJ : Apart J) (h : J [(u, 0)] (fun b => X b ∨ b = Y) W) (hY : Boxed W Y 88 (.func (.yield l) #[] #[])) (hs : Y + 1 ≤ W.heap.size) :
    StopI l J X u (.slice ao n c) p Y W.heap.size [] (fun _ => False) (((W.alloc (.cells #[.int .i64 u] 3)).alloc (.cells #[.pointer (some ⟨p, 0, none⟩)] 25)).alloc (.cells #[.slice ao n c] 23)) := by
  have hb : Below W.heap.size W (((W.alloc (.cells #[.int .i64 u] 3)).alloc (.cells #[.pointer (some ⟨p, 0, none⟩)] 25)).alloc (.cells #[.slice ao n c] 23)) := (((Below.refl _ W).alloc (Nat.le_refl _) _).alloc (by simp) _).alloc (by simp; omega) _
  have b1 := ((Boxed.new W 3 (.int .i64 u)).alloc (.cells #[.pointer (some ⟨p, 0, none⟩)] 25)).alloc (.cells #[.slice ao n c] 23)
  have b2 := (Boxed.new (W.alloc (.cells #[.int .i64 u] 3)) 25 (.pointer (some ⟨p, 0, none⟩))).alloc (.cells #[.slice ao n c] 23)
  have b3 := Boxed.new ((W.alloc (.cells #[.int .i64 u] 3)).alloc (.cells #[.pointer (some ⟨p, 0, none⟩)] 25)) 23 (.slice ao n c)
  simp only [World.size_alloc] at b2 b3
  refine ⟨⟨u, rfl, b1⟩, hJ _ _ _ _ _ h (Below.keeps hb _) (fun b hb => ?_), (hb.block _ hY.lt).trans hY, b2, b3, (fun h => h), (fun h => h), (fun h => h), (fun h => h)⟩
  rcases hb with hb | hb | rfl | rfl | rfl | rfl
  · exact hb.elim
  · exact .inl (.inl hb)
  · exact .inl (.inr rfl)
  all_goals exact .inr (by omega)
/-- What the caller's round has left. -/
def StopY (J Jx : List (Int × Int) → (Nat → Prop) → World → Prop) (X : Nat → Prop) (u : Int) (Y T : Nat) (pre : List (Arc × Int)) (x : Arc × Int) (u' : Int) (X' : Nat → Prop) (B : World) (b : Bool) (W' : World) : Prop :=
  Rest (fun b => X' b ∨ X b ∨ b = Y ∨ b = T ∨ b = T + 1 ∨ b = T + 1 + 1) B W' ∧
  ((b = true ∧ J (((u, 0) :: WK.run u pre) ++ [(x.1.head, WK.codeAt u' x)]) (fun b => X' b ∨ X b ∨ b = Y ∨ b = T ∨ b = T + 1 ∨ b = T + 1 + 1) W') ∨
   (b = false ∧ Jx (((u, 0) :: WK.run u pre) ++ [(x.1.head, WK.codeAt u' x)]) (fun b => X' b ∨ X b ∨ b = Y ∨ b = T ∨ b = T + 1 ∨ b = T + 1 + 1) W'))
section
variable {l : Nat} {J Jx : List (Int × Int) → (Nat → Prop) → World → Prop} {X : Nat → Prop} {u : Int} {v : Value} {p Y T : Nat} {pre : List (Arc × Int)} {x : Arc × Int} {u' : Int} {X' : Nat → Prop} {B W' : World}
theorem stopY_on (hJ : Apart J) (hYT : Y + 1 ≤ T) (hi : StopI l J X u v p Y T pre X' B) (hen : WK.ends u pre = some u') (hy : StopY J Jx X u Y T pre x u' X' B true W') (h0 : WK.codeAt u' x = 0) :
    Rest X' B (W'.setCell ⟨T, 0, none⟩ (.int .i64 x.1.head)) ∧ StopI l J X u v p Y T (pre ++ [x]) X' (W'.setCell ⟨T, 0, none⟩ (.int .i64 x.1.head)) := by
  obtain ⟨hr, h⟩ := hy
  obtain ⟨u2, -, hT⟩ := hi.at'
  have hT' : Boxed W' T 3 (.int .i64 u2) := (Keeps.block hr _ hT.lt (fun hn => hn (.inr (.inr (.inr (.inl rfl)))))).trans hT
  have hY' : Boxed W' Y 88 (.func (.yield l) #[] #[]) := (Keeps.block hr _ hi.by'.lt (fun hn => hn (.inr (.inr (.inl rfl))))).trans hi.by'
  have hG' : Boxed W' (T + 1) 25 (.pointer (some ⟨p, 0, none⟩)) := (Keeps.block hr _ hi.bg.lt (fun hn => hn (.inr (.inr (.inr (.inr (.inl rfl))))))).trans hi.bg
  have hI' : Boxed W' (T + 1 + 1) 23 v := (Keeps.block hr _ hi.bi.lt (fun hn => hn (.inr (.inr (.inr (.inr (.inr rfl))))))).trans hi.bi
  have hj : J (((u, 0) :: WK.run u pre) ++ [(x.1.head, WK.codeAt u' x)]) (fun b => X' b ∨ X b ∨ b = Y ∨ b = T ∨ b = T + 1 ∨ b = T + 1 + 1) W' := by
    rcases h with ⟨-, h⟩ | ⟨h, -⟩
    · exact h
    · cases h
  refine ⟨(Rest.trans (Keeps.mono hr (fun b hb hx => hb (.inl hx))) (Keeps.mono (keeps_set W' T 0 _) (fun b hb hx => hi.nT (hb ▸ hx)))), ⟨x.1.head, WK.ends_snoc hen h0, hT'.set _⟩, ?_, hY'.other (by omega) _, hG'.other (by omega) _, hI'.other (by omega) _, hi.nY, hi.nT, hi.nG, hi.nI⟩
  rw [(WK.run_snoc hen).1]
  exact hJ _ _ _ _ _ hj ((keeps_set W' T 0 _).mono (fun b hb => .inr (.inr (.inr (.inl hb))))) (fun b hb => .inl hb)
theorem stopY_ret (hJ : Apart J) (hJx : Apart Jx) (hen : WK.ends u pre = some u') {b : Bool} (hy : StopY J Jx X u Y T pre x u' X' B b W') (h0 : b = false ∨ WK.codeAt u' x ≠ 0) :
    Rest X' B W' ∧ StopX J Jx X u .ret (pre ++ [x]) X' W' := by
  obtain ⟨hr, h⟩ := hy
  have hx : ∀ b, (X' b ∨ X b) → (X' b ∨ X b ∨ b = Y ∨ b = T ∨ b = T + 1 ∨ b = T + 1 + 1) ∨ W'.heap.size ≤ b := fun b hb => by
    rcases hb with hb | hb
    · exact .inl (.inl hb)
    · exact .inl (.inr (.inl hb))
  refine ⟨Keeps.mono hr (fun b hb hx => hb (.inl hx)), rfl, ?_⟩
  rw [(WK.run_snoc hen).1, (WK.run_snoc hen).2]
  rcases h with ⟨rfl, h⟩ | ⟨rfl, h⟩
  · have hc : WK.codeAt u' x ≠ 0 := by
      rcases h0 with h0 | h0
      · cases h0
      · exact h0
    exact .inr ⟨if_neg hc, hJ _ _ _ _ _ h (Keeps.refl _ _) hx⟩
  · exact .inl (hJx _ _ _ _ _ h (Keeps.refl _ _) hx)
end

set_option maxRecDepth 100000 in
set_option maxHeartbeats 4000000 in
theorem stops_goes (n : Nat) (hn : 4 ≤ n) (bg bf bi : Nat) (u : Int) (v : Value) (zs : List Int) (p N most : Nat) (m : GM.M) (hm : GM.Good most m) :
    GoesK n Try.prog 54 #[.pointer (some ⟨bg, 0, none⟩), .pointer (some ⟨bf, 0, none⟩), .pointer (some ⟨bi, 0, none⟩)] stopV (fun ys => ys = WK.stops N u (WK.list m zs)) (fun pre => pre <+: WK.stops N u (WK.list m zs)) (zs.length + 1) (StopsR bg bf bi u v zs p N most m) := by
  intro l J Jx X W hR hJ hJx hY h0 hXW
  have hr0 := hR _ _ _ h0
  obtain ⟨ao, cap, rfl, hat⟩ := hr0.row
  have HJ : Hid (Apart J) := hJ
  have HJX : Hid (Apart Jx) := hJx
  have HR : Hid (∀ s X A, J s X A → StopsR bg bf bi u (.slice ao zs.length cap) zs p N most m A) := hR
  have HY : Hid (∀ pre x X W1, J pre X W1 → pre.length < zs.length + 1 → (∀ b, X b → b < W1.heap.size) → YieldAt Fence.wide (n - 1) Try.prog l (stopV x) W1 fun e W' => (e = .returned (.bool true) ∧ J (pre ++ [x]) X W' ∧ Rest X W1 W') ∨ (e = .returned (.bool false) ∧ Jx (pre ++ [x]) X W' ∧ Rest X W1 W')) := hY
  have HX : Hid (∀ b, X b → b < W.heap.size) := hXW
  have hb1 : Below W.heap.size W (W.alloc (.cells #[.func (.yield l) #[] #[]] 88)) := (Below.refl _ _).alloc (Nat.le_refl _) _
  have hJ1 : J [] (fun b => X b ∨ b = W.heap.size) (W.alloc (.cells #[.func (.yield l) #[] #[]] 88)) := hJ _ _ _ _ _ h0 (Below.keeps hb1 _) (fun b hb => by
    rcases hb with hb | rfl
    · exact .inl hb
    · exact .inr (Nat.le_refl _))
  have bY1 := Boxed.new W 88 (.func (.yield l) #[] #[])
  have hS1 : (W.alloc (.cells #[.func (.yield l) #[] #[]] 88)).heap.size = W.heap.size + 1 := by simp
  have h1n : 1 ≤ n := by omega
  have h3n : 1 ≤ n - 1 - 1 := by omega
  clear hJ hJx hR hY h0 hXW hr0 hb1 hat
  have hr1 := HR.out _ _ _ hJ1
  have hv := wvertex_any hr1.g u
  obtain ⟨c1, c2, c3, -, -⟩ := hr1
  refine callsIn_of_wp_marks Try.func54 rfl trivial ?_ rfl
  simp only [Try.ntmps54, List.size_toArray, List.length_cons, List.length_nil, Nat.reduceAdd, Nat.reduceSub, Array.replicate_succ, Array.replicate_zero, List.push_toArray, List.append_toArray, List.nil_append, List.cons_append]
  gi_wp2_with fail
  refine ⟨trivial, (callsIn_wide.2 hv).mono ?_⟩
  rintro e w2 ⟨rfl, hb2⟩
  have hJ2 := HJ.out _ _ _ _ _ hJ1 (Below.keeps hb2 _) (fun b hb => .inl hb)
  have bY2 : Boxed w2 W.heap.size 88 (.func (.yield l) #[] #[]) := (hb2.block _ bY1.lt).trans bY1
  have hs2 := hb2.size
  rw [hS1] at hs2
  have hX2 : ∀ b, X b ∨ b = W.heap.size → b < w2.heap.size := fun b hb => by
    rcases hb with hb | rfl
    · have := HX.out b hb; omega
    · omega
  obtain ⟨c1', c2', c3', -, -⟩ := HR.out _ _ _ hJ2
  clear hv hb2 hJ1 c1 c2 c3 bY1 hS1
  generalize hvu : GM.vert N u = vu at *
  cases vu with
  | false =>
    have HST : Hid (WK.stops N u (WK.list m zs) = [(u, 1)]) := by
      show _ = _
      unfold WK.stops
      rw [hvu]
      rfl
    obtain ⟨fn, tmps, assign, body, hy, hRd⟩ := HY.out [] (u, 1) _ _ hJ2 (by simp) hX2
    dsimp only [stopV] at hy
    have cY := Boxed.cell bY2
    clear hvu
    gi_wp2_with fail
    refine hRd.mono ?_
    rintro e W4 (⟨rfl, hJ4, hk4⟩ | ⟨rfl, hJx4, -⟩)
    · have HJ4 : Hid (J (WK.stops N u (WK.list m zs)) X W4) := by
        show J _ X W4
        rw [HST.out]
        exact HJ.out _ _ _ _ _ hJ4 (Keeps.refl _ _) (fun b hb => .inl (.inl hb))
      clear hJ4 hk4 hy hRd hJ2 bY2 cY
      gi_wp2_with fail
      exact ⟨_, results_none rfl _ _ _, ⟨_, rfl⟩, .inl ⟨_, rfl, HJ4.out⟩⟩
    · have HJ4 : Hid (Jx (WK.stops N u (WK.list m zs)) X W4) := by
        show Jx _ X W4
        rw [HST.out]
        exact HJX.out _ _ _ _ _ hJx4 (Keeps.refl _ _) (fun b hb => .inl (.inl hb))
      clear hJx4 hy hRd hJ2 bY2 cY
      gi_wp2_with fail
      exact ⟨_, results_none rfl _ _ _, ⟨_, rfl⟩, .inr ⟨_, List.prefix_rfl, HJ4.out⟩⟩
  | true =>
    have HST : Hid (WK.stops N u (WK.list m zs) = (u, 0) :: WK.run u (WK.list m zs)) := by
      show _ = _
      unfold WK.stops
      rw [hvu]
      rfl
    obtain ⟨fn, tmps, assign, body, hy, hRd⟩ := HY.out [] (u, 0) _ _ hJ2 (by simp) hX2
    dsimp only [stopV] at hy
    have cY := Boxed.cell bY2
    clear hvu
    gi_wp2_with fail
    refine hRd.mono ?_
    rintro e W4 (⟨rfl, hJ4, hk4⟩ | ⟨rfl, hJx4, -⟩)
    · have bY4 : Boxed W4 W.heap.size 88 (.func (.yield l) #[] #[]) := (Keeps.block hk4 _ bY2.lt (fun hn => hn (.inr rfl))).trans bY2
      obtain ⟨c1, c2, c3, -, -⟩ := HR.out _ _ _ hJ4
      have hs4 : W.heap.size + 1 ≤ W4.heap.size := Nat.le_trans hs2 hk4.size
      have hpa := arcs_any p ao zs.length cap (W4.alloc (.cells #[.int .i64 u] 3))
      have bT1 := Boxed.new W4 3 (.int .i64 u)
      have hb5 : Below W4.heap.size W4 (W4.alloc (.cells #[.int .i64 u] 3)) := (Below.refl _ _).alloc (Nat.le_refl _) _
      have c1' := (hb5.cell (p := ⟨bg, 0, none⟩) (cell_lt c1)).trans c1
      have c3' := (hb5.cell (p := ⟨bi, 0, none⟩) (cell_lt c3)).trans c3
      have HJ4 : Hid (J [(u, 0)] (fun b => X b ∨ b = W.heap.size) W4) := hJ4
      clear hk4 hy hRd hJ2 bY2 cY hJ4 hb5
      gi_wp2_with fail
      refine ⟨trivial, (callsIn_wide.2 hpa).mono ?_⟩
      rintro e w5 ⟨rfl, rfl⟩
      clear hpa
      simp only [World.size_alloc]
      gi_wp2_with fail
      have hST := stopI_new l J X u p W.heap.size W4 ao zs.length cap HJ.out HJ4.out bY4 hs4
      have HS5 : Hid ((((W4.alloc (.cells #[.int .i64 u] 3)).alloc (.cells #[.pointer (some ⟨p, 0, none⟩)] 25)).alloc (.cells #[.slice ao zs.length cap] 23)).heap.size = W4.heap.size + 1 + 1 + 1) := by show _ = _; simp
      clear c1 c2 c3 c1' c3' bT1 bY4 c2' HJ4
      generalize ((W4.alloc (.cells #[.int .i64 u] 3)).alloc (.cells #[.pointer (some ⟨p, 0, none⟩)] 25)).alloc (.cells #[.slice ao zs.length cap] 23) = W5 at *
      generalize W4.heap.size = T at *
      refine range_goesK (by omega) (gf := 55) (lb := #[.pointer (some ⟨T + 1 + 1, 0, none⟩), .pointer (some ⟨T + 1, 0, none⟩)]) rfl (enters_of Try.func55 (by kernel_rfl) rfl) (arcs_goes (n - 1) (by omega) (T + 1 + 1) (T + 1) (.slice ao zs.length cap) zs p N most m hm) (fun _ => rfl)
        (StopI l J X u (.slice ao zs.length cap) p W.heap.size T) (StopX J Jx X u) (stopI_apart _ _ _ _ _ _ _ _ HJ.out) (stopX_apart _ _ _ _ HJ.out HJX.out)
        (fun s X' A h => ⟨h.bi.cell, (HR.out _ _ _ h.j).row, h.bg.cell, (HR.out _ _ _ h.j).g⟩) hST
        (fun x A => { tmps := #[.func (.yield l) #[] #[], .pointer (some ⟨bg, 0, none⟩), .pointer (some ⟨bf, 0, none⟩), .pointer (some ⟨bi, 0, none⟩), .pointer (some ⟨W.heap.size, 0, none⟩), .pointer (some ⟨T, 0, none⟩), .pointer (some ⟨A.heap.size, 0, none⟩), .int .i64 x.2, .pointer (some ⟨p, 0, none⟩), .int .i64 u, .bool true, .bool false, undef, undef, undef, .func (.yield l) #[] #[], .int .i64 u, .bool true, .bool false, .int .i64 u, .pointer (some ⟨p, 0, none⟩), .slice ao zs.length cap, .func (.func 55) #[] #[.pointer (some ⟨T + 1 + 1, 0, none⟩), .pointer (some ⟨T + 1, 0, none⟩)], .agg #[.int .i64 x.1.tail, .int .i64 x.1.head, .int .i64 x.1.weight, .bool x.1.closed], .int .i64 x.2, undef, undef, undef, undef, undef, undef, undef, undef, undef, undef, undef, undef, undef, undef, undef, undef, undef, undef, undef, undef], defers := [] })
        (fun x A => A.alloc (.cells #[.int .i64 x.1.tail, .int .i64 x.1.head, .int .i64 x.1.weight, .bool x.1.closed] 47))
        (fun x W => (Below.refl _ _).alloc (Nat.le_refl _) _) ?assign ?body ?done ?stop
      case assign =>
        rintro l' ⟨⟨t, h, x, c⟩, cd⟩ A K hK
        simp only [arcCode]
        gi_wp2
        exact hK
      case body =>
        rintro l' pre ⟨⟨t, h, x, c⟩, cd⟩ X0 A B hi hlt hX0 hX1 hAs hblk hsz hXb
        have HX2 : Hid (∀ b, X0 b → X0 b ∨ (A.heap.size ≤ b ∧ b < B.heap.size)) := fun b hb => .inl hb
        have hgX1 : ∀ P : Nat → Prop, (fun b => X0 b ∨ (A.heap.size ≤ b ∧ b < B.heap.size)) = P → P A.heap.size := fun P e => by
          rw [← e]
          exact .inr ⟨Nat.le_refl _, by rw [hsz]; simp⟩
        have hX2b : ∀ b, (fun b => X0 b ∨ (A.heap.size ≤ b ∧ b < B.heap.size)) b → b < B.heap.size := fun b hb => by
          have hAB : A.heap.size ≤ B.heap.size := by rw [hsz]; simp
          rcases hb with hb | hb
          · have := hXb b hb; omega
          · exact hb.2
        have HSH : Hid (∀ W6 pre', Rest (fun b => X0 b ∨ (A.heap.size ≤ b ∧ b < B.heap.size)) B W6 → StopI l J X u (.slice ao zs.length cap) p W.heap.size T pre' (fun b => X0 b ∨ (A.heap.size ≤ b ∧ b < B.heap.size)) W6 → Rest X0 B W6 ∧ StopI l J X u (.slice ao zs.length cap) p W.heap.size T pre' X0 W6) := fun W6 pre' h1 h2 => ⟨Keeps.mono h1 (fun b hb hx => hb (.inl hx)), stopI_apart _ _ _ _ _ _ _ _ HJ.out _ _ _ _ _ h2 (Keeps.refl _ _) (fun b hb => .inl (.inl hb))⟩
        have HSX : Hid (∀ W6 pre', Rest (fun b => X0 b ∨ (A.heap.size ≤ b ∧ b < B.heap.size)) B W6 → StopX J Jx X u .ret pre' (fun b => X0 b ∨ (A.heap.size ≤ b ∧ b < B.heap.size)) W6 → Rest X0 B W6 ∧ StopX J Jx X u .ret pre' X0 W6) := fun W6 pre' h1 h2 => ⟨Keeps.mono h1 (fun b hb hx => hb (.inl hx)), stopX_apart _ _ _ _ HJ.out HJX.out _ _ _ _ _ _ h2 (Keeps.refl _ _) (fun b hb => .inl (.inl hb))⟩
        have hin := arcIn_block' (hblk A.heap.size (by omega))
        have hgB : A.heap.size < B.heap.size := by rw [hsz]; simp
        generalize hX' : (fun b => X0 b ∨ (A.heap.size ≤ b ∧ b < B.heap.size)) = X' at *
        have hgX : X' A.heap.size := hgX1 X' rfl
        clear hX' hgX1
        obtain ⟨u', hen, hT⟩ := hi.at'
        have hXF : ∀ b, (X' b ∨ X b ∨ b = W.heap.size ∨ b = T ∨ b = T + 1 ∨ b = T + 1 + 1) → b < B.heap.size := fun b hb => by
          have := HS5.out
          rcases hb with hb | hb | rfl | rfl | rfl | rfl
          · exact hX2b b hb
          · have := HX.out b hb; omega
          all_goals omega
        have hlen : ((u, (0 : Int)) :: WK.run u pre).length < zs.length + 1 := by
          have := WK.run_len pre u
          simp only [List.length_cons]
          omega
        have hyy := HY.out ((u, 0) :: WK.run u pre) (h, WK.codeAt u' (⟨t, h, x, c⟩, cd)) _ B hi.j hlen hXF
        have cY := hi.by'.cell
        have cT := hT.cell
        have fT := hT.frozen
        have HI : Hid (StopI l J X u (.slice ao zs.length cap) p W.heap.size T pre X' B) := hi
        obtain ⟨fn, tmps, assign, body, hy, hRd⟩ := hyy
        dsimp only [stopV] at hy
        have hRd2 := fun m' => (roundIn_in (m' := m') (l' := l') hRd).mono (R' := fun e W' => ∃ b, e = .returned (.bool b) ∧ StopY J Jx X u W.heap.size T pre (⟨t, h, x, c⟩, cd) u' X' B b W') (by
          rintro e W' (⟨rfl, h1, h2⟩ | ⟨rfl, h1, h2⟩)
          · exact ⟨true, rfl, h2, .inl ⟨rfl, h1⟩⟩
          · exact ⟨false, rfl, h2, .inr ⟨rfl, h1⟩⟩)
        have HON : Hid (∀ W6, StopY J Jx X u W.heap.size T pre (⟨t, h, x, c⟩, cd) u' X' B true W6 → WK.codeAt u' (⟨t, h, x, c⟩, cd) = 0 → Rest X0 B (W6.setCell ⟨T, 0, none⟩ (.int .i64 h)) ∧ StopI l J X u (.slice ao zs.length cap) p W.heap.size T (pre ++ [(⟨t, h, x, c⟩, cd)]) X0 (W6.setCell ⟨T, 0, none⟩ (.int .i64 h))) := fun W6 hy h0 => HSH.out _ _ (stopY_on HJ.out hs4 HI.out hen hy h0).1 (stopY_on HJ.out hs4 HI.out hen hy h0).2
        have HRT : Hid (∀ W6 b, StopY J Jx X u W.heap.size T pre (⟨t, h, x, c⟩, cd) u' X' B b W6 → b = false ∨ WK.codeAt u' (⟨t, h, x, c⟩, cd) ≠ 0 → Rest X0 B W6 ∧ StopX J Jx X u .ret (pre ++ [(⟨t, h, x, c⟩, cd)]) X0 W6) := fun W6 b hy h0 => HSX.out _ _ (stopY_ret HJ.out HJX.out hen hy h0).1 (stopY_ret HJ.out HJX.out hen hy h0).2
        have HAK : Hid (∀ W6 b, StopY J Jx X u W.heap.size T pre (⟨t, h, x, c⟩, cd) u' X' B b W6 → W6.cell? ⟨T, 0, none⟩ = some (.int .i64 u') ∧ W6.frozen? ⟨T, 0, none⟩ = false ∧ W6.cell? ⟨A.heap.size, 1, none⟩ = some (.int .i64 h)) := fun W6 b hy => by
          obtain ⟨u2, e2, hT⟩ := HI.out.at'
          obtain rfl : u' = u2 := Option.some.inj (hen.symm.trans e2)
          have hT' : Boxed W6 T 3 (.int .i64 u') := (Keeps.block hy.1 _ hT.lt (fun hn => hn (.inr (.inr (.inr (.inl rfl)))))).trans hT
          have h1 := hin.2.1
          rw [Nat.zero_add] at h1
          exact ⟨hT'.cell, hT'.frozen, Keeps.cell hy.1 h1 (fun hn => hn (.inl hgX))⟩
        obtain ⟨a0, a1, a2, a3⟩ := hin
        simp only [Nat.zero_add] at a1 a2 a3
        dsimp only at a0 a1 a2 a3
        clear hRd hi hT hblk hsz hXF hlen hXb hX0 hX1 hlt hgX hX2b HX2 HSH HSX hgB hen HI hAs hST
        generalize hco : WK.codeAt u' (⟨t, h, x, c⟩, cd) = co at *
        generalize A.heap.size = g at *
        by_cases hcd : cd = 0
        · by_cases htu : t = u'
          · obtain rfl : co = 0 := by rw [← hco]; exact WK.codeAt_zero.2 ⟨hcd, htu⟩
            subst hcd htu
            clear hco
            gi_wp2_with fail
            refine (hRd2 _).mono ?_
            rintro e W6 ⟨b, rfl, hb⟩
            cases b with
            | true =>
              have HO : Hid (Rest X0 B (W6.setCell ⟨T, 0, none⟩ (.int .i64 h)) ∧ StopI l J X u (.slice ao zs.length cap) p W.heap.size T (pre ++ [(⟨t, h, x, c⟩, 0)]) X0 (W6.setCell ⟨T, 0, none⟩ (.int .i64 h))) := HON.out W6 hb (by first | exact rfl | exact trivial)
              obtain ⟨d0, d1, d2⟩ := HAK.out W6 true hb
              clear hRd2 hy hb cY cT fT a0 a1 a2 a3
              gi_wp2_with fail
              exact HO.out
            | false =>
              have HO : Hid (Rest X0 B W6 ∧ StopX J Jx X u .ret (pre ++ [(⟨t, h, x, c⟩, 0)]) X0 W6) := HRT.out W6 false hb (.inl rfl)
              clear hRd2 hy hb cY cT fT a0 a1 a2 a3
              gi_wp2_with fail
              exact HO.out
          · have htu' : (t != u') = true := by simpa using htu
            obtain rfl : co = 8 := by rw [← hco]; unfold WK.codeAt; rw [if_pos ⟨hcd, htu⟩]
            subst hcd
            clear hco
            have hco0 : (8 : Int) ≠ 0 := by decide
            gi_wp2_with fail
            refine (hRd2 _).mono ?_
            rintro e W6 ⟨b, rfl, hb⟩
            cases b with
            | true =>
              have HO : Hid (Rest X0 B W6 ∧ StopX J Jx X u .ret (pre ++ [(⟨t, h, x, c⟩, 0)]) X0 W6) := HRT.out W6 true hb (.inr hco0)
              clear hRd2 hy hb cY cT fT a0 a1 a2 a3
              gi_wp2_with fail
              exact HO.out
            | false =>
              have HO : Hid (Rest X0 B W6 ∧ StopX J Jx X u .ret (pre ++ [(⟨t, h, x, c⟩, 0)]) X0 W6) := HRT.out W6 false hb (.inl rfl)
              clear hRd2 hy hb cY cT fT a0 a1 a2 a3
              gi_wp2_with fail
              exact HO.out
        · have hcd' : (cd == 0) = false := by simpa using hcd
          have hcd2 : (cd != 0) = true := by simpa using hcd
          obtain rfl : co = cd := by rw [← hco]; unfold WK.codeAt; rw [if_neg (fun h => hcd h.1)]
          have hco0 := hcd
          clear hco
          gi_wp2_with fail
          refine (hRd2 _).mono ?_
          rintro e W6 ⟨b, rfl, hb⟩
          cases b with
          | true =>
            have HO : Hid (Rest X0 B W6 ∧ StopX J Jx X u .ret (pre ++ [(⟨t, h, x, c⟩, co)]) X0 W6) := HRT.out W6 true hb (.inr hco0)
            clear hRd2 hy hb cY cT fT a0 a1 a2 a3
            gi_wp2_with fail
            exact HO.out
          | false =>
            have HO : Hid (Rest X0 B W6 ∧ StopX J Jx X u .ret (pre ++ [(⟨t, h, x, c⟩, co)]) X0 W6) := HRT.out W6 false hb (.inl rfl)
            clear hRd2 hy hb cY cT fT a0 a1 a2 a3
            gi_wp2_with fail
            exact HO.out
      case done =>
        rintro ys A rfl hi hK
        have hj := hi.j
        have HE : Hid (J (WK.stops N u (WK.list m zs)) X (A.putObj W5.heap.size (.deferred none))) := by
          show J _ X _
          rw [HST.out]
          exact HJ.out _ _ _ _ _ hj ((keeps_putK A _ _).mono (fun b hb => .inl hb)) (fun b hb => .inl (.inr (.inl hb)))
        clear hi hj
        gi_wp2
        refine ⟨by simp, .inl ⟨_, _, rfl, run_takeDeferred hK, ?_⟩⟩
        refine ⟨_, results_none rfl _ _ _, ⟨_, rfl⟩, ?_⟩
        first
          | exact .inl ⟨_, rfl, HE.out⟩
          | exact .inl HE.out
      case stop =>
        rintro c pre A hpre ⟨rfl, hi⟩ hK
        gi_wp2
        refine ⟨by simp, .inl ⟨_, _, rfl, run_takeDeferred hK, ?_⟩⟩
        refine ⟨_, results_none rfl _ _ _, ⟨_, rfl⟩, ?_⟩
        rw [HST.out]
        rcases hi with hi | ⟨he, hi⟩
        · refine .inr ⟨_, ?_, HJX.out _ _ _ _ _ hi ((keeps_putK A _ _).mono (fun b hb => .inl hb)) (fun b hb => .inl (.inr hb))⟩
          rw [List.prefix_cons_inj]
          exact WK.run_pre hpre u
        · have hj := HJ.out _ _ X _ _ hi ((keeps_putK A _ (.deferred none)).mono (fun b hb => .inl hb)) (fun b hb => .inl (.inr hb))
          obtain ⟨r, hr⟩ := hpre
          rw [← WK.run_stop r he, hr] at hj
          first
            | exact .inl ⟨_, rfl, hj⟩
            | exact .inl hj
    · have HJ4 : Hid (Jx [(u, 0)] X W4) := HJX.out _ _ _ _ _ hJx4 (Keeps.refl _ _) (fun b hb => .inl (.inl hb))
      clear hJx4 hy hRd hJ2 bY2 cY
      gi_wp2_with fail
      refine ⟨_, results_none rfl _ _ _, ⟨_, rfl⟩, .inr ⟨_, ?_, HJ4.out⟩⟩
      rw [HST.out]
      exact ⟨_, rfl⟩
end Go.Proofs.Ytjnihkfnnokmdaa
