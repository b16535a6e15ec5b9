/-
  NearOpen, NearFwdBase, NearFwdO, NearFwdI.
-/
import Derived.Test.YtmamligiopbefaaMmThose
import Derived.Test.YtmamligiopbefaaMmEnds
import Derived.Test.YtmamligiopbefaaMmInts
import Derived.Deep.RegionHeld3
section
/-
  The program's open, gone through: of the arcs whose numbers another iterator tells those that are open.
-/
namespace Go.Proofs.Ytmamligiopbefaa
open Go.RowKit Go.Shelf
attribute [local go_sem] Oper.semAt_some

set_option maxHeartbeats 400000 in
theorem open_any (p : Nat) (F : Nat) (caps : Array Value) (w : World) :
    Calls Try.prog 70 #[.agg #[.pointer (some ⟨p, 0, none⟩)], .func (.func F) #[] caps] w fun e w' => e = .returned (.func (.func 97) #[] #[.pointer (some ⟨w.heap.size + 1, 0, none⟩), .pointer (some ⟨w.heap.size, 0, none⟩)]) ∧
      w' = (w.alloc (.cells #[.pointer (some ⟨p, 0, none⟩)] 76)).alloc (.cells #[.func (.func F) #[] caps] 110) := by
  go_enter Try.func70, Try.ntmps70
  go_wp2_with fail
  go_ret
  exact ⟨rfl, rfl⟩

/-- An arc, as the loop's variable. -/
def oneArc (a : Arc) : Array Value := #[.agg #[.int .i64 a.tail, .int .i64 a.head, .int .i64 a.weight, .bool a.closed]]
namespace NM
/-- Those of some arcs that are open. -/
def opens (m : GM.M) (ids : List Nat) : List Arc := (ids.map (fun i : Nat => (GM.look m (i : Int)).1)).filter (fun a => !a.closed)
theorem opens_snoc (m : GM.M) (ids : List Nat) (i : Nat) : opens m (ids ++ [i]) = opens m ids ++ (if (GM.look m (i : Int)).1.closed = true then [] else [(GM.look m (i : Int)).1]) := by
  unfold opens
  rw [List.map_append, List.filter_append]
  cases h : (GM.look m (i : Int)).1.closed <;> simp [h]
theorem opens_len (m : GM.M) (ids : List Nat) : (opens m ids).length ≤ ids.length := by
  unfold opens
  refine Nat.le_trans (List.length_filter_le _ _) ?_
  rw [List.length_map]
  exact Nat.le_refl _
theorem opens_pre (m : GM.M) {a b : List Nat} (h : a <+: b) : opens m a <+: opens m b := (h.map _).filter _
end NM
/-- What it reads. -/
structure OpenR (bi br gf : Nat) (lb : Array Value) (p N most : Nat) (m : GM.M) (Rin : World → Prop) (A : World) : Prop where
  ci : A.cell? ⟨bi, 0, none⟩ = some (.func (.func gf) #[] lb)
  cr : A.cell? ⟨br, 0, none⟩ = some (.pointer (some ⟨p, 0, none⟩))
  g : GMem A p N most m
  r : Rin A
def openK (l Y : Nat) (A : World) : Prop := Boxed A Y 135 (.func (.yield l) #[] #[])
theorem open_holds (l Y : Nat) : Holds (fun b => b = Y) (openK l Y) :=
  ⟨fun A A' h hb => (hb _ rfl).trans h, fun A h b hb => by
    subst hb
    exact Boxed.lt h⟩
set_option maxRecDepth 100000 in
set_option maxHeartbeats 4000000 in
theorem open_goesP (n : Nat) (hn : 6 ≤ n) (bi br gf : Nat) (lb : Array Value) (p N most : Nat) (m : GM.M) (hm : GM.Good most m) (L : List Nat) (Rin : World → Prop)
    (eg : ∀ args w, (callFunc gf args).run Try.prog w = .ok (.enter gf args) w) (hin : GoesP (n - 1) Try.prog gf lb oneNum L Rin) :
    GoesP n Try.prog 97 #[.pointer (some ⟨bi, 0, none⟩), .pointer (some ⟨br, 0, none⟩)] oneArc (NM.opens m L) (OpenR bi br gf lb p N most m Rin) := by
  intro l J Jx X W hR hJ hJx hY h0 hXW
  obtain ⟨hci, -, -, -⟩ := hR _ _ _ h0
  have HJ : Hid (Apart J) := hJ
  have HJX : Hid (Apart Jx) := hJx
  have HR : Hid (∀ s X A, J s X A → OpenR bi br gf lb p N most m Rin A) := hR
  have HY : Hid (∀ pre x X W1, J pre X W1 → pre ++ [x] <+: NM.opens m L → (∀ b, X b → b < W1.heap.size) → YieldAt Fence.wide (n - 1) Try.prog l (oneArc x) W1 fun e W' => (e = .returned (.bool true) ∧ J (pre ++ [x]) X W' ∧ Rest X W1 W') ∨ (e = .returned (.bool false) ∧ Jx (pre ++ [x]) X W' ∧ Rest X W1 W')) := hY
  have HX : Hid (∀ b, X b → b < W.heap.size) := hXW
  have h1n : 1 ≤ n := by omega
  have h3n : 1 ≤ n - 1 - 1 := by omega
  have hb1 : Below W.heap.size W (W.alloc (.cells #[.func (.yield l) #[] #[]] 135)) := (Below.refl _ _).alloc (Nat.le_refl _) _
  have hci1 := (hb1.cell (p := ⟨bi, 0, none⟩) (cell_lt hci)).trans hci
  have bY := Boxed.new W 135 (.func (.yield l) #[] #[])
  have hS1 : (W.alloc (.cells #[.func (.yield l) #[] #[]] 135)).heap.size = W.heap.size + 1 := by simp
  have hKI : KI J X (NM.opens m) (fun b => b = W.heap.size) (openK l W.heap.size) [] (fun _ => False) (W.alloc (.cells #[.func (.yield l) #[] #[]] 135)) := by
    refine ⟨HJ.out _ _ _ _ _ h0 (Below.keeps hb1 _) (fun b hb => ?_), bY, fun b _ h => h⟩
    rcases hb with hb | hb | hb
    · exact hb.elim
    · exact .inl hb
    · exact .inr (by omega)
  have hHo := open_holds l W.heap.size
  clear hJ hJx hR hY h0 hXW
  refine callsIn_of_wp_marks Try.func97 rfl trivial ?_ rfl
  simp only [Try.ntmps97, List.size_toArray, List.length_cons, List.length_nil, Nat.reduceAdd, Nat.reduceSub, Array.replicate_succ, Array.replicate_zero, List.push_toArray, List.append_toArray, List.nil_append, List.cons_append]
  gi_wp2_with fail
  clear hci hci1 hb1 bY
  generalize W.alloc (.cells #[.func (.yield l) #[] #[]] 135) = W2 at *
  refine range_goesP (by omega) (gf := gf) (lb := lb) rfl eg hin (fun _ => rfl)
    (KI J X (NM.opens m) (fun b => b = W.heap.size) (openK l W.heap.size))
    (KX Jx X (NM.opens m)) (KI.apart HJ.out hHo) (KX.apart HJX.out)
    (fun pre X' A h => (HR.out _ _ _ h.j).r) hKI
    (fun x A => { tmps := #[.func (.yield l) #[] #[], .pointer (some ⟨bi, 0, none⟩), .pointer (some ⟨br, 0, none⟩), .pointer (some ⟨W.heap.size, 0, none⟩), .int .i64 (x : Nat), undef, undef, .func (.func gf) #[] lb, .int .i64 (x : Nat), undef, undef, undef, undef, undef, undef, undef, undef, undef, undef, undef, undef, undef, undef, undef, undef], defers := [] })
    (fun x A => A)
    (fun x W => Below.refl _ _) ?assign ?body ?done ?stop
  case assign =>
    rintro l' i A K hK
    simp only [oneNum]
    gi_wp2
    exact hK
  case body =>
    rintro l' pre i X0 A B hi hlt - - hAs hblk hsz hXb
    have hr := HR.out _ _ _ hi.j
    have hcr := hr.cr
    have har := arc_any hr.g hm (i : Int)
    have hABs : A.heap.size ≤ B.heap.size := by rw [hsz]; exact Nat.le_refl _
    have HTL : Hid (NM.opens m (pre ++ [i]) <+: NM.opens m L) := NM.opens_pre m hlt
    have HTS : Hid (NM.opens m (pre ++ [i]) = NM.opens m pre ++ (if (GM.look m (i : Int)).1.closed = true then [] else [(GM.look m (i : Int)).1])) := NM.opens_snoc _ _ _
    have HI : Hid (KI J X (NM.opens m) (fun b => b = W.heap.size) (openK l W.heap.size) pre (fun b => X0 b ∨ (A.heap.size ≤ b ∧ b < B.heap.size)) B) := hi
    have HF : Hid (∀ B1 : World, B.heap.size ≤ B1.heap.size → ∀ z, ((X0 z ∨ (A.heap.size ≤ z ∧ z < B.heap.size)) ∨ X z ∨ z = W.heap.size) → z < B1.heap.size) := fun B1 h1 => KI.few hHo hi hXb hABs rfl (fun z hz => by have := HX.out z hz; have := Boxed.lt hi.k; omega) h1
    clear hi hr hblk hsz hXb hKI hABs hin eg
    generalize hg : A.heap.size = g at *
    clear hg
    generalize GM.look m (i : Int) = y at *
    obtain ⟨⟨t, h, x, c⟩, f⟩ := y
    unfold arcV at har
    dsimp only at har HTS
    have HHO := hHo
    clear hHo
    have HHo : Hid (Holds (fun b => b = W.heap.size) (openK l W.heap.size)) := HHO
    clear HHO
    cases c with
    | true =>
      rw [if_pos rfl, List.append_nil] at HTS
      gi_wp2_with fail
      refine ⟨trivial, (CallsIn.inRound l' (callsIn_wide.2 har)).mono ?_⟩
      rintro e w2 ⟨rfl, hb2⟩
      have HO : Hid (Rest X0 B (w2.alloc (.cells #[.int .i64 t, .int .i64 h, .int .i64 x, .bool true] 33)) ∧ KI J X (NM.opens m) (fun b => b = W.heap.size) (openK l W.heap.size) (pre ++ [i]) X0 (w2.alloc (.cells #[.int .i64 t, .int .i64 h, .int .i64 x, .bool true] 33))) := KI.skip HJ.out HHo.out HI.out (hb2.alloc hb2.size _) HTS.out
      clear har hb2 hcr
      gi_wp2_with fail
      refine ⟨(fun _ h => by cases h), ?_⟩
      gi_wp2_with fail
      exact HO.out
    | false =>
      rw [if_neg (by decide)] at HTS
      gi_wp2_with fail
      refine ⟨trivial, (CallsIn.inRound l' (callsIn_wide.2 har)).mono ?_⟩
      rintro e w2 ⟨rfl, hb2⟩
      have hb3 : Below B.heap.size B (w2.alloc (.cells #[.int .i64 t, .int .i64 h, .int .i64 x, .bool false] 33)) := hb2.alloc hb2.size _
      have HB1 : Hid (Below B.heap.size B (w2.alloc (.cells #[.int .i64 t, .int .i64 h, .int .i64 x, .bool false] 33))) := hb3
      have hi1 := KI.apart HJ.out HHo.out _ _ _ _ _ HI.out (Below.keeps hb3 _) (fun b hb => .inl hb)
      obtain ⟨fn, tmps, assign, body, hy, hRd⟩ := HY.out _ ⟨t, h, x, false⟩ _ _ hi1.j (by have := HTL.out; rw [HTS.out] at this; exact this) (HF.out _ hb3.size)
      dsimp only [oneArc] at hy
      have cY := Boxed.cell hi1.k
      clear har hb2 hb3 hi1 hcr
      gi_wp2_with fail
      refine (roundIn_in hRd).mono ?_
      rintro e A4 (⟨rfl, hJ4, hk4⟩ | ⟨rfl, hJx4, hk4⟩)
      · have HO : Hid (Rest X0 B A4 ∧ KI J X (NM.opens m) (fun b => b = W.heap.size) (openK l W.heap.size) (pre ++ [i]) X0 A4) := KI.on HJ.out HHo.out HI.out HB1.out HTS.out hJ4 hk4
        clear hRd hy cY hJ4 hk4
        gi_wp2_with fail
        exact HO.out
      · have HO : Hid (Rest X0 B A4 ∧ KX Jx X (NM.opens m) .ret (pre ++ [i]) X0 A4) := KI.off HJX.out HB1.out HTS.out hJx4 hk4
        clear hRd hy cY hJx4 hk4
        gi_wp2_with fail
        exact HO.out
  case done =>
    rintro A hi hK
    gi_wp2
    refine ⟨by simp, .inl ⟨_, _, rfl, run_takeDeferred hK, ?_⟩⟩
    exact ⟨_, results_none rfl _ _ _, ⟨_, rfl⟩, .inl (KI.done HJ.out hi)⟩
  case stop =>
    rintro c pre A hpre hi hK
    obtain rfl := hi.c
    gi_wp2
    refine ⟨by simp, .inl ⟨_, _, rfl, run_takeDeferred hK, ?_⟩⟩
    exact ⟨_, results_none rfl _ _ _, ⟨_, rfl⟩, .inr ⟨_, NM.opens_pre m hpre, KX.done HJX.out hi⟩⟩
end Go.Proofs.Ytmamligiopbefaa
end

section
/-
  What the program's forwards and back lean on.
-/
namespace Go.Proofs.Ytmamligiopbefaa
open Go.RowKit Go.Shelf

/-- Two numbers, as the loop's variables. -/
def twoNum (x : Int × Int) : Array Value := #[.int .i64 x.1, .int .i64 x.2]
theorem open_at (p F : Nat) (caps : Array Value) (w : World) :
    Calls Try.prog 70 #[.agg #[.pointer (some ⟨p, 0, none⟩)], .func (.func F) #[] caps] w fun e w' => ∃ U, e = .returned (.func (.func 97) #[] #[.pointer (some ⟨U + 1, 0, none⟩), .pointer (some ⟨U, 0, none⟩)]) ∧ U = w.heap.size ∧
      Boxed w' U 76 (.pointer (some ⟨p, 0, none⟩)) ∧ Boxed w' (U + 1) 110 (.func (.func F) #[] caps) ∧ Below w.heap.size w w' ∧ w'.heap.size = U + 2 := by
  refine (open_any p F caps w).mono ?_
  rintro e w' ⟨rfl, rfl⟩
  refine ⟨w.heap.size, rfl, rfl, (Boxed.new w _ _).alloc _, ?_, ((Below.refl _ _).alloc (Nat.le_refl _) _).alloc (by simp) _, by simp⟩
  have := Boxed.new (w.alloc (.cells #[.pointer (some ⟨p, 0, none⟩)] 76)) 110 (.func (.func F) #[] caps)
  rwa [World.size_alloc] at this
theorem three_new (W : World) (p : Nat) (v : Int) (F : Nat) : ∃ W', W' = ((W.alloc (.cells #[.int .i64 v] 3)).alloc (.cells #[.pointer (some ⟨p, 0, none⟩)] 24)).alloc (.cells #[.func (.func F) #[] #[.pointer (some ⟨W.heap.size, 0, none⟩)]] 135) ∧
    Boxed W' W.heap.size 3 (.int .i64 v) ∧ Boxed W' (W.heap.size + 1) 24 (.pointer (some ⟨p, 0, none⟩)) ∧ Boxed W' (W.heap.size + 1 + 1) 135 (.func (.func F) #[] #[.pointer (some ⟨W.heap.size, 0, none⟩)]) ∧ Below W.heap.size W W' ∧ W'.heap.size = W.heap.size + 3 := by
  refine ⟨_, rfl, ((Boxed.new W _ _).alloc _).alloc _, ?_, ?_, (((Below.refl _ _).alloc (Nat.le_refl _) _).alloc (by simp) _).alloc (by simp; omega) _, by simp⟩
  · have := (Boxed.new (W.alloc (.cells #[.int .i64 v] 3)) 24 (.pointer (some ⟨p, 0, none⟩))).alloc (.cells #[.func (.func F) #[] #[.pointer (some ⟨W.heap.size, 0, none⟩)]] 135)
    rwa [World.size_alloc] at this
  · have := Boxed.new ((W.alloc (.cells #[.int .i64 v] 3)).alloc (.cells #[.pointer (some ⟨p, 0, none⟩)] 24)) 135 (.func (.func F) #[] #[.pointer (some ⟨W.heap.size, 0, none⟩)])
    simpa using this
/-- The boxes of a way: where what is handed on goes; the vertex, the graph and the closure of what is gone through; the roads and the numbers. -/
def fwdB (Y T U : Nat) (b : Nat) : Prop := b = Y ∨ b = T ∨ b = T + 1 ∨ b = T + 1 + 1 ∨ b = U ∨ b = U + 1
structure FwdK (l Y T U p : Nat) (v : Int) (F : Nat) (A : World) : Prop where
  y : Boxed A Y 102 (.func (.yield l) #[] #[])
  v : Boxed A T 3 (.int .i64 v)
  g : Boxed A (T + 1) 24 (.pointer (some ⟨p, 0, none⟩))
  f : Boxed A (T + 1 + 1) 135 (.func (.func F) #[] #[.pointer (some ⟨T, 0, none⟩)])
  r : Boxed A U 76 (.pointer (some ⟨p, 0, none⟩))
  i : Boxed A (U + 1) 110 (.func (.func 107) #[] #[.pointer (some ⟨T + 1, 0, none⟩), .pointer (some ⟨T + 1 + 1, 0, none⟩)])
theorem fwd_holds (l Y T U p : Nat) (v : Int) (F : Nat) : Holds (fwdB Y T U) (FwdK l Y T U p v F) :=
  ⟨fun A A' h hb => ⟨(hb _ (.inl rfl)).trans h.y, (hb _ (.inr (.inl rfl))).trans h.v, (hb _ (.inr (.inr (.inl rfl)))).trans h.g, (hb _ (.inr (.inr (.inr (.inl rfl))))).trans h.f, (hb _ (.inr (.inr (.inr (.inr (.inl rfl)))))).trans h.r, (hb _ (.inr (.inr (.inr (.inr (.inr rfl)))))).trans h.i⟩, fun A h b hb => by
    rcases hb with rfl | rfl | rfl | rfl | rfl | rfl
    · exact h.y.lt
    · exact h.v.lt
    · exact h.g.lt
    · exact h.f.lt
    · exact h.r.lt
    · exact h.i.lt⟩
/-- What a way reads. -/
structure FwdR (b1 b2 p N most : Nat) (v : Int) (m : GM.M) (A : World) : Prop where
  c1 : A.cell? ⟨b1, 0, none⟩ = some (.pointer (some ⟨p, 0, none⟩))
  c2 : A.cell? ⟨b2, 0, none⟩ = some (.int .i64 v)
  g : GMem A p N most m
end Go.Proofs.Ytmamligiopbefaa
end

section
/-
  The program's forwards, gone through: where the open arcs lead, each with its weight.
-/
namespace Go.Proofs.Ytmamligiopbefaa
open Go.RowKit Go.Shelf
attribute [local go_sem] Oper.semAt_some

namespace NM
/-- The other end of each open arc, and its weight. -/
def wayO (l : List Arc) : List (Int × Int) := l.map (fun a => (a.head, a.weight))
end NM
theorem atO_at (p : Nat) (v : Int) (w : World) :
    Calls Try.prog 71 #[.pointer (some ⟨p, 0, none⟩), .int .i64 v] w fun e w' => ∃ T, e = .returned (.func (.func 107) #[] #[.pointer (some ⟨T + 1, 0, none⟩), .pointer (some ⟨T + 1 + 1, 0, none⟩)]) ∧ T = w.heap.size ∧
      Boxed w' T 3 (.int .i64 v) ∧ Boxed w' (T + 1) 24 (.pointer (some ⟨p, 0, none⟩)) ∧ Boxed w' (T + 1 + 1) 135 (.func (.func 99) #[] #[.pointer (some ⟨T, 0, none⟩)]) ∧ Below w.heap.size w w' ∧ w'.heap.size = T + 3 := by
  refine (atO_any p v w).mono ?_
  rintro e w' ⟨rfl, hw⟩
  obtain ⟨W', h1, h2, h3, h4, h5, h6⟩ := three_new w p v 99
  rw [← h1] at hw
  subst hw
  exact ⟨_, rfl, rfl, h2, h3, h4, h5, h6⟩
set_option maxHeartbeats 400000 in
theorem forwards_any (p : Nat) (v : Int) (w : World) :
    Calls Try.prog 34 #[.agg #[.pointer (some ⟨p, 0, none⟩)], .int .i64 v] w fun e w' => ∃ b, e = .returned (.func (.func 69) #[] #[.pointer (some ⟨b, 0, none⟩), .pointer (some ⟨b + 1, 0, none⟩)]) ∧ b = w.heap.size ∧
      Boxed w' b 76 (.pointer (some ⟨p, 0, none⟩)) ∧ Boxed w' (b + 1) 3 (.int .i64 v) ∧ Below w.heap.size w w' ∧ w'.heap.size = b + 2 := by
  go_enter Try.func34, Try.ntmps34
  go_wp2_with fail
  go_ret
  refine ⟨_, rfl, rfl, (Boxed.new w _ _).alloc _, ?_, ((Below.refl _ _).alloc (Nat.le_refl _) _).alloc (by simp) _, by simp⟩
  have := Boxed.new (w.alloc (.cells #[.pointer (some ⟨p, 0, none⟩)] 76)) 3 (.int .i64 v)
  rwa [World.size_alloc] at this

set_option maxRecDepth 100000 in
set_option maxHeartbeats 4000000 in
theorem forwards_goesP (n : Nat) (hn : 8 ≤ n) (b1 b2 p N most : Nat) (v : Int) (m : GM.M) (hm : GM.Good most m) :
    GoesP n Try.prog 69 #[.pointer (some ⟨b1, 0, none⟩), .pointer (some ⟨b2, 0, none⟩)] twoNum (NM.wayO (NM.opens m (GM.ends m v false))) (FwdR b1 b2 p N most v m) := by
  have hth := fun T => thoseO_goesP (n - 1 - 1) (by omega) (T + 1) (T + 1 + 1) T p N most v m hm
  generalize GM.ends m v false = L at *
  intro l J Jx X W hR hJ hJx hY h0 hXW
  obtain ⟨hc1, hc2, -⟩ := hR _ _ _ h0
  have HJ : Hid (Apart J) := hJ
  have HJX : Hid (Apart Jx) := hJx
  have HR : Hid (∀ s X A, J s X A → FwdR b1 b2 p N most v m A) := hR
  have HY : Hid (∀ pre x X W1, J pre X W1 → pre ++ [x] <+: NM.wayO (NM.opens m L) → (∀ b, X b → b < W1.heap.size) → YieldAt Fence.wide (n - 1) Try.prog l (twoNum x) W1 fun e W' => (e = .returned (.bool true) ∧ J (pre ++ [x]) X W' ∧ Rest X W1 W') ∨ (e = .returned (.bool false) ∧ Jx (pre ++ [x]) X W' ∧ Rest X W1 W')) := hY
  have HX : Hid (∀ b, X b → b < W.heap.size) := hXW
  have h1n : 1 ≤ n := by omega
  have h3n : 1 ≤ n - 1 - 1 := by omega
  have hb1 : Below W.heap.size W (W.alloc (.cells #[.func (.yield l) #[] #[]] 102)) := (Below.refl _ _).alloc (Nat.le_refl _) _
  have hc11 := (hb1.cell (p := ⟨b1, 0, none⟩) (cell_lt hc1)).trans hc1
  have hc21 := (hb1.cell (p := ⟨b2, 0, none⟩) (cell_lt hc2)).trans hc2
  have bY := Boxed.new W 102 (.func (.yield l) #[] #[])
  have hS1 : (W.alloc (.cells #[.func (.yield l) #[] #[]] 102)).heap.size = W.heap.size + 1 := by simp
  have H0 : Hid (J [] X W) := h0
  have HOUT : Hid (∀ W, Calls Try.prog 71 #[.pointer (some ⟨p, 0, none⟩), .int .i64 v] W fun e w' => ∃ T, e = .returned (.func (.func 107) #[] #[.pointer (some ⟨T + 1, 0, none⟩), .pointer (some ⟨T + 1 + 1, 0, none⟩)]) ∧ T = W.heap.size ∧
      Boxed w' T 3 (.int .i64 v) ∧ Boxed w' (T + 1) 24 (.pointer (some ⟨p, 0, none⟩)) ∧ Boxed w' (T + 1 + 1) 135 (.func (.func 99) #[] #[.pointer (some ⟨T, 0, none⟩)]) ∧ Below W.heap.size W w' ∧ w'.heap.size = T + 3) := fun W => atO_at p v W
  have HOP : Hid (∀ W F caps, Calls Try.prog 70 #[.agg #[.pointer (some ⟨p, 0, none⟩)], .func (.func F) #[] caps] W fun e w' => ∃ U, e = .returned (.func (.func 97) #[] #[.pointer (some ⟨U + 1, 0, none⟩), .pointer (some ⟨U, 0, none⟩)]) ∧ U = W.heap.size ∧
      Boxed w' U 76 (.pointer (some ⟨p, 0, none⟩)) ∧ Boxed w' (U + 1) 110 (.func (.func F) #[] caps) ∧ Below W.heap.size W w' ∧ w'.heap.size = U + 2) := fun W F caps => open_at p F caps W
  have HTH : Hid (∀ T, GoesP (n - 1 - 1) Try.prog 107 #[.pointer (some ⟨T + 1, 0, none⟩), .pointer (some ⟨T + 1 + 1, 0, none⟩)] oneNum L (ThoseOR (T + 1) (T + 1 + 1) T p N most v m)) := hth
  clear hth hJ hJx hR hY h0 hXW
  refine callsIn_of_wp_marks Try.func69 rfl trivial ?_ rfl
  simp only [Try.ntmps69, List.size_toArray, List.length_cons, List.length_nil, Nat.reduceAdd, Nat.reduceSub, Array.replicate_succ, Array.replicate_zero, List.push_toArray, List.append_toArray, List.nil_append, List.cons_append]
  refine wpIn_wide.2 ?_
  go_upto_region 1 with fail
  have HB1 : Hid (Below W.heap.size W (W.alloc (.cells #[.func (.yield l) #[] #[]] 102))) := hb1
  have HBY : Hid (Boxed (W.alloc (.cells #[.func (.yield l) #[] #[]] 102)) W.heap.size 102 (.func (.yield l) #[] #[])) := bY
  have HS1 : Hid ((W.alloc (.cells #[.func (.yield l) #[] #[]] 102)).heap.size = W.heap.size + 1) := hS1
  have HC1 : Hid (W.cell? ⟨b1, 0, none⟩ = some (.pointer (some ⟨p, 0, none⟩)) ∧ W.cell? ⟨b2, 0, none⟩ = some (.int .i64 v)) := ⟨hc1, hc2⟩
  clear hb1 bY hS1 hc1 hc2
  generalize W.alloc (.cells #[.func (.yield l) #[] #[]] 102) = W1 at *
  have HC2 : Hid (∀ W2, Below W1.heap.size W1 W2 → W2.cell? ⟨b1, 0, none⟩ = some (.pointer (some ⟨p, 0, none⟩)) ∧ W2.cell? ⟨b2, 0, none⟩ = some (.int .i64 v)) := fun W2 h => ⟨(h.cell (p := ⟨b1, 0, none⟩) (cell_lt hc11)).trans hc11, (h.cell (p := ⟨b2, 0, none⟩) (cell_lt hc21)).trans hc21⟩
  have hd : Below W1.heap.size W1 W1.drew := (Below.refl _ _).drew
  have hdc1 : W1.drew.cell? ⟨b1, 0, none⟩ = some (.pointer (some ⟨p, 0, none⟩)) := hc11
  have hdc2 : W1.drew.cell? ⟨b2, 0, none⟩ = some (.int .i64 v) := hc21
  have HD : Hid (Below W1.heap.size W1 W1.drew) := hd
  clear hd
  go_region_held3 (fun w' => w'.cell? ⟨b1, 0, none⟩ = some (.pointer (some ⟨p, 0, none⟩)) ∧ w'.cell? ⟨b2, 0, none⟩ = some (.int .i64 v)) (go_keep) (first
    | (go_at_call 70; refine (HOP.out _ _ _).mono ?_; rintro e w5 ⟨U, rfl, hU, bU, bI, bel5, hs5⟩; have HU : Hid (U = w4.heap.size ∧ w5.heap.size = U + 2) := ⟨hU, hs5⟩; clear hU hs5; obtain ⟨g51, g52⟩ := HC2.out _ (below_on HB4.out bel5))
    | (go_at_call 71; refine (HOUT.out _).mono ?_; rintro e w4 ⟨T, rfl, hT, bV, bG, bF, bel4, hs4⟩; have HT : Hid (T = W1.heap.size ∧ w4.heap.size = T + 3) := ⟨hT, hs4⟩; clear hT hs4; have HB4 : Hid (Below W1.heap.size W1 w4) := below_on HD.out bel4; obtain ⟨g41, g42⟩ := HC2.out _ HB4.out))
  have HBV : Hid (Boxed w4 T 3 (.int .i64 v) ∧ Boxed w4 (T + 1) 24 (.pointer (some ⟨p, 0, none⟩)) ∧ Boxed w4 (T + 1 + 1) 135 (.func (.func 99) #[] #[.pointer (some ⟨T, 0, none⟩)])) := ⟨bV, bG, bF⟩
  have HBU : Hid (Boxed w5 U 76 (.pointer (some ⟨p, 0, none⟩)) ∧ Boxed w5 (U + 1) 110 (.func (.func 107) #[] #[.pointer (some ⟨T + 1, 0, none⟩), .pointer (some ⟨T + 1 + 1, 0, none⟩)])) := ⟨bU, bI⟩
  have HB5 : Hid (Below w4.heap.size w4 w5) := bel5
  clear bV bG bF bU bI bel5 bel4 g51 g52 g41 g42 hdc1 hdc2 hc11 hc21
  go_wp2_with fail
  have hKI : KI J X NM.wayO (fwdB W.heap.size T U) (FwdK l W.heap.size T U p v 99) [] (fun _ => False) w5 := by
    have h4 : Below W.heap.size W w4 := HB1.out.trans (HB4.out.mono (by have := HS1.out; omega))
    have h5 : Below W.heap.size W w5 := h4.trans (HB5.out.mono h4.size)
    obtain ⟨u1, u3⟩ := HU.out
    obtain ⟨u4, u2⟩ := HT.out
    have u5 := HS1.out
    refine ⟨HJ.out _ _ _ _ _ H0.out (Below.keeps h5 _) (fun b hb => ?_), ?_, fun b _ h => h⟩
    · unfold fwdB at hb
      rcases hb with hb | hb | hb
      · exact hb.elim
      · exact .inl hb
      · exact .inr (by omega)
    · exact ⟨(HB5.out.block _ (by omega)).trans ((HB4.out.block _ HBY.out.lt).trans HBY.out), (HB5.out.block _ HBV.out.1.lt).trans HBV.out.1, (HB5.out.block _ HBV.out.2.1.lt).trans HBV.out.2.1, (HB5.out.block _ HBV.out.2.2.lt).trans HBV.out.2.2, HBU.out.1, HBU.out.2⟩
  have hHo := fwd_holds l W.heap.size T U p v 99
  clear HOUT HOP HB1 HB4 HB5 HBY HS1 HC1 HC2 HD HT HBV HU HBU H0
  have hseq := open_goesP (n - 1) (by omega) (U + 1) U 107 #[.pointer (some ⟨T + 1, 0, none⟩), .pointer (some ⟨T + 1 + 1, 0, none⟩)] p N most m hm L (ThoseOR (T + 1) (T + 1 + 1) T p N most v m) (enters_of Try.func107 (by kernel_rfl) rfl) (HTH.out T)
  refine (wpIn_wide (n := n)).1 ?_
  refine range_goesP (by omega) (gf := 97) (lb := #[.pointer (some ⟨U + 1, 0, none⟩), .pointer (some ⟨U, 0, none⟩)]) rfl (enters_of Try.func97 (by kernel_rfl) rfl) hseq (fun _ => rfl)
    (KI J X NM.wayO (fwdB W.heap.size T U) (FwdK l W.heap.size T U p v 99))
    (KX Jx X NM.wayO) (KI.apart HJ.out hHo) (KX.apart HJX.out)
    (fun pre X' A h => ⟨h.k.i.cell, h.k.r.cell, (HR.out _ _ _ h.j).g, h.k.g.cell, h.k.f.cell, h.k.v.cell, (HR.out _ _ _ h.j).g⟩) hKI
    (fun x A => { tmps := #[.func (.yield l) #[] #[], .pointer (some ⟨b1, 0, none⟩), .pointer (some ⟨b2, 0, none⟩), .pointer (some ⟨W.heap.size, 0, none⟩), .pointer (some ⟨A.heap.size, 0, none⟩), .agg #[.pointer (some ⟨p, 0, none⟩)], .pointer (some ⟨b1, 0, none⟩), .pointer (some ⟨p, 0, none⟩), .int .i64 v, .func (.func 107) #[] #[.pointer (some ⟨T + 1, 0, none⟩), .pointer (some ⟨T + 1 + 1, 0, none⟩)], .func (.func 97) #[] #[.pointer (some ⟨U + 1, 0, none⟩), .pointer (some ⟨U, 0, none⟩)], .agg #[.int .i64 x.tail, .int .i64 x.head, .int .i64 x.weight, .bool x.closed], undef, undef, undef, undef, undef, undef, undef], defers := [] })
    (fun x A => A.alloc (.cells #[.int .i64 x.tail, .int .i64 x.head, .int .i64 x.weight, .bool x.closed] 33))
    (fun x W => (Below.refl _ _).alloc (Nat.le_refl _) _) ?assign ?body ?done ?stop
  case assign =>
    rintro l' ⟨t, h, x, c⟩ A K hK
    simp only [oneArc]
    gi_wp2
    exact hK
  case body =>
    rintro l' pre ⟨t, h, x, c⟩ X0 A B hi hlt - - hAs hblk hsz hXb
    obtain ⟨a0, a1, a2, a3⟩ := arcIn_block (hblk A.heap.size (by omega))
    simp only [Nat.zero_add] at a1 a2 a3
    dsimp only at a0 a1 a2 a3
    have hABs : A.heap.size ≤ B.heap.size := by rw [hsz]; simp
    have HTL : Hid (NM.wayO (pre ++ [(⟨t, h, x, c⟩ : Arc)]) <+: NM.wayO (NM.opens m L)) := hlt.map _
    have HTS : Hid (NM.wayO (pre ++ [(⟨t, h, x, c⟩ : Arc)]) = NM.wayO pre ++ [(h, x)]) := by
      show _ = _
      unfold NM.wayO
      rw [List.map_append]
      rfl
    have HI : Hid (KI J X NM.wayO (fwdB W.heap.size T U) (FwdK l W.heap.size T U p v 99) pre (fun b => X0 b ∨ (A.heap.size ≤ b ∧ b < B.heap.size)) B) := hi
    have HF : Hid (∀ z, ((X0 z ∨ (A.heap.size ≤ z ∧ z < B.heap.size)) ∨ X z ∨ fwdB W.heap.size T U z) → z < B.heap.size) := KI.few hHo hi hXb hABs rfl (fun z hz => by have := HX.out z hz; have := hi.k.y.lt; omega) (Nat.le_refl _)
    obtain ⟨fn, tmps, assign, body, hy, hRd⟩ := HY.out _ (h, x) _ B hi.j (by have := HTL.out; rw [HTS.out] at this; exact this) HF.out
    dsimp only [twoNum] at hy
    have cY := hi.k.y.cell
    clear hi hblk hsz hXb hKI hABs
    have HHo : Hid (Holds (fwdB W.heap.size T U) (FwdK l W.heap.size T U p v 99)) := hHo
    clear hHo
    have HRd := fun m' => roundIn_in (m' := m') (l' := l') hRd
    clear hRd
    generalize hg : A.heap.size = g at *
    clear hg
    gi_wp2_with fail
    refine (HRd _).mono ?_
    rintro e A4 (⟨rfl, hJ4, hk4⟩ | ⟨rfl, hJx4, hk4⟩)
    · have HO : Hid (Rest X0 B A4 ∧ KI J X NM.wayO (fwdB W.heap.size T U) (FwdK l W.heap.size T U p v 99) (pre ++ [(⟨t, h, x, c⟩ : Arc)]) X0 A4) := KI.on HJ.out HHo.out HI.out (Below.refl _ _) HTS.out hJ4 hk4
      clear HRd hy cY hJ4 hk4
      gi_wp2_with fail
      exact HO.out
    · have HO : Hid (Rest X0 B A4 ∧ KX Jx X NM.wayO .ret (pre ++ [(⟨t, h, x, c⟩ : Arc)]) X0 A4) := KI.off HJX.out (Below.refl _ _) HTS.out hJx4 hk4
      clear HRd hy cY hJx4 hk4
      gi_wp2_with fail
      exact HO.out
  case done =>
    rintro A hi hK
    have HI : Hid (KI J X NM.wayO (fwdB W.heap.size T U) (FwdK l W.heap.size T U p v 99) (NM.opens m L) (fun b => b = w5.heap.size) A) := hi
    clear hi hKI hHo hseq
    go_wp2_with fail
    refine ⟨by simp, .inl ⟨_, _, rfl, run_takeDeferred hK, ?_⟩⟩
    exact ⟨_, results_none rfl _ _ _, ⟨_, rfl⟩, .inl (KI.done HJ.out HI.out)⟩
  case stop =>
    rintro c pre A hpre hi hK
    obtain rfl := hi.c
    refine wpIn_wide.2 ?_
    go_wp2_with fail
    refine ⟨by simp, .inl ⟨_, _, rfl, run_takeDeferred hK, ?_⟩⟩
    exact ⟨_, results_none rfl _ _ _, ⟨_, rfl⟩, .inr ⟨_, hpre.map _, KX.done HJX.out hi⟩⟩
end Go.Proofs.Ytmamligiopbefaa
end

section
/-
  The program's back, gone through: where the open arcs lead, each with its weight.
-/
namespace Go.Proofs.Ytmamligiopbefaa
open Go.RowKit Go.Shelf
attribute [local go_sem] Oper.semAt_some

namespace NM
/-- The other end of each open arc, and its weight. -/
def wayI (l : List Arc) : List (Int × Int) := l.map (fun a => (a.tail, a.weight))
end NM
theorem atI_at (p : Nat) (v : Int) (w : World) :
    Calls Try.prog 103 #[.pointer (some ⟨p, 0, none⟩), .int .i64 v] w fun e w' => ∃ T, e = .returned (.func (.func 107) #[] #[.pointer (some ⟨T + 1, 0, none⟩), .pointer (some ⟨T + 1 + 1, 0, none⟩)]) ∧ T = w.heap.size ∧
      Boxed w' T 3 (.int .i64 v) ∧ Boxed w' (T + 1) 24 (.pointer (some ⟨p, 0, none⟩)) ∧ Boxed w' (T + 1 + 1) 135 (.func (.func 108) #[] #[.pointer (some ⟨T, 0, none⟩)]) ∧ Below w.heap.size w w' ∧ w'.heap.size = T + 3 := by
  refine (atI_any p v w).mono ?_
  rintro e w' ⟨rfl, hw⟩
  obtain ⟨W', h1, h2, h3, h4, h5, h6⟩ := three_new w p v 108
  rw [← h1] at hw
  subst hw
  exact ⟨_, rfl, rfl, h2, h3, h4, h5, h6⟩
end Go.Proofs.Ytmamligiopbefaa
end
