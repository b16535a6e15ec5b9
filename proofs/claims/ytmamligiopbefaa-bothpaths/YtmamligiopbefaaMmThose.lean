/-
  NearFil, NearSeq, NearThoseO, NearThoseI.
-/
import Derived.Test.YtmamligiopbefaaMmRanges
import Derived.Test.YtmamligiopbefaaMmGraphSeq
import Derived.Test.YtmamligiopbefaaMmEnds
section
/-
  What an iterator keeps that goes through another one and hands on some of what comes, where both sides turn memory of their own.
-/
namespace Go.Proofs.Ytmamligiopbefaa
open Go.RowKit Go.Shelf

/-- What blocks bs hold, and nothing else. -/
structure Holds (bs : Nat → Prop) (K : World → Prop) : Prop where
  same : ∀ A A', K A → (∀ b, bs b → A'.heap[b]? = A.heap[b]?) → K A'
  lt : ∀ A, K A → ∀ b, bs b → b < A.heap.size
section
variable {α β : Type} (J Jx : List β → (Nat → Prop) → World → Prop) (X : Nat → Prop) (fm : List α → List β) (bs : Nat → Prop) (K : World → Prop)
/-- Between the rounds. -/
structure KI (pre : List α) (X' : Nat → Prop) (A : World) : Prop where
  j : J (fm pre) (fun b => X' b ∨ X b ∨ bs b) A
  k : K A
  n : ∀ b, bs b → ¬ X' b
/-- Behind a no. -/
structure KX (c : Code) (pre : List α) (X' : Nat → Prop) (A : World) : Prop where
  c : c = .ret
  j : Jx (fm pre) (fun b => X' b ∨ X b) A
end
section
variable {α β : Type} {J Jx : List β → (Nat → Prop) → World → Prop} {X : Nat → Prop} {fm : List α → List β} {bs : Nat → Prop} {K : World → Prop}
theorem KI.apart (hJ : Apart J) (hK : Holds bs K) : Apart (KI J X fm bs K) := by
  rintro s X0 X' A A' ⟨j, k, n⟩ hk hX
  have hl := hK.lt A k
  refine ⟨hJ _ _ _ _ _ j (hk.mono (fun b hb => .inl hb)) (fun b hb => ?_), hK.same _ _ k (fun b hb => hk.block _ (hl b hb) (n b hb)), fun b hb hx => ?_⟩
  · rcases hb with hb | hb
    · rcases hX b hb with h | h
      · exact .inl (.inl h)
      · exact .inr h
    · exact .inl (.inr hb)
  · rcases hX b hx with h | h
    · exact n b hb h
    · have := hl b hb
      omega
theorem KX.apart (hJx : Apart Jx) (c : Code) : Apart (KX Jx X fm c) := by
  rintro s X0 X' A A' ⟨rfl, j⟩ hk hX
  refine ⟨rfl, hJx _ _ _ _ _ j (hk.mono (fun b hb => .inl hb)) (fun b hb => ?_)⟩
  rcases hb with hb | hb
  · rcases hX b hb with h | h
    · exact .inl (.inl h)
    · exact .inr h
  · exact .inl (.inr hb)
/-- Where a round has begun: what the loop's variables hold is the round's own. -/
theorem KI.own {pre : List α} {X0 : Nat → Prop} {a b : Nat} {B W' : World} (hJ : Apart J) (hK : Holds bs K) (h : KI J X fm bs K pre (fun x => X0 x ∨ (a ≤ x ∧ x < b)) W') (hr : Rest (fun x => X0 x ∨ (a ≤ x ∧ x < b)) B W') : Rest X0 B W' ∧ KI J X fm bs K pre X0 W' :=
  ⟨Keeps.mono hr (fun _ hb hx => hb (.inl hx)), KI.apart hJ hK _ _ _ _ _ h (Keeps.refl _ _) (fun _ hb => .inl (.inl hb))⟩
/-- Nothing is handed on. -/
theorem KI.skip {pre : List α} {x : α} {X0 : Nat → Prop} {a b : Nat} {B B1 : World} (hJ : Apart J) (hK : Holds bs K) (h : KI J X fm bs K pre (fun x => X0 x ∨ (a ≤ x ∧ x < b)) B) (hb : Below B.heap.size B B1) (e : fm (pre ++ [x]) = fm pre) : Rest X0 B B1 ∧ KI J X fm bs K (pre ++ [x]) X0 B1 := by
  obtain ⟨j, k, n⟩ := KI.apart hJ hK _ _ _ _ _ h (Below.keeps hb _) (fun b hb => .inl hb)
  refine KI.own hJ hK (a := a) (b := b) ⟨by rw [e]; exact j, k, n⟩ (Rest.of_below hb)
/-- The caller's round, in which what is handed on is taken. -/
theorem KI.on {pre : List α} {x : α} {y : β} {X0 : Nat → Prop} {a b : Nat} {B B1 W' : World} (hJ : Apart J) (hK : Holds bs K) (h : KI J X fm bs K pre (fun x => X0 x ∨ (a ≤ x ∧ x < b)) B) (hb : Below B.heap.size B B1) (e : fm (pre ++ [x]) = fm pre ++ [y])
    (hj : J (fm pre ++ [y]) (fun z => (X0 z ∨ (a ≤ z ∧ z < b)) ∨ X z ∨ bs z) W') (hr : Rest (fun z => (X0 z ∨ (a ≤ z ∧ z < b)) ∨ X z ∨ bs z) B1 W') : Rest X0 B W' ∧ KI J X fm bs K (pre ++ [x]) X0 W' := by
  obtain ⟨-, k, n⟩ := KI.apart hJ hK _ _ _ _ _ h (Below.keeps hb _) (fun b hb => .inl hb)
  have hl := hK.lt _ k
  refine KI.own hJ hK (a := a) (b := b) ⟨by rw [e]; exact hj, hK.same _ _ k (fun z hz => Keeps.block hr z (hl z hz) (fun hn => hn (.inr (.inr hz)))), n⟩ ((Rest.of_below hb).trans (Keeps.mono hr (fun z hz hx => hz (.inl hx))))
theorem KI.off {pre : List α} {x : α} {y : β} {X0 : Nat → Prop} {a b : Nat} {B B1 W' : World} (hJx : Apart Jx) (hb : Below B.heap.size B B1) (e : fm (pre ++ [x]) = fm pre ++ [y])
    (hj : Jx (fm pre ++ [y]) (fun z => (X0 z ∨ (a ≤ z ∧ z < b)) ∨ X z ∨ bs z) W') (hr : Rest (fun z => (X0 z ∨ (a ≤ z ∧ z < b)) ∨ X z ∨ bs z) B1 W') : Rest X0 B W' ∧ KX Jx X fm .ret (pre ++ [x]) X0 W' := by
  refine ⟨(Rest.of_below hb).trans (Keeps.mono hr (fun z hz hx => hz (.inl (.inl hx)))), rfl, ?_⟩
  rw [e]
  refine hJx _ _ _ _ _ hj (Keeps.refl _ _) (fun z hz => ?_)
  rcases hz with hz | hz
  · exact .inl (.inl (.inl hz))
  · exact .inl (.inr (.inl hz))
/-- What the caller's round may ask of the iterator's blocks. -/
theorem KI.few {pre : List α} {X0 : Nat → Prop} {a b : Nat} {A0 B B1 : World} (hK : Holds bs K) (h : KI J X fm bs K pre (fun x => X0 x ∨ (a ≤ x ∧ x < b)) B) (h0 : ∀ z, X0 z → z < A0.heap.size) (hAB : A0.heap.size ≤ B.heap.size) (hb : b = B.heap.size) (hX : ∀ z, X z → z < B.heap.size) (h1 : B.heap.size ≤ B1.heap.size) :
    ∀ z, ((X0 z ∨ (a ≤ z ∧ z < b)) ∨ X z ∨ bs z) → z < B1.heap.size := by
  intro z hz
  rcases hz with (hz | hz) | hz | hz
  · have := h0 z hz; omega
  · omega
  · have := hX z hz; omega
  · have := hK.lt _ h.k z hz; omega
/-- Behind the loop: nothing was told no. -/
theorem KI.done {xs : List α} {T : Nat} {A : World} {o : Obj} (hJ : Apart J) (h : KI J X fm bs K xs (fun b => b = T) A) : J (fm xs) X (A.putObj T o) :=
  hJ _ _ _ _ _ h.j ((keeps_putK A T o).mono (fun _ hb => .inl hb)) (fun _ hb => .inl (.inr (.inl hb)))
theorem KX.done {pre : List α} {c : Code} {T : Nat} {A : World} {o : Obj} (hJx : Apart Jx) (h : KX Jx X fm c pre (fun b => b = T) A) : Jx (fm pre) X (A.putObj T o) :=
  hJx _ _ _ _ _ h.j ((keeps_putK A T o).mono (fun _ hb => .inl hb)) (fun _ hb => .inl (.inr hb))
end
end Go.Proofs.Ytmamligiopbefaa
end

section
/-
  The program's all, gone through where both sides turn memory of their own.
-/
namespace Go.Proofs.Ytmamligiopbefaa
open Go.RowKit Go.Shelf
attribute [local go_sem] Oper.semAt_some

set_option maxRecDepth 100000 in
set_option maxHeartbeats 2000000 in
theorem all_goesP (n : Nat) (_hn : 1 ≤ n) (Bn p N most : Nat) (m : GM.M) (hm : GM.Good most m) :
    GoesP n Try.prog 100 #[.pointer (some ⟨Bn, 0, none⟩)] numArc (GM.arcs m 64)
      (fun A => A.cell? ⟨Bn, 0, none⟩ = some (.pointer (some ⟨p, 0, none⟩)) ∧ GMem A p N most m) := by
  intro l J Jx X W hR hJ hJx hY h0 hXW
  have HJ : Hid (∀ s A A', J s X A → Below A.heap.size A A' → J s X A') := fun s A A' h hb => hJ _ _ _ _ _ h (Below.keeps hb _) (fun b hb => .inl hb)
  have HR : Hid (∀ s A, J s X A → A.cell? ⟨Bn, 0, none⟩ = some (.pointer (some ⟨p, 0, none⟩)) ∧ GMem A p N most m) := fun s A h => hR s X A h
  have HY : Hid (∀ pre x W1, J pre X W1 → pre ++ [x] <+: GM.arcs m 64 → (∀ b, X b → b < W1.heap.size) → YieldAt Fence.wide (n - 1) Try.prog l (numArc x) W1 fun e W' => (e = .returned (.bool true) ∧ J (pre ++ [x]) X W' ∧ Rest X W1 W') ∨ (e = .returned (.bool false) ∧ Jx (pre ++ [x]) X W' ∧ Rest X W1 W')) := fun pre x W1 => hY pre x X W1
  have HX : Hid (∀ b, X b → b < W.heap.size) := hXW
  have H0 : Hid (J [] X W) := h0
  clear hJ hJx hR hY h0 hXW
  refine callsIn_of_wp Try.func100 rfl trivial ?_ rfl
  simp only [Try.ntmps100, List.size_toArray, List.length_cons, List.length_nil, Nat.reduceAdd, Nat.reduceSub, Array.replicate_succ, Array.replicate_zero, List.push_toArray, List.append_toArray, List.nil_append, List.cons_append]
  gi_wp2_with fail
  gi_loopw [6] (fun iv wr => ∃ k : Nat, k ≤ 64 ∧ iv = .int .i64 k ∧ J (GM.arcs m k) X wr ∧ W.heap.size ≤ wr.heap.size) (fun iv _ => 64 - (intOf iv).toNat)
  case atStart => exact ⟨0, Nat.zero_le _, rfl, H0.out, Nat.le_refl _⟩
  case round =>
    obtain ⟨k, hk, rfl, hJs, hsr⟩ := hrel
    by_cases hlt : k < 64
    · obtain ⟨hcb, hkm⟩ := HR.out _ _ hJs
      have har := arc_in hkm hm k hlt
      have HJS : Hid (J (GM.arcs m k) X wr) := hJs
      have k64 : (k : Int) < 64 := by omega
      clear hkm hJs
      cases hsk : GM.is m k with
      | false =>
        rw [hsk] at har
        have HA : Hid (GM.arcs m (k + 1) = GM.arcs m k) := GM.arcs_skip hsk
        unfold arcV at har
        generalize GM.arc m k = a at *
        obtain ⟨t, h, x, c⟩ := a
        dsimp only at har
        clear hsk
        gi_wp2_with fail
        refine ⟨trivial, (callsIn_wide.2 har).mono ?_⟩
        rintro e w2 ⟨rfl, hb2⟩
        have HJ2 : Hid (J (GM.arcs m (k + 1)) X (w2.alloc (.cells #[.int .i64 t, .int .i64 h, .int .i64 x, .bool c] 33))) := by
          show J _ X _
          rw [HA.out]
          exact HJ.out _ _ _ HJS.out (hb2.alloc hb2.size _)
        have hs2 : W.heap.size ≤ (w2.alloc (.cells #[.int .i64 t, .int .i64 h, .int .i64 x, .bool c] 33)).heap.size := by have := hb2.size; simp; omega
        clear har hb2 hcb
        gi_wp2_with fail
        refine ⟨(fun _ h => by cases h), ?_⟩
        gi_wp2_with fail
        go_roundw
        case rel => exact ⟨k + 1, by omega, by go_num, HJ2.out, hs2⟩
        case measure => simp [intOf]; omega
      | true =>
        rw [hsk] at har
        have HA : Hid (GM.arcs m (k + 1) = GM.arcs m k ++ [(k, GM.arc m k)]) := GM.arcs_take hsk
        have HP : Hid (GM.arcs m (k + 1) <+: GM.arcs m 64) := GM.arcs_pre m (by omega)
        unfold arcV at har
        generalize GM.arc m k = a at *
        obtain ⟨t, h, x, c⟩ := a
        dsimp only at har
        have HYX : Hid (∀ W1, J (GM.arcs m k) X W1 → W.heap.size ≤ W1.heap.size → YieldAt Fence.wide (n - 1) Try.prog l #[.int .i64 (k : Nat), .agg #[.int .i64 t, .int .i64 h, .int .i64 x, .bool c]] W1 fun e W' => (e = .returned (.bool true) ∧ J (GM.arcs m (k + 1)) X W' ∧ Rest X W1 W') ∨ (e = .returned (.bool false) ∧ Jx (GM.arcs m (k + 1)) X W' ∧ Rest X W1 W')) := fun W1 h1 h2 => by
          rw [HA.out]
          exact HY.out _ (k, ⟨t, h, x, c⟩) W1 h1 (by have := HP.out; rw [HA.out] at this; exact this) (fun b hb => Nat.lt_of_lt_of_le (HX.out b hb) h2)
        clear hsk
        gi_wp2_with fail
        refine ⟨trivial, (callsIn_wide.2 har).mono ?_⟩
        rintro e w2 ⟨rfl, hb2⟩
        have hJ2 : J (GM.arcs m k) X (w2.alloc (.cells #[.int .i64 t, .int .i64 h, .int .i64 x, .bool c] 33)) := HJ.out _ _ _ HJS.out (hb2.alloc hb2.size _)
        have hs2 : W.heap.size ≤ (w2.alloc (.cells #[.int .i64 t, .int .i64 h, .int .i64 x, .bool c] 33)).heap.size := by have := hb2.size; simp; omega
        obtain ⟨fn, tmps, assign, body, hy, hRd⟩ := HYX.out _ hJ2 hs2
        clear har hb2 hcb hJ2
        gi_wp2_with fail
        refine hRd.mono ?_
        rintro e W4 (⟨rfl, hJ4, hk4⟩ | ⟨rfl, hJx4, -⟩)
        · have hs4 : W.heap.size ≤ W4.heap.size := Nat.le_trans hs2 hk4.size
          have HJ4 : Hid (J (GM.arcs m (k + 1)) X W4) := hJ4
          clear hJ4 hk4 hy hRd
          gi_wp2_with fail
          go_roundw
          case rel => exact ⟨k + 1, by omega, by go_num, HJ4.out, hs4⟩
          case measure => simp [intOf]; omega
        · have HJ4 : Hid (Jx (GM.arcs m (k + 1)) X W4) := hJx4
          clear hJx4 hy hRd
          gi_wp2_with fail
          (try simp only [Exit.inBlock, Exit.then]); refine bodyPost_ret (results_none rfl _ _ _) rfl ?_
          exact ⟨⟨_, rfl⟩, .inr ⟨_, HP.out, HJ4.out⟩⟩
    · obtain rfl : k = 64 := by omega
      have HJS : Hid (J (GM.arcs m 64) X wr) := hJs
      clear hJs hlt hk
      gi_wp2_with fail
      go_end0
      exact ⟨⟨_, rfl⟩, .inl HJS.out⟩
end Go.Proofs.Ytmamligiopbefaa
end

section
/-
  The program's Out, gone through where both sides turn memory of their own.
-/
namespace Go.Proofs.Ytmamligiopbefaa
open Go.RowKit Go.Shelf
attribute [local go_sem] Oper.semAt_some

/-- What it reads. -/
structure ThoseOR (B1 B2 Bv p N most : Nat) (v : Int) (m : GM.M) (A : World) : Prop where
  c1 : A.cell? ⟨B1, 0, none⟩ = some (.pointer (some ⟨p, 0, none⟩))
  c2 : A.cell? ⟨B2, 0, none⟩ = some (.func (.func 99) #[] #[.pointer (some ⟨Bv, 0, none⟩)])
  cv : A.cell? ⟨Bv, 0, none⟩ = some (.int .i64 v)
  g : GMem A p N most m
/-- Its own boxes: where what is handed on goes, the graph. -/
def thoseOK (l Y p : Nat) (A : World) : Prop := Boxed A Y 44 (.func (.yield l) #[] #[]) ∧ Boxed A (Y + 1) 24 (.pointer (some ⟨p, 0, none⟩))
theorem thoseO_holds (l Y p : Nat) : Holds (fun b => b = Y ∨ b = Y + 1) (thoseOK l Y p) :=
  ⟨fun A A' h hb => ⟨(hb _ (.inl rfl)).trans h.1, (hb _ (.inr rfl)).trans h.2⟩, fun A h b hb => by
    rcases hb with rfl | rfl
    · exact h.1.lt
    · exact h.2.lt⟩
set_option maxRecDepth 100000 in
set_option maxHeartbeats 4000000 in
theorem thoseO_goesP (n : Nat) (hn : 4 ≤ n) (B1 B2 Bv p N most : Nat) (v : Int) (m : GM.M) (hm : GM.Good most m) :
    GoesP n Try.prog 107 #[.pointer (some ⟨B1, 0, none⟩), .pointer (some ⟨B2, 0, none⟩)] oneNum (GM.ends m v false) (ThoseOR B1 B2 Bv p N most v m) := by
  intro l J Jx X W hR hJ hJx hY h0 hXW
  obtain ⟨hcb, -, -, -⟩ := hR _ _ _ h0
  have HJ : Hid (Apart J) := hJ
  have HJX : Hid (Apart Jx) := hJx
  have HR : Hid (∀ s X A, J s X A → ThoseOR B1 B2 Bv p N most v m A) := hR
  have HY : Hid (∀ pre x X W1, J pre X W1 → pre ++ [x] <+: GM.ends m v false → (∀ b, X b → b < W1.heap.size) → YieldAt Fence.wide (n - 1) Try.prog l (oneNum x) W1 fun e W' => (e = .returned (.bool true) ∧ J (pre ++ [x]) X W' ∧ Rest X W1 W') ∨ (e = .returned (.bool false) ∧ Jx (pre ++ [x]) X W' ∧ Rest X W1 W')) := hY
  have HX : Hid (∀ b, X b → b < W.heap.size) := hXW
  have HEA : Hid (GM.those false v (GM.arcs m 64) = GM.ends m v false) := GM.those_all m v false
  obtain ⟨L, hL⟩ : ∃ L, GM.arcs m 64 = L := ⟨_, rfl⟩
  rw [hL] at HEA
  rw [← HEA.out]
  have hal := all_any p (W.alloc (.cells #[.func (.yield l) #[] #[]] 44))
  have h1n : 1 ≤ n := by omega
  have h3n : 1 ≤ n - 1 - 1 := by omega
  have hb1 : Below W.heap.size W (W.alloc (.cells #[.func (.yield l) #[] #[]] 44)) := (Below.refl _ _).alloc (Nat.le_refl _) _
  have hcb1 := (hb1.cell (p := ⟨B1, 0, none⟩) (cell_lt hcb)).trans hcb
  have H0 : Hid (J [] X W) := h0
  clear hJ hJx hR hY h0 hXW
  refine callsIn_of_wp_marks Try.func107 rfl trivial ?_ rfl
  simp only [Try.ntmps107, List.size_toArray, List.length_cons, List.length_nil, Nat.reduceAdd, Nat.reduceSub, Array.replicate_succ, Array.replicate_zero, List.push_toArray, List.append_toArray, List.nil_append, List.cons_append]
  gi_wp2_with fail
  refine ⟨trivial, (callsIn_wide.2 hal).mono ?_⟩
  rintro e w2 ⟨rfl, hw2⟩
  rw [hw2]
  clear hal hw2 w2
  gi_wp2_with fail
  have bY : Boxed ((W.alloc (.cells #[.func (.yield l) #[] #[]] 44)).alloc (.cells #[.pointer (some ⟨p, 0, none⟩)] 24)) W.heap.size 44 (.func (.yield l) #[] #[]) := (Boxed.new W 44 (.func (.yield l) #[] #[])).alloc _
  have bP : Boxed ((W.alloc (.cells #[.func (.yield l) #[] #[]] 44)).alloc (.cells #[.pointer (some ⟨p, 0, none⟩)] 24)) (W.heap.size + 1) 24 (.pointer (some ⟨p, 0, none⟩)) := by
    have := Boxed.new (W.alloc (.cells #[.func (.yield l) #[] #[]] 44)) 24 (.pointer (some ⟨p, 0, none⟩))
    rwa [World.size_alloc] at this
  have hS2 : ((W.alloc (.cells #[.func (.yield l) #[] #[]] 44)).alloc (.cells #[.pointer (some ⟨p, 0, none⟩)] 24)).heap.size = W.heap.size + 1 + 1 := by simp
  have hB2 : Below W.heap.size W ((W.alloc (.cells #[.func (.yield l) #[] #[]] 44)).alloc (.cells #[.pointer (some ⟨p, 0, none⟩)] 24)) := ((Below.refl _ _).alloc (Nat.le_refl _) _).alloc (by simp) _
  have hKI : KI J X (GM.those false v) (fun b => b = W.heap.size ∨ b = W.heap.size + 1) (thoseOK l W.heap.size p) [] (fun _ => False) ((W.alloc (.cells #[.func (.yield l) #[] #[]] 44)).alloc (.cells #[.pointer (some ⟨p, 0, none⟩)] 24)) := by
    refine ⟨HJ.out _ _ _ _ _ H0.out (Below.keeps hB2 _) (fun b hb => ?_), ⟨bY, bP⟩, fun b _ h => h⟩
    rcases hb with hb | hb | hb | hb
    · exact hb.elim
    · exact .inl hb
    · exact .inr (by omega)
    · exact .inr (by omega)
  have hgo := all_goesP (n - 1) (by omega) (W.heap.size + 1) p N most m hm
  generalize (W.alloc (.cells #[.func (.yield l) #[] #[]] 44)).alloc (.cells #[.pointer (some ⟨p, 0, none⟩)] 24) = W2 at *
  have hHo := thoseO_holds l W.heap.size p
  clear hcb hcb1 hb1 hB2 H0 hm bY bP
  rw [hL] at hgo
  clear hL
  refine range_goesP (by omega) (gf := 100) (lb := #[.pointer (some ⟨W.heap.size + 1, 0, none⟩)]) rfl (enters_of Try.func100 (by kernel_rfl) rfl) hgo (fun _ => rfl)
    (KI J X (GM.those false v) (fun b => b = W.heap.size ∨ b = W.heap.size + 1) (thoseOK l W.heap.size p))
    (KX Jx X (GM.those false v)) (KI.apart HJ.out hHo) (KX.apart HJX.out)
    (fun pre X' A h => ⟨h.k.2.cell, (HR.out _ _ _ h.j).g⟩) hKI
    (fun x A => { tmps := #[.func (.yield l) #[] #[], .pointer (some ⟨B1, 0, none⟩), .pointer (some ⟨B2, 0, none⟩), .pointer (some ⟨W.heap.size, 0, none⟩), .int .i64 (x.1 : Nat), .pointer (some ⟨A.heap.size, 0, none⟩), .pointer (some ⟨p, 0, none⟩), .func (.func 100) #[] #[.pointer (some ⟨W.heap.size + 1, 0, none⟩)], .int .i64 (x.1 : Nat), .agg #[.int .i64 x.2.tail, .int .i64 x.2.head, .int .i64 x.2.weight, .bool x.2.closed], undef, undef, undef, undef, undef, undef, undef, undef, undef], defers := [] })
    (fun x A => A.alloc (.cells #[.int .i64 x.2.tail, .int .i64 x.2.head, .int .i64 x.2.weight, .bool x.2.closed] 33))
    (fun x W => (Below.refl _ _).alloc (Nat.le_refl _) _) ?assign ?body ?done ?stop
  case assign =>
    rintro l' ⟨i, t, h, x, c⟩ A K hK
    simp only [numArc]
    gi_wp2
    exact hK
  case body =>
    rintro l' pre ⟨i, t, h, x, c⟩ X0 A B hi hlt - - hAs hblk hsz hXb
    have hr := HR.out _ _ _ hi.j
    obtain ⟨-, k2, k3, -⟩ := hr
    obtain ⟨a0, a1, a2, a3⟩ := arcIn_block (hblk A.heap.size (by omega))
    simp only [Nat.zero_add] at a1 a2 a3
    dsimp only at a0 a1 a2 a3
    have hso := soO_any ⟨t, h, x, c⟩ Bv v B k3
    dsimp only at hso
    have hABs : A.heap.size ≤ B.heap.size := by rw [hsz]; simp
    have HTL : Hid (GM.those false v (pre ++ [(i, (⟨t, h, x, c⟩ : Arc))]) <+: GM.ends m v false) := by
      show _ <+: _
      rw [← HEA.out]
      exact GM.those_pre _ _ hlt
    have HTS : Hid (GM.those false v (pre ++ [(i, (⟨t, h, x, c⟩ : Arc))]) = GM.those false v pre ++ (if GM.end1 false ⟨t, h, x, c⟩ = v then [i] else [])) := GM.those_snoc _ _ _ _
    have HI : Hid (KI J X (GM.those false v) (fun b => b = W.heap.size ∨ b = W.heap.size + 1) (thoseOK l W.heap.size p) pre (fun b => X0 b ∨ (A.heap.size ≤ b ∧ b < B.heap.size)) B) := hi
    have HF : Hid (∀ B1 : World, B.heap.size ≤ B1.heap.size → ∀ z, ((X0 z ∨ (A.heap.size ≤ z ∧ z < B.heap.size)) ∨ X z ∨ (z = W.heap.size ∨ z = W.heap.size + 1)) → z < B1.heap.size) := fun B1 h1 => KI.few hHo hi hXb hABs rfl (fun z hz => by have := HX.out z hz; have := hi.k.1.lt; omega) h1
    clear hi hblk hgo k3 hsz hXb hKI hHo hABs
    have hHo := thoseO_holds l W.heap.size p
    generalize hg : A.heap.size = g at *
    clear hg
    by_cases he : GM.end1 false ⟨t, h, x, c⟩ = v
    · rw [decide_eq_true he] at hso
      rw [if_pos he] at HTS
      clear he
      gi_wp2_with fail
      refine ⟨trivial, (CallsIn.inRound l' (callsIn_wide.2 hso)).mono ?_⟩
      rintro e A1 ⟨rfl, hb1⟩
      have HB1 : Hid (Below B.heap.size B A1) := hb1
      have hi1 := KI.apart HJ.out hHo _ _ _ _ _ HI.out (Below.keeps hb1 _) (fun b hb => .inl hb)
      obtain ⟨fn, tmps, assign, body, hy, hRd⟩ := HY.out _ i _ A1 hi1.j (by have := HTL.out; rw [HTS.out] at this; exact this) (HF.out A1 hb1.size)
      dsimp only [oneNum] at hy
      have cY := hi1.k.1.cell
      clear hso hb1 hi1 a0 a1 a2 a3 k2
      gi_wp2_with fail
      refine (roundIn_in hRd).mono ?_
      rintro e A4 (⟨rfl, hJ4, hk4⟩ | ⟨rfl, hJx4, hk4⟩)
      · have HO : Hid (Rest X0 B A4 ∧ KI J X (GM.those false v) (fun b => b = W.heap.size ∨ b = W.heap.size + 1) (thoseOK l W.heap.size p) (pre ++ [(i, (⟨t, h, x, c⟩ : Arc))]) X0 A4) := KI.on HJ.out hHo HI.out HB1.out HTS.out hJ4 hk4
        clear hRd hy cY hJ4 hk4
        gi_wp2_with fail
        exact HO.out
      · have HO : Hid (Rest X0 B A4 ∧ KX Jx X (GM.those false v) .ret (pre ++ [(i, (⟨t, h, x, c⟩ : Arc))]) X0 A4) := KI.off HJX.out HB1.out HTS.out hJx4 hk4
        clear hRd hy cY hJx4 hk4
        gi_wp2_with fail
        exact HO.out
    · rw [decide_eq_false he] at hso
      rw [if_neg he, List.append_nil] at HTS
      clear he
      gi_wp2_with fail
      refine ⟨trivial, (CallsIn.inRound l' (callsIn_wide.2 hso)).mono ?_⟩
      rintro e A1 ⟨rfl, hb1⟩
      have HO : Hid (Rest X0 B A1 ∧ KI J X (GM.those false v) (fun b => b = W.heap.size ∨ b = W.heap.size + 1) (thoseOK l W.heap.size p) (pre ++ [(i, (⟨t, h, x, c⟩ : Arc))]) X0 A1) := KI.skip HJ.out hHo HI.out hb1 HTS.out
      clear hso hb1 a0 a1 a2 a3 k2
      gi_wp2_with fail
      refine ⟨(fun _ h => by cases h), ?_⟩
      gi_wp2_with fail
      exact HO.out
  case done =>
    rintro A hi hK
    gi_wp2
    refine ⟨by simp, .inl ⟨_, _, rfl, run_takeDeferred hK, ?_⟩⟩
    exact ⟨_, results_none rfl _ _ _, ⟨_, rfl⟩, .inl (KI.done HJ.out hi)⟩
  case stop =>
    rintro c pre A hpre hi hK
    obtain rfl := hi.c
    gi_wp2
    refine ⟨by simp, .inl ⟨_, _, rfl, run_takeDeferred hK, ?_⟩⟩
    exact ⟨_, results_none rfl _ _ _, ⟨_, rfl⟩, .inr ⟨_, GM.those_pre _ _ hpre, KX.done HJX.out hi⟩⟩
end Go.Proofs.Ytmamligiopbefaa
end

section
/-
  The program's In, gone through where both sides turn memory of their own.
-/
namespace Go.Proofs.Ytmamligiopbefaa
open Go.RowKit Go.Shelf
attribute [local go_sem] Oper.semAt_some

/-- What it reads. -/
structure ThoseIR (B1 B2 Bv p N most : Nat) (v : Int) (m : GM.M) (A : World) : Prop where
  c1 : A.cell? ⟨B1, 0, none⟩ = some (.pointer (some ⟨p, 0, none⟩))
  c2 : A.cell? ⟨B2, 0, none⟩ = some (.func (.func 108) #[] #[.pointer (some ⟨Bv, 0, none⟩)])
  cv : A.cell? ⟨Bv, 0, none⟩ = some (.int .i64 v)
  g : GMem A p N most m
/-- Its own boxes: where what is handed on goes, the graph. -/
def thoseIK (l Y p : Nat) (A : World) : Prop := Boxed A Y 44 (.func (.yield l) #[] #[]) ∧ Boxed A (Y + 1) 24 (.pointer (some ⟨p, 0, none⟩))
theorem thoseI_holds (l Y p : Nat) : Holds (fun b => b = Y ∨ b = Y + 1) (thoseIK l Y p) :=
  ⟨fun A A' h hb => ⟨(hb _ (.inl rfl)).trans h.1, (hb _ (.inr rfl)).trans h.2⟩, fun A h b hb => by
    rcases hb with rfl | rfl
    · exact h.1.lt
    · exact h.2.lt⟩
set_option maxRecDepth 100000 in
set_option maxHeartbeats 4000000 in
theorem thoseI_goesP (n : Nat) (hn : 4 ≤ n) (B1 B2 Bv p N most : Nat) (v : Int) (m : GM.M) (hm : GM.Good most m) :
    GoesP n Try.prog 107 #[.pointer (some ⟨B1, 0, none⟩), .pointer (some ⟨B2, 0, none⟩)] oneNum (GM.ends m v true) (ThoseIR B1 B2 Bv p N most v m) := by
  intro l J Jx X W hR hJ hJx hY h0 hXW
  obtain ⟨hcb, -, -, -⟩ := hR _ _ _ h0
  have HJ : Hid (Apart J) := hJ
  have HJX : Hid (Apart Jx) := hJx
  have HR : Hid (∀ s X A, J s X A → ThoseIR B1 B2 Bv p N most v m A) := hR
  have HY : Hid (∀ pre x X W1, J pre X W1 → pre ++ [x] <+: GM.ends m v true → (∀ b, X b → b < W1.heap.size) → YieldAt Fence.wide (n - 1) Try.prog l (oneNum x) W1 fun e W' => (e = .returned (.bool true) ∧ J (pre ++ [x]) X W' ∧ Rest X W1 W') ∨ (e = .returned (.bool false) ∧ Jx (pre ++ [x]) X W' ∧ Rest X W1 W')) := hY
  have HX : Hid (∀ b, X b → b < W.heap.size) := hXW
  have HEA : Hid (GM.those true v (GM.arcs m 64) = GM.ends m v true) := GM.those_all m v true
  obtain ⟨L, hL⟩ : ∃ L, GM.arcs m 64 = L := ⟨_, rfl⟩
  rw [hL] at HEA
  rw [← HEA.out]
  have hal := all_any p (W.alloc (.cells #[.func (.yield l) #[] #[]] 44))
  have h1n : 1 ≤ n := by omega
  have h3n : 1 ≤ n - 1 - 1 := by omega
  have hb1 : Below W.heap.size W (W.alloc (.cells #[.func (.yield l) #[] #[]] 44)) := (Below.refl _ _).alloc (Nat.le_refl _) _
  have hcb1 := (hb1.cell (p := ⟨B1, 0, none⟩) (cell_lt hcb)).trans hcb
  have H0 : Hid (J [] X W) := h0
  clear hJ hJx hR hY h0 hXW
  refine callsIn_of_wp_marks Try.func107 rfl trivial ?_ rfl
  simp only [Try.ntmps107, List.size_toArray, List.length_cons, List.length_nil, Nat.reduceAdd, Nat.reduceSub, Array.replicate_succ, Array.replicate_zero, List.push_toArray, List.append_toArray, List.nil_append, List.cons_append]
  gi_wp2_with fail
  refine ⟨trivial, (callsIn_wide.2 hal).mono ?_⟩
  rintro e w2 ⟨rfl, hw2⟩
  rw [hw2]
  clear hal hw2 w2
  gi_wp2_with fail
  have bY : Boxed ((W.alloc (.cells #[.func (.yield l) #[] #[]] 44)).alloc (.cells #[.pointer (some ⟨p, 0, none⟩)] 24)) W.heap.size 44 (.func (.yield l) #[] #[]) := (Boxed.new W 44 (.func (.yield l) #[] #[])).alloc _
  have bP : Boxed ((W.alloc (.cells #[.func (.yield l) #[] #[]] 44)).alloc (.cells #[.pointer (some ⟨p, 0, none⟩)] 24)) (W.heap.size + 1) 24 (.pointer (some ⟨p, 0, none⟩)) := by
    have := Boxed.new (W.alloc (.cells #[.func (.yield l) #[] #[]] 44)) 24 (.pointer (some ⟨p, 0, none⟩))
    rwa [World.size_alloc] at this
  have hS2 : ((W.alloc (.cells #[.func (.yield l) #[] #[]] 44)).alloc (.cells #[.pointer (some ⟨p, 0, none⟩)] 24)).heap.size = W.heap.size + 1 + 1 := by simp
  have hB2 : Below W.heap.size W ((W.alloc (.cells #[.func (.yield l) #[] #[]] 44)).alloc (.cells #[.pointer (some ⟨p, 0, none⟩)] 24)) := ((Below.refl _ _).alloc (Nat.le_refl _) _).alloc (by simp) _
  have hKI : KI J X (GM.those true v) (fun b => b = W.heap.size ∨ b = W.heap.size + 1) (thoseIK l W.heap.size p) [] (fun _ => False) ((W.alloc (.cells #[.func (.yield l) #[] #[]] 44)).alloc (.cells #[.pointer (some ⟨p, 0, none⟩)] 24)) := by
    refine ⟨HJ.out _ _ _ _ _ H0.out (Below.keeps hB2 _) (fun b hb => ?_), ⟨bY, bP⟩, fun b _ h => h⟩
    rcases hb with hb | hb | hb | hb
    · exact hb.elim
    · exact .inl hb
    · exact .inr (by omega)
    · exact .inr (by omega)
  have hgo := all_goesP (n - 1) (by omega) (W.heap.size + 1) p N most m hm
  generalize (W.alloc (.cells #[.func (.yield l) #[] #[]] 44)).alloc (.cells #[.pointer (some ⟨p, 0, none⟩)] 24) = W2 at *
  have hHo := thoseI_holds l W.heap.size p
  clear hcb hcb1 hb1 hB2 H0 hm bY bP
  rw [hL] at hgo
  clear hL
  refine range_goesP (by omega) (gf := 100) (lb := #[.pointer (some ⟨W.heap.size + 1, 0, none⟩)]) rfl (enters_of Try.func100 (by kernel_rfl) rfl) hgo (fun _ => rfl)
    (KI J X (GM.those true v) (fun b => b = W.heap.size ∨ b = W.heap.size + 1) (thoseIK l W.heap.size p))
    (KX Jx X (GM.those true v)) (KI.apart HJ.out hHo) (KX.apart HJX.out)
    (fun pre X' A h => ⟨h.k.2.cell, (HR.out _ _ _ h.j).g⟩) hKI
    (fun x A => { tmps := #[.func (.yield l) #[] #[], .pointer (some ⟨B1, 0, none⟩), .pointer (some ⟨B2, 0, none⟩), .pointer (some ⟨W.heap.size, 0, none⟩), .int .i64 (x.1 : Nat), .pointer (some ⟨A.heap.size, 0, none⟩), .pointer (some ⟨p, 0, none⟩), .func (.func 100) #[] #[.pointer (some ⟨W.heap.size + 1, 0, none⟩)], .int .i64 (x.1 : Nat), .agg #[.int .i64 x.2.tail, .int .i64 x.2.head, .int .i64 x.2.weight, .bool x.2.closed], undef, undef, undef, undef, undef, undef, undef, undef, undef], defers := [] })
    (fun x A => A.alloc (.cells #[.int .i64 x.2.tail, .int .i64 x.2.head, .int .i64 x.2.weight, .bool x.2.closed] 33))
    (fun x W => (Below.refl _ _).alloc (Nat.le_refl _) _) ?assign ?body ?done ?stop
  case assign =>
    rintro l' ⟨i, t, h, x, c⟩ A K hK
    simp only [numArc]
    gi_wp2
    exact hK
  case body =>
    rintro l' pre ⟨i, t, h, x, c⟩ X0 A B hi hlt - - hAs hblk hsz hXb
    have hr := HR.out _ _ _ hi.j
    obtain ⟨-, k2, k3, -⟩ := hr
    obtain ⟨a0, a1, a2, a3⟩ := arcIn_block (hblk A.heap.size (by omega))
    simp only [Nat.zero_add] at a1 a2 a3
    dsimp only at a0 a1 a2 a3
    have hso := soI_any ⟨t, h, x, c⟩ Bv v B k3
    dsimp only at hso
    have hABs : A.heap.size ≤ B.heap.size := by rw [hsz]; simp
    have HTL : Hid (GM.those true v (pre ++ [(i, (⟨t, h, x, c⟩ : Arc))]) <+: GM.ends m v true) := by
      show _ <+: _
      rw [← HEA.out]
      exact GM.those_pre _ _ hlt
    have HTS : Hid (GM.those true v (pre ++ [(i, (⟨t, h, x, c⟩ : Arc))]) = GM.those true v pre ++ (if GM.end1 true ⟨t, h, x, c⟩ = v then [i] else [])) := GM.those_snoc _ _ _ _
    have HI : Hid (KI J X (GM.those true v) (fun b => b = W.heap.size ∨ b = W.heap.size + 1) (thoseIK l W.heap.size p) pre (fun b => X0 b ∨ (A.heap.size ≤ b ∧ b < B.heap.size)) B) := hi
    have HF : Hid (∀ B1 : World, B.heap.size ≤ B1.heap.size → ∀ z, ((X0 z ∨ (A.heap.size ≤ z ∧ z < B.heap.size)) ∨ X z ∨ (z = W.heap.size ∨ z = W.heap.size + 1)) → z < B1.heap.size) := fun B1 h1 => KI.few hHo hi hXb hABs rfl (fun z hz => by have := HX.out z hz; have := hi.k.1.lt; omega) h1
    clear hi hblk hgo k3 hsz hXb hKI hHo hABs
    have hHo := thoseI_holds l W.heap.size p
    generalize hg : A.heap.size = g at *
    clear hg
    by_cases he : GM.end1 true ⟨t, h, x, c⟩ = v
    · rw [decide_eq_true he] at hso
      rw [if_pos he] at HTS
      clear he
      gi_wp2_with fail
      refine ⟨trivial, (CallsIn.inRound l' (callsIn_wide.2 hso)).mono ?_⟩
      rintro e A1 ⟨rfl, hb1⟩
      have HB1 : Hid (Below B.heap.size B A1) := hb1
      have hi1 := KI.apart HJ.out hHo _ _ _ _ _ HI.out (Below.keeps hb1 _) (fun b hb => .inl hb)
      obtain ⟨fn, tmps, assign, body, hy, hRd⟩ := HY.out _ i _ A1 hi1.j (by have := HTL.out; rw [HTS.out] at this; exact this) (HF.out A1 hb1.size)
      dsimp only [oneNum] at hy
      have cY := hi1.k.1.cell
      clear hso hb1 hi1 a0 a1 a2 a3 k2
      gi_wp2_with fail
      refine (roundIn_in hRd).mono ?_
      rintro e A4 (⟨rfl, hJ4, hk4⟩ | ⟨rfl, hJx4, hk4⟩)
      · have HO : Hid (Rest X0 B A4 ∧ KI J X (GM.those true v) (fun b => b = W.heap.size ∨ b = W.heap.size + 1) (thoseIK l W.heap.size p) (pre ++ [(i, (⟨t, h, x, c⟩ : Arc))]) X0 A4) := KI.on HJ.out hHo HI.out HB1.out HTS.out hJ4 hk4
        clear hRd hy cY hJ4 hk4
        gi_wp2_with fail
        exact HO.out
      · have HO : Hid (Rest X0 B A4 ∧ KX Jx X (GM.those true v) .ret (pre ++ [(i, (⟨t, h, x, c⟩ : Arc))]) X0 A4) := KI.off HJX.out HB1.out HTS.out hJx4 hk4
        clear hRd hy cY hJx4 hk4
        gi_wp2_with fail
        exact HO.out
    · rw [decide_eq_false he] at hso
      rw [if_neg he, List.append_nil] at HTS
      clear he
      gi_wp2_with fail
      refine ⟨trivial, (CallsIn.inRound l' (callsIn_wide.2 hso)).mono ?_⟩
      rintro e A1 ⟨rfl, hb1⟩
      have HO : Hid (Rest X0 B A1 ∧ KI J X (GM.those true v) (fun b => b = W.heap.size ∨ b = W.heap.size + 1) (thoseIK l W.heap.size p) (pre ++ [(i, (⟨t, h, x, c⟩ : Arc))]) X0 A1) := KI.skip HJ.out hHo HI.out hb1 HTS.out
      clear hso hb1 a0 a1 a2 a3 k2
      gi_wp2_with fail
      refine ⟨(fun _ h => by cases h), ?_⟩
      gi_wp2_with fail
      exact HO.out
  case done =>
    rintro A hi hK
    gi_wp2
    refine ⟨by simp, .inl ⟨_, _, rfl, run_takeDeferred hK, ?_⟩⟩
    exact ⟨_, results_none rfl _ _ _, ⟨_, rfl⟩, .inl (KI.done HJ.out hi)⟩
  case stop =>
    rintro c pre A hpre hi hK
    obtain rfl := hi.c
    gi_wp2
    refine ⟨by simp, .inl ⟨_, _, rfl, run_takeDeferred hK, ?_⟩⟩
    exact ⟨_, results_none rfl _ _ _, ⟨_, rfl⟩, .inr ⟨_, GM.those_pre _ _ hpre, KX.done HJX.out hi⟩⟩
end Go.Proofs.Ytmamligiopbefaa
end
