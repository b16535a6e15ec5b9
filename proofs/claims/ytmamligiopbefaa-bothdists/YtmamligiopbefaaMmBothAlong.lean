/-
  BothAlongO, BothAlongI, BothTraceO, BothTraceI.
-/
import Derived.Test.YtmamligiopbefaaMmBothOne
import Derived.Test.YtmamligiopbefaaMmPaths
section
/-
  The walks of along and of trace, onwards.
-/
namespace Go.Proofs.Ytmamligiopbefaa
open Go.RowKit Go.Shelf

theorem below_arcO {w w' : World} {b o : Nat} {a : Arc} (h : ArcIn w b o a) (hb : Below w.heap.size w w') : ArcIn w' b o a := by
  obtain ⟨a0, a1, a2, a3⟩ := h
  exact ⟨(hb.cell (p := ⟨b, o, none⟩) (cell_lt a0)).trans a0, (hb.cell (p := ⟨b, o + 1, none⟩) (cell_lt a1)).trans a1, (hb.cell (p := ⟨b, o + 2, none⟩) (cell_lt a2)).trans a2, (hb.cell (p := ⟨b, o + 3, none⟩) (cell_lt a3)).trans a3⟩
theorem alongO_out {w W : World} {t : Array Value} {g : Nat} {a : Arc} (ht : t[4]?.getD undef = .pointer (some ⟨g, 0, none⟩)) (hin : ArcIn W g 0 a) (hB : Below w.heap.size w W) :
    bodyPost Try.prog Try.f85 (fun e w' => e = .returned (arcV a) ∧ Below w.heap.size w w') Exit.ret { tmps := t, defers := [] } W := by
  obtain ⟨r0, r1, r2, r3⟩ := hin
  simp only [Nat.zero_add] at r1 r2 r3
  refine bodyPost_ret (v := arcV a) ?_ rfl ⟨rfl, hB⟩
  unfold arcV
  simp [results, Try.f85, go_sem, ht, r0, r1, r2, r3]
set_option maxHeartbeats 2000000 in
theorem alongO_any {A : World} {B : Nat} {z : Sid} {gp N most : Nat} {m : GM.M} {k : Nat → Option (Int × Int)} {hm : Nat → Option Int} {F : Nat → Prop} (h : SD A B z gp 0 N k hm F) (hg : GMem A gp N most m) (hgm : GM.Good most m) (i : Nat) (hi : i < 64) :
    Calls Try.prog 85 #[.pointer (some ⟨z.q, 0, none⟩), .int .i64 (i : Nat)] A fun e A' => e = .returned (arcV (GM.arc m i)) ∧ Below A.heap.size A A' := by
  have hb1 : Below A.heap.size A (A.alloc (.cells #[.int .i64 0, .int .i64 0, .int .i64 0, .bool false] 33)) := (Below.refl _ _).alloc (Nat.le_refl _) _
  have HC : Hid (∀ W, Below A.heap.size A W → W.cell? ⟨z.q, 2, none⟩ = some (.pointer (some ⟨gp, 0, none⟩)) ∧ W.cell? ⟨z.q, 3, none⟩ = some (.int .i64 0)) := fun W hW => ⟨(h.on hW).c2, (h.on hW).c3⟩
  have har := arc_in (hg.on hb1) hgm i hi
  obtain ⟨c2, c3⟩ := HC.out _ hb1
  generalize GM.arc m i = a at *
  obtain ⟨t, x, y, c⟩ := a
  unfold arcV at har
  dsimp only at har
  have HB1 : Hid (Below A.heap.size A (A.alloc (.cells #[.int .i64 0, .int .i64 0, .int .i64 0, .bool false] 33))) := hb1
  have HN : Hid (ArcIn (A.alloc (.cells #[.int .i64 0, .int .i64 0, .int .i64 0, .bool false] 33)) A.heap.size 0 noArc) := arcIn_new _ _ _ _ _
  have HZ : Hid (∀ j, (A.alloc (.cells #[.int .i64 0, .int .i64 0, .int .i64 0, .bool false] 33)).frozen? ⟨A.heap.size, j, none⟩ = false) := fun j => by simp
  have HS1 : Hid (A.heap.size < (A.alloc (.cells #[.int .i64 0, .int .i64 0, .int .i64 0, .bool false] 33)).heap.size) := by show _ < _; simp
  clear h hg hgm hi hb1 c3
  go_enter Try.func85, Try.ntmps85
  go_wp2_with fail
  refine har.mono ?_
  rintro e w2 ⟨rfl, hb2⟩
  have HB2 : Hid (Below (A.alloc (.cells #[.int .i64 0, .int .i64 0, .int .i64 0, .bool false] 33)).heap.size (A.alloc (.cells #[.int .i64 0, .int .i64 0, .int .i64 0, .bool false] 33)) w2) := hb2
  clear har hb2 c2
  go_upto_region 2 with fail
  have hb3 := HB2.out.alloc HB2.out.size (.cells #[.int .i64 t, .int .i64 x, .int .i64 y, .bool c] 33)
  have h0 := below_arcO HN.out hb3
  have hz := fun j => ((Below.keeps hb3 (fun _ => False)).frozen (p := ⟨A.heap.size, j, none⟩) HS1.out (fun h => h)).trans (HZ.out j)
  have h2 := arcIn_new w2 t x y c
  have hb4 := below_on HB1.out hb3
  have hl : A.heap.size < w2.heap.size := Nat.lt_of_lt_of_le HS1.out HB2.out.size
  have hy := fun j => (by simp : (w2.alloc (.cells #[.int .i64 t, .int .i64 x, .int .i64 y, .bool c] 33)).frozen? ⟨w2.heap.size, j, none⟩ = false)
  obtain ⟨c2, c3⟩ := HC.out _ hb4
  generalize w2.alloc (.cells #[.int .i64 t, .int .i64 x, .int .i64 y, .bool c] 33) = w3 at *
  generalize hg2 : w2.heap.size = g2 at *
  obtain ⟨a0, a1, a2, a3⟩ := h0
  obtain ⟨b0, b1, b2, b3⟩ := h2
  dsimp only [noArc] at a0 a1 a2 a3
  dsimp only at b0 b1 b2 b3
  simp only [Nat.zero_add] at a1 a2 a3 b1 b2 b3
  have z0 := hz 0
  have z1 := hz 1
  have z2 := hz 2
  have z3 := hz 3
  have y0 := hy 0
  have y1 := hy 1
  clear hz hy HC HB1 HB2 HN HZ HS1 hb3 c2 hg2
  have HB4 : Hid (Below A.heap.size A w3) := hb4
  have HL : Hid (A.heap.size < g2) := hl
  have HA0 : Hid (ArcIn w3 A.heap.size 0 noArc) := ⟨a0, a1, a2, a3⟩
  have HB0 : Hid (ArcIn w3 g2 0 ⟨t, x, y, c⟩) := ⟨b0, b1, b2, b3⟩
  clear hb4
  go_wp2_with fail
  have hin := arcSet_in (w := w3) (b := A.heap.size) (o := 0) HA0.out ⟨t, x, y, c⟩
  unfold arcSet at hin
  simp only [Nat.zero_add] at hin
  exact alongO_out rfl hin ((((HB4.out.setCell (p := ⟨A.heap.size, 0, none⟩) (Nat.le_refl _) _).setCell (p := ⟨A.heap.size, 1, none⟩) (Nat.le_refl _) _).setCell (p := ⟨A.heap.size, 2, none⟩) (Nat.le_refl _) _).setCell (p := ⟨A.heap.size, 3, none⟩) (Nat.le_refl _) _)
end Go.Proofs.Ytmamligiopbefaa
end

section
/-
  The walks of along and of trace, back.
-/
namespace Go.Proofs.Ytmamligiopbefaa
open Go.RowKit Go.Shelf

theorem below_arcI {w w' : World} {b o : Nat} {a : Arc} (h : ArcIn w b o a) (hb : Below w.heap.size w w') : ArcIn w' b o a := by
  obtain ⟨a0, a1, a2, a3⟩ := h
  exact ⟨(hb.cell (p := ⟨b, o, none⟩) (cell_lt a0)).trans a0, (hb.cell (p := ⟨b, o + 1, none⟩) (cell_lt a1)).trans a1, (hb.cell (p := ⟨b, o + 2, none⟩) (cell_lt a2)).trans a2, (hb.cell (p := ⟨b, o + 3, none⟩) (cell_lt a3)).trans a3⟩
theorem alongI_out {w W : World} {t : Array Value} {g : Nat} {a : Arc} (ht : t[4]?.getD undef = .pointer (some ⟨g, 0, none⟩)) (hin : ArcIn W g 0 a) (hB : Below w.heap.size w W) :
    bodyPost Try.prog Try.f85 (fun e w' => e = .returned (arcV a) ∧ Below w.heap.size w w') Exit.ret { tmps := t, defers := [] } W := by
  obtain ⟨r0, r1, r2, r3⟩ := hin
  simp only [Nat.zero_add] at r1 r2 r3
  refine bodyPost_ret (v := arcV a) ?_ rfl ⟨rfl, hB⟩
  unfold arcV
  simp [results, Try.f85, go_sem, ht, r0, r1, r2, r3]
set_option maxHeartbeats 2000000 in
theorem alongI_any {A : World} {B : Nat} {z : Sid} {gp N most : Nat} {m : GM.M} {k : Nat → Option (Int × Int)} {hm : Nat → Option Int} {F : Nat → Prop} (h : SD A B z gp 1 N k hm F) (hg : GMem A gp N most m) (hgm : GM.Good most m) (i : Nat) (hi : i < 64) :
    Calls Try.prog 85 #[.pointer (some ⟨z.q, 0, none⟩), .int .i64 (i : Nat)] A fun e A' => e = .returned (arcV (GM.arc (NM.rev m) i)) ∧ Below A.heap.size A A' := by
  have hb1 : Below A.heap.size A (A.alloc (.cells #[.int .i64 0, .int .i64 0, .int .i64 0, .bool false] 33)) := (Below.refl _ _).alloc (Nat.le_refl _) _
  have HC : Hid (∀ W, Below A.heap.size A W → W.cell? ⟨z.q, 2, none⟩ = some (.pointer (some ⟨gp, 0, none⟩)) ∧ W.cell? ⟨z.q, 3, none⟩ = some (.int .i64 1)) := fun W hW => ⟨(h.on hW).c2, (h.on hW).c3⟩
  have har := arc_in (hg.on hb1) hgm i hi
  obtain ⟨c2, c3⟩ := HC.out _ hb1
  rw [NM.arc_rev]
  generalize GM.arc m i = a at *
  obtain ⟨t, x, y, c⟩ := a
  unfold arcV at har
  dsimp only at har
  have HB1 : Hid (Below A.heap.size A (A.alloc (.cells #[.int .i64 0, .int .i64 0, .int .i64 0, .bool false] 33))) := hb1
  have HN : Hid (ArcIn (A.alloc (.cells #[.int .i64 0, .int .i64 0, .int .i64 0, .bool false] 33)) A.heap.size 0 noArc) := arcIn_new _ _ _ _ _
  have HZ : Hid (∀ j, (A.alloc (.cells #[.int .i64 0, .int .i64 0, .int .i64 0, .bool false] 33)).frozen? ⟨A.heap.size, j, none⟩ = false) := fun j => by simp
  have HS1 : Hid (A.heap.size < (A.alloc (.cells #[.int .i64 0, .int .i64 0, .int .i64 0, .bool false] 33)).heap.size) := by show _ < _; simp
  clear h hg hgm hi hb1 c3
  go_enter Try.func85, Try.ntmps85
  go_wp2_with fail
  refine har.mono ?_
  rintro e w2 ⟨rfl, hb2⟩
  have HB2 : Hid (Below (A.alloc (.cells #[.int .i64 0, .int .i64 0, .int .i64 0, .bool false] 33)).heap.size (A.alloc (.cells #[.int .i64 0, .int .i64 0, .int .i64 0, .bool false] 33)) w2) := hb2
  clear har hb2 c2
  go_upto_region 2 with fail
  have hb3 := HB2.out.alloc HB2.out.size (.cells #[.int .i64 t, .int .i64 x, .int .i64 y, .bool c] 33)
  have h0 := below_arcI HN.out hb3
  have hz := fun j => ((Below.keeps hb3 (fun _ => False)).frozen (p := ⟨A.heap.size, j, none⟩) HS1.out (fun h => h)).trans (HZ.out j)
  have h2 := arcIn_new w2 t x y c
  have hb4 := below_on HB1.out hb3
  have hl : A.heap.size < w2.heap.size := Nat.lt_of_lt_of_le HS1.out HB2.out.size
  have hy := fun j => (by simp : (w2.alloc (.cells #[.int .i64 t, .int .i64 x, .int .i64 y, .bool c] 33)).frozen? ⟨w2.heap.size, j, none⟩ = false)
  obtain ⟨c2, c3⟩ := HC.out _ hb4
  generalize w2.alloc (.cells #[.int .i64 t, .int .i64 x, .int .i64 y, .bool c] 33) = w3 at *
  generalize hg2 : w2.heap.size = g2 at *
  obtain ⟨a0, a1, a2, a3⟩ := h0
  obtain ⟨b0, b1, b2, b3⟩ := h2
  dsimp only [noArc] at a0 a1 a2 a3
  dsimp only at b0 b1 b2 b3
  simp only [Nat.zero_add] at a1 a2 a3 b1 b2 b3
  have z0 := hz 0
  have z1 := hz 1
  have z2 := hz 2
  have z3 := hz 3
  have y0 := hy 0
  have y1 := hy 1
  clear hz hy HC HB1 HB2 HN HZ HS1 hb3 c2 hg2
  have HB4 : Hid (Below A.heap.size A w3) := hb4
  have HL : Hid (A.heap.size < g2) := hl
  have HA0 : Hid (ArcIn w3 A.heap.size 0 noArc) := ⟨a0, a1, a2, a3⟩
  have HB0 : Hid (ArcIn w3 g2 0 ⟨t, x, y, c⟩) := ⟨b0, b1, b2, b3⟩
  clear hb4
  go_wp2_with fail
  have hk : Keeps (fun b => b = g2) w3 ((w3.setCell ⟨g2, 0, none⟩ (.int .i64 x)).setCell ⟨g2, 1, none⟩ (.int .i64 t)) := (keeps_set w3 g2 0 (.int .i64 x)).setCell (p := ⟨g2, 1, none⟩) (.inl rfl) _
  have hne : ¬ A.heap.size = g2 := by have := HL.out; omega
  obtain ⟨d0, d1, d2, d3⟩ := HA0.out
  have hv : ArcIn ((w3.setCell ⟨g2, 0, none⟩ (.int .i64 x)).setCell ⟨g2, 1, none⟩ (.int .i64 t)) A.heap.size 0 noArc := ⟨hk.cell d0 hne, hk.cell d1 hne, hk.cell d2 hne, hk.cell d3 hne⟩
  have hb5 : Below A.heap.size A ((w3.setCell ⟨g2, 0, none⟩ (.int .i64 x)).setCell ⟨g2, 1, none⟩ (.int .i64 t)) := (HB4.out.setCell (p := ⟨g2, 0, none⟩) (Nat.le_of_lt HL.out) _).setCell (p := ⟨g2, 1, none⟩) (Nat.le_of_lt HL.out) _
  generalize (w3.setCell ⟨g2, 0, none⟩ (.int .i64 x)).setCell ⟨g2, 1, none⟩ (.int .i64 t) = w4 at *
  have hin := arcSet_in (w := w4) (b := A.heap.size) (o := 0) hv ⟨x, t, y, c⟩
  unfold arcSet at hin
  simp only [Nat.zero_add] at hin
  exact alongI_out rfl hin ((((hb5.setCell (p := ⟨A.heap.size, 0, none⟩) (Nat.le_refl _) _).setCell (p := ⟨A.heap.size, 1, none⟩) (Nat.le_refl _) _).setCell (p := ⟨A.heap.size, 2, none⟩) (Nat.le_refl _) _).setCell (p := ⟨A.heap.size, 3, none⟩) (Nat.le_refl _) _)
end Go.Proofs.Ytmamligiopbefaa
end

section
/-
  The walk of trace, onwards.
-/
namespace Go.Proofs.Ytmamligiopbefaa
open Go.RowKit Go.Shelf

set_option maxHeartbeats 4000000 in
set_option maxRecDepth 100000 in
theorem traceO_any {w : World} {B : Nat} {z : Sid} {gp N most : Nat} {m : GM.M} {k : Nat → Option (Int × Int)} {hm : Nat → Option Int} {F : Nat → Prop} (h : SD w B z gp 0 N k hm F) (hg : GMem w gp N most m) (hgm : GM.Good most m) {s : Nat} {dn : Nat → Bool} (hby : NM.BY m N s k dn) (hs : s < N) (t : Nat) (ht : t < N) (hF : NM.farOf k t ≤ 4611686018427387904) :
    Calls Try.prog 54 #[.pointer (some ⟨z.q, 0, none⟩), .int .i64 (t : Nat)] w fun e w' => ∃ r T, e = .returned r ∧ Own .i64 3 w' w.heap.size r T ∧ T.length ≤ 24 ∧ NM.Bk m N (NM.farI k) t s T.reverse ∧ Below w.heap.size w w' := by
  have hN := h.few
  have HC : Hid (∀ W, Below w.heap.size w W → W.cell? ⟨z.q, 1, none⟩ = some (.pointer (some ⟨z.r, 0, none⟩))) := fun W hW => (h.on hW).c1
  have HGET : Hid (∀ W, Below w.heap.size w W → ∀ v : Nat, v < N → Calls Try.prog 86 #[.pointer (some ⟨z.r, 0, none⟩), .int .i64 (v : Nat)] W fun e A' => e = .returned (markV (k v)) ∧ Below W.heap.size W A') := fun W hW v hv => (h.on hW).get v hv
  have HAL : Hid (∀ W, Below w.heap.size w W → ∀ i : Nat, i < 64 → Calls Try.prog 85 #[.pointer (some ⟨z.q, 0, none⟩), .int .i64 (i : Nat)] W fun e A' => e = .returned (arcV (GM.arc m i)) ∧ Below W.heap.size W A') := fun W hW i hi => alongO_any (h.on hW) (hg.on hW) hgm i hi
  have hok : ∀ i, GM.is m i = true → GM.okW (GM.arc m i).weight = true := fun i hi => by
    exact hgm.ok i hi
  have hb0 : NM.Bk m N (NM.farI k) t t [] := NM.Bk.start (decide_eq_true (by omega)) (by unfold NM.farI; rw [Int.toNat_natCast]; exact hF)
  have HB0 : Hid (NM.Bk m N (NM.farI k) t t []) := hb0
  have HST : Hid (∀ (v : Nat) (out : List Int), NM.Bk m N (NM.farI k) t v out → v ≠ s → ∃ i u : Nat, ∃ d, k v = some (d, (i : Int)) ∧ i < 64 ∧ GM.is m i = true ∧ (GM.arc m i).tail = u ∧ u < N ∧ NM.Bk m N (NM.farI k) t u ((i : Int) :: out) ∧ out.length + 2 ≤ N) := fun v out hb hne => hby.step hok hs hb hne
  have HSRC : Hid (k s = some (0, -1)) := hby.src
  have hk0 : ∃ d b, k t = some (d, b) := by
    cases e : k t with
    | none => rw [NM.farOf_none e] at hF; omega
    | some x => exact ⟨x.1, x.2, rfl⟩
  obtain ⟨d0, y0, hk0⟩ := hk0
  have hget0 := HGET.out w (Below.refl _ _) t ht
  rw [hk0] at hget0
  simp only [markV] at hget0
  have HK0 : Hid (k t = some (d0, y0)) := hk0
  have c1 := HC.out w (Below.refl _ _)
  obtain ⟨i0, hi0, hz0, hz1, hz2⟩ := info_int
  clear h hg hgm hby hF hok hb0 hk0
  go_enter Try.func54, Try.ntmps54
  go_wp2_with fail
  refine hget0.mono ?_
  rintro e w1 ⟨rfl, hb1⟩
  have HB1 : Hid (Below w.heap.size w (w1.alloc (.cells #[.int .i64 d0, .int .i64 y0] 89))) := hb1.alloc hb1.size _
  have HL1 : Hid (w.heap.size ≤ w1.heap.size) := hb1.size
  have q0 : (w1.alloc (.cells #[.int .i64 d0, .int .i64 y0] 89)).cell? ⟨w1.heap.size, 0, none⟩ = some (.int .i64 d0) := by simp
  have q1 : (w1.alloc (.cells #[.int .i64 d0, .int .i64 y0] 89)).cell? ⟨w1.heap.size, 1, none⟩ = some (.int .i64 y0) := by simp
  have p0 : (w1.alloc (.cells #[.int .i64 d0, .int .i64 y0] 89)).frozen? ⟨w1.heap.size, 0, none⟩ = false := by simp
  have p1 : (w1.alloc (.cells #[.int .i64 d0, .int .i64 y0] 89)).frozen? ⟨w1.heap.size, 1, none⟩ = false := by simp
  have HQ1 : Hid ((w1.alloc (.cells #[.int .i64 d0, .int .i64 y0] 89)).cell? ⟨w1.heap.size, 0, none⟩ = some (.int .i64 d0) ∧ (w1.alloc (.cells #[.int .i64 d0, .int .i64 y0] 89)).cell? ⟨w1.heap.size, 1, none⟩ = some (.int .i64 y0) ∧ (w1.alloc (.cells #[.int .i64 d0, .int .i64 y0] 89)).frozen? ⟨w1.heap.size, 0, none⟩ = false ∧ (w1.alloc (.cells #[.int .i64 d0, .int .i64 y0] 89)).frozen? ⟨w1.heap.size, 1, none⟩ = false) := ⟨q0, q1, p0, p1⟩
  clear hget0 hb1 c1 q0 q1 p0 p1
  go_wp2_with fail
  go_loopw [1, 5, 6] (fun tv ov bv wr => ∃ (out : List Int) (v g : Nat) (d y : Int), NM.Bk m N (NM.farI k) t v out.reverse ∧ v < N ∧ k v = some (d, y) ∧ tv = .int .i64 v ∧ Own .i64 3 wr w.heap.size ov out ∧ bv = .pointer (some ⟨g, 0, none⟩) ∧ (w.heap.size ≤ g ∧ ∀ q, ov.ownBlock = some q → q ≠ g) ∧ (wr.cell? ⟨g, 0, none⟩ = some (.int .i64 d) ∧ wr.cell? ⟨g, 1, none⟩ = some (.int .i64 y) ∧ wr.frozen? ⟨g, 0, none⟩ = false ∧ wr.frozen? ⟨g, 1, none⟩ = false) ∧ Below w.heap.size w wr) (fun _ ov _ _ => 24 - lenOf ov)
  case atStart => exact ⟨[], t, w1.heap.size, d0, y0, HB0.out, ht, HK0.out, rfl, Own.nil _ _ _ _, rfl, ⟨HL1.out, fun q hq => (by cases hq)⟩, HQ1.out, HB1.out⟩
  case round =>
    clear HB0 HK0 HQ1 HL1 HB1
    obtain ⟨out, v, g, d, y, hp, hvN, hkv, rfl, hown, rfl, ⟨hlg, hng⟩, ⟨r0, r1, f0, f1⟩, hbr⟩ := hrel
    have HB : Hid (Below w.heap.size w wr) := hbr
    by_cases hvs : v = s
    · subst hvs
      have e1 : (d, y) = ((0 : Int), (-1 : Int)) := Option.some.inj (hkv.symm.trans HSRC.out)
      obtain ⟨rfl, rfl⟩ := Prod.mk.inj e1
      have HR : Hid (Own .i64 3 wr w.heap.size u5 out ∧ out.length ≤ 24 ∧ NM.Bk m N (NM.farI k) t v out.reverse) := by
        refine ⟨hown, ?_, hp⟩
        have h1 := hp.vert
        have := NM.nodup_len N _ (NM.nodup_of_rise hp.rise) h1
        simp at this
        omega
      clear hown hbr hp hkv e1 hng HAL HGET HST HSRC HC
      go_wp2_with fail
      go_ret
      exact ⟨_, out, rfl, HR.out.1, HR.out.2.1, HR.out.2.2, HB.out⟩
    · obtain ⟨i, u, d2, hk2, hi64, his, htl, huN, hp2, hlen⟩ := HST.out v out.reverse hp hvs
      have e1 : (d, y) = (d2, (i : Int)) := Option.some.inj (hkv.symm.trans hk2)
      obtain ⟨rfl, rfl⟩ := Prod.mk.inj e1
      rw [List.length_reverse] at hlen
      have hal := fun W hW => HAL.out W hW i hi64
      generalize GM.arc m i = a at *
      obtain ⟨tl, hh, x, c⟩ := a
      unfold arcV at hal
      dsimp only at htl hal
      subst htl
      have HAR : Hid (∀ W, Below w.heap.size w W → Calls Try.prog 85 #[.pointer (some ⟨z.q, 0, none⟩), .int .i64 (i : Nat)] W fun e A' => e = .returned (.agg #[.int .i64 (u : Nat), .int .i64 hh, .int .i64 x, .bool c]) ∧ Below W.heap.size W A') := hal
      obtain ⟨d3, y3, hk3⟩ : ∃ d b, k u = some (d, b) := by
        cases e : k u with
        | none =>
          have h1 := hp2.le
          have h2 := hp2.told
          simp only [NM.farI, Int.toNat_natCast, NM.farOf_none e] at h1 h2
          omega
        | some x => exact ⟨x.1, x.2, rfl⟩
      have HGU : Hid (∀ W, Below w.heap.size w W → Calls Try.prog 86 #[.pointer (some ⟨z.r, 0, none⟩), .int .i64 (u : Nat)] W fun e A' => e = .returned (.tuple #[.agg #[.int .i64 d3, .int .i64 y3], .bool true]) ∧ Below W.heap.size W A') := fun W hW => by
        have := HGET.out W hW u huN
        rw [hk3] at this
        exact this
      have HN2 : Hid (NM.Bk m N (NM.farI k) t u (out ++ [(i : Int)]).reverse ∧ u < N ∧ k u = some (d3, y3)) := by
        refine ⟨?_, huN, hk3⟩
        rw [List.reverse_append]
        exact hp2
      have HO : Hid (Own .i64 3 wr w.heap.size u5 out) := hown
      have HQ : Hid (wr.cell? ⟨g, 0, none⟩ = some (.int .i64 d) ∧ wr.cell? ⟨g, 1, none⟩ = some (.int .i64 i) ∧ wr.frozen? ⟨g, 0, none⟩ = false ∧ wr.frozen? ⟨g, 1, none⟩ = false) := ⟨r0, r1, f0, f1⟩
      have hsz := hbr.size
      have HLG : Hid (w.heap.size ≤ g ∧ g < wr.heap.size ∧ ∀ q, u5.ownBlock = some q → q ≠ g) := ⟨hlg, cell_lt r0, hng⟩
      have hne : ((i : Int) != -1) = true := by simp
      clear hown hp hp2 hi64 his hvs hal hbr hk2 hkv e1 HAL HGET HST HSRC hk3 huN f0 f1 hlg hng
      obtain ⟨aq, cq, rfl, -⟩ := HO.out.at
      have HGR : Hid (∀ W', (wr.alloc (.cells #[.int .i64 (i : Int)] 3)).grownBy W' (Value.slice aq out.length cq).ownBlock → W'.cell? ⟨g, 0, none⟩ = some (.int .i64 d) ∧ W'.cell? ⟨g, 1, none⟩ = some (.int .i64 i)) := fun W' hgr => by
        have hk : Keeps (fun b => (Value.slice aq out.length cq).ownBlock = some b) wr W' := ((Keeps.refl _ wr).alloc _).grown hgr (fun k hk => .inl hk)
        exact ⟨hk.cell HQ.out.1 (fun e => HLG.out.2.2 g e rfl), hk.cell HQ.out.2.1 (fun e => HLG.out.2.2 g e rfl)⟩
      obtain ⟨n, hn⟩ : ∃ n, n = out.length := ⟨_, rfl⟩
      have HL2 : Hid (out.length = n) := hn.symm
      rw [HL2.out]
      rw [← hn] at hlen
      clear hn
      go_wp2_with (refine wpList_append_row _ rfl (.tmp 29) (.tmp 32) 41 rfl .i64 w.heap.size 3 i0 8 Try.underlying41 hi0 hz0 hz1 hz2 _ out (by simp only [Act.eval]; rw [← HL2.out]; rfl) (HO.out.alloc _) (some ⟨wr.heap.size, 0, none⟩) 1 1 [(i : Int)] rfl rfl (rowAt_lit1 .i64 wr _ 3) (by rw [HL2.out]; simp [maxLen]; omega) (by rw [HL2.out]; simp; omega) (by simp; omega) ?_; intro v' w' hown' hgr _; obtain ⟨g0, g1⟩ := HGR.out _ hgr)
      have HR : Hid (Own .i64 3 w' w.heap.size v' (out ++ [(i : Int)]) ∧ Below w.heap.size w w' ∧ w'.cell? ⟨g, 0, none⟩ = some (.int .i64 d) ∧ w'.cell? ⟨g, 1, none⟩ = some (.int .i64 i)) := ⟨hown', (HB.out.alloc hsz _).trans (((Keeps.refl (fun b => w.heap.size ≤ b) _).grown hgr (fun g hg => .inl (HO.out.block g hg))).below (fun b h => h) (by simp; omega)), g0, g1⟩
      have har := HAR.out w' HR.out.2.1
      clear hown' hgr HO HGR g0 g1 r0 r1 HAR
      refine har.mono ?_
      rintro e w3 ⟨rfl, hb3⟩
      have HB3 : Hid (Below w'.heap.size w' w3) := hb3
      have g0 := (hb3.cell (p := ⟨g, 0, none⟩) (cell_lt HR.out.2.2.1)).trans HR.out.2.2.1
      have g1 := (hb3.cell (p := ⟨g, 1, none⟩) (cell_lt HR.out.2.2.2)).trans HR.out.2.2.2
      have hfd : ∀ w : World, (Instr.field 33 (.agg #[.int .i64 (u : Nat), .int .i64 hh, .int .i64 x, .bool c]) 0).run Try.prog w = .ok (.int .i64 (u : Nat)) w := fun _ => by kernel_rfl
      clear har hb3
      go_upto_region 4 with fail
      clear hfd
      have hb4 := HB3.out.alloc HB3.out.size (.cells #[.int .i64 d, .int .i64 i] 89)
      have h4 := below_on HR.out.2.1 hb4
      have hgu := HGU.out _ h4
      have c4 := HC.out _ h4
      have q0 : (w3.alloc (.cells #[.int .i64 d, .int .i64 i] 89)).cell? ⟨w3.heap.size, 0, none⟩ = some (.int .i64 d) := by simp
      have q1 : (w3.alloc (.cells #[.int .i64 d, .int .i64 i] 89)).cell? ⟨w3.heap.size, 1, none⟩ = some (.int .i64 i) := by simp
      have p0 : (w3.alloc (.cells #[.int .i64 d, .int .i64 i] 89)).frozen? ⟨w3.heap.size, 0, none⟩ = false := by simp
      have p1 : (w3.alloc (.cells #[.int .i64 d, .int .i64 i] 89)).frozen? ⟨w3.heap.size, 1, none⟩ = false := by simp
      have hs4 : (w3.alloc (.cells #[.int .i64 d, .int .i64 i] 89)).heap.size = w3.heap.size + 1 := by simp
      have HOW : Hid (Own .i64 3 (w3.alloc (.cells #[.int .i64 d, .int .i64 i] 89)) w.heap.size v' (out ++ [(i : Int)]) ∧ w.heap.size ≤ w3.heap.size ∧ ∀ q, v'.ownBlock = some q → q ≠ w3.heap.size) := ⟨HR.out.1.below hb4, by have := HR.out.2.1.size; have := HB3.out.size; omega, fun q hq => by
        have := (World.ownsRow.lt HR.out.1 q hq).2
        have := HB3.out.size
        omega⟩
      have HLV : Hid (lenOf v' = n + 1) := by
        obtain ⟨aq2, cq2, h1, -⟩ := HR.out.1.at
        show _ = _
        rw [h1]
        simp only [lenOf]
        rw [List.length_append, HL2.out]
        rfl
      clear hb4 HB3 HR HGU g0 g1 hsz HLG HB
      generalize w3.alloc (.cells #[.int .i64 d, .int .i64 i] 89) = w4 at *
      generalize w3.heap.size = g2 at *
      have HB4 : Hid (Below w.heap.size w w4 ∧ w4.heap.size = g2 + 1) := ⟨h4, hs4⟩
      clear h4 hs4
      go_wp2_with fail
      refine hgu.mono ?_
      rintro e w5 ⟨rfl, hb5⟩
      have q05 := (hb5.cell (p := ⟨g2, 0, none⟩) (cell_lt q0)).trans q0
      have q15 := (hb5.cell (p := ⟨g2, 1, none⟩) (cell_lt q1)).trans q1
      have p05 := ((Below.keeps hb5 (fun _ => False)).frozen (p := ⟨g2, 0, none⟩) (cell_lt q0) (fun h => h)).trans p0
      have p15 := ((Below.keeps hb5 (fun _ => False)).frozen (p := ⟨g2, 1, none⟩) (cell_lt q1) (fun h => h)).trans p1
      have HO5 : Hid (Own .i64 3 w5 w.heap.size v' (out ++ [(i : Int)]) ∧ Below w.heap.size w w5) := ⟨HOW.out.1.below hb5, below_on HB4.out.1 hb5⟩
      clear hgu hb5 q0 q1 p0 p1 c4
      go_wp2_with fail
      have hk : Keeps (fun b => b = g2) w5 ((w5.setCell ⟨g2, 0, none⟩ (.int .i64 d3)).setCell ⟨g2, 1, none⟩ (.int .i64 y3)) := (keeps_set w5 g2 0 (.int .i64 d3)).setCell (p := ⟨g2, 1, none⟩) (.inl rfl) _
      have HE : Hid (Own .i64 3 ((w5.setCell ⟨g2, 0, none⟩ (.int .i64 d3)).setCell ⟨g2, 1, none⟩ (.int .i64 y3)) w.heap.size v' (out ++ [(i : Int)]) ∧ Below w.heap.size w ((w5.setCell ⟨g2, 0, none⟩ (.int .i64 d3)).setCell ⟨g2, 1, none⟩ (.int .i64 y3)) ∧ (((w5.setCell ⟨g2, 0, none⟩ (.int .i64 d3)).setCell ⟨g2, 1, none⟩ (.int .i64 y3)).cell? ⟨g2, 0, none⟩ = some (.int .i64 d3) ∧ ((w5.setCell ⟨g2, 0, none⟩ (.int .i64 d3)).setCell ⟨g2, 1, none⟩ (.int .i64 y3)).cell? ⟨g2, 1, none⟩ = some (.int .i64 y3) ∧ ((w5.setCell ⟨g2, 0, none⟩ (.int .i64 d3)).setCell ⟨g2, 1, none⟩ (.int .i64 y3)).frozen? ⟨g2, 0, none⟩ = false ∧ ((w5.setCell ⟨g2, 0, none⟩ (.int .i64 d3)).setCell ⟨g2, 1, none⟩ (.int .i64 y3)).frozen? ⟨g2, 1, none⟩ = false)) := by
        refine ⟨hk.row HO5.out.1 (fun q hq e => HOW.out.2.2 q hq e), (HO5.out.2.setCell (p := ⟨g2, 0, none⟩) HOW.out.2.1 _).setCell (p := ⟨g2, 1, none⟩) HOW.out.2.1 _, ?_, ?_, by simp [p05], by simp [p15]⟩
        · rw [World.cell?_setCell_other _ _ _ _ (by simp)]
          exact World.cell?_setCell_same' _ _ _ (Option.isSome_iff_exists.2 ⟨_, q05⟩)
        · exact World.cell?_setCell_same' _ _ _ (by rw [World.cell?_setCell_other _ _ _ _ (by simp)]; exact Option.isSome_iff_exists.2 ⟨_, q15⟩)
      clear hk q05 q15 p05 p15
      generalize (w5.setCell ⟨g2, 0, none⟩ (.int .i64 d3)).setCell ⟨g2, 1, none⟩ (.int .i64 y3) = w6 at *
      go_roundw
      case rel => exact ⟨out ++ [(i : Int)], u, g2, d3, y3, HN2.out.1, HN2.out.2.1, HN2.out.2.2, rfl, HE.out.1, rfl, ⟨HOW.out.2.1, HOW.out.2.2⟩, HE.out.2.2, HE.out.2.1⟩
      case measure =>
        rw [HLV.out]
        simp only [lenOf]
        omega
end Go.Proofs.Ytmamligiopbefaa
end

section
/-
  The walk of trace, back.
-/
namespace Go.Proofs.Ytmamligiopbefaa
open Go.RowKit Go.Shelf

set_option maxHeartbeats 4000000 in
set_option maxRecDepth 100000 in
theorem traceI_any {w : World} {B : Nat} {z : Sid} {gp N most : Nat} {m : GM.M} {k : Nat → Option (Int × Int)} {hm : Nat → Option Int} {F : Nat → Prop} (h : SD w B z gp 1 N k hm F) (hg : GMem w gp N most m) (hgm : GM.Good most m) {s : Nat} {dn : Nat → Bool} (hby : NM.BY (NM.rev m) N s k dn) (hs : s < N) (t : Nat) (ht : t < N) (hF : NM.farOf k t ≤ 4611686018427387904) :
    Calls Try.prog 54 #[.pointer (some ⟨z.q, 0, none⟩), .int .i64 (t : Nat)] w fun e w' => ∃ r T, e = .returned r ∧ Own .i64 3 w' w.heap.size r T ∧ T.length ≤ 24 ∧ NM.Bk (NM.rev m) N (NM.farI k) t s T.reverse ∧ Below w.heap.size w w' := by
  have hN := h.few
  have HC : Hid (∀ W, Below w.heap.size w W → W.cell? ⟨z.q, 1, none⟩ = some (.pointer (some ⟨z.r, 0, none⟩))) := fun W hW => (h.on hW).c1
  have HGET : Hid (∀ W, Below w.heap.size w W → ∀ v : Nat, v < N → Calls Try.prog 86 #[.pointer (some ⟨z.r, 0, none⟩), .int .i64 (v : Nat)] W fun e A' => e = .returned (markV (k v)) ∧ Below W.heap.size W A') := fun W hW v hv => (h.on hW).get v hv
  have HAL : Hid (∀ W, Below w.heap.size w W → ∀ i : Nat, i < 64 → Calls Try.prog 85 #[.pointer (some ⟨z.q, 0, none⟩), .int .i64 (i : Nat)] W fun e A' => e = .returned (arcV (GM.arc (NM.rev m) i)) ∧ Below W.heap.size W A') := fun W hW i hi => alongI_any (h.on hW) (hg.on hW) hgm i hi
  have hok : ∀ i, GM.is (NM.rev m) i = true → GM.okW (GM.arc (NM.rev m) i).weight = true := fun i hi => by
    rw [NM.arc_rev]
    rw [NM.is_rev] at hi
    exact hgm.ok i hi
  have hb0 : NM.Bk (NM.rev m) N (NM.farI k) t t [] := NM.Bk.start (decide_eq_true (by omega)) (by unfold NM.farI; rw [Int.toNat_natCast]; exact hF)
  have HB0 : Hid (NM.Bk (NM.rev m) N (NM.farI k) t t []) := hb0
  have HST : Hid (∀ (v : Nat) (out : List Int), NM.Bk (NM.rev m) N (NM.farI k) t v out → v ≠ s → ∃ i u : Nat, ∃ d, k v = some (d, (i : Int)) ∧ i < 64 ∧ GM.is (NM.rev m) i = true ∧ (GM.arc (NM.rev m) i).tail = u ∧ u < N ∧ NM.Bk (NM.rev m) N (NM.farI k) t u ((i : Int) :: out) ∧ out.length + 2 ≤ N) := fun v out hb hne => hby.step hok hs hb hne
  have HSRC : Hid (k s = some (0, -1)) := hby.src
  have hk0 : ∃ d b, k t = some (d, b) := by
    cases e : k t with
    | none => rw [NM.farOf_none e] at hF; omega
    | some x => exact ⟨x.1, x.2, rfl⟩
  obtain ⟨d0, y0, hk0⟩ := hk0
  have hget0 := HGET.out w (Below.refl _ _) t ht
  rw [hk0] at hget0
  simp only [markV] at hget0
  have HK0 : Hid (k t = some (d0, y0)) := hk0
  have c1 := HC.out w (Below.refl _ _)
  obtain ⟨i0, hi0, hz0, hz1, hz2⟩ := info_int
  clear h hg hgm hby hF hok hb0 hk0
  go_enter Try.func54, Try.ntmps54
  go_wp2_with fail
  refine hget0.mono ?_
  rintro e w1 ⟨rfl, hb1⟩
  have HB1 : Hid (Below w.heap.size w (w1.alloc (.cells #[.int .i64 d0, .int .i64 y0] 89))) := hb1.alloc hb1.size _
  have HL1 : Hid (w.heap.size ≤ w1.heap.size) := hb1.size
  have q0 : (w1.alloc (.cells #[.int .i64 d0, .int .i64 y0] 89)).cell? ⟨w1.heap.size, 0, none⟩ = some (.int .i64 d0) := by simp
  have q1 : (w1.alloc (.cells #[.int .i64 d0, .int .i64 y0] 89)).cell? ⟨w1.heap.size, 1, none⟩ = some (.int .i64 y0) := by simp
  have p0 : (w1.alloc (.cells #[.int .i64 d0, .int .i64 y0] 89)).frozen? ⟨w1.heap.size, 0, none⟩ = false := by simp
  have p1 : (w1.alloc (.cells #[.int .i64 d0, .int .i64 y0] 89)).frozen? ⟨w1.heap.size, 1, none⟩ = false := by simp
  have HQ1 : Hid ((w1.alloc (.cells #[.int .i64 d0, .int .i64 y0] 89)).cell? ⟨w1.heap.size, 0, none⟩ = some (.int .i64 d0) ∧ (w1.alloc (.cells #[.int .i64 d0, .int .i64 y0] 89)).cell? ⟨w1.heap.size, 1, none⟩ = some (.int .i64 y0) ∧ (w1.alloc (.cells #[.int .i64 d0, .int .i64 y0] 89)).frozen? ⟨w1.heap.size, 0, none⟩ = false ∧ (w1.alloc (.cells #[.int .i64 d0, .int .i64 y0] 89)).frozen? ⟨w1.heap.size, 1, none⟩ = false) := ⟨q0, q1, p0, p1⟩
  clear hget0 hb1 c1 q0 q1 p0 p1
  go_wp2_with fail
  go_loopw [1, 5, 6] (fun tv ov bv wr => ∃ (out : List Int) (v g : Nat) (d y : Int), NM.Bk (NM.rev m) N (NM.farI k) t v out.reverse ∧ v < N ∧ k v = some (d, y) ∧ tv = .int .i64 v ∧ Own .i64 3 wr w.heap.size ov out ∧ bv = .pointer (some ⟨g, 0, none⟩) ∧ (w.heap.size ≤ g ∧ ∀ q, ov.ownBlock = some q → q ≠ g) ∧ (wr.cell? ⟨g, 0, none⟩ = some (.int .i64 d) ∧ wr.cell? ⟨g, 1, none⟩ = some (.int .i64 y) ∧ wr.frozen? ⟨g, 0, none⟩ = false ∧ wr.frozen? ⟨g, 1, none⟩ = false) ∧ Below w.heap.size w wr) (fun _ ov _ _ => 24 - lenOf ov)
  case atStart => exact ⟨[], t, w1.heap.size, d0, y0, HB0.out, ht, HK0.out, rfl, Own.nil _ _ _ _, rfl, ⟨HL1.out, fun q hq => (by cases hq)⟩, HQ1.out, HB1.out⟩
  case round =>
    clear HB0 HK0 HQ1 HL1 HB1
    obtain ⟨out, v, g, d, y, hp, hvN, hkv, rfl, hown, rfl, ⟨hlg, hng⟩, ⟨r0, r1, f0, f1⟩, hbr⟩ := hrel
    have HB : Hid (Below w.heap.size w wr) := hbr
    by_cases hvs : v = s
    · subst hvs
      have e1 : (d, y) = ((0 : Int), (-1 : Int)) := Option.some.inj (hkv.symm.trans HSRC.out)
      obtain ⟨rfl, rfl⟩ := Prod.mk.inj e1
      have HR : Hid (Own .i64 3 wr w.heap.size u5 out ∧ out.length ≤ 24 ∧ NM.Bk (NM.rev m) N (NM.farI k) t v out.reverse) := by
        refine ⟨hown, ?_, hp⟩
        have h1 := hp.vert
        have := NM.nodup_len N _ (NM.nodup_of_rise hp.rise) h1
        simp at this
        omega
      clear hown hbr hp hkv e1 hng HAL HGET HST HSRC HC
      go_wp2_with fail
      go_ret
      exact ⟨_, out, rfl, HR.out.1, HR.out.2.1, HR.out.2.2, HB.out⟩
    · obtain ⟨i, u, d2, hk2, hi64, his, htl, huN, hp2, hlen⟩ := HST.out v out.reverse hp hvs
      have e1 : (d, y) = (d2, (i : Int)) := Option.some.inj (hkv.symm.trans hk2)
      obtain ⟨rfl, rfl⟩ := Prod.mk.inj e1
      rw [List.length_reverse] at hlen
      have hal := fun W hW => HAL.out W hW i hi64
      generalize GM.arc (NM.rev m) i = a at *
      obtain ⟨tl, hh, x, c⟩ := a
      unfold arcV at hal
      dsimp only at htl hal
      subst htl
      have HAR : Hid (∀ W, Below w.heap.size w W → Calls Try.prog 85 #[.pointer (some ⟨z.q, 0, none⟩), .int .i64 (i : Nat)] W fun e A' => e = .returned (.agg #[.int .i64 (u : Nat), .int .i64 hh, .int .i64 x, .bool c]) ∧ Below W.heap.size W A') := hal
      obtain ⟨d3, y3, hk3⟩ : ∃ d b, k u = some (d, b) := by
        cases e : k u with
        | none =>
          have h1 := hp2.le
          have h2 := hp2.told
          simp only [NM.farI, Int.toNat_natCast, NM.farOf_none e] at h1 h2
          omega
        | some x => exact ⟨x.1, x.2, rfl⟩
      have HGU : Hid (∀ W, Below w.heap.size w W → Calls Try.prog 86 #[.pointer (some ⟨z.r, 0, none⟩), .int .i64 (u : Nat)] W fun e A' => e = .returned (.tuple #[.agg #[.int .i64 d3, .int .i64 y3], .bool true]) ∧ Below W.heap.size W A') := fun W hW => by
        have := HGET.out W hW u huN
        rw [hk3] at this
        exact this
      have HN2 : Hid (NM.Bk (NM.rev m) N (NM.farI k) t u (out ++ [(i : Int)]).reverse ∧ u < N ∧ k u = some (d3, y3)) := by
        refine ⟨?_, huN, hk3⟩
        rw [List.reverse_append]
        exact hp2
      have HO : Hid (Own .i64 3 wr w.heap.size u5 out) := hown
      have HQ : Hid (wr.cell? ⟨g, 0, none⟩ = some (.int .i64 d) ∧ wr.cell? ⟨g, 1, none⟩ = some (.int .i64 i) ∧ wr.frozen? ⟨g, 0, none⟩ = false ∧ wr.frozen? ⟨g, 1, none⟩ = false) := ⟨r0, r1, f0, f1⟩
      have hsz := hbr.size
      have HLG : Hid (w.heap.size ≤ g ∧ g < wr.heap.size ∧ ∀ q, u5.ownBlock = some q → q ≠ g) := ⟨hlg, cell_lt r0, hng⟩
      have hne : ((i : Int) != -1) = true := by simp
      clear hown hp hp2 hi64 his hvs hal hbr hk2 hkv e1 HAL HGET HST HSRC hk3 huN f0 f1 hlg hng
      obtain ⟨aq, cq, rfl, -⟩ := HO.out.at
      have HGR : Hid (∀ W', (wr.alloc (.cells #[.int .i64 (i : Int)] 3)).grownBy W' (Value.slice aq out.length cq).ownBlock → W'.cell? ⟨g, 0, none⟩ = some (.int .i64 d) ∧ W'.cell? ⟨g, 1, none⟩ = some (.int .i64 i)) := fun W' hgr => by
        have hk : Keeps (fun b => (Value.slice aq out.length cq).ownBlock = some b) wr W' := ((Keeps.refl _ wr).alloc _).grown hgr (fun k hk => .inl hk)
        exact ⟨hk.cell HQ.out.1 (fun e => HLG.out.2.2 g e rfl), hk.cell HQ.out.2.1 (fun e => HLG.out.2.2 g e rfl)⟩
      obtain ⟨n, hn⟩ : ∃ n, n = out.length := ⟨_, rfl⟩
      have HL2 : Hid (out.length = n) := hn.symm
      rw [HL2.out]
      rw [← hn] at hlen
      clear hn
      go_wp2_with (refine wpList_append_row _ rfl (.tmp 29) (.tmp 32) 41 rfl .i64 w.heap.size 3 i0 8 Try.underlying41 hi0 hz0 hz1 hz2 _ out (by simp only [Act.eval]; rw [← HL2.out]; rfl) (HO.out.alloc _) (some ⟨wr.heap.size, 0, none⟩) 1 1 [(i : Int)] rfl rfl (rowAt_lit1 .i64 wr _ 3) (by rw [HL2.out]; simp [maxLen]; omega) (by rw [HL2.out]; simp; omega) (by simp; omega) ?_; intro v' w' hown' hgr _; obtain ⟨g0, g1⟩ := HGR.out _ hgr)
      have HR : Hid (Own .i64 3 w' w.heap.size v' (out ++ [(i : Int)]) ∧ Below w.heap.size w w' ∧ w'.cell? ⟨g, 0, none⟩ = some (.int .i64 d) ∧ w'.cell? ⟨g, 1, none⟩ = some (.int .i64 i)) := ⟨hown', (HB.out.alloc hsz _).trans (((Keeps.refl (fun b => w.heap.size ≤ b) _).grown hgr (fun g hg => .inl (HO.out.block g hg))).below (fun b h => h) (by simp; omega)), g0, g1⟩
      have har := HAR.out w' HR.out.2.1
      clear hown' hgr HO HGR g0 g1 r0 r1 HAR
      refine har.mono ?_
      rintro e w3 ⟨rfl, hb3⟩
      have HB3 : Hid (Below w'.heap.size w' w3) := hb3
      have g0 := (hb3.cell (p := ⟨g, 0, none⟩) (cell_lt HR.out.2.2.1)).trans HR.out.2.2.1
      have g1 := (hb3.cell (p := ⟨g, 1, none⟩) (cell_lt HR.out.2.2.2)).trans HR.out.2.2.2
      have hfd : ∀ w : World, (Instr.field 33 (.agg #[.int .i64 (u : Nat), .int .i64 hh, .int .i64 x, .bool c]) 0).run Try.prog w = .ok (.int .i64 (u : Nat)) w := fun _ => by kernel_rfl
      clear har hb3
      go_upto_region 4 with fail
      clear hfd
      have hb4 := HB3.out.alloc HB3.out.size (.cells #[.int .i64 d, .int .i64 i] 89)
      have h4 := below_on HR.out.2.1 hb4
      have hgu := HGU.out _ h4
      have c4 := HC.out _ h4
      have q0 : (w3.alloc (.cells #[.int .i64 d, .int .i64 i] 89)).cell? ⟨w3.heap.size, 0, none⟩ = some (.int .i64 d) := by simp
      have q1 : (w3.alloc (.cells #[.int .i64 d, .int .i64 i] 89)).cell? ⟨w3.heap.size, 1, none⟩ = some (.int .i64 i) := by simp
      have p0 : (w3.alloc (.cells #[.int .i64 d, .int .i64 i] 89)).frozen? ⟨w3.heap.size, 0, none⟩ = false := by simp
      have p1 : (w3.alloc (.cells #[.int .i64 d, .int .i64 i] 89)).frozen? ⟨w3.heap.size, 1, none⟩ = false := by simp
      have hs4 : (w3.alloc (.cells #[.int .i64 d, .int .i64 i] 89)).heap.size = w3.heap.size + 1 := by simp
      have HOW : Hid (Own .i64 3 (w3.alloc (.cells #[.int .i64 d, .int .i64 i] 89)) w.heap.size v' (out ++ [(i : Int)]) ∧ w.heap.size ≤ w3.heap.size ∧ ∀ q, v'.ownBlock = some q → q ≠ w3.heap.size) := ⟨HR.out.1.below hb4, by have := HR.out.2.1.size; have := HB3.out.size; omega, fun q hq => by
        have := (World.ownsRow.lt HR.out.1 q hq).2
        have := HB3.out.size
        omega⟩
      have HLV : Hid (lenOf v' = n + 1) := by
        obtain ⟨aq2, cq2, h1, -⟩ := HR.out.1.at
        show _ = _
        rw [h1]
        simp only [lenOf]
        rw [List.length_append, HL2.out]
        rfl
      clear hb4 HB3 HR HGU g0 g1 hsz HLG HB
      generalize w3.alloc (.cells #[.int .i64 d, .int .i64 i] 89) = w4 at *
      generalize w3.heap.size = g2 at *
      have HB4 : Hid (Below w.heap.size w w4 ∧ w4.heap.size = g2 + 1) := ⟨h4, hs4⟩
      clear h4 hs4
      go_wp2_with fail
      refine hgu.mono ?_
      rintro e w5 ⟨rfl, hb5⟩
      have q05 := (hb5.cell (p := ⟨g2, 0, none⟩) (cell_lt q0)).trans q0
      have q15 := (hb5.cell (p := ⟨g2, 1, none⟩) (cell_lt q1)).trans q1
      have p05 := ((Below.keeps hb5 (fun _ => False)).frozen (p := ⟨g2, 0, none⟩) (cell_lt q0) (fun h => h)).trans p0
      have p15 := ((Below.keeps hb5 (fun _ => False)).frozen (p := ⟨g2, 1, none⟩) (cell_lt q1) (fun h => h)).trans p1
      have HO5 : Hid (Own .i64 3 w5 w.heap.size v' (out ++ [(i : Int)]) ∧ Below w.heap.size w w5) := ⟨HOW.out.1.below hb5, below_on HB4.out.1 hb5⟩
      clear hgu hb5 q0 q1 p0 p1 c4
      go_wp2_with fail
      have hk : Keeps (fun b => b = g2) w5 ((w5.setCell ⟨g2, 0, none⟩ (.int .i64 d3)).setCell ⟨g2, 1, none⟩ (.int .i64 y3)) := (keeps_set w5 g2 0 (.int .i64 d3)).setCell (p := ⟨g2, 1, none⟩) (.inl rfl) _
      have HE : Hid (Own .i64 3 ((w5.setCell ⟨g2, 0, none⟩ (.int .i64 d3)).setCell ⟨g2, 1, none⟩ (.int .i64 y3)) w.heap.size v' (out ++ [(i : Int)]) ∧ Below w.heap.size w ((w5.setCell ⟨g2, 0, none⟩ (.int .i64 d3)).setCell ⟨g2, 1, none⟩ (.int .i64 y3)) ∧ (((w5.setCell ⟨g2, 0, none⟩ (.int .i64 d3)).setCell ⟨g2, 1, none⟩ (.int .i64 y3)).cell? ⟨g2, 0, none⟩ = some (.int .i64 d3) ∧ ((w5.setCell ⟨g2, 0, none⟩ (.int .i64 d3)).setCell ⟨g2, 1, none⟩ (.int .i64 y3)).cell? ⟨g2, 1, none⟩ = some (.int .i64 y3) ∧ ((w5.setCell ⟨g2, 0, none⟩ (.int .i64 d3)).setCell ⟨g2, 1, none⟩ (.int .i64 y3)).frozen? ⟨g2, 0, none⟩ = false ∧ ((w5.setCell ⟨g2, 0, none⟩ (.int .i64 d3)).setCell ⟨g2, 1, none⟩ (.int .i64 y3)).frozen? ⟨g2, 1, none⟩ = false)) := by
        refine ⟨hk.row HO5.out.1 (fun q hq e => HOW.out.2.2 q hq e), (HO5.out.2.setCell (p := ⟨g2, 0, none⟩) HOW.out.2.1 _).setCell (p := ⟨g2, 1, none⟩) HOW.out.2.1 _, ?_, ?_, by simp [p05], by simp [p15]⟩
        · rw [World.cell?_setCell_other _ _ _ _ (by simp)]
          exact World.cell?_setCell_same' _ _ _ (Option.isSome_iff_exists.2 ⟨_, q05⟩)
        · exact World.cell?_setCell_same' _ _ _ (by rw [World.cell?_setCell_other _ _ _ _ (by simp)]; exact Option.isSome_iff_exists.2 ⟨_, q15⟩)
      clear hk q05 q15 p05 p15
      generalize (w5.setCell ⟨g2, 0, none⟩ (.int .i64 d3)).setCell ⟨g2, 1, none⟩ (.int .i64 y3) = w6 at *
      go_roundw
      case rel => exact ⟨out ++ [(i : Int)], u, g2, d3, y3, HN2.out.1, HN2.out.2.1, HN2.out.2.2, rfl, HE.out.1, rfl, ⟨HOW.out.2.1, HOW.out.2.2⟩, HE.out.2.2, HE.out.2.1⟩
      case measure =>
        rw [HLV.out]
        simp only [lenOf]
        omega
end Go.Proofs.Ytmamligiopbefaa
end
