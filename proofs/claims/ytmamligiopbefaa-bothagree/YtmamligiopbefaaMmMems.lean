/-
  NearMem, NearSR.
-/
import Derived.Test.YtmamligiopbefaaMmNHeapEI
import Derived.Test.YtmamligiopbefaaMmNHeapD
import Derived.Test.YtmamligiopbefaaMmHeaps0
import Derived.Test.YtmamligiopbefaaMmThose
import Derived.Test.YtmamligiopbefaaMmGraphA
import Derived.Test.YtmamligiopbefaaMmInts
section
/-
  What a search keeps in memory: how far each vertex is told to be, what waits.
-/
namespace Go.Proofs.Ytmamligiopbefaa
open Go.RowKit Go.Shelf

def farV (N : Nat) (far : Nat → Int) : List Value := (List.range N).map (fun v => Value.int .i64 (far v))
theorem farV_len (N : Nat) (far : Nat → Int) : (farV N far).length = N := by simp [farV]
theorem farV_at {N : Nat} (far : Nat → Int) {k : Nat} (hk : k < N) : (farV N far)[k]? = some (.int .i64 (far k)) := by
  unfold farV
  rw [List.getElem?_map, List.getElem?_range hk]
  rfl
theorem farV_set {N : Nat} (far : Nat → Int) {k : Nat} (d : Int) : (farV N far).set k (.int .i64 d) = farV N (NM.updF far k d) := by
  apply List.ext_getElem?
  intro j
  rw [List.getElem?_set]
  by_cases hj : j < N
  · rw [farV_at _ hj, farV_at _ hj, farV_len]
    unfold NM.updF
    by_cases e : k = j
    · rw [if_pos e, if_pos (by omega), if_pos e.symm]
    · rw [if_neg e, if_neg (fun e' => e e'.symm)]
  · rw [List.getElem?_eq_none (by rw [farV_len]; omega), List.getElem?_eq_none (by rw [farV_len]; omega), farV_len]
    split
    · rw [if_neg (by omega)]
    · rfl

/-- A search's memory, of which X has no block. -/
structure SI (B bF fb bW p N : Nat) (far : Nat → Int) (hm : Nat → Option Int) (X : Nat → Prop) (A : World) : Prop where
  f : Boxed A bF 41 (.slice (some ⟨fb, 0, none⟩) N N)
  fr : A.ownsRow B 3 1 (.slice (some ⟨fb, 0, none⟩) N N) N (farV N far)
  w : Boxed A bW 99 (.pointer (some ⟨p, 0, none⟩))
  h : ∃ bp bc lv line place come, HMem (Value.int .i64) 3 A B p bp bc lv line place come ∧ HM.Rep HM.TI 0 N hm line place come ∧ (∀ b, foot p bp bc lv b → b ≠ bF ∧ b ≠ fb ∧ b ≠ bW ∧ ¬ X b)
  ne : bF ≠ fb ∧ bF ≠ bW ∧ fb ≠ bW
  lo : B ≤ bF ∧ B ≤ bW
  nX : ¬ X bF ∧ ¬ X fb ∧ ¬ X bW
  few : N ≤ 24
section
variable {A A' : World} {B bF fb bW p N : Nat} {far : Nat → Int} {hm : Nat → Option Int} {X X' : Nat → Prop}
theorem SI.fbl (h : SI B bF fb bW p N far hm X A) : B ≤ fb ∧ fb < A.heap.size := World.ownsRow.lt h.fr fb rfl
theorem SI.cell (h : SI B bF fb bW p N far hm X A) {k : Nat} (hk : k < N) : A.cell? ⟨fb, k, none⟩ = some (.int .i64 (far k)) ∧ A.frozen? ⟨fb, k, none⟩ = false := by
  refine ⟨?_, World.ownsRow.frozenAt h.fr k⟩
  rw [World.ownsRow.cellAt h.fr k (by omega)]
  exact farV_at far hk
theorem SI.apart (h : SI B bF fb bW p N far hm X A) (hk : Keeps X A A') (hX : ∀ b, X' b → X b ∨ A.heap.size ≤ b) : SI B bF fb bW p N far hm X' A' := by
  obtain ⟨hf, hfr, hw, ⟨bp, bc, lv, line, place, come, h1, h2, h3⟩, ne, lo, ⟨n1, n2, n3⟩, few⟩ := h
  have l2 := (World.ownsRow.lt hfr fb rfl).2
  have no : ∀ b, b < A.heap.size → ¬ X b → ¬ X' b := fun b hb hn hx => by
    rcases hX b hx with h | h
    · exact hn h
    · omega
  refine ⟨(hk.block _ hf.lt n1).trans hf, hk.row hfr (fun g hg => by cases hg; exact n2), (hk.block _ hw.lt n3).trans hw, ⟨bp, bc, lv, line, place, come, h1.kept hk (fun b hb => (h3 b hb).2.2.2), h2, fun b hb => ?_⟩, ne, lo, ⟨no _ hf.lt n1, no _ l2 n2, no _ hw.lt n3⟩, few⟩
  obtain ⟨a1, a2, a3, a4⟩ := h3 b hb
  exact ⟨a1, a2, a3, no _ (h1.lt b hb).2 a4⟩
theorem SI.on (h : SI B bF fb bW p N far hm X A) (hb : Below A.heap.size A A') : SI B bF fb bW p N far hm X A' := h.apart (Below.keeps hb _) (fun _ hb => .inl hb)
theorem SI.drew (h : SI B bF fb bW p N far hm X A) : SI B bF fb bW p N far hm X A.drew := h.on ((Below.refl _ _).drew)
/-- How far a vertex is told to be is turned. -/
theorem SI.set (h : SI B bF fb bW p N far hm X A) (k : Nat) (d : Int) : SI B bF fb bW p N (NM.updF far k d) hm X (A.setCell ⟨fb, k, none⟩ (.int .i64 d)) ∧ Rest X A (A.setCell ⟨fb, k, none⟩ (.int .i64 d)) := by
  have hk : Keeps (fun b => b = fb) A (A.setCell ⟨fb, k, none⟩ (.int .i64 d)) := keeps_set _ _ _ _
  obtain ⟨hf, hfr, hw, ⟨bp, bc, lv, line, place, come, h1, h2, h3⟩, ne, lo, nX, few⟩ := h
  refine ⟨⟨(hk.block _ hf.lt ne.1).trans hf, ?_, (hk.block _ hw.lt (fun e => ne.2.2 e.symm)).trans hw, ⟨bp, bc, lv, line, place, come, h1.kept hk (fun b hb => (h3 b hb).2.1), h2, h3⟩, ne, lo, nX, few⟩, Keeps.mono hk (fun b hb hx => nX.2.1 (hb ▸ hx))⟩
  have := (World.ownsRow.stored hfr k (.int .i64 d)).1
  rwa [farV_set] at this
end

set_option maxHeartbeats 1000000 in
theorem reach_any {A : World} {B bF fb bW p N : Nat} {far : Nat → Int} {hm : Nat → Option Int} {X : Nat → Prop} (h : SI B bF fb bW p N far hm X A) (k : Nat) (hk : k < N) (d : Int) (hd : 0 ≤ d ∧ d ≤ 4611686018427387906) (hf : 0 ≤ far k ∧ far k ≤ 4611686018427387906)
    (hXl : ∀ b, X b → b < A.heap.size) (hmk : d < far k → hm k = if far k = 4611686018427387906 then none else some (far k)) :
    Calls Try.prog 64 #[.int .i64 (k : Nat), .int .i64 d, .pointer (some ⟨bF, 0, none⟩), .pointer (some ⟨bW, 0, none⟩)] A fun e A' => e = .returned (.tuple #[]) ∧ Rest X A A' ∧
      SI B bF fb bW p N (if d < far k then NM.updF far k d else far) (if d < far k then HM.upd hm k (some d) else hm) X A' := by
  have cf := h.f.cell
  obtain ⟨ck, fk⟩ := h.cell hk
  have hl := fun W => less_any d (far k) W
  rw [show GM.norm d = d from DM.norm_of hd.1 hd.2, show GM.norm (far k) = far k from DM.norm_of hf.1 hf.2] at hl
  have HL : Hid (∀ W, Calls Try.prog 65 #[.int .i64 d, .int .i64 (far k)] W fun e w' => e = .returned (.bool (decide (d < far k))) ∧ w' = W) := hl
  have kN : (k : Int) < (N : Int) := by omega
  have H : Hid (SI B bF fb bW p N far hm X A) := h
  have HXL : Hid (∀ b, X b → b < A.heap.size) := hXl
  clear hl hd hf hXl
  by_cases hlt : d < far k
  · have hm1 := hmk hlt
    have hs := h.set k d
    have HS : Hid (Rest X A (A.setCell ⟨fb, k, none⟩ (.int .i64 d))) := hs.2
    obtain ⟨hf', hfr', hw', ⟨bp, bc, lv, line, place, come, h1, h2, h3⟩, ne, lo, nX, few⟩ := hs.1
    have cw := h.w.cell
    have hput := HI.put_any h1 h2 (by omega) k d
    have HC : Hid (HM.code HM.TI N hm k d = 0 ∧ HM.put HM.TI N hm k d = HM.upd hm k (some d)) := by
      have hcode : HM.code HM.TI N hm k d = 0 := by
        unfold HM.code
        rw [if_pos (by omega), Int.toNat_natCast, hm1]
        by_cases e : far k = 4611686018427387906
        · rw [if_pos e]
        · rw [if_neg e]
          show (if decide (d < far k) = true then (0 : Int) else 5) = 0
          rw [if_pos (by simpa using hlt)]
      refine ⟨hcode, ?_⟩
      unfold HM.put
      rw [hcode, if_pos rfl, Int.toNat_natCast]
    rw [HC.out.1, HC.out.2] at hput
    rw [if_pos hlt, if_pos hlt]
    have hdec : decide (d < far k) = true := decide_eq_true hlt
    rw [hdec] at HL
    have HF : Hid (Boxed (A.setCell ⟨fb, k, none⟩ (.int .i64 d)) bF 41 (.slice (some ⟨fb, 0, none⟩) N N)) := hf'
    have HFR : Hid ((A.setCell ⟨fb, k, none⟩ (.int .i64 d)).ownsRow B 3 1 (.slice (some ⟨fb, 0, none⟩) N N) N (farV N (NM.updF far k d))) := hfr'
    have HW : Hid (Boxed (A.setCell ⟨fb, k, none⟩ (.int .i64 d)) bW 99 (.pointer (some ⟨p, 0, none⟩))) := hw'
    have cw' := hw'.cell
    have H3 : Hid (∀ b, foot p bp bc lv b → b ≠ bF ∧ b ≠ fb ∧ b ≠ bW ∧ ¬ X b) := h3
    have HR : Hid ((bF ≠ fb ∧ bF ≠ bW ∧ fb ≠ bW) ∧ (B ≤ bF ∧ B ≤ bW) ∧ (¬ X bF ∧ ¬ X fb ∧ ¬ X bW) ∧ N ≤ 24) := ⟨ne, lo, nX, few⟩
    clear h hs hf' hfr' hw' h1 h2 h3 ne lo nX few hmk hm1 HC hdec hlt
    go_enter Try.func64, Try.ntmps64
    go_wp2_with fail
    refine (HL.out _).mono ?_
    rintro e w' ⟨rfl, rfl⟩
    go_wp2_with fail
    refine hput.mono ?_
    rintro e w5 ⟨rfl, lv', line', place', come', m1, m2, m3, m4⟩
    go_wp2_with fail
    go_end0
    have l1 := HF.out.lt
    have l2 := (World.ownsRow.lt HFR.out fb rfl).2
    have l3 := HW.out.lt
    have hXs := HS.out.size
    refine ⟨rfl, HS.out.trans (Keeps.mono m3 (fun b hb => (H3.out b hb).2.2.2)), ⟨(m3.block _ l1 (fun hb => (H3.out _ hb).1 rfl)).trans HF.out, m3.row HFR.out (fun g hg hb => by cases hg; exact (H3.out _ hb).2.1 rfl), (m3.block _ l3 (fun hb => (H3.out _ hb).2.2.1 rfl)).trans HW.out, ⟨bp, bc, lv', line', place', come', m1, m2, fun b hb => ?_⟩, HR.out.1, HR.out.2.1, HR.out.2.2.1, HR.out.2.2.2⟩⟩
    rcases m4 b hb with h5 | h5
    · exact H3.out b h5
    · rw [setCell_size] at h5 l1 l2 l3
      exact ⟨by omega, by omega, by omega, fun hx => by have := HXL.out b hx; omega⟩
  · have hdec : decide (d < far k) = false := decide_eq_false hlt
    rw [hdec] at HL
    rw [if_neg hlt, if_neg hlt]
    clear h hmk hdec hlt
    go_enter Try.func64, Try.ntmps64
    go_wp2_with fail
    refine (HL.out _).mono ?_
    rintro e w' ⟨rfl, rfl⟩
    go_wp2_with fail
    go_end0
    exact ⟨rfl, Keeps.refl _ _, H.out⟩
end Go.Proofs.Ytmamligiopbefaa
end

section
/-
  What holds between the rounds of a search, and between those in which a vertex is gone on from.
-/
namespace Go.Proofs.Ytmamligiopbefaa
open Go.RowKit Go.Shelf

set_option maxHeartbeats 400000 in
theorem nvertex_any {w : World} {p n most : Nat} {m : GM.M} (hg : GMem w p n most m) (v : Int) :
    Calls Try.prog 30 #[.pointer (some ⟨p, 0, none⟩), .int .i64 v] w fun e w' => e = .returned (.bool (GM.vert n v)) ∧ w' = w := by
  have HV : Hid (∀ W, Below w.heap.size w W → Calls Try.prog 49 #[.pointer (some ⟨p, 0, none⟩)] W fun e w' => e = .returned (.int .i64 (n : Nat)) ∧ w' = W) := fun W hW => vertices_any (hg.on hW)
  clear hg
  by_cases h : 0 ≤ v
  · go_enter Try.func30, Try.ntmps30
    go_wp2_with fail
    refine (HV.out _ (Below.refl _ _)).mono ?_
    rintro e w' ⟨rfl, rfl⟩
    go_wp2
    all_goals go_ret
    all_goals refine ⟨ret_bool ?_, rfl⟩
    all_goals unfold GM.vert
    all_goals simp
    all_goals omega
  · go_enter Try.func30, Try.ntmps30
    go_wp2_with fail
    all_goals go_ret
    all_goals refine ⟨ret_bool ?_, rfl⟩
    all_goals unfold GM.vert
    all_goals simp
    all_goals omega

/-- Marks of loops that have been gone through: nothing was deferred in them. -/
def Marks (ds : List Nat) (A : World) : Prop := ∀ D ∈ ds, A.heap[D]? = some (.deferred (some []))
def mark (D : Nat) : Deferred := { target := .collected D, args := #[] }
theorem Marks.lt {ds : List Nat} {A : World} (h : Marks ds A) : ∀ D ∈ ds, D < A.heap.size := fun D hD => (Array.getElem?_eq_some_iff.1 (h D hD)).1
/-- Blocks that stay as they are while a vertex is gone on from: the closure, how far it is, the way's own two, the marks. -/
def exB (bR bD b1 : Nat) (ds : List Nat) (b : Nat) : Prop := b = bR ∨ b = bD ∨ b = b1 ∨ b = b1 + 1 ∨ b ∈ ds
structure ExK (bR bD b1 : Nat) (ds : List Nat) (gp bF bW : Nat) (u : Int) (d : Int) (A : World) : Prop where
  r : Boxed A bR 103 (.func (.func 64) #[] #[.pointer (some ⟨bF, 0, none⟩), .pointer (some ⟨bW, 0, none⟩)])
  d : Boxed A bD 3 (.int .i64 d)
  g : Boxed A b1 76 (.pointer (some ⟨gp, 0, none⟩))
  v : Boxed A (b1 + 1) 3 (.int .i64 u)
  m : Marks ds A
theorem ex_holds (bR bD b1 : Nat) (ds : List Nat) (gp bF bW : Nat) (u d : Int) : Holds (exB bR bD b1 ds) (ExK bR bD b1 ds gp bF bW u d) :=
  ⟨fun A A' h hb => ⟨(hb _ (.inl rfl)).trans h.r, (hb _ (.inr (.inl rfl))).trans h.d, (hb _ (.inr (.inr (.inl rfl)))).trans h.g, (hb _ (.inr (.inr (.inr (.inl rfl))))).trans h.v, fun D hD => (hb _ (.inr (.inr (.inr (.inr hD))))).trans (h.m D hD)⟩, fun A h b hb => by
    rcases hb with rfl | rfl | rfl | rfl | hb
    · exact h.r.lt
    · exact h.d.lt
    · exact h.g.lt
    · exact h.v.lt
    · exact h.m.lt b hb⟩
/-- While a vertex u is gone on from, d far. -/
structure SR (w : World) (bF fb bW hp gp bR bD b1 : Nat) (ds : List Nat) (N s u : Nat) (m : GM.M) (L : Nat → List (Int × Int)) (dn : Nat → Bool) (d : Int) (pre : List (Int × Int)) (X : Nat → Prop) (A : World) : Prop where
  s : ∃ far hm, SI w.heap.size bF fb bW hp N far hm (fun b => b < w.heap.size ∨ X b ∨ exB bR bD b1 ds b) A ∧ NM.DJ m L N s u pre far hm dn ∧ far u = d
  k : ExK bR bD b1 ds gp bF bW u d A
  n : ∀ b, exB bR bD b1 ds b → ¬ X b
  lo : ∀ b, X b → w.heap.size ≤ b
  bel : Below w.heap.size w A
theorem SR.apart {w : World} {bF fb bW hp gp bR bD b1 : Nat} {ds : List Nat} {N s u : Nat} {m : GM.M} {L : Nat → List (Int × Int)} {dn : Nat → Bool} {d : Int} : Apart (SR w bF fb bW hp gp bR bD b1 ds N s u m L dn d) := by
  rintro pre X X' A A' ⟨⟨far, hm, h1, h2, h3⟩, hk, hn, hlo, hbel⟩ hK hX
  have hs := hbel.size
  have hl := (ex_holds bR bD b1 ds gp bF bW u d).lt A hk
  refine ⟨⟨far, hm, h1.apart (hK.mono (fun b hb => .inr (.inl hb))) (fun b hb => ?_), h2, h3⟩, (ex_holds bR bD b1 ds gp bF bW u d).same _ _ hk (fun b hb => hK.block _ (hl b hb) (hn b hb)), fun b hb hx => ?_, fun b hb => ?_, hbel.trans (Keeps.below hK hlo hs)⟩
  · rcases hb with hb | hb | hb
    · exact .inl (.inl hb)
    · rcases hX b hb with h | h
      · exact .inl (.inr (.inl h))
      · exact .inr h
    · exact .inl (.inr (.inr hb))
  · rcases hX b hx with h | h
    · exact hn b hb h
    · have := hl b hb; omega
  · rcases hX b hb with h | h
    · exact hlo b h
    · omega
/-- Between the rounds: k vertices at most aren't settled. -/
structure SO (w : World) (bF fb bW hp bR : Nat) (ds : List Nat) (N s : Nat) (m : GM.M) (L : Nat → List (Int × Int)) (k : Nat) (A : World) : Prop where
  s : ∃ far hm dn, SI w.heap.size bF fb bW hp N far hm (fun b => b < w.heap.size ∨ b = bR ∨ b ∈ ds) A ∧ NM.DJ m L N s N [] far hm dn ∧ NM.rest N dn ≤ k
  r : Boxed A bR 103 (.func (.func 64) #[] #[.pointer (some ⟨bF, 0, none⟩), .pointer (some ⟨bW, 0, none⟩)])
  lr : w.heap.size ≤ bR
  m : Marks ds A
  nd : ds.Nodup
  lm : ∀ D ∈ ds, w.heap.size ≤ D
  bel : Below w.heap.size w A
/-- Nothing is deferred: the marks are taken, one behind the other. -/
theorem leaves_marks {F : Fence} {n : Nat} {P : Program} {fn : Func} {tmps : Array Value} {R : Ending → World → Prop} (hF : ∀ f, F.fn f) : ∀ (ds : List Nat) (W : World), ds.Nodup → Marks ds W → (∀ W', Keeps (fun b => b ∈ ds) W W' → LeavesInM F n P fn tmps R [] .returning W') → LeavesInM F n P fn tmps R (ds.map mark) .returning W
  | [], W, _, _, h => h W (Keeps.refl _ _)
  | D :: ds, W, hn, hm, h => by
    have hK := hm D (by simp)
    obtain ⟨h1, h2⟩ := List.nodup_cons.1 hn
    refine ⟨by simp, .inl ⟨_, _, rfl, run_takeDeferred hK, ?_⟩⟩
    refine leaves_marks hF ds _ h2 (fun E hE => (World.putObj_heap_other (fun e => h1 (by rw [← e]; exact hE))).trans (hm E (by simp [hE]))) (fun W' hk => h W' ?_)
    exact ((keeps_putK W D _).mono (fun b hb => by rw [hb]; simp)).trans hk (fun b hb => .inl (by simp [hb]))
theorem hmem_base {α : Type} {enc : α → Value} {ct : TypeId} {w : World} {B B' p bp bc : Nat} {lv : Value} {line : List Nat} {place : List Int} {come : List α} (h : HMem enc ct w B p bp bc lv line place come) (hb : B' ≤ B) : HMem enc ct w B' p bp bc lv line place come := by
  obtain ⟨c0, ⟨a1, b1, d1⟩, ⟨a2, b2, d2⟩, fz, ln, lo, n1, n2, n3, n4⟩ := h
  exact ⟨c0, ⟨a1, b1, row_base d1 hb⟩, ⟨a2, b2, row_base d2 hb⟩, fz, row_base ln hb, Nat.le_trans hb lo, n1, n2, n3, n4⟩
theorem si_len {A : World} {B bF fb bW p N : Nat} {far : Nat → Int} {hm : Nat → Option Int} {X : Nat → Prop} (h : SI B bF fb bW p N far hm X A) :
    Calls Try.prog 67 #[.pointer (some ⟨p, 0, none⟩)] A fun e A' => ∃ c : Nat, e = .returned (.int .i64 (c : Nat)) ∧ A' = A ∧ (c = 0 → ∀ v, hm v = none) ∧ (0 < c → ∃ x, HM.IsFirst HM.TI hm x) := by
  obtain ⟨-, -, -, ⟨bp, bc, lv, line, place, come, h1, h2, -⟩, -, -, -, -⟩ := h
  refine (HI.len_any h1).mono ?_
  rintro e w' ⟨rfl, rfl⟩
  exact ⟨_, rfl, rfl, fun h0 v => h2.empty h0 v, fun h0 => ⟨_, h2.first h0⟩⟩
theorem si_out {A : World} {B bF fb bW p N : Nat} {far : Nat → Int} {hm : Nat → Option Int} {X : Nat → Prop} (h : SI B bF fb bW p N far hm X A) {v : Nat} (hv : N ≤ v) : hm v = none := by
  obtain ⟨-, -, -, ⟨bp, bc, lv, line, place, come, h1, h2, -⟩, -, -, -, -⟩ := h
  exact h2.out.2 (.inl hv)
theorem si_pop {A : World} {B bF fb bW p N : Nat} {far : Nat → Int} {hm : Nat → Option Int} {X : Nat → Prop} (h : SI B bF fb bW p N far hm X A) {u : Nat} {r : Int} (hf : HM.IsFirst HM.TI hm (u, r)) :
    Calls Try.prog 68 #[.pointer (some ⟨p, 0, none⟩)] A fun e A' => e = .returned (.tuple #[.int .i64 (u : Nat), .int .i64 r, .bool true]) ∧ Rest X A A' ∧ SI B bF fb bW p N far (HM.upd hm u none) X A' := by
  obtain ⟨hF, hfr, hW, ⟨bp, bc, lv, line, place, come, h1, h2, h3⟩, ne, lo, nX, few⟩ := h
  have e1 := HM.firstOf_eq hf
  have hp := HI.pop_any h1 h2 (by omega)
  unfold HM.popped at hp
  rw [e1] at hp
  refine hp.mono ?_
  rintro e A' ⟨rfl, lv', line', place', come', m1, m2, m3, m4⟩
  refine ⟨rfl, Keeps.mono m3 (fun b hb => (h3 b hb).2.2.2), ⟨(m3.block _ hF.lt (fun hb => (h3 _ hb).1 rfl)).trans hF, m3.row hfr (fun g hg hb => by cases hg; exact (h3 _ hb).2.1 rfl), (m3.block _ hW.lt (fun hb => (h3 _ hb).2.2.1 rfl)).trans hW, ⟨bp, bc, lv', line', place', come', m1, m2, fun b hb => h3 b (m4 b hb)⟩, ne, lo, nX, few⟩⟩
/-- The beginning: nothing waits, no vertex can be come to. -/
theorem si_new {A : World} {B bF fb bW p bp bc N : Nat} {X : Nat → Prop} (hF : Boxed A bF 41 (.slice (some ⟨fb, 0, none⟩) N N)) (hfr : A.ownsRow B 3 1 (.slice (some ⟨fb, 0, none⟩) N N) N ((List.replicate N (4611686018427387906 : Int)).map (Value.int .i64)))
    (hW : Boxed A bW 99 (.pointer (some ⟨p, 0, none⟩))) (hM : HMem (Value.int .i64) 3 A B p bp bc (.slice none 0 0) [] (List.replicate N (-1)) (List.replicate N 0)) (h3 : ∀ b, b = p ∨ b = bp ∨ b = bc → b ≠ bF ∧ b ≠ fb ∧ b ≠ bW ∧ ¬ X b)
    (ne : bF ≠ fb ∧ bF ≠ bW ∧ fb ≠ bW) (lo : B ≤ bF ∧ B ≤ bW) (nX : ¬ X bF ∧ ¬ X fb ∧ ¬ X bW) (few : N ≤ 24) : SI B bF fb bW p N (fun _ => 4611686018427387906) (fun _ => none) X A := by
  refine ⟨hF, ?_, hW, ⟨bp, bc, _, _, _, _, hM, HI.rep_new N, fun b hb => ?_⟩, ne, lo, nX, few⟩
  · have e : (List.replicate N (4611686018427387906 : Int)).map (Value.int .i64) = farV N (fun _ => 4611686018427387906) := by
      unfold farV
      rw [List.map_replicate, List.map_const', List.length_range]
    rwa [e] at hfr
  · rcases hb with hb | hb | hb | hb
    · exact h3 b (.inl hb)
    · exact h3 b (.inr (.inl hb))
    · exact h3 b (.inr (.inr hb))
    · cases hb
end Go.Proofs.Ytmamligiopbefaa
end
