/-
  A row of the program's, one of the reference's, and blocks that both leave alone; the law's own alike.
-/
import Derived.Test.YtfkfbpkhdneeeaaStampRef
namespace Go.Proofs.Ytfkfbpkhdneeeaa
open Go.RowKit

/-- A row of the reference's. -/
def Rf (w : World) (B q n : Nat) (m : Nat → Option Int) (G : Nat → Prop) : Prop := ∃ bv bi vs is, RMem w B q bv bi n vs is ∧ RR.Rep n m vs is ∧ G = rfoot q bv bi
section
variable {w w' : World} {B q n : Nat} {m : Nat → Option Int} {F : Nat → Prop}
theorem Rf.lt (h : Rf w B q n m F) : ∀ b, F b → B ≤ b ∧ b < w.heap.size := by
  obtain ⟨bv, bi, vs, is, h1, _, rfl⟩ := h
  exact h1.lt
theorem Rf.kept {G : Nat → Prop} (h : Rf w B q n m F) (hk : Keeps G w w') (hG : ∀ b, F b → ¬ G b) : Rf w' B q n m F := by
  obtain ⟨bv, bi, vs, is, h1, h2, rfl⟩ := h
  exact ⟨bv, bi, vs, is, h1.kept hk hG, h2, rfl⟩
theorem Rf.below (h : Rf w B q n m F) (hb : Below w.heap.size w w') : Rf w' B q n m F := h.kept (Below.keeps hb (fun _ => False)) (fun _ _ h => h)
theorem RMem.base_le {B' bv bi : Nat} {vs : List Int} {is : List Bool} (h : RMem w B q bv bi n vs is) (hB : B' ≤ B) : RMem w B' q bv bi n vs is :=
  ⟨h.c0, h.c1, h.fz, row_base h.vr hB, row_base h.ir hB, Nat.le_trans hB h.lo, h.n1, h.n2, h.n3⟩
theorem rf_new (n : Nat) (hn : n ≤ 64) (w : World) (B : Nat) (hB : B ≤ w.heap.size) :
    Calls Try.prog 8 #[.int .i64 n] w fun e w' => ∃ q G, e = .returned (.pointer (some ⟨q, 0, none⟩)) ∧ Rf w' B q n (fun _ => none) G ∧ (∀ b, G b → w.heap.size ≤ b) ∧ Below w.heap.size w w' := by
  refine (RR.new_any n hn w).mono ?_
  rintro e w' ⟨q, bv, bi, vs, is, rfl, h1, h2, h3⟩
  exact ⟨q, _, rfl, ⟨bv, bi, vs, is, h1.base_le hB, h2, rfl⟩, fun b hb => (h1.lt b hb).1, h3⟩
theorem rf_there (h : Rf w B q n m F) (t : Int) :
    Calls Try.prog 10 #[.pointer (some ⟨q, 0, none⟩), .int .i64 t] w fun e w' => e = .returned (.bool (decide (0 ≤ t ∧ t < (n : Int)))) ∧ w' = w := by
  obtain ⟨bv, bi, vs, is, h1, h2, rfl⟩ := h
  exact RR.there_any h1 t
theorem rf_len (h : Rf w B q n m F) (hn : n ≤ 64) :
    Calls Try.prog 26 #[.pointer (some ⟨q, 0, none⟩)] w fun e w' => e = .returned (.int .i64 (SM.cnt n m : Nat)) ∧ w' = w := by
  obtain ⟨bv, bi, vs, is, h1, h2, rfl⟩ := h
  exact RR.len_any h1 h2 hn
/-- What the law itself reads in it. -/
theorem Rf.reads (h : Rf w B q n m F) : ∃ bv bi, w.cell? ⟨q, 0, none⟩ = some (.slice (some ⟨bv, 0, none⟩) n n) ∧ w.cell? ⟨q, 1, none⟩ = some (.slice (some ⟨bi, 0, none⟩) n n) ∧
    ∀ k, k < n → w.cell? ⟨bi, k, none⟩ = some (.bool (m k).isSome) ∧ ∀ v, m k = some v → w.cell? ⟨bv, k, none⟩ = some (.int .i64 v) := by
  obtain ⟨bv, bi, vs, is, h1, h2, rfl⟩ := h
  refine ⟨bv, bi, h1.c0, h1.c1, fun k hk => ⟨?_, fun v hv => ?_⟩⟩
  · rw [(h1.iCell hk).1, h2.is k hk]
  · rw [(h1.vCell hk).1, h2.vs k hk v hv]
end

/-- Both rows, and blocks X of neither. -/
def TwoX (w : World) (B p q n : Nat) (m mr : Nat → Option Int) (X : Nat → Prop) : Prop := ∃ F G, ObjI w B p n m F ∧ Rf w B q n mr G ∧ (∀ b, F b → ¬ G b) ∧ ∀ b, X b → b < w.heap.size ∧ ¬ F b ∧ ¬ G b
section
variable {w w' : World} {B p q n : Nat} {m mr : Nat → Option Int} {X : Nat → Prop}
theorem TwoX.below (h : TwoX w B p q n m mr X) (hb : Below w.heap.size w w') : TwoX w' B p q n m mr X := by
  obtain ⟨F, G, h1, h2, h3, h4⟩ := h
  exact ⟨F, G, h1.below hb, h2.below hb, h3, fun b hX => ⟨Nat.lt_of_lt_of_le (h4 b hX).1 hb.size, (h4 b hX).2⟩⟩
theorem TwoX.guest (h : TwoX w B p q n m mr X) (hb : Below w.heap.size w w') {g : Nat} (hg : w.heap.size ≤ g) (hg' : g < w'.heap.size) : TwoX w' B p q n m mr (fun b => X b ∨ b = g) := by
  obtain ⟨F, G, h1, h2, h3, h4⟩ := h
  have hs := hb.size
  refine ⟨F, G, h1.below hb, h2.below hb, h3, fun b hX => ?_⟩
  rcases hX with hX | rfl
  · exact ⟨Nat.lt_of_lt_of_le (h4 b hX).1 hs, (h4 b hX).2⟩
  · refine ⟨hg', fun hf => ?_, fun hf => ?_⟩
    · have := h1.lt b hf
      omega
    · have := h2.lt b hf
      omega
theorem TwoX.less {Y : Nat → Prop} (h : TwoX w B p q n m mr X) (hY : ∀ b, Y b → X b) : TwoX w B p q n m mr Y := by
  obtain ⟨F, G, h1, h2, h3, h4⟩ := h
  exact ⟨F, G, h1, h2, h3, fun b hb => h4 b (hY b hb)⟩
theorem x_set (h : TwoX w B p q n m mr X) (hn : n ≤ 64) (t v : Int) :
    Calls Try.prog 9 #[.pointer (some ⟨p, 0, none⟩), .int .i64 t, .int .i64 v] w fun e w' => e = .returned (.int .i64 (SM.code n t)) ∧ TwoX w' B p q n (SM.put n m t v) mr X ∧ Rest X w w' := by
  obtain ⟨F, G, h1, h2, h3, h4⟩ := h
  refine (oi_set h1 hn t v).mono ?_
  rintro e w' ⟨rfl, a1, a2⟩
  exact ⟨rfl, ⟨F, G, a1, h2.kept a2 (fun b hb hf => h3 b hf hb), h3, fun b hX => ⟨Nat.lt_of_lt_of_le (h4 b hX).1 a2.size, (h4 b hX).2⟩⟩, a2.mono (fun b hf hX => (h4 b hX).2.1 hf)⟩
theorem x_clear (h : TwoX w B p q n m mr X) :
    Calls Try.prog 12 #[.pointer (some ⟨p, 0, none⟩)] w fun e w' => e = .returned (.tuple #[]) ∧ TwoX w' B p q n (fun _ => none) mr X ∧ Rest X w w' := by
  obtain ⟨F, G, h1, h2, h3, h4⟩ := h
  refine (oi_clear h1).mono ?_
  rintro e w' ⟨rfl, a1, a2⟩
  exact ⟨rfl, ⟨F, G, a1, h2.kept a2 (fun b hb hf => h3 b hf hb), h3, fun b hX => ⟨Nat.lt_of_lt_of_le (h4 b hX).1 a2.size, (h4 b hX).2⟩⟩, a2.mono (fun b hf hX => (h4 b hX).2.1 hf)⟩
theorem x_there (h : TwoX w B p q n m mr X) (t : Int) :
    Calls Try.prog 10 #[.pointer (some ⟨q, 0, none⟩), .int .i64 t] w fun e w' => e = .returned (.bool (decide (0 ≤ t ∧ t < (n : Int)))) ∧ w' = w := by
  obtain ⟨F, G, h1, h2, h3, h4⟩ := h
  exact rf_there h2 t
theorem x_rset (h : TwoX w B p q n m mr X) (hn : n ≤ 64) (k : Nat) (hk : k < n) (v : Int) :
    Calls Try.prog 11 #[.pointer (some ⟨q, 0, none⟩), .int .i64 k, .int .i64 v] w fun e w' => e = .returned (.tuple #[]) ∧ TwoX w' B p q n m (SM.upd mr k (some v)) X ∧ Rest X w w' := by
  obtain ⟨F, G, h1, ⟨bv, bi, vs, is, r1, r2, rfl⟩, h3, h4⟩ := h
  refine (RR.set_in r1 r2 hn k hk v).mono ?_
  rintro e w' ⟨rfl, vs', is', a1, a2, a3⟩
  exact ⟨rfl, ⟨F, _, h1.kept a3 h3, ⟨bv, bi, vs', is', a1, a2, rfl⟩, h3, fun b hX => ⟨Nat.lt_of_lt_of_le (h4 b hX).1 a3.size, (h4 b hX).2⟩⟩, a3.mono (fun b hf hX => (h4 b hX).2.2 hf)⟩
theorem x_rclear (h : TwoX w B p q n m mr X) (hn : n ≤ 64) :
    Calls Try.prog 13 #[.pointer (some ⟨q, 0, none⟩)] w fun e w' => e = .returned (.tuple #[]) ∧ TwoX w' B p q n m (fun _ => none) X ∧ Rest X w w' := by
  obtain ⟨F, G, h1, ⟨bv, bi, vs, is, r1, r2, rfl⟩, h3, h4⟩ := h
  refine (RR.clear_any r1 hn).mono ?_
  rintro e w' ⟨rfl, bi', is', a1, a2, a3, a4⟩
  refine ⟨rfl, ⟨F, _, h1.kept a3 h3, ⟨bv, bi', vs, is', a1, a2, rfl⟩, fun b hf hg => ?_, fun b hX => ⟨Nat.lt_of_lt_of_le (h4 b hX).1 a3.size, (h4 b hX).2.1, fun hg => ?_⟩⟩, a3.mono (fun b hf hX => (h4 b hX).2.2 hf)⟩
  · rcases hg with hg | hg | hg
    · exact h3 b hf (.inl hg)
    · exact h3 b hf (.inr (.inl hg))
    · have := (h1.lt b hf).2
      omega
  · rcases hg with hg | hg | hg
    · exact (h4 b hX).2.2 (.inl hg)
    · exact (h4 b hX).2.2 (.inr (.inl hg))
    · have := (h4 b hX).1
      omega
end

set_option maxHeartbeats 2000000 in
theorem alike_any {w : World} {B p q n : Nat} {m : Nat → Option Int} {X : Nat → Prop} (h : TwoX w B p q n m m X) (hn : n ≤ 64) :
    Calls Try.prog 14 #[.pointer (some ⟨p, 0, none⟩), .pointer (some ⟨q, 0, none⟩)] w fun e w' => e = .returned (.bool true) ∧ Below w.heap.size w w' := by
  obtain ⟨F, G, h1, h2, -, -⟩ := h
  have H1 : Hid (∀ w', Below w.heap.size w w' → ObjI w' B p n m F) := fun w' hb => h1.below hb
  have H2 : Hid (∀ w', Below w.heap.size w w' → Rf w' B q n m G) := fun w' hb => h2.below hb
  have HO : Hid (∀ t, n ≤ t → m t = none) := h1.out
  obtain ⟨bv, bi, c0, c1, hrd⟩ := h2.reads
  have HC : Hid (∀ w', Below w.heap.size w w' → w'.cell? ⟨q, 0, none⟩ = some (.slice (some ⟨bv, 0, none⟩) n n) ∧ w'.cell? ⟨q, 1, none⟩ = some (.slice (some ⟨bi, 0, none⟩) n n) ∧
    ∀ k, k < n → w'.cell? ⟨bi, k, none⟩ = some (.bool (m k).isSome) ∧ ∀ v, m k = some v → w'.cell? ⟨bv, k, none⟩ = some (.int .i64 v)) := fun w' hb => by
    refine ⟨?_, ?_, fun k hk => ⟨?_, fun v hv => ?_⟩⟩
    · rw [hb.cell (cell_lt c0)]; exact c0
    · rw [hb.cell (cell_lt c1)]; exact c1
    · have := (hrd k hk).1
      rw [hb.cell (cell_lt this)]; exact this
    · have := (hrd k hk).2 v hv
      rw [hb.cell (cell_lt this)]; exact this
  clear h1 h2 c0 c1 hrd
  go_enter Try.func14, Try.ntmps14
  go_wp2_with fail
  go_loopw [5] (fun iv wr => ∃ i : Int, -1 ≤ i ∧ i ≤ (n : Int) + 1 ∧ iv = .int .i64 i ∧ Below w.heap.size w wr) (fun iv _ => ((n : Int) + 1 - intOf iv).toNat)
  case atStart => exact ⟨-1, by omega, by omega, rfl, Below.refl _ _⟩
  case round =>
    obtain ⟨i, hi0, hi1, rfl, hbr⟩ := hrel
    obtain ⟨c0, c1, hrd⟩ := HC.out wr hbr
    by_cases hin : i ≤ (n : Int)
    · have hget := oi_get (H1.out wr hbr) i
      have HT : Hid (∀ w', Below w.heap.size w w' → Calls Try.prog 10 #[.pointer (some ⟨q, 0, none⟩), .int .i64 i] w' fun e w'' => e = .returned (.bool (decide (0 ≤ i ∧ i < (n : Int)))) ∧ w'' = w') := fun w' hb => rf_there (H2.out w' hb) i
      unfold SM.look at hget
      have HB : Hid (Below w.heap.size w wr) := hbr
      by_cases hr : 0 ≤ i ∧ i < (n : Int)
      · obtain ⟨k, rfl⟩ : ∃ k : Nat, i = k := ⟨i.toNat, by omega⟩
        have hk : k < n := by omega
        rw [if_pos hr.1, Int.toNat_natCast] at hget
        rw [decide_eq_true hr] at HT
        have kn : (k : Int) < (n : Int) := by omega
        have HCK : Hid (∀ w', Below w.heap.size w w' → w'.cell? ⟨bi, k, none⟩ = some (.bool (m k).isSome) ∧ ∀ v, m k = some v → w'.cell? ⟨bv, k, none⟩ = some (.int .i64 v)) := fun w' hb => (HC.out w' hb).2.2 k hk
        cases hmk : m k with
        | some v =>
          rw [hmk] at hget
          simp only [getT] at hget
          rw [hmk] at HCK
          clear hr hrd hbr hi0 hi1 hmk
          go_wp2_with fail
          refine hget.mono ?_
          rintro e w2 ⟨rfl, hb2⟩
          have hbw : Below w.heap.size w w2 := HB.out.trans (hb2.mono HB.out.size)
          have HBW : Hid (Below w.heap.size w w2) := hbw
          have ht := HT.out w2 hbw
          obtain ⟨c0', c1', -⟩ := HC.out w2 hbw
          obtain ⟨ck1, ck2'⟩ := HCK.out w2 hbw
          have ck2 := ck2' v rfl
          simp only [Option.isSome_some] at ck1
          clear hget hb2 hbw c0 c1 ck2'
          go_wp2_with fail
          refine ht.mono ?_
          rintro e w3 ⟨rfl, rfl⟩
          go_wp2_with fail
          go_roundw
          case rel => exact ⟨(k : Int) + 1, by omega, by omega, by go_num, HBW.out⟩
          case measure => simp [intOf]; omega
        | none =>
          rw [hmk] at hget
          simp only [getT] at hget
          rw [hmk] at HCK
          clear hr hrd hbr hi0 hi1 hmk
          go_wp2_with fail
          refine hget.mono ?_
          rintro e w2 ⟨rfl, hb2⟩
          have hbw : Below w.heap.size w w2 := HB.out.trans (hb2.mono HB.out.size)
          have HBW : Hid (Below w.heap.size w w2) := hbw
          have ht := HT.out w2 hbw
          obtain ⟨c0', c1', -⟩ := HC.out w2 hbw
          obtain ⟨ck1, -⟩ := HCK.out w2 hbw
          simp only [Option.isSome_none] at ck1
          clear hget hb2 hbw c0 c1
          go_wp2_with fail
          refine ht.mono ?_
          rintro e w3 ⟨rfl, rfl⟩
          go_wp2_with fail
          go_roundw
          case rel => exact ⟨(k : Int) + 1, by omega, by omega, by go_num, HBW.out⟩
          case measure => simp [intOf]; omega
      · have e0 : (if 0 ≤ i then m i.toNat else none) = none := by
          split
          · exact HO.out _ (by omega)
          · rfl
        rw [e0] at hget
        simp only [getT] at hget
        rw [decide_eq_false hr] at HT
        have HN : Hid (-1 ≤ i ∧ i ≤ (n : Int)) := ⟨hi0, hin⟩
        clear hr hrd hbr e0
        go_wp2_with fail
        refine hget.mono ?_
        rintro e w2 ⟨rfl, hb2⟩
        have hbw : Below w.heap.size w w2 := HB.out.trans (hb2.mono HB.out.size)
        have HBW : Hid (Below w.heap.size w w2) := hbw
        have ht := HT.out w2 hbw
        clear hget hb2 hbw c0 c1
        go_wp2_with fail
        refine ht.mono ?_
        rintro e w3 ⟨rfl, rfl⟩
        go_wp2_with fail
        go_roundw
        case rel => exact ⟨i + 1, by omega, by omega, by go_num, HBW.out⟩
        case measure => simp [intOf]; omega
    · have l1 := oi_len (H1.out wr hbr) hn
      have l2 := rf_len (H2.out wr hbr) hn
      have HB : Hid (Below w.heap.size w wr) := hbr
      clear hrd hbr c1
      go_wp2_with fail
      refine l1.mono ?_
      rintro e w2 ⟨rfl, rfl⟩
      go_wp2_with fail
      refine l2.mono ?_
      rintro e w3 ⟨rfl, rfl⟩
      go_wp2_with fail
      go_ret
      exact ⟨by simp, HB.out⟩
end Go.Proofs.Ytfkfbpkhdneeeaa
