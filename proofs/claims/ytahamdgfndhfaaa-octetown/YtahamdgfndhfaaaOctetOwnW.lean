/-
  The walk of the law OctetOwn.
-/
import Derived.Test.YtahamdgfndhfaaaOctetAwake
namespace Go.Proofs.Ytahamdgfndhfaaa
open Go.RowKit

/-- A whole block of numbers. -/
def Blk (k : IntKind) (e : TypeId) (w : World) (g : Nat) (xs : List Int) : Prop := w.heap[g]? = some (.cells (xs.map (Value.int k)).toArray e (0, 0))
/-- So many zeros. -/
def zeros (n : Nat) : List Int := List.replicate n 0
theorem zeros_at (n j : Nat) : (zeros n)[j]?.getD 0 = 0 := by
  unfold zeros
  rw [List.getElem?_replicate]
  split <;> rfl
/-- 'make([]T, 0, n)': the new row, written out. -/
theorem wpList_make_zero {P : Program} (w : World) {ops : Array Oper} {rest : List Oper} {o : Oper} {a : Act} {Q : Exit → Act → World → Prop}
    (hg : o.guard = none) (l c : Operand) (t : TypeId) (hop : o.op = Op.makeSlice t l c) (k : IntKind) (e : TypeId) (i : TypeInfo) (h1 : P.underlying t = some (.slice e)) (h2 : P.info? e = some i) (h3 : i.zero = some (.int k 0)) (h4 : i.size = 1)
    (kl kc : IntKind) (C : Int) (n : Nat) (hl : a.eval l = .int kl 0) (hc : a.eval c = .int kc C) (hC : C = (n : Int)) (b2 : i.bytes * n ≤ 281474976710656) (b3 : n ≤ 9223372036854775807)
    (hK : ∀ w', Blk k e w' w.heap.size (zeros n) → w'.heap.size = w.heap.size + 1 → w.grownBy w' none → wpList P ops Q rest (a.put o.dst (.slice (some ⟨w.heap.size, 0, none⟩) 0 n)) w') :
    wpList P ops Q (o :: rest) a w := by
  refine wpList_plain hg fun K hK' => ?_
  have hb' : (i.bytes : Int) * (n : Int) ≤ 281474976710656 := by
    have h : ((i.bytes * n : Nat) : Int) ≤ 281474976710656 := by omega
    rwa [Int.natCast_mul] at h
  have hr := run_make (P := P) w t e i (.int k 0) h1 h2 h3 kl kc 0 n (Int.le_refl _) (by omega) hb' (by omega)
  simp only [Int.toNat_zero, Int.toNat_natCast, h4, Nat.mul_one] at hr
  have e2 : madeCells (Value.int k 0).cells n = ((List.replicate n (0 : Int)).map (Value.int k)).toArray := by
    apply Array.ext'
    rw [← made_zeros]; rfl
  rw [e2] at hr
  subst hC
  unfold Oper.wp
  simp only [execOp, hop, hl, hc, Sem.run_bind, Sem.run_pure, Result.andThen_ok, hr]
  exact hK' _ _ (hK _ (heap_alloc_new w _) (by simp) (World.grownBy_alloc w _ none))

/-- 'append(s, x...)', s empty at the head of a row of zeros with room for x. -/
theorem wpList_append_zeros {P : Program} (w : World) {ops : Array Oper} {rest : List Oper} {o : Oper} {a : Act} {Q : Exit → Act → World → Prop}
    (hgd : o.guard = none) (s x : Operand) (t : TypeId) (ho : o.op = Op.call { callee := Callee.builtin Builtin.append, args := #[s, x], argTypes := #[t, t] })
    (k : IntKind) (e : TypeId) (i : TypeInfo) (h1 : P.underlying t = some (.slice e)) (h2 : P.info? e = some i) (h4 : i.size = 1)
    (g n : Nat) (hn : n ≤ maxLen) (hs : a.eval s = .slice (some ⟨g, 0, none⟩) 0 n) (hgg : Blk k e w g (zeros n))
    (ao : Option Addr) (m c : Nat) (ys : List Int) (hx : a.eval x = .slice ao m c) (hm : m = ys.length) (hsrc : RowAt k w ao c ys) (hroom : ys.length ≤ n)
    (h : ∀ w', Blk k e w' g (ys ++ zeros (n - ys.length)) → w.grownBy w' (some g) → wpList P ops Q rest (a.put o.dst (.slice (some ⟨g, 0, none⟩) ys.length n)) w') : wpList P ops Q (o :: rest) a w := by
  subst hm
  cases ao with
  | none =>
    obtain ⟨h0, rfl⟩ := hsrc.empty rfl
    obtain rfl := List.eq_nil_of_length_eq_zero h0
    refine wpList_append_own_none hgd s x t ho g e i 1 h1 h2 _ 0 [] hs ⟨rfl, .inr ⟨g, n, _, rfl, Nat.le_refl _, hgg, Nat.zero_le _, hn, by simp [zeros], by simp⟩⟩ hx (h w hgg (World.grownBy.refl _ _))
  | some ad =>
    refine wpList_plain hgd fun K hK' => ?_
    have hr := run_append_room (P := P) w t o.type e i h1 h2 g 0 n _ hgg ad ys.length c (ys.map (Value.int k)) (by rw [h4]; simp) (hsrc.cells ad rfl) (ints_oneCell _ _) (by omega) (by simp [zeros]; omega)
    have e2 : (List.take (0 * i.size) ((zeros n).map (Value.int k)).toArray.toList ++ ys.map (Value.int k) ++ List.drop (0 * i.size + (ys.map (Value.int k)).length) ((zeros n).map (Value.int k)).toArray.toList) = (ys ++ zeros (n - ys.length)).map (Value.int k) := by
      simp [zeros]
    rw [e2, Nat.zero_add] at hr
    unfold Oper.wp
    simp only [execOp, ho, resolve, invoke, builtin, Sem.run_bind, Sem.run_pure, Result.andThen_ok, List.map_toArray, List.map_cons, List.map_nil, hs, hx, hr]
    exact hK' _ _ (h _ (setRow_heap w g _ _ e _ hgg) ⟨rfl, rfl, rfl, by simp, fun k _ hk => setRow_other w g k _ (fun e => hk (by simp [e]))⟩)

theorem Blk.below {k : IntKind} {e : TypeId} {w w' : World} {g B : Nat} {xs : List Int} (h : Blk k e w g xs) (hb : Below B w w') (hg : g < B) : Blk k e w' g xs := (hb.block g hg).trans h
theorem Blk.lt {k : IntKind} {e : TypeId} {w : World} {g : Nat} {xs : List Int} (h : Blk k e w g xs) : g < w.heap.size := (Array.getElem?_eq_some_iff.1 h).1
theorem Blk.cell {k : IntKind} {e : TypeId} {w : World} {g : Nat} {xs : List Int} (h : Blk k e w g xs) {j : Nat} (hj : j < xs.length) : w.cell? ⟨g, j, none⟩ = some (.int k (xs[j]?.getD 0)) := by
  rw [cell_of_row w g j _ e (0, 0) h]; simp [hj]
theorem Blk.row {k : IntKind} {e : TypeId} {w : World} {g : Nat} {xs ys : List Int} (h : Blk k e w g (xs ++ ys)) {cap : Nat} (hc : xs.length ≤ cap) (hm : cap ≤ maxLen) : Row k w (.slice (some ⟨g, 0, none⟩) xs.length cap) xs :=
  ⟨_, cap, rfl, hc, hm, (fun h => by cases h), fun _ => ⟨g, 0, rfl, fun i hi => by
    rw [Nat.zero_add, h.cell (by simp; omega), List.getElem?_append_left hi]⟩⟩

set_option maxHeartbeats 1000000 in
theorem own_walk (v : Value) (zs : List Int) (n x : Int) (w : World) (hrow : Row .u8 w v zs) (hn0 : 0 ≤ n) (hn1 : n ≤ 255) (hx0 : 0 ≤ x) (hx1 : x ≤ 18446744073709551615) :
    Calls Try.prog 7 #[v, .int .u8 n, .int .u64 x] w fun e w' => e = .returned (.bool true) ∧ Below w.heap.size w w' := by
  obtain ⟨a, cap, rfl, hat⟩ := hrow
  obtain ⟨i0, hi, hz0, hz1, hz2⟩ := info_parts info8
  have HA : Hid (RowAt .u8 w a cap zs) := hat
  have hcap := hat.1
  have hcm := hat.2.1
  unfold maxLen at hcm
  clear hat
  by_cases h300 : 300 < zs.length
  · go_enter Try.func7, Try.ntmps7
    go_wp2_with fail
    refine (awake_any _).mono ?_
    rintro e w1 ⟨rfl, hb1⟩
    go_wp2_with fail
    go_ret
    exact ⟨rfl, hb1⟩
  obtain ⟨N, hN⟩ := Int.eq_ofNat_of_zero_le (show 0 ≤ n % 9 by omega)
  have hN8 : N ≤ 8 := by omega
  go_enter Try.func7, Try.ntmps7
  go_wp2_with fail
  refine (awake_any _).mono ?_
  rintro e w1 ⟨rfl, hb1⟩
  have hs1 := hb1.size
  have HA1 : Hid (RowAt .u8 w1 a cap zs) := HA.out.below hb1
  go_wp2_with (at_make; refine wpList_make_zero _ rfl _ _ 22 rfl .u8 5 i0 Try.underlying22 hi hz0 hz1 _ _ _ (zs.length + 16) rfl rfl (by omega) (by rw [hz2]; omega) (by omega) ?_)
  intro w2 hg0 hsz2 hgrow2
  have hb2 : Below w.heap.size w w2 := hb1.grown hgrow2 hs1 (fun k h => by cases h)
  have hb12 : Below w1.heap.size w1 w2 := (Below.refl _ _).grown hgrow2 (Nat.le_refl _) (fun k h => by cases h)
  have HA2 : Hid (RowAt .u8 w2 a cap zs) := HA1.out.below hb12
  have HG0 : Hid _ := hg0
  have HS2 : Hid _ := hsz2
  clear hg0 hsz2 hgrow2
  go_wp2_with (at_builtin; refine wpList_append_zeros _ rfl _ _ 22 rfl .u8 5 i0 Try.underlying22 hi hz1 w1.heap.size (zs.length + 16) (by unfold maxLen; omega) rfl HG0.out a zs.length cap zs rfl rfl HA2.out (by omega) ?_)
  intro w3 hg3 hgrow3
  have HG3 : Hid (Blk .u8 5 w3 w1.heap.size (zs ++ zeros 16)) := by first | exact hg3 | simpa using hg3
  have hb3 : Below w.heap.size w w3 := hb2.grown hgrow3 hb2.size (fun k h => by cases h; exact hs1)
  have hs3 := hb3.size
  clear hg3 hgrow3
  go_wp2_with fail
  refine (put_any _ zs (N : Int) x _ (HG3.out.row (by omega) (by unfold maxLen; omega)) (by omega) hx0 hx1).mono ?_
  rintro e w4 ⟨r4, rfl, ho4, hb4⟩
  have hb4' : Below w.heap.size w w4 := hb3.trans (hb4.mono hs3)
  have hlow : (zs ++ OM.low N x).length = zs.length + N := by rw [List.length_append, OM.low, OM.lowN_length, OM.wide_of hN8]
  obtain ⟨ao4, c4, rfl, hat4⟩ := ho4.at
  have hc4 := hat4.1
  have hm4 := hat4.2.1
  unfold maxLen at hm4
  rw [hlow] at hc4
  have HL4 : Hid ((zs ++ OM.low N x).length = zs.length + N) := hlow
  have HO4 : Hid (Own .u8 5 w4 w3.heap.size (.slice ao4 (zs.length + N) c4) (zs ++ OM.low N x)) := by
    show Own _ _ _ _ _ _
    have := ho4
    rwa [hlow] at this
  rw [hlow]
  have hlt1 := HG3.out.lt
  clear ho4 hat4 hlow
  go_wp2_with fail
  go_loopw [9] (fun i wr => ∃ (k : Nat) (ys : List Int), k ≤ zs.length + N ∧ i = .int .i64 k ∧ Hid (zs.length + N = ys.length) ∧ Hid (Own .u8 5 wr w3.heap.size (.slice ao4 (zs.length + N) c4) ys) ∧ Below w3.heap.size w3 wr) (fun i _ => zs.length + N - (intOf i).toNat)
  case atStart => exact ⟨0, zs ++ OM.low N x, Nat.zero_le _, rfl, HL4.out.symm, HO4, hb4⟩
  case round =>
    obtain ⟨k, ys, hk, rfl, HY, HO, hbr⟩ := hrel
    by_cases hlt : k < zs.length + N
    · obtain ⟨g, rfl⟩ : ∃ g, ao4 = some ⟨g, 0, none⟩ := by
        rcases HO.out.shape with ⟨h, _⟩ | ⟨g, c, h, _, _⟩
        · simp at h; omega
        · simp at h; exact ⟨g, h.1⟩
      have hcf := Own.cell HY.out HO.out k hlt
      have hc := hcf.1
      have hf := hcf.2
      have hgb : w3.heap.size ≤ g := HO.out.block g rfl
      generalize ys[k]?.getD 0 = q at *
      clear hcf
      go_wp2_with fail
      go_roundw
      case rel =>
        refine ⟨k + 1, ys.set k _, by omega, by go_num, by show _ = _; rw [List.length_set]; exact HY.out, (Own.stored HY.out HO.out k _).1, hbr.setCell hgb _⟩
      case measure => simp [intOf]; omega
    · have HGr : Hid (Blk .u8 5 wr w1.heap.size (zs ++ zeros 16)) := HG3.out.below hbr hlt1
      have hbw : Below w.heap.size w wr := hb3.trans (hbr.mono hs3)
      have HAr : Hid (RowAt .u8 wr a cap zs) := HA.out.below hbw
      go_wp2_with fail
      go_loop [11] (fun i => ∃ k : Nat, zs.length ≤ k ∧ k ≤ zs.length + 8 ∧ i = .int .i64 k) (fun i => zs.length + 8 - (intOf i).toNat)
      case atStart => exact ⟨zs.length, Nat.le_refl _, by omega, rfl⟩
      case round =>
        obtain ⟨j, hj0, hj1, rfl⟩ := hrel
        by_cases hlj : j < zs.length + 8
        · have hcz : wr.cell? ⟨w1.heap.size, j, none⟩ = some (.int .u8 0) := by
            rw [HGr.out.cell (by simp [zeros]; omega), List.getElem?_append_right hj0, zeros_at]
          go_wp2_with fail
          go_round
          case rel => exact ⟨j + 1, by omega, by omega, by go_num⟩
          case measure => simp [intOf]; omega
        · have c1 := (HGr.out.row (cap := zs.length + 16) (by omega) (by unfold maxLen; omega)).string 22 5 9 Try.underlying22 Try.underlying5 Try.underlying9
          have c2 := Row.string (v := .slice a zs.length cap) ⟨a, cap, rfl, HAr.out⟩ 22 5 9 Try.underlying22 Try.underlying5 Try.underlying9
          go_wp2_with fail
          go_ret
          exact ⟨rfl, hbw⟩
end Go.Proofs.Ytahamdgfndhfaaa
