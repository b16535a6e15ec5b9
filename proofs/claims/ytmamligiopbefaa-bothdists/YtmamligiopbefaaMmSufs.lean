/-
  NearDst, NearPick, NearBackw, NearSuf, NearRev.
-/
import Derived.Test.YtmamligiopbefaaMmSearches
import Derived.Test.YtmamligiopbefaaMmNearAll
import Derived.Test.YtmamligiopbefaaMmNearWays
import Derived.Test.YtmamligiopbefaaMmRanges
import Derived.Test.YtmamligiopbefaaMmFwds
import Derived.Test.YtmamligiopbefaaMmBase
import Derived.Test.YtmamligiopbefaaMmMem
import Derived.Deep.LoopGhost
import Derived.TacticsInMore
section
/-
  How far it is, as a function; the rows of it that the program and the document tell.
-/
namespace Go.Proofs.Ytmamligiopbefaa
open Go.RowKit
namespace NM
theorem dst_ex (m : GM.M) (u b : Int) : ∃ x, Dst m u b x := by
  have hex : ∃ n : Nat, (n : Int) = 4611686018427387906 ∨ ∃ ids, Wk m u b ids ∧ csum m ids = (n : Int) := ⟨4611686018427387906, .inl rfl⟩
  obtain ⟨n, h1, h2⟩ := exists_least hex
  have hn : (n : Int) ≤ 4611686018427387906 := by
    have := h2 4611686018427387906 (.inl rfl)
    omega
  refine ⟨n, by omega, hn, fun ids hw => ?_, h1⟩
  have b1 := csum_bd m ids
  have := h2 (csum m ids).toNat (.inr ⟨ids, hw, by omega⟩)
  omega
/-- How far it is. -/
noncomputable def dist (m : GM.M) (u b : Int) : Int := (dst_ex m u b).choose
theorem dist_dst (m : GM.M) (u b : Int) : Dst m u b (dist m u b) := (dst_ex m u b).choose_spec
theorem dist_eq {m : GM.M} {u b x : Int} (h : Dst m u b x) : dist m u b = x := (dist_dst m u b).unique h
theorem dist_bd (m : GM.M) (u b : Int) : 0 ≤ dist m u b ∧ dist m u b ≤ 4611686018427387906 := ⟨(dist_dst m u b).lo, (dist_dst m u b).hi⟩
/-- A row by vertices. -/
noncomputable def rowFrom (m : GM.M) (N : Nat) (s : Int) : List Int := (List.range N).map (fun v : Nat => dist m s v)
noncomputable def rowTo (m : GM.M) (N : Nat) (t : Int) : List Int := (List.range N).map (fun v : Nat => dist m v t)
theorem rowFrom_len (m : GM.M) (N : Nat) (s : Int) : (rowFrom m N s).length = N := by simp [rowFrom]
theorem rowTo_len (m : GM.M) (N : Nat) (s : Int) : (rowTo m N s).length = N := by simp [rowTo]
theorem rowFrom_at (m : GM.M) {N v : Nat} (s : Int) (h : v < N) : (rowFrom m N s)[v]?.getD 0 = dist m s v := by
  unfold rowFrom
  rw [List.getElem?_map, List.getElem?_range h]
  rfl
theorem rowTo_at (m : GM.M) {N v : Nat} (s : Int) (h : v < N) : (rowTo m N s)[v]?.getD 0 = dist m v s := by
  unfold rowTo
  rw [List.getElem?_map, List.getElem?_range h]
  rfl
end NM
theorem farL_from {m : GM.M} {N : Nat} {s : Int} {far : Nat → Int} (h : ∀ v : Nat, v < N → NM.Dst m s v (far v)) : farL N far = NM.rowFrom m N s :=
  List.map_congr_left (fun v hv => (NM.dist_eq (h v (List.mem_range.1 hv))).symm)
theorem farL_to {m : GM.M} {N : Nat} {s : Int} {far : Nat → Int} (h : ∀ v : Nat, v < N → NM.Dst m v s (far v)) : farL N far = NM.rowTo m N s :=
  List.map_congr_left (fun v hv => (NM.dist_eq (h v (List.mem_range.1 hv))).symm)
theorem from_any {w : World} {gp N most : Nat} {m : GM.M} (hg : GMem w gp N most m) (hm : GM.Good most m) (hN : N ≤ 24) (hi : WK.Inn N m) (s : Nat) (hs : s < N) :
    Calls Try.prog 15 #[.pointer (some ⟨gp, 0, none⟩), .int .i64 s] w fun e w' => ∃ fb, e = .returned (.tuple #[.slice (some ⟨fb, 0, none⟩) N N, .int .i64 0]) ∧
      Own .i64 3 w' w.heap.size (.slice (some ⟨fb, 0, none⟩) N N) (NM.rowFrom m N s) ∧ Below w.heap.size w w' := by
  refine (from_ok hg hm hN hi s hs).mono ?_
  rintro e w' ⟨fb, rfl, far, h1, h2, h3⟩
  exact ⟨fb, rfl, by rw [← farL_from h2]; exact h1, h3⟩
theorem all_any10 {w : World} {q N most : Nat} {m : GM.M} (hg : RMem w q N most m) (hm : GM.Good most m) (hN : N ≤ 24) (hin : WK.Inn N m) :
    Calls Try.prog 8 #[.pointer (some ⟨q, 0, none⟩)] w fun e w' => ∃ D : Nat → Nat → Int, e = .returned (.agg (tabCells D).toArray) ∧ (∀ a b : Nat, a < N → b < N → D a b = NM.dist m a b) ∧ Below w.heap.size w w' := by
  refine (all_tab hg hm hN hin).mono ?_
  rintro e w' ⟨D, rfl, h1, h2⟩
  exact ⟨D, rfl, fun a b ha hb => (NM.dist_eq (h1 a b ha hb)).symm, h2⟩
end Go.Proofs.Ytmamligiopbefaa
end

section
/-
  The tree's arcs, picked out of lists from their ends on. Nothing of the program.
-/
namespace Go.Proofs.Ytmamligiopbefaa
namespace NM
/-- An arc into v that would do. -/
def doing (m : GM.M) (F : Int → Int) (v : Int) (i : Nat) : Bool := !(GM.arc m i).closed && decide (DM.two (F (GM.arc m i).tail) (GM.arc m i).weight = F v)
def firstOr (p : Nat → Bool) (l : List Nat) : Int := match l.find? p with
  | some i => (i : Int)
  | none => -1
theorem firstOr_nil (p : Nat → Bool) : firstOr p [] = -1 := rfl
theorem firstOr_cons (p : Nat → Bool) (i : Nat) (l : List Nat) : firstOr p (i :: l) = if p i = true then (i : Int) else firstOr p l := by
  unfold firstOr
  rw [List.find?_cons]
  cases p i <;> rfl
theorem pick_ends (m : GM.M) (F : Int → Int) (v : Int) : pick m F v = firstOr (doing m F v) (GM.ends m v true) := by
  have e : (GM.ends m v true).find? (doing m F v) = (GM.ids m 64).find? (fits m F v) := by
    unfold GM.ends
    rw [List.find?_filter]
    congr 1
    funext i
    unfold doing fits GM.end1
    cases (GM.arc m i).closed <;> simp
  unfold pick firstOr
  rw [e]
  cases List.find? (fits m F v) (GM.ids m 64) <;> rfl
/-- The tree's row. -/
noncomputable def rowTree (m : GM.M) (N : Nat) (s : Int) : List Int := (List.range N).map (fun v : Nat => tree m (dist m s) s v)
theorem rowTree_len (m : GM.M) (N : Nat) (s : Int) : (rowTree m N s).length = N := by simp [rowTree]
theorem rowTree_at (m : GM.M) {N v : Nat} (s : Int) (h : v < N) : (rowTree m N s)[v]?.getD 0 = tree m (dist m s) s v := by
  unfold rowTree
  rw [List.getElem?_map, List.getElem?_range h]
  rfl
/-- What is picked of the arcs from place k on. -/
noncomputable def treeAt (m : GM.M) (s v : Int) (k : Nat) : Int := if v ≠ s ∧ dist m s v ≤ 4611686018427387904 then firstOr (doing m (dist m s) v) ((GM.ends m v true).drop k) else -1
theorem treeAt_end (m : GM.M) (s v : Int) : treeAt m s v (GM.ends m v true).length = -1 := by
  unfold treeAt
  rw [List.drop_length, firstOr_nil]
  split <;> rfl
theorem treeAt_zero (m : GM.M) (s v : Int) : treeAt m s v 0 = tree m (dist m s) s v := by
  unfold treeAt tree
  rw [List.drop_zero, pick_ends]
theorem treeAt_step (m : GM.M) (s v : Int) {k : Nat} (h : k < (GM.ends m v true).length) : treeAt m s v k = if (v ≠ s ∧ dist m s v ≤ 4611686018427387904) ∧ doing m (dist m s) v ((GM.ends m v true)[k]?.getD 0) = true then (((GM.ends m v true)[k]?.getD 0 : Nat) : Int) else treeAt m s v (k + 1) := by
  unfold treeAt
  rw [List.drop_eq_getElem_cons h, firstOr_cons, List.getElem?_eq_getElem h, Option.getD_some]
  by_cases h1 : v ≠ s ∧ dist m s v ≤ 4611686018427387904
  · rw [if_pos h1, if_pos h1]
    by_cases h2 : doing m (dist m s) v (GM.ends m v true)[k] = true
    · rw [if_pos h2, if_pos ⟨h1, h2⟩]
    · rw [if_neg h2, if_neg (fun h => h2 h.2)]
  · rw [if_neg h1, if_neg h1, if_neg (fun h => h1 h.1)]
end NM
end Go.Proofs.Ytmamligiopbefaa
end

section
/-
  slices.Backward, gone through.
-/
namespace Go.Proofs.Ytmamligiopbefaa
open Go.RowKit Go.Shelf
attribute [local go_sem] Oper.semAt_some

set_option maxHeartbeats 400000 in
theorem backward_any (ao : Option Addr) (n c : Nat) (w : World) :
    Calls Try.prog 59 #[.slice ao n c] w fun e w' => ∃ b, e = .returned (.func (.func 88) #[] #[.pointer (some ⟨b, 0, none⟩)]) ∧ b = w.heap.size ∧ Boxed w' b 41 (.slice ao n c) ∧ Below w.heap.size w w' ∧ w'.heap.size = b + 1 := by
  go_enter Try.func59, Try.ntmps59
  go_wp2_with fail
  go_ret
  exact ⟨_, rfl, rfl, Boxed.new w _ _, (Below.refl _ _).alloc (Nat.le_refl _) _, by simp⟩
/-- A list from its end on, each number with its place. -/
def backL (zs : List Int) : List (Int × Int) := (List.range zs.length).map (fun k : Nat => (((zs.length - 1 - k : Nat) : Int), zs[zs.length - 1 - k]?.getD 0))
theorem backL_len (zs : List Int) : (backL zs).length = zs.length := by simp [backL]
theorem backL_snoc (zs : List Int) {k : Nat} (h : k < zs.length) : (backL zs).take (k + 1) = (backL zs).take k ++ [(((zs.length - 1 - k : Nat) : Int), zs[zs.length - 1 - k]?.getD 0)] := by
  have e : (backL zs)[k]? = some (((zs.length - 1 - k : Nat) : Int), zs[zs.length - 1 - k]?.getD 0) := by
    unfold backL
    rw [List.getElem?_map, List.getElem?_range h]
    rfl
  rw [List.take_add_one, e]
  rfl
structure BackR (bs : Nat) (v : Value) (zs : List Int) (A : World) : Prop where
  ci : A.cell? ⟨bs, 0, none⟩ = some v
  row : Row .i64 A v zs
set_option maxRecDepth 100000 in
set_option maxHeartbeats 2000000 in
theorem backward_goesP (n : Nat) (_hn : 1 ≤ n) (bs : Nat) (v : Value) (zs : List Int) :
    GoesP n Try.prog 88 #[.pointer (some ⟨bs, 0, none⟩)] twoNum (backL zs) (BackR bs v zs) := by
  intro l J Jx X W hR hJ hJx hY h0 hXW
  obtain ⟨ci, row⟩ := hR _ _ _ h0
  obtain ⟨ao, cap, rfl, hat⟩ := row
  have hml : zs.length ≤ 9223372036854775807 := by have := hat.1; have := hat.2.1; unfold maxLen at this; omega
  have hcap := hat.1
  have HJ : Hid (∀ s A A', J s X A → Below A.heap.size A A' → J s X A') := fun s A A' h hb => hJ _ _ _ _ _ h (Below.keeps hb _) (fun b hb => .inl hb)
  have HR : Hid (∀ s A, J s X A → BackR bs (.slice ao zs.length cap) zs A) := fun s A h => hR s X A h
  have HY : Hid (∀ pre x W1, J pre X W1 → pre ++ [x] <+: backL zs → (∀ b, X b → b < W1.heap.size) → YieldAt Fence.wide (n - 1) Try.prog l (twoNum x) W1 fun e W' => (e = .returned (.bool true) ∧ J (pre ++ [x]) X W' ∧ Rest X W1 W') ∨ (e = .returned (.bool false) ∧ Jx (pre ++ [x]) X W' ∧ Rest X W1 W')) := fun pre x W1 => hY pre x X W1
  have H0 : Hid (J [] X W) := h0
  have HX : Hid (∀ b, X b → b < W.heap.size) := hXW
  have HBS : Hid (∀ k, k < zs.length → (backL zs).take (k + 1) = (backL zs).take k ++ [(((zs.length - 1 - k : Nat) : Int), zs[zs.length - 1 - k]?.getD 0)]) := fun k hk => backL_snoc zs hk
  have HBL : Hid ((backL zs).take zs.length = backL zs) := List.take_of_length_le (by rw [backL_len]; exact Nat.le_refl _)
  clear hJ hJx hR hY h0 hXW hat
  obtain ⟨L, hL⟩ : ∃ L, L = zs.length := ⟨_, rfl⟩
  have HL : Hid (L = zs.length) := hL
  rw [← hL] at hml hcap ci HBS HBL
  clear hL
  refine callsIn_of_wp Try.func88 rfl trivial ?_ rfl
  simp only [Try.ntmps88, List.size_toArray, List.length_cons, List.length_nil, Nat.reduceAdd, Nat.reduceSub, Array.replicate_succ, Array.replicate_zero, List.push_toArray, List.append_toArray, List.nil_append, List.cons_append]
  gi_wp2_with fail
  gi_loopw [3] (fun iv wr => ∃ (k : Nat) (j : Int), k ≤ L ∧ j = (L : Int) - 1 - (k : Int) ∧ iv = .int .i64 j ∧ J ((backL zs).take k) X wr ∧ W.heap.size ≤ wr.heap.size) (fun iv _ => (intOf iv + 1).toNat)
  case atStart => exact ⟨0, (L : Int) - 1, Nat.zero_le _, by omega, rfl, H0.out, Nat.le_refl _⟩
  case round =>
    obtain ⟨k, j, hk, hj, rfl, hJs, hsr⟩ := hrel
    by_cases hlt : k < L
    · obtain ⟨hci, hrow⟩ := HR.out _ _ hJs
      obtain ⟨ao', cap', er, hat⟩ := hrow
      injection er with er1 er2 er3
      subst er1
      subst er3
      clear er2
      obtain ⟨p, rfl⟩ : ∃ p : Nat, j = p := ⟨j.toNat, by omega⟩
      have hp : p = L - 1 - k := by omega
      have hz : p < zs.length := by have := HL.out; omega
      obtain ⟨b, o, rfl, hc⟩ := hat.2.2.2 (by omega)
      have hck := hc p hz
      rw [← HL.out] at hci
      have HJS : Hid (J ((backL zs).take k) X wr) := hJs
      have hsn := HBS.out k hlt
      rw [← hp] at hsn
      have HPR : Hid ((backL zs).take (k + 1) <+: backL zs) := List.take_prefix _ _
      generalize zs[p]?.getD 0 = z at *
      have pL : (p : Int) < (L : Int) := by omega
      have HSN : Hid ((backL zs).take (k + 1) = (backL zs).take k ++ [((p : Int), z)]) := hsn
      have HKP : Hid (p = L - 1 - k) := hp
      obtain ⟨fn, tmps, assign, body, hy, hRd⟩ := HY.out _ ((p : Int), z) wr hJs (by have := HPR.out; rw [HSN.out] at this; exact this) (fun b hb => Nat.lt_of_lt_of_le (HX.out b hb) hsr)
      dsimp only [twoNum] at hy
      have p0 : (0 : Int) ≤ (p : Int) := by omega
      clear hat hc hsn hp hz hJs
      have HJJ : Hid ((p : Int) = (L : Int) - 1 - (k : Int)) := hj
      clear hj
      gi_wp2_with fail
      refine hRd.mono ?_
      rintro e W4 (⟨rfl, hJ4, hk4⟩ | ⟨rfl, hJx4, -⟩)
      · have hs4 : W.heap.size ≤ W4.heap.size := Nat.le_trans hsr hk4.size
        have HJ4 : Hid (J ((backL zs).take (k + 1)) X W4) := by
          show J _ X W4
          rw [HSN.out]
          exact hJ4
        clear hJ4 hk4 hy hRd hck hci
        gi_wp2_with fail
        go_roundw
        case rel => exact ⟨k + 1, (p : Int) - 1, by omega, by have := HJJ.out; omega, rfl, HJ4.out, hs4⟩
        case measure => simp [intOf]
      · have HJ4 : Hid (Jx ((backL zs).take (k + 1)) X W4) := by
          show Jx _ X W4
          rw [HSN.out]
          exact hJx4
        clear hJx4 hy hRd hck hci
        gi_wp2_with fail
        (try simp only [Exit.inBlock, Exit.then]); refine bodyPost_ret (results_none rfl _ _ _) rfl ?_
        exact ⟨⟨_, rfl⟩, .inr ⟨_, HPR.out, HJ4.out⟩⟩
    · obtain rfl : k = L := by omega
      have hjn : j < 0 := by omega
      have HJS : Hid (J (backL zs) X wr) := by
        show J _ X wr
        have := hJs
        rw [HBL.out] at this
        exact this
      clear hJs hlt hk hj
      gi_wp2_with fail
      go_end0
      exact ⟨⟨_, rfl⟩, .inl HJS.out⟩
end Go.Proofs.Ytmamligiopbefaa
end

section
/-
  The tree's row over the arcs from their last place down. Nothing of the program.
-/
namespace Go.Proofs.Ytmamligiopbefaa
namespace NM
noncomputable def sufT (m : GM.M) (s v : Int) (q : List Nat) : Int := if v ≠ s ∧ dist m s v ≤ 4611686018427387904 then firstOr (fits m (dist m s) v) q else -1
noncomputable def rowSuf (m : GM.M) (N : Nat) (s : Int) (q : List Nat) : List Int := (List.range N).map (fun v : Nat => sufT m s v q)
theorem rowSuf_len (m : GM.M) (N : Nat) (s : Int) (q : List Nat) : (rowSuf m N s q).length = N := by simp [rowSuf]
theorem rowSuf_nil (m : GM.M) (N : Nat) (s : Int) : rowSuf m N s [] = List.replicate N (-1) := by
  unfold rowSuf
  refine List.ext_getElem? fun k => ?_
  by_cases hk : k < N
  · rw [List.getElem?_map, List.getElem?_range hk, List.getElem?_replicate, if_pos hk]
    show some (sufT m s k []) = _
    unfold sufT firstOr
    split <;> rfl
  · rw [List.getElem?_eq_none (by simp; omega), List.getElem?_eq_none (by simp; omega)]
theorem rowSuf_all (m : GM.M) (N : Nat) (s : Int) : rowSuf m N s (GM.ids m 64) = rowTree m N s := by
  unfold rowSuf rowTree sufT tree pick firstOr
  generalize GM.ids m 64 = q
  rfl
theorem two_pos (a : Int) {b : Int} (h1 : 1 ≤ b) (h2 : b ≤ 4611686018427387904) : 1 ≤ DM.two a b := by
  unfold DM.two DM.norm
  repeat' split
  all_goals omega
theorem sufT_cons (m : GM.M) (s v : Int) (i : Nat) (q : List Nat) : sufT m s v (i :: q) = if (v ≠ s ∧ dist m s v ≤ 4611686018427387904) ∧ fits m (dist m s) v i = true then (i : Int) else sufT m s v q := by
  unfold sufT
  rw [firstOr_cons]
  by_cases h1 : v ≠ s ∧ dist m s v ≤ 4611686018427387904
  · rw [if_pos h1, if_pos h1]
    by_cases h2 : fits m (dist m s) v i = true
    · rw [if_pos h2, if_pos ⟨h1, h2⟩]
    · rw [if_neg h2, if_neg (fun h => h2 h.2)]
  · rw [if_neg h1, if_neg h1, if_neg (fun h => h1 h.1)]
theorem fits_iff (m : GM.M) (F : Int → Int) (v : Int) (i : Nat) : fits m F v i = true ↔ (GM.arc m i).closed = false ∧ (GM.arc m i).head = v ∧ DM.two (F (GM.arc m i).tail) (GM.arc m i).weight = F v := by
  unfold fits
  rw [Bool.and_eq_true, Bool.and_eq_true, Bool.not_eq_true', decide_eq_true_iff, decide_eq_true_iff, and_assoc]
/-- An arc that would do for the vertex that it leads to. -/
def does (m : GM.M) (F : Int → Int) (i : Nat) : Prop := ((GM.arc m i).closed = false ∧ F (GM.arc m i).head ≤ 4611686018427387904) ∧ DM.two (F (GM.arc m i).tail) (GM.arc m i).weight = F (GM.arc m i).head
theorem suf_no {m : GM.M} {s v : Int} {i : Nat} {q : List Nat} (h : ¬ does m (dist m s) i) : sufT m s v (i :: q) = sufT m s v q := by
  rw [sufT_cons, if_neg]
  rintro ⟨⟨h1, h2⟩, h3⟩
  obtain ⟨f1, f2, f3⟩ := (fits_iff m _ _ _).1 h3
  subst f2
  exact h ⟨⟨f1, h2⟩, f3⟩
theorem suf_yes {most : Nat} {m : GM.M} (hm : GM.Good most m) {s : Int} {i : Nat} (hi : GM.is m i = true) {q : List Nat} (h : does m (dist m s) i) : sufT m s (GM.arc m i).head (i :: q) = i := by
  have hw := of_decide_eq_true (hm.ok i hi)
  have hp := two_pos (dist m s (GM.arc m i).tail) hw.1 hw.2
  have hz : dist m s s = 0 := dist_eq (Dst.self _)
  rw [sufT_cons, if_pos]
  refine ⟨⟨fun e => ?_, h.1.2⟩, (fits_iff m _ _ _).2 ⟨h.1.1, rfl, h.2⟩⟩
  have h2 := h.2
  rw [e, hz] at h2
  omega
theorem suf_other {m : GM.M} {s v : Int} {i : Nat} {q : List Nat} (h : (GM.arc m i).head ≠ v) : sufT m s v (i :: q) = sufT m s v q := by
  rw [sufT_cons, if_neg]
  rintro ⟨-, h3⟩
  exact h ((fits_iff m _ _ _).1 h3).2.1
theorem rowSuf_no {m : GM.M} {N : Nat} {s : Int} {i : Nat} {q : List Nat} (h : ¬ does m (dist m s) i) : rowSuf m N s (i :: q) = rowSuf m N s q := by
  unfold rowSuf
  exact List.map_congr_left (fun v _ => suf_no h)
theorem rowSuf_yes {most : Nat} {m : GM.M} (hm : GM.Good most m) {N : Nat} {s : Int} {i : Nat} (hi : GM.is m i = true) {q : List Nat} {e : Nat} (he : (GM.arc m i).head = e) (h : does m (dist m s) i) : rowSuf m N s (i :: q) = (rowSuf m N s q).set e i := by
  have hy := suf_yes hm hi (q := q) h
  have ho : ∀ v : Nat, e ≠ v → sufT m s v (i :: q) = sufT m s v q := fun v hv => suf_other (by rw [he]; omega)
  rw [he] at hy
  clear h hm
  unfold rowSuf
  generalize sufT m s = f at *
  refine List.ext_getElem? fun k => ?_
  by_cases hk : k < N
  · rw [List.getElem?_map, List.getElem?_range hk, List.getElem?_set, List.length_map, List.length_range, List.getElem?_map, List.getElem?_range hk]
    by_cases q1 : e = k
    · subst q1
      rw [if_pos rfl, if_pos hk]
      exact congrArg some hy
    · rw [if_neg q1]
      exact congrArg some (ho k q1)
  · rw [List.getElem?_eq_none (by simp; omega), List.getElem?_eq_none (by simp; omega)]
theorem iids_at (m : GM.M) {j : Nat} (hj : j < (GM.ids m 64).length) : (GM.iids m 64)[j]?.getD 0 = (((GM.ids m 64)[j]?.getD 0 : Nat) : Int) := by
  unfold GM.iids
  rw [List.getElem?_map, List.getElem?_eq_getElem hj]
  rfl
/-- What comes, gone through from the end. -/
theorem back_next {m : GM.M} {pre : List (Int × Int)} {x : Int × Int} (h : pre ++ [x] <+: backL (GM.iids m 64)) :
    ∃ i : Nat, x.2 = (i : Int) ∧ i < 64 ∧ GM.is m i = true ∧ (GM.ids m 64).drop ((GM.ids m 64).length - (pre ++ [x]).length) = i :: (GM.ids m 64).drop ((GM.ids m 64).length - pre.length) := by
  have hl := h.length_le
  rw [backL_len, GM.iids_len, List.length_append, List.length_singleton] at hl
  have hx : (backL (GM.iids m 64))[pre.length]? = some x := by
    obtain ⟨t, ht⟩ := h
    rw [← ht]
    simp
  unfold backL at hx
  rw [List.getElem?_map, List.getElem?_range (by rw [GM.iids_len]; omega)] at hx
  have hx2 := Option.some.inj hx
  have hj : (GM.ids m 64).length - 1 - pre.length < (GM.ids m 64).length := by omega
  have hx3 : x.2 = (((GM.ids m 64)[(GM.ids m 64).length - 1 - pre.length]?.getD 0 : Nat) : Int) := by
    rw [← hx2]
    dsimp only
    rw [GM.iids_len]
    exact iids_at m hj
  rw [List.getElem?_eq_getElem hj, Option.getD_some] at hx3
  have hmem := (GM.mem_ids m ((GM.ids m 64)[(GM.ids m 64).length - 1 - pre.length]) 64).1 (List.getElem_mem hj)
  refine ⟨_, hx3, hmem.1, hmem.2, ?_⟩
  rw [List.length_append, List.length_singleton, show (GM.ids m 64).length - (pre.length + 1) = (GM.ids m 64).length - 1 - pre.length by omega, show (GM.ids m 64).length - pre.length = (GM.ids m 64).length - 1 - pre.length + 1 by omega]
  exact List.drop_eq_getElem_cons hj
end NM
end Go.Proofs.Ytmamligiopbefaa
end

section
/-
  slices.Reverse, of a row of the call's own.
-/
namespace Go.Proofs.Ytmamligiopbefaa
open Go.RowKit

/-- The first k and the last k of a list changed over. -/
def revK (zs : List Int) (k : Nat) : List Int := (List.range zs.length).map (fun i => if i < k ∨ zs.length - 1 - k < i then zs[zs.length - 1 - i]?.getD 0 else zs[i]?.getD 0)
theorem revK_len (zs : List Int) (k : Nat) : (revK zs k).length = zs.length := by simp [revK]
theorem revK_at (zs : List Int) (k : Nat) {i : Nat} (h : i < zs.length) : (revK zs k)[i]? = some (if i < k ∨ zs.length - 1 - k < i then zs[zs.length - 1 - i]?.getD 0 else zs[i]?.getD 0) := by
  unfold revK
  rw [List.getElem?_map, List.getElem?_range h]
  rfl
theorem revK_zero (zs : List Int) : revK zs 0 = zs := by
  refine List.ext_getElem? fun i => ?_
  by_cases h : i < zs.length
  · rw [revK_at zs 0 h, if_neg (by omega), List.getElem?_eq_getElem h, Option.getD_some]
  · rw [List.getElem?_eq_none (by rw [revK_len]; omega), List.getElem?_eq_none (by omega)]
theorem revK_done (zs : List Int) {k : Nat} (hk : zs.length ≤ 2 * k + 1) : revK zs k = zs.reverse := by
  refine List.ext_getElem? fun i => ?_
  by_cases h : i < zs.length
  · rw [revK_at zs k h, List.getElem?_reverse h]
    have h' : zs.length - 1 - i < zs.length := by omega
    rw [List.getElem?_eq_getElem h']
    split
    · rfl
    · rename_i hn
      have e : zs.length - 1 - i = i := by omega
      rw [List.getElem?_eq_getElem h, Option.getD_some]
      congr 2
      exact e.symm
  · rw [List.getElem?_eq_none (by rw [revK_len]; omega), List.getElem?_eq_none (by rw [List.length_reverse]; omega)]
theorem revK_step (zs : List Int) {k : Nat} (hk : 2 * k + 1 < zs.length) : ((revK zs k).set k (zs[zs.length - 1 - k]?.getD 0)).set (zs.length - 1 - k) (zs[k]?.getD 0) = revK zs (k + 1) := by
  refine List.ext_getElem? fun i => ?_
  by_cases h : i < zs.length
  · rw [List.getElem?_set, List.length_set, revK_len, List.getElem?_set, revK_len, revK_at zs k h, revK_at zs (k + 1) h]
    by_cases e1 : zs.length - 1 - k = i
    · rw [if_pos e1, if_pos (by omega), if_pos (by omega), show zs.length - 1 - i = k by omega]
    · rw [if_neg e1]
      by_cases e2 : k = i
      · rw [if_pos e2, if_pos (by omega), if_pos (by omega), e2]
      · rw [if_neg e2]
        by_cases e3 : i < k ∨ zs.length - 1 - k < i
        · rw [if_pos e3, if_pos (by omega)]
        · rw [if_neg e3, if_neg (by omega)]
  · rw [List.getElem?_eq_none (by rw [List.length_set, List.length_set, revK_len]; omega), List.getElem?_eq_none (by rw [revK_len]; omega)]
set_option maxHeartbeats 400000 in
theorem reverse_nil (w : World) : Calls Try.prog 55 #[.slice none 0 0] w fun e w' => e = .returned (.tuple #[]) ∧ w' = w := by
  go_enter Try.func55, Try.ntmps55
  go_wp2_with fail
  go_loopw [2, 3] (fun iv jv wr => iv = .int .i64 0 ∧ jv = .int .i64 (-1) ∧ wr = w) (fun _ _ _ => 0)
  case atStart => exact ⟨rfl, rfl, rfl⟩
  case round =>
    obtain ⟨rfl, rfl, rfl⟩ := hrel
    go_wp2_with fail
    go_end0
    exact ⟨rfl, rfl⟩
set_option maxHeartbeats 4000000 in
set_option maxRecDepth 100000 in
theorem reverse_row {w : World} {B g cap : Nat} {zs : List Int} (h : Own .i64 3 w B (.slice (some ⟨g, 0, none⟩) zs.length cap) zs) (few : zs.length ≤ 64) :
    Calls Try.prog 55 #[.slice (some ⟨g, 0, none⟩) zs.length cap] w fun e w' => e = .returned (.tuple #[]) ∧ Own .i64 3 w' B (.slice (some ⟨g, 0, none⟩) zs.length cap) zs.reverse ∧ Keeps (fun b => b = g) w w' := by
  obtain ⟨n, hn⟩ : ∃ n, n = zs.length := ⟨_, rfl⟩
  have HN : Hid (n = zs.length) := hn
  have H0 : Hid (Own .i64 3 w B (.slice (some ⟨g, 0, none⟩) n cap) zs) := by rw [hn]; exact h
  rw [← hn] at few ⊢
  clear h hn
  have hbig : (n : Int) ≤ 64 := by omega
  go_enter Try.func55, Try.ntmps55
  go_wp2_with fail
  go_loopw [2, 3] (fun iv jv wr => ∃ (k : Nat) (j : Int), iv = .int .i64 k ∧ jv = .int .i64 j ∧ j = (n : Int) - 1 - (k : Int) ∧ k ≤ n ∧ Own .i64 3 wr B (.slice (some ⟨g, 0, none⟩) n cap) (revK zs k) ∧ Keeps (fun b => b = g) w wr) (fun iv _ _ => n - (intOf iv).toNat)
  case atStart => exact ⟨0, _, rfl, rfl, by simp, Nat.zero_le _, by rw [revK_zero]; exact H0.out, Keeps.refl _ _⟩
  case round =>
    obtain ⟨k, j, rfl, rfl, hj, hkn, hown, hkp⟩ := hrel
    by_cases hlt : (k : Int) < j
    · obtain ⟨p, rfl⟩ : ∃ p : Nat, j = p := ⟨j.toNat, by omega⟩
      have hkl : k < n := by omega
      have hpl : p < n := by omega
      have hp : p = zs.length - 1 - k := by have := HN.out; omega
      have HK : Hid (Keeps (fun b => b = g) w wr) := hkp
      have HLn : n = (revK zs k).length := by rw [revK_len]; exact HN.out
      obtain ⟨ck, fk⟩ := hown.cell HLn k hkl
      obtain ⟨cp, fp⟩ := hown.cell HLn p hpl
      have e1 : (revK zs k)[k]?.getD 0 = zs[k]?.getD 0 := by rw [revK_at zs k (by have := HN.out; omega), if_neg (by omega)]; rfl
      have e2 : (revK zs k)[p]?.getD 0 = zs[p]?.getD 0 := by rw [revK_at zs k (by have := HN.out; omega), if_neg (by omega)]; rfl
      rw [e1] at ck
      rw [e2] at cp
      have hst := revK_step zs (k := k) (by have := HN.out; omega)
      rw [← hp] at hst
      have hne : k ≠ p := by omega
      have hO := (hown.stored HLn k (zs[p]?.getD 0)).1
      have hO2 := (Own.stored (by rw [List.length_set]; exact HLn) hO p (zs[k]?.getD 0)).1
      rw [hst] at hO2
      generalize zs[k]?.getD 0 = x at *
      generalize zs[p]?.getD 0 = y at *
      have HO : Hid (Own .i64 3 ((wr.setCell ⟨g, k, none⟩ (.int .i64 y)).setCell ⟨g, p, none⟩ (.int .i64 x)) B (.slice (some ⟨g, 0, none⟩) n cap) (revK zs (k + 1))) := hO2
      have HJ : Hid ((p : Int) - 1 = (n : Int) - 1 - ((k + 1 : Nat) : Int)) := by show _ = _; omega
      have HK2 : Hid (Keeps (fun b => b = g) w ((wr.setCell ⟨g, k, none⟩ (.int .i64 y)).setCell ⟨g, p, none⟩ (.int .i64 x))) := ((HK.out.setCell (.inl rfl) _).setCell (.inl rfl) _)
      have k1 : (k : Int) < (n : Int) := by omega
      have p1 : (p : Int) < (n : Int) := by omega
      clear hown hkp hj hp e1 e2 hst hO hO2 HLn
      go_upto_region 3 with fail
      go_region
      all_goals
        go_wp2_with fail
        go_roundw
        case rel => exact ⟨k + 1, _, by go_num, rfl, HJ.out, by omega, HO.out.drew, HK2.out.drew⟩
        case measure => simp [intOf]; omega
    · have HE : Hid (revK zs k = zs.reverse) := revK_done zs (by have := HN.out; omega)
      rw [HE.out] at hown
      have HO : Hid (Own .i64 3 wr B (.slice (some ⟨g, 0, none⟩) n cap) zs.reverse ∧ Keeps (fun b => b = g) w wr) := ⟨hown, hkp⟩
      clear hown hkp HE
      go_wp2_with fail
      go_end0
      exact ⟨rfl, HO.out⟩
theorem reverse_any {w : World} {B : Nat} {v : Value} {zs : List Int} (h : Own .i64 3 w B v zs) (hB : B ≤ w.heap.size) (few : zs.length ≤ 64) :
    Calls Try.prog 55 #[v] w fun e w' => e = .returned (.tuple #[]) ∧ Own .i64 3 w' B v zs.reverse ∧ Below B w w' := by
  rcases h.shape with ⟨rfl, rfl⟩ | ⟨g, cap, rfl, hg, -⟩
  · refine (reverse_nil w).mono ?_
    rintro e w' ⟨rfl, rfl⟩
    exact ⟨rfl, h, Below.refl _ _⟩
  · refine (reverse_row h few).mono ?_
    rintro e w' ⟨rfl, h1, h2⟩
    exact ⟨rfl, h1, h2.below (fun b hb => by rw [hb]; exact hg) hB⟩
end Go.Proofs.Ytmamligiopbefaa
end
