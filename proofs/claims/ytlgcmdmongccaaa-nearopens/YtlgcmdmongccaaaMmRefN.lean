/-
  NearRefFT, NearRefTree, NearRefPath.
-/
import Derived.Test.YtlgcmdmongccaaaMmSufs
import Derived.Deep.RegionLawGrows
section
/-
  The walks of the document's From and To (layer 10).
-/
namespace Go.Proofs.Ytlgcmdmongccaaa
open Go.RowKit

theorem info_int : ∃ i, Try.prog.info? 3 = some i ∧ i.zero = some (.int .i64 0) ∧ i.size = 1 ∧ i.bytes = 8 := by
  have h : (Try.prog.info? 3).map (fun i => (i.zero, i.size, i.bytes)) = some (some (.int .i64 0), 1, 8) := by kernel_rfl
  obtain ⟨i, h1, h2⟩ := Option.map_eq_some_iff.1 h
  injection h2 with h3 h4
  injection h4 with h5 h6
  exact ⟨i, h1, h3, h5, h6⟩
theorem own_grown {w W w' : World} {e : TypeId} {v : Value} {n : Nat} {zs : List Int} (h : w'.ownsRow W.heap.size e 1 v n ([] ++ zs.map (Value.int .i64))) (hg : W.grownBy w' none) (hn : n = zs.length) (hb : Below w.heap.size w W) : Own .i64 e w' w.heap.size v zs ∧ Below w.heap.size w w' := by
  subst hn
  exact ⟨row_base h hb.size, hb.trans (((Keeps.refl (fun _ => False) W).grown hg (fun k h => by cases h)).below (fun b h => h.elim) hb.size)⟩
set_option maxHeartbeats 2000000 in
set_option maxRecDepth 100000 in
theorem rfrom_any {w : World} {q N most : Nat} {m : GM.M} (hg : RMem w q N most m) (hm : GM.Good most m) (hN : N ≤ 24) (hin : WK.Inn N m) (s : Nat) (hs : s < N) :
    Calls Try.prog 14 #[.pointer (some ⟨q, 0, none⟩), .int .i64 s] w fun e w' => ∃ r, e = .returned r ∧ Own .i64 3 w' w.heap.size r (NM.rowFrom m N s) ∧ Below w.heap.size w w' := by
  have hall := all_any10 hg hm hN hin
  have HG : Hid (∀ W, Below w.heap.size w W → RMem W q N most m) := fun W hW => hg.on hW
  clear hg hm hin
  go_enter Try.func14, Try.ntmps14
  go_wp2_with fail
  refine hall.mono ?_
  rintro e w1 ⟨D, rfl, hD, hb1⟩
  have hz := zeroT
  have hsz := zT_size
  have hne := zT_ne
  have hLT := tabCells_len D
  have hO1 : (tabCells D).toArray.all (·.oneCell') = true := all_one (tabCells_one D)
  have HT : Hid (TMem (w1.alloc (.cells (tabCells D).toArray 69)) w1.heap.size D) := tmem_new _ _ _
  have HD : Hid (∀ a b : Nat, a < N → b < N → D a b = NM.dist m a b) := hD
  have HB1 : Hid (Below w.heap.size w w1) := hb1
  clear hall hD hb1
  generalize hTC : tabCells D = TC at *
  generalize zT = Z0 at *
  have HZ : Hid (Z0.size = 576) := hsz
  have HL : Hid (TC.length = 576) := hLT
  have HO1 : Hid (TC.toArray.all (·.oneCell') = true) := hO1
  clear hTC hLT hO1
  go_wp2_with (first
    | (simp only)
    | (refine wpList_store_row rfl 69 (.tmp 5) (.tmp 7) rfl w1.heap.size TC.toArray rfl rfl 69 Z0 (heap_alloc_last w1 _) (by rw [List.size_toArray, HL.out]; exact infoT) (by rw [HZ.out, List.size_toArray, HL.out]) HO1.out ?_; rw [World.setRow_alloc_new]))
  have hw3 : (w1.alloc (.cells TC.toArray 69)).heap.size = w1.heap.size + 1 := by simp
  have HB3 : Hid (Below w.heap.size w (w1.alloc (.cells TC.toArray 69))) := HB1.out.alloc HB1.out.size _
  have HT3 : Hid (TMem (w1.alloc (.cells TC.toArray 69)) w1.heap.size D) := HT.out
  clear hz hsz hne HT HZ HL HO1 HB1
  generalize w1.alloc (.cells TC.toArray 69) = w3 at *
  generalize w1.heap.size = bd at *
  obtain ⟨i0, hi0, hz0, hz1, hz2⟩ := info_int
  have c0 := (HG.out w3 HB3.out).c0
  have HRW : Hid (∀ W, Below w3.heap.size w3 W → ∀ j u, ((NM.rowFrom m N s).map (Value.int .i64))[j]? = some u → W.cell? ((⟨bd, s * 24, none⟩ : Addr).add j) = some u) := fun W hW j u hu => by
    rw [List.getElem?_map] at hu
    obtain ⟨x, hx, rfl⟩ := Option.map_eq_some_iff.1 hu
    have hj : j < N := by
      have := (List.getElem?_eq_some_iff.1 hx).1
      rwa [NM.rowFrom_len] at this
    have h1 := (HT3.out.on hW).c s j (by omega) (by omega)
    rw [Addr.add_lit, h1, HD.out s j hs hj, ← NM.rowFrom_at m s hj, hx]
    rfl
  have HLR : Hid (((NM.rowFrom m N s).map (Value.int .i64)).length = N * 1) := by show _ = _; rw [List.length_map, NM.rowFrom_len, Nat.mul_one]
  have s24 : (s : Int) < 24 := by omega
  have n24 : (N : Int) ≤ 24 := by omega
  have n0 : (0 : Int) ≤ (N : Int) := by omega
  have hbw : bd < w3.heap.size := by omega
  have hbe : Below w3.heap.size w3 ((w3.alloc (.cells #[] 3)).drew) := ((Below.refl _ _).alloc (Nat.le_refl _) _).drew
  have c0' := (HG.out _ (below_on HB3.out hbe)).c0
  go_region_law (refine step_append_grows rfl (.tmp 8) (.tmp 15) 28 rfl 3 i0 (.int .i64 0) 1 8 Try.underlying28 hi0 hz0 hz1 hz2 rfl (by decide) (some ⟨w3.heap.size, 0, none⟩) 0 0 [] (by simp [Act.eval, Act.put]) (fun h => by cases h) rfl (fun _ _ j u h => by simp at h) ⟨bd, s * 24, none⟩ N 24 ((NM.rowFrom m N s).map (Value.int .i64)) (by simp [Act.eval, Act.put]) HLR.out (HRW.out _ hbe) (ints_oneCell _ _) (by omega) (by unfold maxLen; omega) (by omega) ?_; intro v' w' hown hgrow; have HF : Hid (Own .i64 3 w' w.heap.size v' (NM.rowFrom m N s) ∧ Below w.heap.size w w') := own_grown hown hgrow (by rw [NM.rowFrom_len]; omega) (below_on HB3.out hbe))
  all_goals
    go_wp2_with fail
    go_ret
    exact ⟨v', rfl, HF.out⟩
set_option maxHeartbeats 2000000 in
set_option maxRecDepth 100000 in
theorem rto_any {w : World} {q N most : Nat} {m : GM.M} (hg : RMem w q N most m) (hm : GM.Good most m) (hN : N ≤ 24) (hin : WK.Inn N m) (s : Nat) (hs : s < N) :
    Calls Try.prog 15 #[.pointer (some ⟨q, 0, none⟩), .int .i64 s] w fun e w' => ∃ r, e = .returned r ∧ Own .i64 3 w' w.heap.size r (NM.rowTo m N s) ∧ Below w.heap.size w w' := by
  have hall := all_any10 hg hm hN hin
  have HG : Hid (∀ W, Below w.heap.size w W → RMem W q N most m) := fun W hW => hg.on hW
  clear hg hm hin
  go_enter Try.func15, Try.ntmps15
  go_wp2_with fail
  refine hall.mono ?_
  rintro e w1 ⟨D, rfl, hD, hb1⟩
  have hz := zeroT
  have hsz := zT_size
  have hne := zT_ne
  have hLT := tabCells_len D
  have hO1 : (tabCells D).toArray.all (·.oneCell') = true := all_one (tabCells_one D)
  have HT : Hid (TMem (w1.alloc (.cells (tabCells D).toArray 69)) w1.heap.size D) := tmem_new _ _ _
  have HD : Hid (∀ a b : Nat, a < N → b < N → D a b = NM.dist m a b) := hD
  have HB1 : Hid (Below w.heap.size w w1) := hb1
  clear hall hD hb1
  generalize hTC : tabCells D = TC at *
  generalize zT = Z0 at *
  have HZ : Hid (Z0.size = 576) := hsz
  have HL : Hid (TC.length = 576) := hLT
  have HO1 : Hid (TC.toArray.all (·.oneCell') = true) := hO1
  clear hTC hLT hO1
  go_wp2_with (first
    | (simp only)
    | (refine wpList_store_row rfl 69 (.tmp 5) (.tmp 9) rfl w1.heap.size TC.toArray rfl rfl 69 Z0 (heap_alloc_last w1 _) (by rw [List.size_toArray, HL.out]; exact infoT) (by rw [HZ.out, List.size_toArray, HL.out]) HO1.out ?_; rw [World.setRow_alloc_new]))
  have HS3 : Hid ((w1.alloc (.cells TC.toArray 69)).heap.size = w1.heap.size + 1) := by show _ = _; simp
  have HB3 : Hid (Below w.heap.size w (w1.alloc (.cells TC.toArray 69))) := HB1.out.alloc HB1.out.size _
  have HT3 : Hid (TMem (w1.alloc (.cells TC.toArray 69)) w1.heap.size D) := HT.out
  clear hz hsz hne HT HZ HL HO1 HB1
  generalize w1.alloc (.cells TC.toArray 69) = w3 at *
  generalize w1.heap.size = bd at *
  obtain ⟨i0, hi0, hz0, hz1, hz2⟩ := info_int
  have s24 : (s : Int) < 24 := by omega
  go_loopw [6, 7] (fun ov iv wr => ∃ k : Nat, k ≤ N ∧ iv = .int .i64 k ∧ Own .i64 3 wr w3.heap.size ov ((NM.rowTo m N s).take k) ∧ Below w3.heap.size w3 wr) (fun _ iv _ => N - (intOf iv).toNat)
  case atStart => exact ⟨0, Nat.zero_le _, rfl, Own.nil _ _ _ _, Below.refl _ _⟩
  case round =>
    obtain ⟨k, hk, rfl, hown, hbr⟩ := hrel
    have HB : Hid (Below w3.heap.size w3 wr) := hbr
    have c0 := (HG.out wr (below_on HB3.out hbr)).c0
    by_cases hlt : k < N
    · have k1 : (k : Int) < (N : Int) := by omega
      have k24 : (k : Int) < 24 := by omega
      have cd := (HT3.out.on hbr).c k s (by omega) (by omega)
      rw [HD.out k s hlt hs] at cd
      have HX : Hid ((NM.rowTo m N s).take (k + 1) = (NM.rowTo m N s).take k ++ [NM.dist m k s]) := by
        show _ = _
        rw [List.take_add_one, ← NM.rowTo_at m s hlt]
        have : k < (NM.rowTo m N s).length := by rw [NM.rowTo_len]; exact hlt
        rw [List.getElem?_eq_getElem this]
        rfl
      have htl : ((NM.rowTo m N s).take k).length = k := by rw [List.length_take, NM.rowTo_len]; omega
      obtain ⟨ao, cap, rfl, hat⟩ := hown.at
      rw [htl] at hown ⊢
      have hs3 := hbr.size
      generalize NM.dist m k s = x at *
      generalize (NM.rowTo m N s).take k = T at *
      have HT1 : Hid (T.length = k) := htl
      have HO : Hid (Own .i64 3 wr w3.heap.size (.slice ao k cap) T) := hown
      clear hat hown htl hbr
      go_wp2_with (refine wpList_append_row _ rfl (.tmp 18) (.tmp 24) 28 rfl .i64 w3.heap.size 3 i0 8 Try.underlying28 hi0 hz0 hz1 hz2 _ T rfl (HO.out.alloc _) (some ⟨wr.heap.size, 0, none⟩) 1 1 [x] rfl rfl (rowAt_lit1 .i64 wr x 3) (by rw [HT1.out]; simp [maxLen]; omega) (by rw [HT1.out]; simp; omega) (by simp; omega) ?_; intro v' w' hown' hgr _)
      have HR : Hid (Own .i64 3 w' w3.heap.size v' (T ++ [x]) ∧ Below w3.heap.size w3 w') := ⟨hown', (HB.out.alloc hs3 _).trans (((Keeps.refl (fun b => w3.heap.size ≤ b) _).grown hgr (fun g hg => .inl (HO.out.block g hg))).below (fun b h => h) (by simp; omega))⟩
      clear hown' hgr
      go_wp2_with fail
      go_roundw
      case rel => exact ⟨k + 1, by omega, by go_num, by rw [HX.out]; exact HR.out.1, HR.out.2⟩
      case measure => simp [intOf]; omega
    · obtain rfl : k = N := by omega
      rw [List.take_of_length_le (by rw [NM.rowTo_len]; exact Nat.le_refl _)] at hown
      have HR : Hid (Own .i64 3 wr w.heap.size _ (NM.rowTo m k s) ∧ Below w.heap.size w wr) := ⟨hown.base_le HB3.out.size, below_on HB3.out hbr⟩
      clear hown hbr
      go_wp2_with fail
      go_ret
      exact ⟨_, rfl, HR.out⟩
end Go.Proofs.Ytlgcmdmongccaaa
end

section
/-
  The walk of the document's Tree (layer 10).
-/
namespace Go.Proofs.Ytlgcmdmongccaaa
open Go.RowKit

set_option maxHeartbeats 4000000 in
set_option maxRecDepth 100000 in
theorem rtree_any {w : World} {q N most : Nat} {m : GM.M} (hg : RMem w q N most m) (hm : GM.Good most m) (hN : N ≤ 24) (hin : WK.Inn N m) (s : Nat) (hs : s < N) :
    Calls Try.prog 16 #[.pointer (some ⟨q, 0, none⟩), .int .i64 s] w fun e w' => ∃ r, e = .returned r ∧ Own .i64 3 w' w.heap.size r (NM.rowTree m N s) ∧ Below w.heap.size w w' := by
  have hfrom := rfrom_any hg hm hN hin s hs
  have HG : Hid (∀ W, Below w.heap.size w W → RMem W q N most m) := fun W hW => hg.on hW
  have HVT : Hid (∀ i, GM.is m i = true → ∃ t e : Nat, (GM.arc m i).tail = t ∧ (GM.arc m i).head = e ∧ t < N ∧ e < N) := fun i hi => by
    obtain ⟨v1, v2⟩ := hin.at hi
    have v1 := of_decide_eq_true v1
    have v2 := of_decide_eq_true v2
    exact ⟨(GM.arc m i).tail.toNat, (GM.arc m i).head.toNat, by omega, by omega, by omega, by omega⟩
  obtain ⟨i0, hi0, hz0, hz1, hz2⟩ := info_int
  clear hg hm hin
  go_enter Try.func16, Try.ntmps16
  go_wp2_with fail
  refine hfrom.mono ?_
  rintro e w1 ⟨r, rfl, ho, hb1⟩
  obtain ⟨a1, cp1, rfl, hat⟩ := ho.at
  rw [NM.rowFrom_len]
  have HF : Hid (∀ W, Below w1.heap.size w1 W → RowAt .i64 W a1 cp1 (NM.rowFrom m N s)) := fun W hW => hat.below hW
  have HB1 : Hid (Below w.heap.size w w1) := hb1
  have hcp : N ≤ cp1 := by have := hat.1; rwa [NM.rowFrom_len] at this
  clear hfrom ho hat hb1
  go_wp2_with fail
  go_loopw [6, 7] (fun ov iv wr => ∃ k : Nat, k ≤ N ∧ iv = .int .i64 k ∧ Own .i64 3 wr w1.heap.size ov ((NM.rowTree m N s).take k) ∧ Below w1.heap.size w1 wr) (fun _ iv _ => N - (intOf iv).toNat)
  case atStart => exact ⟨0, Nat.zero_le _, rfl, Own.nil _ _ _ _, Below.refl _ _⟩
  case round =>
    obtain ⟨v, hv, rfl, hown, hbr⟩ := hrel
    have HB : Hid (Below w1.heap.size w1 wr) := hbr
    have HO : Hid (Own .i64 3 wr w1.heap.size u6 ((NM.rowTree m N s).take v)) := hown
    have c0 := (HG.out wr (below_on HB1.out hbr)).c0
    have hends := fun W (hW : Below w.heap.size w W) => rends_any (HG.out W hW) (v : Int) true
    have hend := hends wr (below_on HB1.out hbr)
    clear hends hown hbr
    by_cases hlt : v < N
    · have v1 : (v : Int) < (N : Int) := by omega
      have HLL : Hid ((GM.ends m (v : Int) true).length ≤ 64) := by
        show _ ≤ _
        unfold GM.ends
        exact Nat.le_trans (List.length_filter_le _ _) (GM.ids_le m 64)
      have HTA : Hid (NM.treeAt m s v 0 = NM.tree m (NM.dist m s) s v) := NM.treeAt_zero m s v
      have HTE : Hid (NM.treeAt m s v (GM.ends m (v : Int) true).length = -1) := NM.treeAt_end m s v
      have HTS : Hid (∀ k, k < (GM.ends m (v : Int) true).length → NM.treeAt m s v k = if ((v : Int) ≠ s ∧ NM.dist m s v ≤ 4611686018427387904) ∧ NM.doing m (NM.dist m s) v ((GM.ends m (v : Int) true)[k]?.getD 0) = true then (((GM.ends m (v : Int) true)[k]?.getD 0 : Nat) : Int) else NM.treeAt m s v (k + 1)) := fun k hk => NM.treeAt_step m s v hk
      have HMEM : Hid (∀ i ∈ GM.ends m (v : Int) true, i < 64 ∧ GM.is m i = true ∧ (GM.arc m i).head = v) := fun i hi => NM.mem_ends.1 hi
      have HTL : Hid (((NM.rowTree m N s).take v).length = v) := by show _ = _; rw [List.length_take, NM.rowTree_len]; omega
      have HTK : Hid ((NM.rowTree m N s).take (v + 1) = (NM.rowTree m N s).take v ++ [NM.tree m (NM.dist m s) s v]) := by
        show _ = _
        rw [List.take_add_one, ← NM.rowTree_at m s hlt]
        have : v < (NM.rowTree m N s).length := by rw [NM.rowTree_len]; exact hlt
        rw [List.getElem?_eq_getElem this]
        rfl
      generalize (NM.rowTree m N s).take v = T at *
      generalize hE : GM.ends m (v : Int) true = E at *
      clear hE
      go_wp2_with fail
      refine hend.mono ?_
      rintro e w2 ⟨r2, rfl, ho2, hb2⟩
      obtain ⟨a2, cp2, rfl, hat2⟩ := ho2.at
      rw [List.length_map]
      have HE2 : Hid (∀ W, Below w2.heap.size w2 W → RowAt .i64 W a2 cp2 (E.map (fun i : Nat => (i : Int)))) := fun W hW => hat2.below hW
      have HB2 : Hid (Below wr.heap.size wr w2) := hb2
      have HO2 : Hid (Own .i64 3 w2 w1.heap.size u6 T) := HO.out.below hb2
      have hcp2 := hat2.1
      rw [List.length_map] at hcp2
      have hE64 := HLL.out
      clear hend ho2 hat2 hb2 c0 HO HLL
      obtain ⟨C, hC⟩ : ∃ C, C = E.length := ⟨_, rfl⟩
      have HC : Hid (C = E.length) := hC
      rw [← hC] at HTE HTS hcp2 hE64 ⊢
      clear hC
      have HTE0 : Hid (NM.treeAt m s v C = -1) := HTE.out
      go_wp2_with fail
      go_loopw [8, 10] (fun bv iv wr' => ∃ (k : Nat) (j : Int), k ≤ C ∧ j = (k : Int) - 1 ∧ iv = .int .i64 j ∧ bv = .int .i64 (NM.treeAt m s v k) ∧ Below w2.heap.size w2 wr') (fun _ iv _ => (intOf iv + 1).toNat)
      case atStart => exact ⟨C, (C : Int) - 1, Nat.le_refl _, rfl, rfl, by rw [HTE0.out], Below.refl _ _⟩
      case round =>
        rename_i wrA hwrA
        obtain ⟨k, j, hk, hj, rfl, rfl, hbr⟩ := hrel
        have HB3 : Hid (Below w2.heap.size w2 wr) := hbr
        by_cases hk0 : k = 0
        · subst hk0
          have hjn : j < 0 := by omega
          have HTL' := HTL
          have hs3 := hbr.size
          have HO3 : Hid (Own .i64 3 wr w1.heap.size u6 T) := HO2.out.below hbr
          have hb13 : w1.heap.size ≤ wr.heap.size := (below_on (below_on HB.out HB2.out) hbr).size
          have HB4 : Hid (Below w1.heap.size w1 wr) := below_on (below_on HB.out HB2.out) hbr
          rw [HTA.out]
          clear hbr HTS HTE HTE0 hj
          generalize NM.tree m (NM.dist m s) s v = x at *
          obtain ⟨ao, cap, rfl, -⟩ := HO3.out.at
          rw [HTL.out]
          go_wp2_with (refine wpList_append_row _ rfl (.tmp 76) (.tmp 78) 28 rfl .i64 w1.heap.size 3 i0 8 Try.underlying28 hi0 hz0 hz1 hz2 _ T (by simp only [Act.eval]; rw [← HTL.out]; rfl) (HO3.out.alloc _) (some ⟨wr.heap.size, 0, none⟩) 1 1 [x] rfl rfl (rowAt_lit1 .i64 wr x 3) (by rw [HTL.out]; simp [maxLen]; omega) (by rw [HTL.out]; simp; omega) (by simp; omega) ?_; intro v' w' hown' hgr _)
          have HR : Hid (Own .i64 3 w' w1.heap.size v' (T ++ [x]) ∧ Below w1.heap.size w1 w') := ⟨hown', (HB4.out.alloc hb13 _).trans (((Keeps.refl (fun b => w1.heap.size ≤ b) _).grown hgr (fun g hg => .inl (HO3.out.block g hg))).below (fun b h => h) (by simp; omega))⟩
          clear hown' hgr
          go_wp2_with fail
          go_roundw
          case rel => exact ⟨v + 1, by omega, by go_num, by rw [HTK.out]; exact HR.out.1, HR.out.2⟩
          case measure => simp [intOf]; omega
        · obtain ⟨k, rfl⟩ : ∃ k', k = k' + 1 := ⟨k - 1, by omega⟩
          obtain rfl : j = (k : Int) := by omega
          have hkC : k < C := by omega
          have hkE : k < E.length := by rw [← HC.out]; exact hkC
          obtain ⟨b, o, rfl, hc⟩ := (HE2.out wr hbr).2.2.2 (by rw [List.length_map]; omega)
          have ck := hc k (by rw [List.length_map]; exact hkE)
          rw [List.getElem?_map, List.getElem?_eq_getElem hkE] at ck
          have hst := HTS.out k hkC
          rw [List.getElem?_eq_getElem hkE, Option.getD_some] at hst
          obtain ⟨hi64, hiis, hihd⟩ := HMEM.out E[k] (List.getElem_mem hkE)
          generalize E[k] = i at *
          have ck : wr.cell? ⟨b, o + k, none⟩ = some (.int .i64 (i : Nat)) := ck
          obtain ⟨t, e, ht, he, htN, heN⟩ := HVT.out i hiis
          have hgr := HG.out wr (below_on (below_on HB1.out HB.out) (below_on HB2.out hbr))
          obtain ⟨d0, d1, d2, d3⟩ := hgr.arc i hi64
          unfold NM.doing at hst
          generalize GM.arc m i = ar at *
          obtain ⟨t', e', x, c⟩ := ar
          dsimp only at d0 d1 d2 d3 hst ht he hihd
          subst ht
          obtain rfl : e' = (v : Int) := hihd
          obtain ⟨bf, of, er, hfc⟩ := (HF.out wr (below_on (below_on HB.out HB2.out) hbr)).2.2.2 (by rw [NM.rowFrom_len]; omega)
          subst er
          have cfv := hfc v (by rw [NM.rowFrom_len]; exact hlt)
          have cft := hfc t (by rw [NM.rowFrom_len]; exact htN)
          rw [NM.rowFrom_at m s hlt] at cfv
          rw [NM.rowFrom_at m s htN] at cft
          have HST : Hid (NM.treeAt m s v k = if ((v : Int) ≠ s ∧ NM.dist m s v ≤ 4611686018427387904) ∧ (!c && decide (DM.two (NM.dist m s t) x = NM.dist m s v)) = true then ((i : Nat) : Int) else NM.treeAt m s v (k + 1)) := hst
          have k1 : (k : Int) < (C : Int) := by omega
          have i64' : (i : Int) < 64 := by omega
          have tN : (t : Int) < (N : Int) := by omega
          have HBL : Hid (q < wr.heap.size ∧ b < wr.heap.size ∧ bf < wr.heap.size) := ⟨hgr.lt, cell_lt ck, cell_lt cfv⟩
          clear hc hfc hst hi64 hiis he heN hgr hkE hbr hj
          go_upto_region 11 with fail
          go_cut [11] (fun s wx => ∃ g, s = .pointer (some ⟨g, 0, none⟩) ∧ ArcIn wx g 0 ⟨t, v, x, c⟩ ∧ Below wr.heap.size wr wx)
          case first =>
            have hba : Below wr.heap.size wr (wr.alloc (.cells #[.int .i64 0, .int .i64 0, .int .i64 0, .bool false] 45)) := (Below.refl _ _).alloc (Nat.le_refl _) _
            have ck' := (hba.cell (p := ⟨b, o + k, none⟩) HBL.out.2.1).trans ck
            have d0' := (hba.cell (p := ⟨q, _, none⟩) HBL.out.1).trans d0
            have d1' := (hba.cell (p := ⟨q, _, none⟩) HBL.out.1).trans d1
            have d2' := (hba.cell (p := ⟨q, _, none⟩) HBL.out.1).trans d2
            have d3' := (hba.cell (p := ⟨q, _, none⟩) HBL.out.1).trans d3
            clear hba cfv cft
            go_region
            all_goals
              go_wp2_with fail
              go_meet
              exact ⟨wr.heap.size, rfl, arcIn_new wr t v x c, ((Below.refl _ _).alloc (Nat.le_refl _) _).drew⟩
          case rest =>
          obtain ⟨g, rfl, hing, hbc⟩ := hcut
          obtain ⟨a0, a1', a2', a3⟩ := hing
          simp only [Nat.zero_add] at a1' a2' a3
          dsimp only at a0 a1' a2' a3
          have cfvc := (hbc.cell (p := ⟨bf, of + v, none⟩) HBL.out.2.2).trans cfv
          have cftc := (hbc.cell (p := ⟨bf, of + t, none⟩) HBL.out.2.2).trans cft
          have ckc := (hbc.cell (p := ⟨b, o + k, none⟩) HBL.out.2.1).trans ck
          have HBC : Hid (∀ nq, Below w2.heap.size w2 (wc.drewN nq)) := fun nq => below_drewN (below_on HB3.out hbc) nq
          clear hbc d0 d1 d2 d3 ck cfv cft
          generalize NM.dist m s v = fv at *
          generalize NM.dist m s t = ft at *
          by_cases hvs : (v : Int) = (s : Int)
          · have hvs1 : ((v : Int) != (s : Int)) = false := by simpa using hvs
            have hvs2 : ((v : Int) == (s : Int)) = true := by simpa using hvs
            have HE : Hid (NM.treeAt m s v k = NM.treeAt m s v (k + 1)) := by
              show _ = _
              rw [HST.out, if_neg (fun h => h.1.1 hvs)]
            clear hvs
            go_upto_region 12 with fail
            go_quiet ((go_at_call 22; exact Calls.quiet_of_same (two_any _ _ _)))
            have HQ : Hid (Below w2.heap.size w2 (wc.drewN nq)) := HBC.out nq
            clear HBC a0 a1' a2' a3 cfvc cftc ckc
            go_wp2_with fail
            go_roundw
            case rel => exact ⟨k, (k : Int) - 1, by omega, rfl, rfl, by rw [HE.out], HQ.out⟩
            case measure => simp [intOf]
          · have hvs1 : ((v : Int) != (s : Int)) = true := by simpa using hvs
            have hvs2 : ((v : Int) == (s : Int)) = false := by simpa using hvs
            by_cases hfv : fv ≤ 4611686018427387904
            · have hfv1 : decide (fv ≤ 4611686018427387904) = true := decide_eq_true hfv
              cases c with
              | true =>
                have HE : Hid (NM.treeAt m s v k = NM.treeAt m s v (k + 1)) := by
                  show _ = _
                  rw [HST.out, if_neg (fun h => by have := h.2; simp at this)]
                clear hvs
                go_upto_region 12 with fail
                go_quiet ((go_at_call 22; exact Calls.quiet_of_same (two_any _ _ _)))
                have HQ : Hid (Below w2.heap.size w2 (wc.drewN nq)) := HBC.out nq
                clear HBC a0 a1' a2' a3 cfvc cftc ckc
                go_wp2_with fail
                go_roundw
                case rel => exact ⟨k, (k : Int) - 1, by omega, rfl, rfl, by rw [HE.out], HQ.out⟩
                case measure => simp [intOf]
              | false =>
                by_cases hd : DM.two ft x = fv
                · have hd1 : (DM.two ft x == fv) = true := by simpa using hd
                  have HE : Hid (NM.treeAt m s v k = ((i : Nat) : Int)) := by
                    show _ = _
                    rw [HST.out, if_pos ⟨⟨hvs, hfv⟩, by simpa using hd⟩]
                  clear hvs hd
                  go_upto_region 12 with fail
                  go_quiet ((go_at_call 22; exact Calls.quiet_of_same (two_any _ _ _)))
                  have HQ : Hid (Below w2.heap.size w2 (wc.drewN nq)) := HBC.out nq
                  have ckq : (wc.drewN nq).cell? ⟨b, o + k, none⟩ = some (.int .i64 (i : Nat)) := ckc
                  clear HBC a0 a1' a2' a3 cfvc cftc ckc
                  go_wp2_with fail
                  go_roundw
                  case rel => exact ⟨k, (k : Int) - 1, by omega, rfl, rfl, by rw [HE.out], HQ.out⟩
                  case measure => simp [intOf]
                · have hd1 : (DM.two ft x == fv) = false := by simpa using hd
                  have HE : Hid (NM.treeAt m s v k = NM.treeAt m s v (k + 1)) := by
                    show _ = _
                    rw [HST.out, if_neg (fun h => hd (by simpa using h.2))]
                  clear hvs hd
                  go_upto_region 12 with fail
                  go_quiet ((go_at_call 22; exact Calls.quiet_of_same (two_any _ _ _)))
                  have HQ : Hid (Below w2.heap.size w2 (wc.drewN nq)) := HBC.out nq
                  clear HBC a0 a1' a2' a3 cfvc cftc ckc
                  go_wp2_with fail
                  go_roundw
                  case rel => exact ⟨k, (k : Int) - 1, by omega, rfl, rfl, by rw [HE.out], HQ.out⟩
                  case measure => simp [intOf]
            · have hfv1 : decide (fv ≤ 4611686018427387904) = false := decide_eq_false hfv
              have HE : Hid (NM.treeAt m s v k = NM.treeAt m s v (k + 1)) := by
                show _ = _
                rw [HST.out, if_neg (fun h => hfv h.1.2)]
              clear hvs hfv
              go_upto_region 12 with fail
              go_quiet ((go_at_call 22; exact Calls.quiet_of_same (two_any _ _ _)))
              have HQ : Hid (Below w2.heap.size w2 (wc.drewN nq)) := HBC.out nq
              clear HBC a0 a1' a2' a3 cfvc cftc ckc
              go_wp2_with fail
              go_roundw
              case rel => exact ⟨k, (k : Int) - 1, by omega, rfl, rfl, by rw [HE.out], HQ.out⟩
              case measure => simp [intOf]
    · obtain rfl : v = N := by omega
      have hown := HO.out
      rw [List.take_of_length_le (by rw [NM.rowTree_len]; exact Nat.le_refl _)] at hown
      have HR : Hid (Own .i64 3 wr w.heap.size u6 (NM.rowTree m v s) ∧ Below w.heap.size w wr) := ⟨hown.base_le HB1.out.size, below_on HB1.out HB.out⟩
      clear hown HO hend
      go_wp2_with fail
      go_ret
      exact ⟨_, rfl, HR.out⟩
end Go.Proofs.Ytlgcmdmongccaaa
end

section
/-
  The walk of the document's Path (layer 10).
-/
namespace Go.Proofs.Ytlgcmdmongccaaa
open Go.RowKit

namespace NM
/-- The path that the tree tells. -/
noncomputable def path (m : GM.M) (s t : Int) : List Int := back m (dist m s) s 24 t
theorem mapD {m : GM.M} {N most : Nat} {s : Nat} (hm : GM.Good most m) (hN : N ≤ 24) (hin : WK.Inn N m) (hs : s < N) : Map m N (s : Int) (dist m (s : Int)) := map_of hN (decide_eq_true (by omega)) hm hin (fun v _ => dist_dst m s v)
/-- Part of the path, from v on. -/
structure Pt (m : GM.M) (N : Nat) (s t : Int) (v : Int) (out : List Int) : Prop where
  bk : Bk m N (dist m s) t v out
  eq : back m (dist m s) s (24 - out.length) v ++ out = path m s t
theorem Pt.begin {m : GM.M} {N : Nat} {s t : Int} (ht : GM.vert N t = true) (hF : dist m s t ≤ 4611686018427387904) : Pt m N s t t [] := ⟨Bk.start ht hF, by rw [List.append_nil]; rfl⟩
theorem Pt.vert {m : GM.M} {N : Nat} {s t v : Int} {out : List Int} (h : Pt m N s t v out) : GM.vert N v = true := h.bk.vert v (by simp)
theorem Pt.done {m : GM.M} {N : Nat} {s t : Int} {out : List Int} (h : Pt m N s t s out) : out = path m s t := by
  have := h.eq
  rwa [back_src, List.nil_append] at this
theorem Pt.step {m : GM.M} {N : Nat} {s t v : Int} {out : List Int} (hM : Map m N s (dist m s)) (h : Pt m N s t v out) (hs : v ≠ s) :
    ∃ i : Nat, tree m (dist m s) s v = i ∧ i < 64 ∧ GM.is m i = true ∧ out.length + 2 ≤ N ∧ Pt m N s t (GM.arc m i).tail ((i : Int) :: out) := by
  obtain ⟨h1, h2, i, h3, h4, h5⟩ := h.bk.step hM hs
  refine ⟨i, h3, h4, h5, h2, ?_⟩
  rw [h3, Int.toNat_natCast] at h1
  refine ⟨h1, ?_⟩
  have he := h.eq
  have hN := hM.few
  rw [show 24 - out.length = (24 - (out.length + 1)) + 1 by omega, back_step m _ _ hs, h3, Int.toNat_natCast, List.append_assoc] at he
  exact he
end NM
def lenOf : Value → Nat
  | .slice _ n _ => n
  | _ => 0
set_option maxHeartbeats 4000000 in
set_option maxRecDepth 100000 in
theorem rpath_any {w : World} {q N most : Nat} {m : GM.M} (hg : RMem w q N most m) (hm : GM.Good most m) (hN : N ≤ 24) (hin : WK.Inn N m) (s t : Nat) (hs : s < N) (ht : t < N) (hF : NM.dist m s t ≤ 4611686018427387904) :
    Calls Try.prog 18 #[.pointer (some ⟨q, 0, none⟩), .int .i64 s, .int .i64 t] w fun e w' => ∃ r, e = .returned r ∧ Own .i64 3 w' w.heap.size r (NM.path m s t) ∧ Below w.heap.size w w' := by
  have htree := rtree_any hg hm hN hin s hs
  have HG : Hid (∀ W, Below w.heap.size w W → RMem W q N most m) := fun W hW => hg.on hW
  have HM : Hid (NM.Map m N (s : Int) (NM.dist m (s : Int))) := NM.mapD hm hN hin hs
  have HP0 : Hid (NM.Pt m N s t t []) := NM.Pt.begin (decide_eq_true (by omega)) hF
  obtain ⟨i0, hi0, hz0, hz1, hz2⟩ := info_int
  clear hg hm hin hF
  go_enter Try.func18, Try.ntmps18
  go_wp2_with fail
  refine htree.mono ?_
  rintro e w1 ⟨r, rfl, ho, hb1⟩
  obtain ⟨a1, cp1, rfl, hat⟩ := ho.at
  rw [NM.rowTree_len]
  have HT : Hid (∀ W, Below w1.heap.size w1 W → RowAt .i64 W a1 cp1 (NM.rowTree m N s)) := fun W hW => hat.below hW
  have HB1 : Hid (Below w.heap.size w w1) := hb1
  have hcp : N ≤ cp1 := by have := hat.1; rwa [NM.rowTree_len] at this
  clear htree ho hat hb1
  go_wp2_with fail
  go_loopw [8, 9] (fun ov vv wr => ∃ (out : List Int) (v : Int), NM.Pt m N s t v out ∧ vv = .int .i64 v ∧ Own .i64 3 wr w1.heap.size ov out ∧ Below w1.heap.size w1 wr) (fun ov _ _ => 24 - lenOf ov)
  case atStart => exact ⟨[], t, HP0.out, rfl, Own.nil _ _ _ _, Below.refl _ _⟩
  case round =>
    clear HP0
    obtain ⟨out, v, hp, rfl, hown, hbr⟩ := hrel
    have HP : Hid (NM.Pt m N s t v out) := hp
    have HB : Hid (Below w1.heap.size w1 wr) := hbr
    obtain ⟨ao, cap, rfl, hao⟩ := hown.at
    have HO : Hid (Own .i64 3 wr w1.heap.size (.slice ao out.length cap) out) := hown
    have hcap := hao.1
    have hcm := hao.2.1
    have HAO : Hid (RowAt .i64 wr ao cap out) := hao
    clear hp hown hbr hao
    by_cases hvs : v = (s : Int)
    · subst hvs
      have HE : Hid (out = NM.path m s t) := HP.out.done
      have HR : Hid (Own .i64 3 wr w.heap.size (.slice ao out.length cap) (NM.path m s t) ∧ Below w.heap.size w wr) := by
        rw [← HE.out]
        exact ⟨HO.out.base_le HB1.out.size, below_on HB1.out HB.out⟩
      clear HO HAO hcap hcm
      generalize out.length = n at *
      go_wp2_with fail
      go_ret
      exact ⟨_, rfl, HR.out⟩
    · have hvs1 : (v != (s : Int)) = true := by simpa using hvs
      obtain ⟨i, hti, hi64, his, hlen, hp2⟩ := HP.out.step HM.out hvs
      have hv := of_decide_eq_true HP.out.vert
      obtain ⟨k, rfl⟩ : ∃ k : Nat, v = k := ⟨v.toNat, by omega⟩
      have hkN : k < N := by omega
      obtain ⟨b, o, er, hc⟩ := (HT.out w1 (Below.refl _ _)).2.2.2 (by rw [NM.rowTree_len]; omega)
      subst er
      have ck1 := hc k (by rw [NM.rowTree_len]; exact hkN)
      rw [NM.rowTree_at m s hkN, hti] at ck1
      have HCK : Hid (∀ W, Below w1.heap.size w1 W → W.cell? ⟨b, o + k, none⟩ = some (.int .i64 (i : Nat))) := fun W hW => (hW.cell (p := ⟨b, o + k, none⟩) (cell_lt ck1)).trans ck1
      have ck := HCK.out wr HB.out
      have HD0 : Hid (∀ W, Below w.heap.size w W → W.cell? ⟨q, 66 + i * 4, none⟩ = some (.int .i64 (GM.arc m i).tail)) := fun W hW => ((HG.out W hW).arc i hi64).1
      generalize (GM.arc m i).tail = tl at *
      have HP2 : Hid (NM.Pt m N s t tl ((i : Int) :: out)) := hp2
      have k1 : (k : Int) < (N : Int) := by omega
      have i64' : (i : Int) < 64 := by omega
      have hlen24 : out.length + 2 ≤ 24 := by omega
      have hs1 := HB.out.size
      have hbe : Below wr.heap.size wr (wr.alloc (.cells #[.int .i64 (i : Nat)] 3)) := (Below.refl _ _).alloc (Nat.le_refl _) _
      have HLIT : Hid (Own .i64 3 (wr.alloc (.cells #[.int .i64 (i : Nat)] 3)) w1.heap.size (.slice (some ⟨wr.heap.size, 0, none⟩) 1 1) [(i : Int)]) := Own.lit .i64 3 wr w1.heap.size hs1 [(i : Int)] #[.int .i64 (i : Nat)] 1 rfl rfl (by unfold maxLen; decide)
      have HAO2 : Hid (RowAt .i64 (wr.alloc (.cells #[.int .i64 (i : Nat)] 3)) ao cap out) := HAO.out.below hbe
      have HBE : Hid (Below wr.heap.size wr (wr.alloc (.cells #[.int .i64 (i : Nat)] 3))) := hbe
      clear hp2 hti hc his hvs hv hbe ck1
      obtain ⟨n, hn⟩ : ∃ n, n = out.length := ⟨_, rfl⟩
      have HN : Hid (n = out.length) := hn
      rw [← hn] at hcap hlen24 ⊢
      clear hn hlen
      have n24 : (n : Int) < 24 := by omega
      go_wp2_with (refine wpList_append_row _ rfl (.tmp 26) (.tmp 27) 28 rfl .i64 w1.heap.size 3 i0 8 Try.underlying28 hi0 hz0 hz1 hz2 _ [(i : Int)] rfl HLIT.out ao n cap out rfl HN.out HAO2.out (by rw [← HN.out]; simp [maxLen]; omega) (by rw [← HN.out]; simp; omega) (by simp; omega) ?_; intro v' w' hown' hgr _)
      have HR : Hid (Own .i64 3 w' w1.heap.size v' ((i : Int) :: out) ∧ Below w1.heap.size w1 w') := ⟨hown', (HB.out.trans (HBE.out.mono hs1)).trans (((Keeps.refl (fun b => w1.heap.size ≤ b) _).grown hgr (fun g hg => .inl (HLIT.out.block g hg))).below (fun b h => h) (by simp; omega))⟩
      have ckw := HCK.out w' HR.out.2
      have d0 := HD0.out w' (below_on HB1.out HR.out.2)
      have HN2 : Hid (n + 1 = ((i : Int) :: out).length) := by show _ = _; rw [List.length_cons, HN.out]
      obtain ⟨ao2, cap2, rfl, -⟩ := HR.out.1.at
      rw [← HN2.out] at HR ⊢
      clear hown' hgr ck HLIT HAO2 HBE HO HAO
      go_upto_region 6 with fail
      go_quiet (fail)
      have HR2 : Hid (Own .i64 3 (w'.drewN nq) w1.heap.size (.slice ao2 (n + 1) cap2) ((i : Int) :: out) ∧ Below w1.heap.size w1 (w'.drewN nq)) := ⟨HR.out.1.below (below_drewN (Below.refl _ _) nq), below_drewN HR.out.2 nq⟩
      clear HR ckw d0
      go_wp2_with fail
      go_roundw
      case rel => exact ⟨(i : Int) :: out, tl, HP2.out, rfl, HR2.out.1, HR2.out.2⟩
      case measure => simp [lenOf]; omega
end Go.Proofs.Ytlgcmdmongccaaa
end
