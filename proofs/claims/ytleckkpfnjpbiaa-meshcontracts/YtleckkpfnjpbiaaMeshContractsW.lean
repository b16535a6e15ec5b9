/-
  The walk of the law MeshContracts.
-/
import Derived.Test.YtleckkpfnjpbiaaMeshLawC
import Derived.Deep.DeepCutAuto
namespace Go.Proofs.Ytleckkpfnjpbiaa
open Go.RowKit

set_option maxHeartbeats 4000000 in
set_option maxRecDepth 100000 in
theorem contracts_walk (n : Int) (v : Value) (xs : List Stp) (v2 : Value) (zs : List Int) (w : World) (hn0 : 0 ≤ n) (hn1 : n ≤ 255) (hch : Stps w v xs) (hrow : Row .i64 w v2 zs) :
    Calls Try.prog 5 #[.int .u8 n, v, v2] w fun e w' => e = .returned (.bool true) ∧ Below w.heap.size w w' := by
  have haw := awakeX_any w
  have HMD : Hid (∀ W, Below w.heap.size w W → Calls Try.prog 20 #[.int .u8 n, v] W fun e w' => ∃ p q, e = .returned (.tuple #[.pointer (some ⟨p, 0, none⟩), .pointer (some ⟨q, 0, none⟩)]) ∧ ∃ N, (1 ≤ N ∧ N ≤ 24) ∧ St W W.heap.size p q N (XM.made N xs (min xs.length 400)) (XM.made N xs (min xs.length 400)) w') := fun W hW => madeX_any n v xs W hn0 hn1 (hch.on hW)
  have HMM : Hid (∀ N, XM.Mesh N (XM.made N xs (min xs.length 400))) := fun N => XM.made_mesh N xs _
  clear hn0 hn1
  obtain ⟨ao, cap, rfl, -, -⟩ := hch
  obtain ⟨a2, cap2, rfl, hat⟩ := hrow
  have hz1 := hat.1
  have hz2 := hat.2.1
  have hz3 : zs.length ≤ 9223372036854775807 := by unfold maxLen at hz2; omega
  have hz1I : (zs.length : Int) ≤ (cap2 : Int) := by omega
  obtain ⟨C, hC⟩ : ∃ C, C = zs.length := ⟨_, rfl⟩
  have HAT : Hid (0 < C → ∃ b o, a2 = some ⟨b, o, none⟩ ∧ ∀ i, i < C → w.cell? ⟨b, o + i, none⟩ = some (.int .i64 (zs[i]?.getD (-1)))) := fun h0 => by
    obtain ⟨b, o, e, hc⟩ := hat.2.2.2 (by omega)
    refine ⟨b, o, e, fun i hi => ?_⟩
    have := hc i (by omega)
    rw [List.getElem?_eq_getElem (by omega), Option.getD_some] at this ⊢
    exact this
  rw [← hC] at hz1I hz3 ⊢
  clear hat hz1 hz2 hC
  generalize xs.length = L at *
  go_enter Try.func5, Try.ntmps5
  go_wp2_with fail
  refine haw.mono ?_
  rintro e w1 ⟨rfl, hb1⟩
  clear haw
  go_wp2_with fail
  refine (HMD.out w1 hb1).mono ?_
  rintro e w2 ⟨p, q, rfl, N, ⟨hN1, hN2⟩, hS2⟩
  have HB2 : Hid (Below w.heap.size w w2) := below_on hb1 hS2.bel
  have hMD := HMM.out N
  generalize XM.made N xs (min L 400) = D at *
  have HS2 : Hid (St w1 w1.heap.size p q N D D w2) := hS2
  have HW1 : Hid (Below w.heap.size w w1) := hb1
  have HM : Hid (XM.Mesh N D ∧ 1 ≤ N ∧ N ≤ 24) := ⟨hMD, hN1, hN2⟩
  clear HMD HMM hb1 hS2 hMD hN1
  go_upto_region 6 with fail
  go_cut [9, 10] (fun cv gv wx => ∃ cb gb, cv = .pointer (some ⟨cb, 0, none⟩) ∧ gv = .pointer (some ⟨gb, 0, none⟩) ∧ Below w2.heap.size w2 wx ∧ XMem wx cb N D ∧ XMem wx gb N D ∧ w2.heap.size ≤ cb ∧ w2.heap.size ≤ gb)
  case first =>
    have HXL : Hid ((xCells N D).length = 577) := xCells_len N D
    have hr : w2.drew.rangeAt q 0 (xCells N D) := HS2.out.xq.drew.range
    have HXO : Hid ((xCells N D).toArray.all (·.oneCell') = true) := all_one (xCells_one N D)
    have HXZ : Hid ((xCells N D).toArray.size = 577) := by
      show _ = _
      rw [List.size_toArray]
      exact HXL.out
    generalize hXC : xCells N D = XC at *
    have HXC : Hid (xCells N D = XC) := hXC
    clear hXC
    have HCP : Hid (∀ W, XMem W p N D → Calls Try.prog 21 #[.pointer (some ⟨p, 0, none⟩)] W fun e w' => ∃ c, e = .returned (.pointer (some ⟨c, 0, none⟩)) ∧ c = W.heap.size ∧ XMem w' c N D ∧ Below W.heap.size W w') := fun W h => xcopy_any h
    have hz := zeroXR
    have HZ : Hid (zX.size = 577) := zX_size
    generalize hZ0 : zX = Z0 at *
    have HZ0 : Hid (zX = Z0) := hZ0
    clear hZ0
    have HSQ : Hid (∀ (W : World) (g : Nat) (vs : List Value), W.rangeAt q 0 XC → q ≠ g → (W.setCells g 0 vs).rangeAt q 0 XC) := fun W g vs h hne => World.rangeAt_setCells_apart h g 0 vs (.inl hne)
    refine wp_region_held_drew (S := fun W => W.rangeAt q 0 XC) (by kernel_rfl) hr (fun hHeld => ?_)
    refine wpAnyH_take (i := 0) (oi := { dst := some 29, op := Op.move (Operand.tmp 7), type := 24, pos := "law.go:131", after := #[], guard := none }) (v := ?_) rfl (by kernel_rfl) (by kernel_rfl) (by kernel_rfl) (fun _ _ _ h => h) (Or.inl ⟨by rfl, ?_⟩) (by assumption) ?_
    rotate_left
    · intro w0 hSw
      (try dsimp only at hSw)
      go_simp <;> with_reducible rfl
    try simp only [Act.put, List.setIfInBounds_toArray, List.set_cons_zero, List.set_cons_succ]
    refine wpAnyH_take (i := 2) (oi := { dst := some 31, op := Op.move (Operand.tmp 8), type := 28, pos := "law.go:131", after := #[{ on := 6, ground := Ground.gcOnly Departure.lateStores }], guard := none }) (v := ?_) rfl (by kernel_rfl) (by kernel_rfl) (by kernel_rfl) (fun _ _ _ h => h) (Or.inl ⟨by rfl, ?_⟩) (by assumption) ?_
    rotate_left
    · intro w0 hSw
      (try dsimp only at hSw)
      go_simp <;> with_reducible rfl
    try simp only [Act.put, List.setIfInBounds_toArray, List.set_cons_zero, List.set_cons_succ]
    refine wpAnyH_take (i := 3) (oi := { dst := some 32, op := Op.nilCheck (Operand.tmp 31), type := 0, pos := "law.go:131", after := #[{ on := 2, ground := Ground.data }, { on := 6, ground := Ground.gcOnly Departure.lateStores }], guard := none }) (v := ?_) rfl (by kernel_rfl) (by kernel_rfl) (by kernel_rfl) (fun _ _ _ h => h) (Or.inl ⟨by rfl, ?_⟩) (by assumption) ?_
    rotate_left
    · intro w0 hSw
      (try dsimp only at hSw)
      go_simp <;> with_reducible rfl
    try simp only [Act.put, List.setIfInBounds_toArray, List.set_cons_zero, List.set_cons_succ]
    refine wpAnyH_take (i := 4) (oi := { dst := some 33, op := Op.load 54 (Operand.tmp 32), type := 54, pos := "law.go:131", after := #[{ on := 3, ground := Ground.data }, { on := 6, ground := Ground.gcOnly Departure.lateStores }], guard := none }) (v := .agg XC.toArray) rfl (by kernel_rfl) (by kernel_rfl) (by kernel_rfl) (fun _ _ _ h => h) (yieldsIf_load_mid (by rfl) 54 (.tmp 32) rfl q 0 rfl XC _ (fun _ h => h) Try.underlying54 rfl (by rw [HXL.out]; exact infoXR)) (by assumption) ?_
    try simp only [Act.put, List.setIfInBounds_toArray, List.set_cons_zero, List.set_cons_succ]
    refine wpAnyH_ready (rs := [1, 5]) (by kernel_rfl) (by simp) ?_
    refine AllReadyH.cons (o := { dst := some 30, op := Op.call { callee := Callee.value (Operand.func 21), args := #[Operand.tmp 29], argTypes := #[24] }, type := 24, pos := "law.go:131", after := #[{ on := 0, ground := Ground.data }], guard := none }) rfl (fun K hK => ?_) (AllReadyH.cons (o := { dst := some 10, op := Op.alloc 54, type := 0, pos := "law.go:131", after := #[], guard := none }) rfl (fun K hK => ?_) AllReadyH.nil)
    · go_simp
      refine (HCP.out _ HS2.out.xp.drew).mono ?_
      rintro e w4 ⟨c, rfl, hc, hX4, hb4⟩
      have HB4 : Hid (Below w2.heap.size w2 w4 ∧ w2.heap.size ≤ c ∧ c < w4.heap.size ∧ XMem w4 c N D) := ⟨below_of_drew hb4, by rw [hc]; exact Nat.le_refl _, hX4.lt, hX4⟩
      clear hc hX4 hb4
      refine hK.out _ _ (by rw [← HXC.out]; exact (HS2.out.xq.on HB4.out.1).range) (fun hHeld => ?_)
      clear hK K
      try simp only [Act.put, List.setIfInBounds_toArray, List.set_cons_zero, List.set_cons_succ]
      refine wpAnyH_ready (rs := [5]) (by kernel_rfl) (by simp) ?_
      refine AllReadyH.cons (o := { dst := some 10, op := Op.alloc 54, type := 0, pos := "law.go:131", after := #[], guard := none }) rfl (fun K hK => ?_) AllReadyH.nil
      go_simp
      refine hK.out _ _ (by rw [← HXC.out]; exact ((HS2.out.xq.on HB4.out.1).on ((Below.refl _ _).alloc (Nat.le_refl _) _)).range) (fun hHeld => ?_)
      clear hK K
      try simp only [Act.put, List.setIfInBounds_toArray, List.set_cons_zero, List.set_cons_succ]
      have HTH : Hid ((w4.alloc (.cells Z0 54)).there w4.heap.size 0 577 ∧ ∀ j, (w4.alloc (.cells Z0 54)).frozen? ⟨w4.heap.size, j, none⟩ = false) := by
        show _ ∧ _
        rw [← HZ0.out]
        exact there_new w4 _
      have HFN : Hid (Below w2.heap.size w2 ((w4.alloc (.cells Z0 54)).setCells w4.heap.size 0 (xCells N D)) ∧ XMem ((w4.alloc (.cells Z0 54)).setCells w4.heap.size 0 (xCells N D)) c N D ∧ XMem ((w4.alloc (.cells Z0 54)).setCells w4.heap.size 0 (xCells N D)) w4.heap.size N D ∧ w2.heap.size ≤ c ∧ w2.heap.size ≤ w4.heap.size) := by
        obtain ⟨e1, e2, e3, e4⟩ := HB4.out
        obtain ⟨f1, f2, f3⟩ := was_laid (e1.alloc e1.size (.cells Z0 54)) (e4.on ((Below.refl _ _).alloc (Nat.le_refl _) _)) (by omega) e1.size HTH.out
        exact ⟨f1, f2, f3, e2, e1.size⟩
      refine wpAnyH_take (i := 6) (oi := { dst := some 9, op := Op.assign (Operand.tmp 30), type := 24, pos := "law.go:131", after := #[{ on := 1, ground := Ground.data }, { on := 1, ground := Ground.chain }, { on := 0, ground := Ground.phase }, { on := 1, ground := Ground.phase }, { on := 2, ground := Ground.textOnly Departure.lateStores }, { on := 3, ground := Ground.textOnly Departure.lateStores }, { on := 4, ground := Ground.textOnly Departure.lateStores }, { on := 5, ground := Ground.phase }], guard := none }) (v := ?_) rfl (by kernel_rfl) (by kernel_rfl) (by kernel_rfl) (fun _ _ _ h => h) (Or.inl ⟨by rfl, ?_⟩) (by assumption) ?_
      rotate_left
      · intro w0 hSw
        (try dsimp only at hSw)
        go_simp <;> with_reducible rfl
      try simp only [Act.put, List.setIfInBounds_toArray, List.set_cons_zero, List.set_cons_succ]
      refine wpAnyH_ready (rs := [7]) (by kernel_rfl) (by simp) ?_
      refine AllReadyH.cons (o := { dst := none, op := Op.store 54 (Operand.tmp 10) (Operand.tmp 33), type := 0, pos := "law.go:131", after := #[{ on := 5, ground := Ground.data }, { on := 4, ground := Ground.data }, { on := 6, ground := Ground.chain }, { on := 0, ground := Ground.phase }, { on := 1, ground := Ground.phase }, { on := 2, ground := Ground.phase }, { on := 3, ground := Ground.phase }, { on := 4, ground := Ground.phase }, { on := 5, ground := Ground.phase }, { on := 6, ground := Ground.phase }], guard := none }) rfl (fun K hK => ?_) AllReadyH.nil
      rw [if_pos (by rfl)]
      refine wp_store_mid 54 (.tmp 10) (.tmp 33) rfl (w4.heap.size) 0 XC.toArray rfl rfl (by rw [HXZ.out]; exact HTH.out.1) (by rw [HXZ.out]; exact infoXR) HXO.out ?_
      dsimp only
      refine hK.out _ _ (HSQ.out _ _ _ hHeld (by have := HB4.out.1.size; have := HS2.out.xq.lt; omega)) (fun hHeld => ?_)
      clear hK K
      try simp only [Act.put]
      refine wpAnyH_done (by kernel_rfl) ?_ _
      have HFI := HFN.out
      rw [HXC.out] at HFI
      clear hHeld HSQ HXO HTH HXZ HFN HXL HXC HZ0 HZ hz HCP
      go_wp2_with fail
      go_meet
      exact ⟨_, _, rfl, rfl, HFI.1, HFI.2.1, HFI.2.2.1, HFI.2.2.2⟩
    · go_simp
      refine hK.out _ _ (by rw [← HXC.out]; exact ((HS2.out.xq.on ((Below.refl _ _).alloc (Nat.le_refl _) _)).drew).range) (fun hHeld => ?_)
      clear hK K
      try simp only [Act.put, List.setIfInBounds_toArray, List.set_cons_zero, List.set_cons_succ]
      refine wpAnyH_ready (rs := [1]) (by kernel_rfl) (by simp) ?_
      refine AllReadyH.cons (o := { dst := some 30, op := Op.call { callee := Callee.value (Operand.func 21), args := #[Operand.tmp 29], argTypes := #[24] }, type := 24, pos := "law.go:131", after := #[{ on := 0, ground := Ground.data }], guard := none }) rfl (fun K hK => ?_) AllReadyH.nil
      go_simp
      refine (HCP.out _ (HS2.out.xp.on ((Below.refl _ _).alloc (Nat.le_refl _) _)).drew).mono ?_
      rintro e w4 ⟨c, rfl, hc, hX4, hb4⟩
      have HB4 : Hid (Below w2.heap.size w2 w4 ∧ w2.heap.size < c ∧ XMem w4 c N D ∧ w4.there w2.heap.size 0 577 ∧ ∀ j, w4.frozen? ⟨w2.heap.size, j, none⟩ = false) := by
        have e0 : Below w2.heap.size w2 (w2.alloc (.cells Z0 54)) := (Below.refl _ _).alloc (Nat.le_refl _) _
        have e1 := below_of_drew hb4
        have e2 : (w2.alloc (.cells Z0 54)).heap.size = w2.heap.size + 1 := by simp
        have e3 : c = (w2.alloc (.cells Z0 54)).heap.size := hc
        have e4 := there_new w2 54
        rw [HZ0.out] at e4
        exact ⟨below_on e0 e1, by omega, hX4, there_on (by omega) e4 e1⟩
      clear hc hX4 hb4
      refine hK.out _ _ (by rw [← HXC.out]; exact (HS2.out.xq.on HB4.out.1).range) (fun hHeld => ?_)
      clear hK K
      try simp only [Act.put, List.setIfInBounds_toArray, List.set_cons_zero, List.set_cons_succ]
      have HTH : Hid (w4.there w2.heap.size 0 577) := HB4.out.2.2.2.1
      have HFN : Hid (Below w2.heap.size w2 (w4.setCells w2.heap.size 0 (xCells N D)) ∧ XMem (w4.setCells w2.heap.size 0 (xCells N D)) c N D ∧ XMem (w4.setCells w2.heap.size 0 (xCells N D)) w2.heap.size N D ∧ w2.heap.size ≤ c ∧ w2.heap.size ≤ w2.heap.size) := by
        obtain ⟨e1, e2, e3, e4⟩ := HB4.out
        obtain ⟨f1, f2, f3⟩ := was_laid e1 e3 (by omega) (Nat.le_refl _) e4
        exact ⟨f1, f2, f3, by omega, Nat.le_refl _⟩
      refine wpAnyH_take (i := 6) (oi := { dst := some 9, op := Op.assign (Operand.tmp 30), type := 24, pos := "law.go:131", after := #[{ on := 1, ground := Ground.data }, { on := 1, ground := Ground.chain }, { on := 0, ground := Ground.phase }, { on := 1, ground := Ground.phase }, { on := 2, ground := Ground.textOnly Departure.lateStores }, { on := 3, ground := Ground.textOnly Departure.lateStores }, { on := 4, ground := Ground.textOnly Departure.lateStores }, { on := 5, ground := Ground.phase }], guard := none }) (v := ?_) rfl (by kernel_rfl) (by kernel_rfl) (by kernel_rfl) (fun _ _ _ h => h) (Or.inl ⟨by rfl, ?_⟩) (by assumption) ?_
      rotate_left
      · intro w0 hSw
        (try dsimp only at hSw)
        go_simp <;> with_reducible rfl
      try simp only [Act.put, List.setIfInBounds_toArray, List.set_cons_zero, List.set_cons_succ]
      refine wpAnyH_ready (rs := [7]) (by kernel_rfl) (by simp) ?_
      refine AllReadyH.cons (o := { dst := none, op := Op.store 54 (Operand.tmp 10) (Operand.tmp 33), type := 0, pos := "law.go:131", after := #[{ on := 5, ground := Ground.data }, { on := 4, ground := Ground.data }, { on := 6, ground := Ground.chain }, { on := 0, ground := Ground.phase }, { on := 1, ground := Ground.phase }, { on := 2, ground := Ground.phase }, { on := 3, ground := Ground.phase }, { on := 4, ground := Ground.phase }, { on := 5, ground := Ground.phase }, { on := 6, ground := Ground.phase }], guard := none }) rfl (fun K hK => ?_) AllReadyH.nil
      rw [if_pos (by rfl)]
      refine wp_store_mid 54 (.tmp 10) (.tmp 33) rfl (w2.heap.size) 0 XC.toArray rfl rfl (by rw [HXZ.out]; exact HTH.out) (by rw [HXZ.out]; exact infoXR) HXO.out ?_
      dsimp only
      refine hK.out _ _ (HSQ.out _ _ _ hHeld (by have := HS2.out.xq.lt; omega)) (fun hHeld => ?_)
      clear hK K
      try simp only [Act.put]
      refine wpAnyH_done (by kernel_rfl) ?_ _
      have HFI := HFN.out
      rw [HXC.out] at HFI
      clear hHeld HSQ HXO HTH HXZ HFN HXL HXC HZ0 HZ hz HCP
      go_wp2_with fail
      go_meet
      exact ⟨_, _, rfl, rfl, HFI.1, HFI.2.1, HFI.2.2.1, HFI.2.2.2⟩
  case rest =>
  obtain ⟨cb, gb, rfl, rfl, hbc, hXc, hXg, hlc, hlg⟩ := hcut
  have HSC : Hid (St w1 w1.heap.size p q N D D wc) := HS2.out.on hbc
  have HCC : Hid (XMem wc cb N D ∧ XMem wc gb N D ∧ w2.heap.size ≤ cb ∧ w2.heap.size ≤ gb ∧ p < w2.heap.size ∧ q < w2.heap.size) := ⟨hXc, hXg, hlc, hlg, HS2.out.xp.lt, HS2.out.xq.lt⟩
  clear hbc hXc hXg hlc hlg
  have hall := xall_any HSC.out.xq HM.out.1 HM.out.2.2
  have hz := zeroT
  have HZ : Hid (zT.size = 576) := zT_size
  generalize zT = Z0 at *
  go_upto_region 7 with fail
  go_wp2_with fail
  refine hall.mono ?_
  rintro e w5 ⟨T, rfl, hT, hb5⟩
  have HT : Hid (∀ a b : Nat, a < N → b < N → XM.Far D N a b (T a b)) := hT
  have HTL : Hid ((tabCells T).toArray.size = 576) := by
    show _ = _
    rw [List.size_toArray]
    exact tabCells_len T
  have HTO : Hid ((tabCells T).toArray.all (·.oneCell') = true) := all_one (tabCells_one T)
  have HTN : Hid (TMem (w5.alloc (.cells (tabCells T).toArray 52)) w5.heap.size T) := tmem_new w5 T _
  have HB5 : Hid (Below wc.heap.size wc w5) := hb5
  clear hall hT hb5
  generalize hTC : tabCells T = TC at *
  clear hTC
  go_wp2_with (refine wpList_store_row rfl 52 (.tmp 11) (.tmp 35) rfl w5.heap.size TC.toArray rfl rfl 52 Z0 (heap_alloc_last w5 _) (by rw [HTL.out]; exact infoT) (by rw [HZ.out, HTL.out]) HTO.out ?_; rw [World.setRow_alloc_new])
  obtain ⟨W8, hW8⟩ : ∃ W8, W8 = (w5.alloc (.cells TC.toArray 52)).alloc (.cells #[.bool false, .bool false, .bool false, .bool false, .bool false, .bool false, .bool false, .bool false, .bool false, .bool false, .bool false, .bool false, .bool false, .bool false, .bool false, .bool false, .bool false, .bool false, .bool false, .bool false, .bool false, .bool false, .bool false, .bool false] 56) := ⟨_, rfl⟩
  rw [← hW8]
  have HCI0 : Hid (CI w1 p q cb gb w5.heap.size (w5.heap.size + 1) N D T (XM.cons N D zs 0) (XM.cons N D zs 0) (XM.goneS N zs 0) W8) := by
    have e1 : Below w5.heap.size w5 (w5.alloc (.cells TC.toArray 52)) := (Below.refl _ _).alloc (Nat.le_refl _) _
    have e2 : Below (w5.alloc (.cells TC.toArray 52)).heap.size (w5.alloc (.cells TC.toArray 52)) W8 := by rw [hW8]; exact (Below.refl _ _).alloc (Nat.le_refl _) _
    have e3 := below_on HB5.out (below_on e1 e2)
    have e4 := goM_new (w5.alloc (.cells TC.toArray 52)) #[.bool false, .bool false, .bool false, .bool false, .bool false, .bool false, .bool false, .bool false, .bool false, .bool false, .bool false, .bool false, .bool false, .bool false, .bool false, .bool false, .bool false, .bool false, .bool false, .bool false, .bool false, .bool false, .bool false, .bool false] rfl 56
    rw [← hW8, World.size_alloc] at e4
    exact ⟨HSC.out.on e3, HCC.out.1.on e3, HCC.out.2.1.on e3, HTN.out.on e2, e4⟩
  have HCL : Hid (CL w1 p q cb gb w5.heap.size (w5.heap.size + 1)) := by
    obtain ⟨g1, g2, g3, g4, g5, g6⟩ := HCC.out
    have e1 := HB5.out.size
    have e2 := g1.lt
    have e3 := g2.lt
    exact ⟨by omega, by omega, by omega, by omega, by omega, by omega, by omega⟩
  have HBW : Hid (∀ W E1 E2 g, CI w1 p q cb gb w5.heap.size (w5.heap.size + 1) N D T E1 E2 g W → Below w.heap.size w W) := by
    have e1 := HB2.out
    have e2 := HS2.out.sz
    have e3 := HW1.out
    exact fun W E1 E2 g h => below_on e3 h.s.bel
  have HMK : Hid (∀ k, XM.Mesh N (XM.cons N D zs k)) := fun k => XM.cons_mesh HM.out.1 zs k
  have HFA : Hid (∀ k, XM.FarAll N (XM.cons N D zs k) (XM.goneS N zs k) T) := fun k => XM.far_cons HM.out.1 zs HT.out k
  clear hW8 HTN HTL HTO HSC HCC HB5 HT HS2 HB2 HW1
  generalize w5.heap.size = fb at *
  go_loopw [13] (fun iv wr => ∃ k : Nat, k ≤ C ∧ k ≤ 40 ∧ iv = .int .i64 k ∧ CI w1 p q cb gb fb (fb + 1) N D T (XM.cons N D zs k) (XM.cons N D zs k) (XM.goneS N zs k) wr) (fun iv _ => C - (intOf iv).toNat)
  case atStart => exact ⟨0, Nat.zero_le _, by decide, rfl, HCI0.out⟩
  case round =>
    clear HCI0
    obtain ⟨k, hk, hk2, rfl, hCI⟩ := hrel
    have HCI : Hid (CI w1 p q cb gb fb (fb + 1) N D T (XM.cons N D zs k) (XM.cons N D zs k) (XM.goneS N zs k) wr) := hCI
    by_cases hlt : k < C ∧ k < 40
    · obtain ⟨b2, o2, rfl, hcz⟩ := HAT.out (by omega)
      have hcz := hcz k hlt.1
      have HCZ : Hid (∀ W E1 E2 g, CI w1 p q cb gb fb (fb + 1) N D T E1 E2 g W → W.cell? ⟨b2, o2 + k, none⟩ = some (.int .i64 (zs[k]?.getD (-1)))) := fun W E1 E2 g h => ((HBW.out W E1 E2 g h).cell (p := ⟨b2, o2 + k, none⟩) (cell_lt hcz)).trans hcz
      have cz := HCZ.out wr _ _ _ hCI
      have k1 : (k : Int) < (C : Int) := by omega
      have k4 : (k : Int) < 40 := by omega
      have HST : Hid (XM.cons N D zs (k + 1) = XM.conOne N (XM.cons N D zs k) (zs[k]?.getD (-1))) := rfl
      have HGY : Hid (∀ v : Nat, v < N → zs[k]?.getD (-1) = (v : Int) → ∀ i, XM.goneS N zs (k + 1) i = if i = v then true else XM.goneS N zs k i) := fun v hv h i => XM.goneS_yes hv h i
      have HGN : Hid (GM.vert N (zs[k]?.getD (-1)) = false → XM.goneS N zs (k + 1) = XM.goneS N zs k) := XM.goneS_no
      clear hcz hCI hlt
      generalize zs[k]?.getD (-1) = z at *
      cases hz1 : GM.vert N z with
      | false =>
        have hcon := xcon_no HCI.out.s.xp z hz1
        have hvx := xvertex_any HCI.out.s.xq z
        rw [hz1] at hvx
        have HN : Hid (CI w1 p q cb gb fb (fb + 1) N D T (XM.cons N D zs (k + 1)) (XM.cons N D zs (k + 1)) (XM.goneS N zs (k + 1)) wr) := by
          show CI _ _ _ _ _ _ _ _ _ _ _ _ _ _
          rw [HST.out, HGN.out hz1, XM.conOne_no _ hz1]
          exact HCI.out
        clear HST HGY HGN hz1 HCI
        go_wp2_with fail
        refine hcon.mono ?_
        rintro e w9 ⟨rfl, hw9⟩
        rw [hw9]
        clear hw9 w9 hcon
        go_wp2_with fail
        refine hvx.mono ?_
        rintro e w9 ⟨rfl, hw9⟩
        rw [hw9]
        clear hw9 w9 hvx
        go_wp2_with fail
        go_roundw
        case rel => exact ⟨k + 1, by omega, by omega, by go_num, HN.out⟩
        case measure => simp [intOf]; omega
      | true =>
        obtain ⟨x, rfl, hx⟩ := XM.vert_nat hz1
        have x24 : (x : Int) < 24 := by have := HM.out.2.2; omega
        have hcon := xcon_ok HCI.out.s.xp (HMK.out k) HM.out.2.2 x hx
        have HMK2 : Hid (XM.Mesh N (XM.con (XM.cons N D zs k) x)) := (HMK.out k).con
        have HRC : Hid (∀ W E1 g, CI w1 p q cb gb fb (fb + 1) N D T E1 (XM.cons N D zs k) g W → Calls Try.prog 25 #[.pointer (some ⟨q, 0, none⟩), .int .i64 (x : Nat)] W fun e w' => e = .returned (.int .i64 (XM.conN N (XM.cons N D zs k) x : Nat)) ∧ CI w1 p q cb gb fb (fb + 1) N D T E1 (XM.con (XM.cons N D zs k) x) g w') := fun W E1 g h => (rcon_any h.s.xq (HMK.out k) HM.out.2.2 x hx).mono (by
          rintro e w' ⟨rfl, h1, h2⟩
          exact ⟨rfl, h.right HCL.out h2 h1⟩)
        have HVX : Hid (∀ W E1 E2 g, CI w1 p q cb gb fb (fb + 1) N D T E1 E2 g W → Calls Try.prog 24 #[.pointer (some ⟨q, 0, none⟩), .int .i64 (x : Nat)] W fun e w' => e = .returned (.bool true) ∧ w' = W) := fun W E1 E2 g h => by
          have := xvertex_any h.s.xq (x : Int)
          rwa [hz1] at this
        have HEQ : Hid (XM.cons N D zs (k + 1) = XM.con (XM.cons N D zs k) x) := HST.out.trans (XM.conOne_yes _ hx)
        have HGE : Hid (∀ i, XM.goneS N zs (k + 1) i = if i = x then true else XM.goneS N zs k i) := HGY.out x hx rfl
        have HX24 : Hid (x < 24) := by show _ < _; omega
        clear HST HGY HGN hz1 hx
        obtain ⟨E', hE'⟩ : ∃ E', E' = XM.con (XM.cons N D zs k) x := ⟨_, rfl⟩
        rw [← hE'] at HMK2 HRC HEQ hcon
        clear hE'
        obtain ⟨g', hg'⟩ : ∃ g', g' = XM.goneS N zs (k + 1) := ⟨_, rfl⟩
        have HG' : Hid (XM.goneS N zs (k + 1) = g') := hg'.symm
        rw [← hg'] at HGE
        clear hg'
        generalize XM.conN N (XM.cons N D zs k) x = cn at *
        generalize XM.goneS N zs k = g at *
        go_wp2_with fail
        refine hcon.mono ?_
        rintro e w9 ⟨rfl, hX9, hK9⟩
        have hC9 := HCI.out.left HCL.out hK9 hX9
        have HC9 : Hid (CI w1 p q cb gb fb (fb + 1) N D T E' (XM.cons N D zs k) g w9) := hC9
        have cz9 := HCZ.out w9 _ _ _ hC9
        have hv9 := HVX.out w9 _ _ _ hC9
        have cg := hC9.n.c x HX24.out
        have fg := hC9.n.fz x
        clear hcon hX9 hK9 hC9 HCI cz
        go_wp2_with fail
        refine hv9.mono ?_
        rintro e w10 ⟨rfl, hw10⟩
        rw [hw10]
        clear hw10 w10 hv9 HVX
        have hC10 := HC9.out.go HCL.out HX24.out HGE.out
        have cz10 := HCZ.out _ _ _ _ hC10
        have hrc := HRC.out _ _ _ hC10
        clear HC9 HRC hC10 HGE
        go_wp2_with fail
        refine hrc.mono ?_
        rintro e w11 ⟨rfl, hC11⟩
        have HC11 : Hid (CI w1 p q cb gb fb (fb + 1) N D T E' E' g' w11) := hC11
        have hsm := sameX_any hC11.s.xp hC11.s.xq HMK2.out HM.out.2.2
        clear hrc hC11 cz9 cz10 cg fg
        go_wp2_with fail
        refine hsm.mono ?_
        rintro e w12 ⟨rfl, hb12⟩
        have HN : Hid (CI w1 p q cb gb fb (fb + 1) N D T (XM.cons N D zs (k + 1)) (XM.cons N D zs (k + 1)) (XM.goneS N zs (k + 1)) w12) := by
          show CI _ _ _ _ _ _ _ _ _ _ _ _ _ _
          rw [HEQ.out, HG'.out]
          exact HC11.out.on hb12
        clear hsm hb12 HC11
        go_wp2_with fail
        go_roundw
        case rel => exact ⟨k + 1, by omega, by omega, by go_num, HN.out⟩
        case measure => simp [intOf]; omega
    · have hkn : ¬ ((k : Int) < (C : Int) ∧ (k : Int) < 40) := by omega
      have HMB : Hid (XM.Mesh N (XM.cons N D zs k) ∧ XM.FarAll N (XM.cons N D zs k) (XM.goneS N zs k) T) := ⟨HMK.out k, HFA.out k⟩
      clear hCI HMK HFA
      generalize XM.cons N D zs k = E at *
      generalize XM.goneS N zs k = g at *
      have hall2 := xall_any HCI.out.s.xq HMB.out.1 HM.out.2.2
      have HNQ : Hid (N ≤ 24) := HM.out.2.2
      by_cases hkl : (k : Int) < (C : Int)
      all_goals
        first
        | have h4 : ¬ (k : Int) < 40 := fun h => hkn ⟨hkl, h⟩
        | skip
        clear hkn
        go_wp2_with fail
        refine hall2.mono ?_
        rintro e w6 ⟨T2, rfl, hT2, hb6⟩
        have HEQ : Hid (∀ u b : Nat, u < N → b < N → g u = false → g b = false → T2 u b = T u b) := fun u b hu hb gu gb => HMB.out.2.same hT2 hu hb gu gb
        have HC6 : Hid (CI w1 p q cb gb fb (fb + 1) N D T E E g w6) := HCI.out.on hb6
        have HTL : Hid ((tabCells T2).toArray.size = 576) := by
          show _ = _
          rw [List.size_toArray]
          exact tabCells_len T2
        have HTO : Hid ((tabCells T2).toArray.all (·.oneCell') = true) := all_one (tabCells_one T2)
        have HTN : Hid (TMem (w6.alloc (.cells (tabCells T2).toArray 52)) w6.heap.size T2) := tmem_new w6 T2 _
        clear hall2 hT2 hb6
        generalize tabCells T2 = TC2 at *
        go_wp2_with (refine wpList_store_row rfl 52 (.tmp 16) (.tmp 92) rfl w6.heap.size TC2.toArray rfl rfl 52 Z0 (heap_alloc_last w6 _) (by rw [HTL.out]; exact infoT) (by rw [HZ.out, HTL.out]) HTO.out ?_; rw [World.setRow_alloc_new])
        have HC7 : Hid (CI w1 p q cb gb fb (fb + 1) N D T E E g (w6.alloc (.cells TC2.toArray 52))) := HC6.out.on ((Below.refl _ _).alloc (Nat.le_refl _) _)
        generalize w6.alloc (.cells TC2.toArray 52) = w7 at *
        generalize w6.heap.size = tb at *
        clear HCI HC6 HTL HTO
        go_loopw [17] (fun uv wr => ∃ u : Nat, u ≤ N ∧ uv = .int .i64 u ∧ Below w7.heap.size w7 wr) (fun uv _ => N - (intOf uv).toNat)
        case atStart => exact ⟨0, Nat.zero_le _, rfl, Below.refl _ _⟩
        case round =>
          rename_i wr0 hwr0
          obtain ⟨u, hu, rfl, hB⟩ := hrel
          have HB : Hid (Below w7.heap.size w7 wr) := hB
          have c0 := (HC7.out.on hB).s.xq.c0
          have huN : (u : Int) ≤ (N : Int) := by omega
          by_cases hul : u < N
          · have u1 : (u : Int) < (N : Int) := by omega
            go_wp2_with fail
            clear c0
            go_loopw [18] (fun xv wr' => ∃ x : Nat, x ≤ N ∧ xv = .int .i64 x ∧ Below w7.heap.size w7 wr') (fun xv _ => N - (intOf xv).toNat)
            case atStart => exact ⟨0, Nat.zero_le _, rfl, HB.out⟩
            case round =>
              clear HB
              rename_i wr1 hwr1
              obtain ⟨x, hx, rfl, hB⟩ := hrel
              have HB : Hid (Below w7.heap.size w7 wr) := hB
              have c0 := (HC7.out.on hB).s.xq.c0
              have hxN : (x : Int) ≤ (N : Int) := by omega
              by_cases hxl : x < N
              · have x1 : (x : Int) < (N : Int) := by omega
                have hN24 := HNQ.out
                have u24 : (u : Int) < 24 := by omega
                have x24 : (x : Int) < 24 := by omega
                have cu := (HC7.out.on hB).n.c u (by omega)
                have cx := (HC7.out.on hB).n.c x (by omega)
                have cf := (HC7.out.on hB).f.c u x (by omega) (by omega)
                have cn := (HTN.out.on hB).c u x (by omega) (by omega)
                have he := HEQ.out u x hul hxl
                clear hN24 hB
                generalize g u = gu at *
                generalize g x = gx at *
                generalize T2 u x = y2 at *
                generalize T u x = y1 at *
                cases gu with
                | true =>
                  clear he cx cf cn
                  go_upto_region 26 with fail
                  go_quiet (fail)
                  have HBQ : Hid (Below w7.heap.size w7 (wr.drewN nq)) := below_drewN HB.out nq
                  clear cu c0
                  go_wp2_with fail
                  go_roundw
                  case rel => exact ⟨x + 1, by omega, by go_num, HBQ.out⟩
                  case measure => simp [intOf]; omega
                | false =>
                  cases gx with
                  | true =>
                    clear he cf cn
                    go_upto_region 26 with fail
                    go_quiet (fail)
                    have HBQ : Hid (Below w7.heap.size w7 (wr.drewN nq)) := below_drewN HB.out nq
                    clear cu cx c0
                    go_wp2_with fail
                    go_roundw
                    case rel => exact ⟨x + 1, by omega, by go_num, HBQ.out⟩
                    case measure => simp [intOf]; omega
                  | false =>
                    obtain rfl := he rfl rfl
                    clear he
                    go_upto_region 26 with fail
                    go_quiet (fail)
                    have HBQ : Hid (Below w7.heap.size w7 (wr.drewN nq)) := below_drewN HB.out nq
                    clear cu cx cf cn c0
                    go_wp2_with fail
                    go_roundw
                    case rel => exact ⟨x + 1, by omega, by go_num, HBQ.out⟩
                    case measure => simp [intOf]; omega
              · obtain rfl : x = N := by omega
                clear hB
                go_wp2_with fail
                go_roundw
                case rel => exact ⟨u + 1, by omega, by go_num, HB.out⟩
                case measure => simp [intOf]; omega
          · obtain rfl : u = N := by omega
            have HC8 : Hid (CI w1 p q cb gb fb (fb + 1) u D T E E g wr) := HC7.out.on hB
            have hsm := sameX_any HC8.out.xc HC8.out.xg HM.out.1 HM.out.2.2
            clear hB
            go_wp2_with fail
            refine hsm.mono ?_
            rintro e w9 ⟨rfl, hb9⟩
            have HBF : Hid (Below w.heap.size w w9) := HBW.out _ _ _ _ (HC8.out.on hb9)
            clear hsm hb9
            go_wp2_with fail
            go_ret
            exact ⟨rfl, HBF.out⟩
end Go.Proofs.Ytleckkpfnjpbiaa
