/-
  BothPathW, BothLaw.
-/
import Derived.Test.YtmamligiopbefaaMmBothSearch
import Derived.Test.YtmamligiopbefaaMmBothAlong
import Derived.Test.YtmamligiopbefaaMmSufs
import Derived.Test.YtmamligiopbefaaMmPaths
import Derived.Test.YtmamligiopbefaaMmRefN
import Derived.Test.YtmamligiopbefaaMmWRefs
import Derived.Laws.AppendOwnNone
section
/-
  The walks of the meeting's path, and of both's Dist and Path.
-/
namespace Go.Proofs.Ytmamligiopbefaa
open Go.RowKit Go.Shelf

/-- 'append' of any row onto one of the call's own, as one step of a region that draws its order. -/
theorem step_append_row {P : Program} {ops : Array Oper} {o : Oper} {a : Act} {w : World} {K : Act → World → Prop} {Q : Exit → Act → World → Prop} {E : Prop}
    (hg : o.guard = none) (s x : Operand) (t : TypeId) (hop : o.op = Op.call { callee := Callee.builtin Builtin.append, args := #[s, x], argTypes := #[t, t] })
    (k : IntKind) (base : Nat) (e : TypeId) (i : TypeInfo) (bytes : Nat) (ht : P.underlying t = some (.slice e)) (hi : P.info? e = some i) (hz : i.zero = some (.int k 0)) (hsize : i.size = 1) (hby : i.bytes = bytes)
    (v : Value) (xs : List Int) (hs : a.eval s = v) (hown : Own k e w base v xs) (u : Value) (ys : List Int) (hx : a.eval x = u) (hsrc : Row k w u ys)
    (h63 : xs.length + ys.length ≤ maxLen) (hbytes : (xs.length + ys.length) * bytes ≤ 140737488355328) (hbase : base ≤ w.heap.size)
    (hK : ∀ v' w', Own k e w' base v' (xs ++ ys) → w.grownBy w' v.ownBlock → K (a.put o.dst v') w') :
    if Region.wanted o (yielded ops a.tmps) = true then Oper.wp P o a w K Q else E := by
  have hw : Region.wanted o (yielded ops a.tmps) = true := by simp [Region.wanted, hg]
  rw [if_pos hw]
  obtain ⟨ao, c, rfl, hat⟩ := hsrc
  cases ao with
  | none =>
    obtain ⟨h0, rfl⟩ := hat.empty rfl
    obtain rfl := List.eq_nil_of_length_eq_zero h0
    have hrun := run_append_owned_none (P := P) (w := w) base t o.type e i 1 ht hi v xs.length (xs.map (Value.int k)) hown
    unfold Oper.wp
    simp [execOp, hop, resolve, invoke, builtin, hs, hx, hrun, Result.andThen]
    exact hK _ _ (by simpa using hown) (World.grownBy.refl _ _)
  | some ad =>
    obtain ⟨v', w', hrun, r1, r2, -⟩ := run_append_own (P := P) w base t o.type e i (.int k 0) 1 bytes ht hi hz hsize hby rfl (by decide) v xs.length _ hown ad ys.length c (ys.map (Value.int k)) (by simp) (hat.cells ad rfl) (ints_oneCell _ _) h63 hbytes hbase
    unfold Oper.wp
    simp [execOp, hop, resolve, invoke, builtin, hs, hx, hrun, Result.andThen]
    refine hK _ _ ?_ r2
    unfold Own
    rw [List.length_append, List.map_append]
    exact r1
set_option maxRecDepth 100000 in
set_option maxHeartbeats 1000000 in
theorem mpath_any {w A : World} {mq gp N most : Nat} {m : GM.M} {s t : Nat} (h : BF w mq gp N m s t A) (hg : GMem A gp N most m) (hgm : GM.Good most m) (hs : s < N) (ht : t < N) (hF : NM.dist m s t ≤ 4611686018427387904) :
    Calls Try.prog 26 #[.pointer (some ⟨mq, 0, none⟩)] A fun e w' => ∃ r T, e = .returned r ∧ Own .i64 3 w' A.heap.size r T ∧ NM.Wk m s t T ∧ NM.csum m T = NM.dist m s t ∧ T.length ≤ 48 ∧ Below A.heap.size A w' := by
  obtain ⟨⟨at_, z1, z2, k1, k2, h1, h2, F1, F2, d1, d2, me, b1, b2, mt⟩, -⟩ := h
  have hat : at_ < N ∧ NM.farOf k1 at_ ≤ 4611686018427387904 ∧ NM.farOf k2 at_ ≤ 4611686018427387904 ∧ NM.dist m s t = NM.farOf k1 at_ + NM.farOf k2 at_ := by
    have e1 := b1.bd at_
    have e2 := b2.bd at_
    rcases mt.is with e | ⟨ha, e⟩
    · omega
    · rcases NM.two_cases e1.1 e1.2 e2.1 e2.2 with c | c | c
      · omega
      · omega
      · exact ⟨ha, by omega, by omega, by omega⟩
  obtain ⟨haN, hf1, hf2, hsum⟩ := hat
  have HC : Hid (∀ W, Below A.heap.size A W → W.cell? ⟨mq, 0, none⟩ = some (.pointer (some ⟨z1.q, 0, none⟩)) ∧ W.cell? ⟨mq, 1, none⟩ = some (.pointer (some ⟨z2.q, 0, none⟩)) ∧ W.cell? ⟨mq, 2, none⟩ = some (.int .i64 (at_ : Nat))) := fun W hW => ⟨(me.on hW).cs, (me.on hW).co, (me.on hW).ca⟩
  have HT1 : Hid (∀ W, Below A.heap.size A W → Calls Try.prog 54 #[.pointer (some ⟨z1.q, 0, none⟩), .int .i64 (at_ : Nat)] W fun e w' => ∃ r T, e = .returned r ∧ Own .i64 3 w' W.heap.size r T ∧ T.length ≤ 24 ∧ NM.Bk m N (NM.farI k1) at_ s T.reverse ∧ Below W.heap.size W w') := fun W hW => traceO_any (me.on hW).s (hg.on hW) hgm b1 hs at_ haN hf1
  have HT2 : Hid (∀ W, Below A.heap.size A W → Calls Try.prog 54 #[.pointer (some ⟨z2.q, 0, none⟩), .int .i64 (at_ : Nat)] W fun e w' => ∃ r T, e = .returned r ∧ Own .i64 3 w' W.heap.size r T ∧ T.length ≤ 24 ∧ NM.Bk (NM.rev m) N (NM.farI k2) at_ t T.reverse ∧ Below W.heap.size W w') := fun W hW => traceI_any (me.on hW).o (hg.on hW) hgm b2 ht at_ haN hf2
  have HFIN : Hid (∀ T1 T2 : List Int, NM.Bk m N (NM.farI k1) at_ s T1.reverse → NM.Bk (NM.rev m) N (NM.farI k2) at_ t T2.reverse → NM.Wk m s t (T1.reverse ++ T2) ∧ NM.csum m (T1.reverse ++ T2) = NM.dist m s t) := fun T1 T2 p1 p2 => by
    have w2 := NM.wk_rev p2.walk
    have c2 := NM.csum_rev (NM.rev m) T2.reverse
    rw [NM.rev_rev, List.reverse_reverse] at w2 c2
    have z1 : NM.farI k1 (s : Int) = 0 := by unfold NM.farI; rw [Int.toNat_natCast]; exact b1.zero
    have z2 : NM.farI k2 (t : Int) = 0 := by unfold NM.farI; rw [Int.toNat_natCast]; exact b2.zero
    have s1 := p1.sum
    have s2 := p2.sum
    have a1 : NM.farI k1 (at_ : Int) = NM.farOf k1 at_ := by unfold NM.farI; rw [Int.toNat_natCast]
    have a2 : NM.farI k2 (at_ : Int) = NM.farOf k2 at_ := by unfold NM.farI; rw [Int.toNat_natCast]
    rw [z1, a1] at s1
    rw [z2, a2] at s2
    refine ⟨NM.wk_append p1.walk w2, ?_⟩
    have bc1 := NM.csum_bd m T1.reverse
    have bc2 := NM.csum_bd m T2
    rw [NM.csum_append]
    rcases NM.two_cases bc1.1 bc1.2 bc2.1 bc2.2 with c | c | c <;> omega
  obtain ⟨i0, hi0, hz0, hz1, hz2⟩ := info_int
  obtain ⟨c0, c1, c2⟩ := HC.out A (Below.refl _ _)
  have c0d : A.drew.cell? ⟨mq, 0, none⟩ = some (.pointer (some ⟨z1.q, 0, none⟩)) := c0
  have c2d : A.drew.cell? ⟨mq, 2, none⟩ = some (.int .i64 (at_ : Nat)) := c2
  have ht1 := HT1.out A.drew (Below.refl _ _).drew
  clear me b1 b2 mt hg hgm hF hf1 hf2 hsum
  have HTA : Hid (Calls Try.prog 54 #[.pointer (some ⟨z1.q, 0, none⟩), .int .i64 (at_ : Nat)] A.drew fun e w' => ∃ r T, e = .returned r ∧ Own .i64 3 w' A.drew.heap.size r T ∧ T.length ≤ 24 ∧ NM.Bk m N (NM.farI k1) at_ s T.reverse ∧ Below A.drew.heap.size A.drew w') := ht1
  clear ht1 HT1
  go_enter Try.func26, Try.ntmps26
  go_upto_region 1 with fail
  go_upto_region 2 with (go_region_held3 (fun w' => w'.cell? ⟨mq, 0, none⟩ = some (.pointer (some ⟨z1.q, 0, none⟩)) ∧ w'.cell? ⟨mq, 2, none⟩ = some (.int .i64 (at_ : Nat))) (go_keep) (first
    | (go_at_call 54; refine HTA.out.mono ?_; rintro e w3 ⟨r1, T1, rfl, ho3, hl3, hk3, hb3⟩; have H3 : Hid (Own .i64 3 w3 A.heap.size r1 T1 ∧ T1.length ≤ 24 ∧ NM.Bk m N (NM.farI k1) at_ s T1.reverse ∧ Below A.heap.size A w3) := ⟨ho3, hl3, hk3, below_of_drew hb3⟩; clear ho3 hl3 hk3 hb3; have g31 := (HC.out _ H3.out.2.2.2).1; have g32 := (HC.out _ H3.out.2.2.2).2.2)))
  have hrev := reverse_any H3.out.1 H3.out.2.2.2.size (by have := H3.out.2.1; omega)
  clear g31 g32 c0 c1 c2 c0d c2d HTA
  go_wp2_with fail
  refine hrev.mono ?_
  rintro e w4 ⟨rfl, ho4, hb4⟩
  have H4 : Hid (Own .i64 3 w4 A.heap.size r1 T1.reverse ∧ T1.reverse.length ≤ 24 ∧ NM.Bk m N (NM.farI k1) at_ s T1.reverse ∧ Below A.heap.size A w4) := ⟨ho4, by rw [List.length_reverse]; exact H3.out.2.1, H3.out.2.2.1, H3.out.2.2.2.trans hb4⟩
  clear hrev ho4 hb4 H3
  obtain ⟨c0, c1, c2⟩ := HC.out w4 H4.out.2.2.2
  have c1d : w4.drew.cell? ⟨mq, 1, none⟩ = some (.pointer (some ⟨z2.q, 0, none⟩)) := c1
  have c2d : w4.drew.cell? ⟨mq, 2, none⟩ = some (.int .i64 (at_ : Nat)) := c2
  have HTB : Hid (Calls Try.prog 54 #[.pointer (some ⟨z2.q, 0, none⟩), .int .i64 (at_ : Nat)] w4.drew fun e w' => ∃ r T, e = .returned r ∧ Own .i64 3 w' w4.drew.heap.size r T ∧ T.length ≤ 24 ∧ NM.Bk (NM.rev m) N (NM.farI k2) at_ t T.reverse ∧ Below w4.drew.heap.size w4.drew w') := HT2.out w4.drew H4.out.2.2.2.drew
  clear HT2 c0
  go_upto_region 3 with fail
  have HZ4 : Hid (A.heap.size ≤ w4.heap.size) := H4.out.2.2.2.size
  go_region_held3 (fun w' => w'.cell? ⟨mq, 1, none⟩ = some (.pointer (some ⟨z2.q, 0, none⟩)) ∧ w'.cell? ⟨mq, 2, none⟩ = some (.int .i64 (at_ : Nat))) (first | go_keep | exact ⟨(HC.out _ H7.out.2.2).2.1, (HC.out _ H7.out.2.2).2.2⟩) (first
    | (go_at_call 54; refine HTB.out.mono ?_; rintro e w6 ⟨r2, T2, rfl, ho6, hl6, hk6, hb6⟩; have H6 : Hid (Row .i64 w6 r2 T2 ∧ T2.length ≤ 24 ∧ NM.Bk (NM.rev m) N (NM.farI k2) at_ t T2.reverse ∧ Below w4.heap.size w4 w6) := ⟨ho6.row, hl6, hk6, below_of_drew hb6⟩; clear ho6 hl6 hk6 hb6; have g61 := (HC.out _ (below_on H4.out.2.2.2 H6.out.2.2.2)).2.1; have g62 := (HC.out _ (below_on H4.out.2.2.2 H6.out.2.2.2)).2.2)
    | (refine step_append_row rfl (.tmp 16) (.tmp 26) 41 rfl .i64 A.heap.size 3 i0 8 Try.underlying41 hi0 hz0 hz1 hz2 r1 T1.reverse rfl (H4.out.1.below H6.out.2.2.2) r2 T2 rfl H6.out.1 (by have := H4.out.2.1; have := H6.out.2.1; unfold maxLen; omega) (by have := H4.out.2.1; have := H6.out.2.1; omega) (Nat.le_trans HZ4.out H6.out.2.2.2.size) ?_; intro v' w7 ho7 hg7; have H7 : Hid (Own .i64 3 w7 A.heap.size v' (T1.reverse ++ T2) ∧ (T1.reverse ++ T2).length ≤ 48 ∧ Below A.heap.size A w7) := ⟨ho7, by rw [List.length_append]; have := H4.out.2.1; have := H6.out.2.1; omega, (below_on H4.out.2.2.2 H6.out.2.2.2).trans (((Keeps.refl (fun b => A.heap.size ≤ b) _).grown hg7 (fun g hg => .inl (H4.out.1.block g hg))).below (fun b h => h) (Nat.le_trans HZ4.out H6.out.2.2.2.size))⟩; clear ho7 hg7))
  have HE := HFIN.out T1 T2 H4.out.2.2.1 H6.out.2.2.1
  have HE2 : Hid (NM.Wk m s t (T1.reverse ++ T2) ∧ NM.csum m (T1.reverse ++ T2) = NM.dist m s t) := HE
  clear HE HFIN HC c1 c2 c1d c2d g61 g62 HTB
  go_wp2_with fail
  go_ret
  exact ⟨v', _, rfl, H7.out.1, HE2.out.1, HE2.out.2, H7.out.2.1, H7.out.2.2⟩
set_option maxHeartbeats 1000000 in
theorem bdist_any {w : World} {gp N most : Nat} {m : GM.M} (hg : GMem w gp N most m) (hgm : GM.Good most m) (hN : N ≤ 24) (hin : WK.Inn N m) (s t : Nat) (hs : s < N) (ht : t < N) :
    Calls Try.prog 9 #[.pointer (some ⟨gp, 0, none⟩), .int .i64 (s : Nat), .int .i64 (t : Nat)] w fun e w' => e = .returned (.tuple #[.int .i64 (NM.dist m s t), .int .i64 0]) ∧ Below w.heap.size w w' := by
  have v1 := bvertex_any hg (s : Int)
  rw [show GM.vert N (s : Int) = true from decide_eq_true (by omega)] at v1
  have v2 := bvertex_any hg (t : Int)
  rw [show GM.vert N (t : Int) = true from decide_eq_true (by omega)] at v2
  have hse := bsearch_any hg hgm hN hin s t hs ht
  clear hg hgm hN hin hs ht
  go_enter Try.func9, Try.ntmps9
  go_wp2_with fail
  refine v1.mono ?_
  rintro e w1 ⟨rfl, hw1⟩
  rw [hw1]
  clear v1 hw1 w1
  go_wp2_with fail
  refine v2.mono ?_
  rintro e w1 ⟨rfl, hw1⟩
  rw [hw1]
  clear v2 hw1 w1
  go_wp2_with fail
  refine hse.mono ?_
  rintro e w2 ⟨mq, rfl, hbf⟩
  have hcx : w2.cell? ⟨mq, 3, none⟩ = some (.int .i64 (NM.dist m s t)) := by
    obtain ⟨⟨_, _, _, _, _, _, _, _, _, _, _, me, -⟩, -⟩ := hbf
    exact me.cx
  have HB : Hid (Below w.heap.size w w2) := hbf.b
  clear hse hbf
  go_wp2_with fail
  go_ret2
  exact ⟨rfl, HB.out⟩
set_option maxHeartbeats 1000000 in
theorem bdist_no {w : World} {gp N most : Nat} {m : GM.M} (hg : GMem w gp N most m) (s t : Int) (h : ¬ (GM.vert N s = true ∧ GM.vert N t = true)) :
    Calls Try.prog 9 #[.pointer (some ⟨gp, 0, none⟩), .int .i64 s, .int .i64 t] w fun e w' => e = .returned (.tuple #[.int .i64 0, .int .i64 1]) ∧ w' = w := by
  have v1 := bvertex_any hg s
  have v2 := bvertex_any hg t
  clear hg
  cases h1 : GM.vert N s with
  | false =>
    rw [h1] at v1
    clear h h1 v2
    go_enter Try.func9, Try.ntmps9
    go_wp2_with fail
    refine v1.mono ?_
    rintro e w1 ⟨rfl, hw1⟩
    rw [hw1]
    clear v1 hw1 w1
    go_wp2_with fail
    go_ret2
    exact ⟨rfl, rfl⟩
  | true =>
    have h2 : GM.vert N t = false := by
      cases e : GM.vert N t with
      | false => rfl
      | true => exact absurd ⟨h1, e⟩ h
    rw [h1] at v1
    rw [h2] at v2
    clear h h1 h2
    go_enter Try.func9, Try.ntmps9
    go_wp2_with fail
    refine v1.mono ?_
    rintro e w1 ⟨rfl, hw1⟩
    rw [hw1]
    clear v1 hw1 w1
    go_wp2_with fail
    refine v2.mono ?_
    rintro e w1 ⟨rfl, hw1⟩
    rw [hw1]
    clear v2 hw1 w1
    go_wp2_with fail
    go_ret2
    exact ⟨rfl, rfl⟩
set_option maxHeartbeats 1000000 in
theorem bpath_no {w : World} {gp N most : Nat} {m : GM.M} (hg : GMem w gp N most m) (s t : Int) (h : ¬ (GM.vert N s = true ∧ GM.vert N t = true)) :
    Calls Try.prog 10 #[.pointer (some ⟨gp, 0, none⟩), .int .i64 s, .int .i64 t] w fun e w' => e = .returned (.tuple #[.slice none 0 0, .int .i64 0, .int .i64 1]) ∧ w' = w := by
  have v1 := bvertex_any hg s
  have v2 := bvertex_any hg t
  clear hg
  cases h1 : GM.vert N s with
  | false =>
    rw [h1] at v1
    clear h h1 v2
    go_enter Try.func10, Try.ntmps10
    go_wp2_with fail
    refine v1.mono ?_
    rintro e w1 ⟨rfl, hw1⟩
    rw [hw1]
    clear v1 hw1 w1
    go_wp2_with fail
    go_ret3
    exact ⟨rfl, rfl⟩
  | true =>
    have h2 : GM.vert N t = false := by
      cases e : GM.vert N t with
      | false => rfl
      | true => exact absurd ⟨h1, e⟩ h
    rw [h1] at v1
    rw [h2] at v2
    clear h h1 h2
    go_enter Try.func10, Try.ntmps10
    go_wp2_with fail
    refine v1.mono ?_
    rintro e w1 ⟨rfl, hw1⟩
    rw [hw1]
    clear v1 hw1 w1
    go_wp2_with fail
    refine v2.mono ?_
    rintro e w1 ⟨rfl, hw1⟩
    rw [hw1]
    clear v2 hw1 w1
    go_wp2_with fail
    go_ret3
    exact ⟨rfl, rfl⟩
set_option maxHeartbeats 1000000 in
theorem bpath_any {w : World} {gp N most : Nat} {m : GM.M} (hg : GMem w gp N most m) (hgm : GM.Good most m) (hN : N ≤ 24) (hin : WK.Inn N m) (s t : Nat) (hs : s < N) (ht : t < N) :
    Calls Try.prog 10 #[.pointer (some ⟨gp, 0, none⟩), .int .i64 (s : Nat), .int .i64 (t : Nat)] w fun e w' => ∃ r d c, e = .returned (.tuple #[r, .int .i64 d, .int .i64 c]) ∧ Below w.heap.size w w' ∧
      ((NM.dist m s t = 4611686018427387906 ∧ r = .slice none 0 0 ∧ d = 0 ∧ c = 3) ∨ (NM.dist m s t = 4611686018427387905 ∧ r = .slice none 0 0 ∧ d = 0 ∧ c = 9) ∨
        (NM.dist m s t ≤ 4611686018427387904 ∧ (∃ T, Own .i64 3 w' w.heap.size r T ∧ NM.Wk m s t T ∧ NM.csum m T = NM.dist m s t ∧ T.length ≤ 48) ∧ d = NM.dist m s t ∧ c = 0)) := by
  have v1 := bvertex_any hg (s : Int)
  rw [show GM.vert N (s : Int) = true from decide_eq_true (by omega)] at v1
  have v2 := bvertex_any hg (t : Int)
  rw [show GM.vert N (t : Int) = true from decide_eq_true (by omega)] at v2
  have hse := bsearch_any hg hgm hN hin s t hs ht
  have HP : Hid (∀ W mq, BF w mq gp N m s t W → NM.dist m s t ≤ 4611686018427387904 → Calls Try.prog 26 #[.pointer (some ⟨mq, 0, none⟩)] W fun e w' => ∃ r T, e = .returned r ∧ Own .i64 3 w' W.heap.size r T ∧ NM.Wk m s t T ∧ NM.csum m T = NM.dist m s t ∧ T.length ≤ 48 ∧ Below W.heap.size W w') := fun W mq hbf hF => mpath_any hbf (hg.on hbf.b) hgm hs ht hF
  have bd := NM.dist_bd m s t
  clear hg hgm hN hin hs ht
  go_enter Try.func10, Try.ntmps10
  go_wp2_with fail
  refine v1.mono ?_
  rintro e w1 ⟨rfl, hw1⟩
  rw [hw1]
  clear v1 hw1 w1
  go_wp2_with fail
  refine v2.mono ?_
  rintro e w1 ⟨rfl, hw1⟩
  rw [hw1]
  clear v2 hw1 w1
  go_wp2_with fail
  refine hse.mono ?_
  rintro e w2 ⟨mq, rfl, hbf⟩
  have HCX : Hid (∀ W, Below w2.heap.size w2 W → W.cell? ⟨mq, 3, none⟩ = some (.int .i64 (NM.dist m s t))) := fun W hW => by
    obtain ⟨⟨_, _, _, _, _, _, _, _, _, _, _, me, -⟩, -⟩ := hbf
    exact (me.on hW).cx
  have hcx := HCX.out w2 (Below.refl _ _)
  have HB : Hid (Below w.heap.size w w2) := hbf.b
  have hbfd : BF w mq gp N m s t w2.drew := ⟨by
    obtain ⟨⟨a1, a2, a3, a4, a5, a6, a7, a8, a9, b1, b2, me, r1, r2, r3⟩, -⟩ := hbf
    exact ⟨a1, a2, a3, a4, a5, a6, a7, a8, a9, b1, b2, me.on (Below.refl _ _).drew, r1, r2, r3⟩, hbf.b.drew⟩
  have HPD : Hid (NM.dist m s t ≤ 4611686018427387904 → Calls Try.prog 26 #[.pointer (some ⟨mq, 0, none⟩)] w2.drew fun e w' => ∃ r T, e = .returned r ∧ Own .i64 3 w' w2.drew.heap.size r T ∧ NM.Wk m s t T ∧ NM.csum m T = NM.dist m s t ∧ T.length ≤ 48 ∧ Below w2.drew.heap.size w2.drew w') := fun hF => HP.out w2.drew mq hbfd hF
  clear hse hbf hbfd HP
  generalize hd : NM.dist m s t = d at *
  have HD : Hid (NM.dist m s t = d) := hd
  clear hd
  rcases Int.lt_or_le 4611686018427387904 d with hbig | hle
  · rcases (show d = 4611686018427387906 ∨ d = 4611686018427387905 by omega) with rfl | rfl
    · clear HPD HCX
      go_wp2_with fail
      go_ret3
      exact ⟨_, _, _, rfl, HB.out, .inl ⟨HD.out, rfl, rfl, rfl⟩⟩
    · clear HPD HCX
      go_wp2_with fail
      go_ret3
      exact ⟨_, _, _, rfl, HB.out, .inr (.inl ⟨HD.out, rfl, rfl, rfl⟩)⟩
  · have HPA := HPD.out hle
    have HPB : Hid (Calls Try.prog 26 #[.pointer (some ⟨mq, 0, none⟩)] w2.drew fun e w' => ∃ r T, e = .returned r ∧ Own .i64 3 w' w2.drew.heap.size r T ∧ NM.Wk m s t T ∧ NM.csum m T = d ∧ T.length ≤ 48 ∧ Below w2.drew.heap.size w2.drew w') := HPA
    have hne1 : d ≠ 4611686018427387906 := by omega
    have hne2 : d ≠ 4611686018427387905 := by omega
    have HLE : Hid (d ≤ 4611686018427387904) := hle
    have hcxd : w2.drew.cell? ⟨mq, 3, none⟩ = some (.int .i64 d) := hcx
    clear HPA HPD bd hle
    go_upto_region 9 with fail
    go_region_held3 (fun w' => w'.cell? ⟨mq, 3, none⟩ = some (.int .i64 d)) (go_keep) (first
      | (go_at_call 26; refine HPB.out.mono ?_; rintro e w4 ⟨r, T, rfl, ho4, hw4, hc4, hl4, hb4⟩; have H4 : Hid (Own .i64 3 w4 w.heap.size r T ∧ NM.Wk m s t T ∧ NM.csum m T = d ∧ T.length ≤ 48 ∧ Below w.heap.size w w4) := ⟨ho4.base_le HB.out.size, hw4, hc4, hl4, below_on HB.out (below_of_drew hb4)⟩; have g4 := HCX.out w4 (below_of_drew hb4); clear ho4 hw4 hc4 hl4 hb4))
    go_wp2_with fail
    go_ret3
    have hd := HD.out
    exact ⟨r, _, _, rfl, H4.out.2.2.2.2, .inr (.inr ⟨by rw [hd]; exact HLE.out, ⟨T, H4.out.1, H4.out.2.1, by rw [hd]; exact H4.out.2.2.1, H4.out.2.2.2.1⟩, hd.symm, rfl⟩)⟩
end Go.Proofs.Ytmamligiopbefaa
end

section
/-
  The laws' awake (layer 11), and what a path is asked: a walk that is as long as it is far is simple.
-/
namespace Go.Proofs.Ytmamligiopbefaa
open Go.RowKit

namespace NM
theorem ends_all : ∀ {xs : List (Arc × Int)} {u b : Int}, WK.ends u xs = some b → WK.gone xs = false
  | [], _, _, _ => rfl
  | x :: xs, u, b, h => by
    rw [WK.ends] at h
    split at h
    · rename_i h0
      have h1 := ends_all h
      have h2 := (WK.codeAt_zero.1 h0).1
      unfold WK.gone at h1 ⊢
      rw [List.any_cons, h1, h2]
      rfl
    · cases h
/-- What is told of any path that is as long as it is far. -/
theorem least_facts {m : GM.M} {N most s t : Nat} {T : List Int} (hm : GM.Good most m) (hs : s < N) (ht : t < N) (hw : Wk m s t T) (hc : csum m T = dist m s t) (hF : dist m s t ≤ 4611686018427387904) :
    WK.ccode N s t (WK.list m T) = 0 ∧ WK.wsum (WK.list m T) = dist m s t ∧ WK.simple N s (WK.list m T) = true := by
  have hv : GM.vert N (t : Int) = true := decide_eq_true (by omega)
  have hu : GM.vert N (s : Int) = true := decide_eq_true (by omega)
  obtain ⟨e1, e2⟩ := WK.ends_last hw
  have h0 : WK.vcode N s (WK.list m T) = 0 := by unfold WK.vcode; rw [hu, if_pos rfl]; exact e2
  refine ⟨?_, ?_, decide_eq_true ⟨h0, least_simple hm.ok hw hc (by rw [hc]; exact hF)⟩⟩
  · unfold WK.ccode
    rw [hv, if_pos rfl, if_pos h0]
    exact if_pos e1
  · exact (WK.wsum_all (ends_all hw)).trans hc
end NM
namespace NA
/-- The one path from 0 to 2 that is as long as it is far. -/
theorem only02 : ∀ {T : List Int}, NM.Wk M3 0 2 T → NM.csum M3 T = 10 → T = [4, 2]
  | [], h, _ => by
    have := NM.wk_nil_iff.1 h
    omega
  | z :: T, h, hc => by
    obtain ⟨h1, h2⟩ := NM.wk_cons.1 h
    rw [NM.csum_cons] at hc
    have bT := NM.csum_bd M3 T
    rcases open3 h1 with ⟨rfl, -, e1, e2⟩ | ⟨rfl, e0, -, -⟩ | ⟨rfl, -, e1, e2⟩
    · rw [e1] at h2
      match T, h2, hc with
      | [], h2, _ =>
        have := NM.wk_nil_iff.1 h2
        omega
      | y :: T', h2, hc =>
        obtain ⟨g1, g2⟩ := NM.wk_cons.1 h2
        rcases open3 g1 with ⟨rfl, e0, -, -⟩ | ⟨rfl, -, f1, f2⟩ | ⟨rfl, e0, -, -⟩
        · omega
        · rw [f1] at g2
          match T', g2 with
          | [], _ => rfl
          | x :: T'', g2 =>
            obtain ⟨k1, -⟩ := NM.wk_cons.1 g2
            rcases open3 k1 with ⟨rfl, e0, -, -⟩ | ⟨rfl, e0, -, -⟩ | ⟨rfl, e0, -, -⟩ <;> omega
        · omega
    · omega
    · rw [e2] at hc
      rcases NM.two_cases (show (0 : Int) ≤ 11 by decide) (by decide) bT.1 bT.2 with c | c | c <;> omega
theorem d02 : NM.dist M3 0 2 = 10 := by rw [dist0]; rfl
section
variable {w : World} {p : Nat}
theorem t4 (h : GMem w p 3 4 M3) : Calls Try.prog 9 #[.pointer (some ⟨p, 0, none⟩), .int .i64 0, .int .i64 2] w fun e w' => e = .returned (.tuple #[.int .i64 10, .int .i64 0]) ∧ Below w.heap.size w w' := by
  have := bdist_any h g3 (by decide) inn 0 2 (by decide) (by decide)
  rwa [show ((0 : Nat) : Int) = 0 from rfl, show ((2 : Nat) : Int) = 2 from rfl, d02] at this
theorem t5 (h : GMem w p 3 4 M3) : Calls Try.prog 10 #[.pointer (some ⟨p, 0, none⟩), .int .i64 0, .int .i64 2] w fun e w' => ∃ v, e = .returned (.tuple #[v, .int .i64 10, .int .i64 0]) ∧ Row .i64 w' v [4, 2] ∧ Below w.heap.size w w' := by
  refine (bpath_any h g3 (by decide) inn 0 2 (by decide) (by decide)).mono ?_
  rintro e w' ⟨r, d, c, rfl, hb, hc⟩
  rw [show ((0 : Nat) : Int) = 0 from rfl, show ((2 : Nat) : Int) = 2 from rfl, d02] at hc
  rcases hc with ⟨h1, -⟩ | ⟨h1, -⟩ | ⟨-, ⟨T, ho, hw, hs, -⟩, rfl, rfl⟩
  · exact absurd h1 (by decide)
  · exact absurd h1 (by decide)
  · obtain rfl := only02 hw hs
    exact ⟨_, rfl, ho.row, hb⟩
theorem t6 (h : GMem w p 3 4 M3) : Calls Try.prog 9 #[.pointer (some ⟨p, 0, none⟩), .int .i64 0, .int .i64 3] w fun e w' => e = .returned (.tuple #[.int .i64 0, .int .i64 1]) ∧ w' = w := bdist_no h 0 3 (by decide)
end
end NA
set_option maxHeartbeats 1000000 in
set_option maxRecDepth 100000 in
theorem awake11_any (w : World) : Calls Try.prog 6 #[] w fun e w' => e = .returned (.bool true) ∧ Below w.heap.size w w' := by
  have n1 := new_ok 3 4 (by decide) (by decide) (by decide) (by decide) w
  go_enter Try.func6, Try.ntmps6
  go_wp2_with fail
  refine n1.mono ?_
  rintro e w1 ⟨p, rfl, hp, h1, b1⟩
  have hp' : w.heap.size ≤ p := by omega
  clear n1 hp
  have s1 := NA.s1 h1
  go_wp2_with fail
  refine s1.mono ?_
  rintro e w2 ⟨rfl, h2, k2⟩
  have b2 := b1.trans (k2.rest hp' b1.size)
  clear s1 h1 b1 k2
  have s2 := NA.s2 h2
  go_wp2_with fail
  refine s2.mono ?_
  rintro e w3 ⟨rfl, h3, k3⟩
  have b3 := b2.trans (k3.rest hp' b2.size)
  clear s2 h2 b2 k3
  have s3 := NA.s3 h3
  go_wp2_with fail
  refine s3.mono ?_
  rintro e w4 ⟨rfl, h4, k4⟩
  have b4 := b3.trans (k4.rest hp' b3.size)
  clear s3 h3 b3 k4
  have s4 := NA.t4 h4
  go_wp2_with fail
  refine s4.mono ?_
  rintro e w5 ⟨rfl, k5⟩
  have h5 := h4.on k5
  have b5 := below_on b4 k5
  clear s4 h4 b4 k5
  have s5 := NA.t5 h5
  go_wp2_with fail
  refine s5.mono ?_
  rintro e w6 ⟨q, rfl, r6, k6⟩
  have h6 := h5.on k6
  have b6 := below_on b5 k6
  have HQ : Hid (∀ W, Below w6.heap.size w6 W → Row .i64 W q [4, 2]) := fun W hW => r6.below hW
  clear s5 h5 b5 k6 r6
  have s6 := NA.t6 h6
  go_wp2_with fail
  refine s6.mono ?_
  rintro e w7 ⟨rfl, hw7⟩
  rw [hw7]
  clear s6 hw7 w7 h6
  have B6 : Hid (Below w.heap.size w w6) := b6
  have kb : Below w6.heap.size w6 (w6.alloc (.cells #[.int .i64 4, .int .i64 2] 3)) := (Below.refl _ _).alloc (Nat.le_refl _) _
  have KB : Hid (Below w6.heap.size w6 (w6.alloc (.cells #[.int .i64 4, .int .i64 2] 3))) := kb
  have i2 := ints_any q (.slice (some ⟨w6.heap.size, 0, none⟩) 2 2) [4, 2] [4, 2] (w6.alloc (.cells #[.int .i64 4, .int .i64 2] 3)) (HQ.out _ kb) ((Own.lit .i64 3 w6 w6.heap.size (Nat.le_refl _) [4, 2] #[.int .i64 4, .int .i64 2] 2 rfl rfl (by decide)).row)
  rw [show decide (([4, 2] : List Int) = [4, 2]) = true from rfl] at i2
  clear b6 kb HQ
  go_wp2_with fail
  refine i2.mono ?_
  rintro e w9 ⟨rfl, k9⟩
  have B9 : Hid (Below w.heap.size w w9) := below_on B6.out (below_on KB.out k9)
  clear i2 k9 KB B6
  go_wp2_with fail
  go_ret
  exact ⟨rfl, B9.out⟩
end Go.Proofs.Ytmamligiopbefaa
end
