/-
  BothStepWO, BothStepWI.
-/
import Derived.Test.YtmamligiopbefaaMmBothStep
section
/-
  The walk of step, onwards.
-/
namespace Go.Proofs.Ytmamligiopbefaa
open Go.RowKit Go.Shelf
attribute [local go_sem] Oper.semAt_some

set_option maxRecDepth 100000 in
set_option maxHeartbeats 1000000 in
theorem stepO_any {w : World} {B mq gp N most at_ : Nat} {x : Int} {zs zo : Sid} {ks ko : Nat → Option (Int × Int)} {hs ho : Nat → Option Int} {Fs Fo : Nat → Prop} {m : GM.M} {s u : Nat} {r : Int} {dn : Nat → Bool} (h : ME w B mq gp N 0 at_ x zs zo ks ko hs ho Fs Fo) (hB : B ≤ w.heap.size) (hg : GMem w gp N most m) (hgp : gp < B) (hgm : GM.Good most m) (hin : WK.Inn N m) (hsN : s < N)
    (hdj : NM.DJ m (fun v => NM.wayO (NM.opens m (GM.ends m (v : Int) false))) N s N [] (NM.farOf ks) hs dn) (hby : NM.BY m N s ks dn) (hmt : NM.MT N (NM.farOf ks) (NM.farOf ko) at_ x) (hko : ∀ v, 0 ≤ NM.farOf ko v ∧ NM.farOf ko v ≤ 4611686018427387906) (hf : HM.IsFirst HM.TI hs (u, r)) :
    Calls Try.prog 53 #[.pointer (some ⟨mq, 0, none⟩), .int .i64 0] w fun e w' => e = .returned (.tuple #[]) ∧ ∃ at2 x2 ks2 hs2 F2 dn2, ME w' B mq gp N 0 at2 x2 zs zo ks2 ko hs2 ho F2 Fo ∧
      NM.DJ m (fun v => NM.wayO (NM.opens m (GM.ends m (v : Int) false))) N s N [] (NM.farOf ks2) hs2 dn2 ∧ NM.BY m N s ks2 dn2 ∧ NM.MT N (NM.farOf ks2) (NM.farOf ko) at2 x2 ∧ NM.rest N dn2 < NM.rest N dn ∧ Keeps (fun b => Fs b ∨ b = mq) w w' ∧ (∀ b, F2 b → Fs b ∨ w.heap.size ≤ b) := by
  have HWA : Hid (NM.Ways m N (fun v => NM.wayO (NM.opens m (GM.ends m (v : Int) false)))) := NM.ways_fwd hin
  obtain ⟨hu, hdu, hfu, hfn, hdj2⟩ := hdj.pop HWA.out hsN (fun v hv => h.s.out hv) hf
  have HPR : Hid (dn u = false ∧ r ≠ 4611686018427387906 ∧ NM.PR m (fun v => NM.wayO (NM.opens m (GM.ends m (v : Int) false))) N s u r (NM.updB dn u) ko [] ks (HM.upd hs u none) at_ x) := ⟨hdu, hfu ▸ hfn, hdj2, hby.pop, hfu, hmt⟩
  obtain ⟨W1, hW1⟩ : ∃ W1, W1 = (w.alloc (.cells #[.pointer (some ⟨mq, 0, none⟩)] 66)).alloc (.cells #[.int .i64 0] 3) := ⟨_, rfl⟩
  refine (callsIn_wide (n := 12)).1 ?_
  refine callsIn_of_wp_marks Try.func53 rfl trivial ?_ rfl
  simp only [Try.ntmps53, List.size_toArray, List.length_cons, List.length_nil, Nat.reduceAdd, Nat.reduceSub, Array.replicate_succ, Array.replicate_zero, List.push_toArray, List.append_toArray, List.nil_append, List.cons_append]
  refine wpIn_wide.2 ?_
  go_upto_region 1 with fail
  have hb1 : Below w.heap.size w W1 := by rw [hW1]; exact ((Below.refl _ _).alloc (Nat.le_refl _) _).alloc (by simp) _
  have hs1 : W1.heap.size = w.heap.size + 2 := by rw [hW1]; simp
  have k0 : Boxed W1 w.heap.size 66 (.pointer (some ⟨mq, 0, none⟩)) := by rw [hW1]; exact (Boxed.new w _ _).alloc _
  have k1 : Boxed W1 (w.heap.size + 1) 3 (.int .i64 0) := by
    rw [hW1]
    have := Boxed.new (w.alloc (.cells #[.pointer (some ⟨mq, 0, none⟩)] 66)) 3 (.int .i64 0)
    rwa [World.size_alloc] at this
  have hm1 := h.on hb1
  rw [← hW1]
  have c0 := k0.cell
  have c1 := k1.cell
  have cs := hm1.cs
  have hcs : (W1.alloc (.cells #[.pointer none] 62)).cell? ⟨mq, 0, none⟩ = some (.pointer (some ⟨zs.q, 0, none⟩)) := (hm1.on ((Below.refl _ _).alloc (Nat.le_refl _) _)).cs
  have hc0 := (k0.alloc (.cells #[.pointer none] 62)).cell
  have hc1 := (k1.alloc (.cells #[.pointer none] 62)).cell
  have HM1 : Hid (ME W1 B mq gp N 0 at_ x zs zo ks ko hs ho Fs Fo ∧ Below w.heap.size w W1 ∧ W1.heap.size = w.heap.size + 2 ∧ Boxed W1 w.heap.size 66 (.pointer (some ⟨mq, 0, none⟩)) ∧ Boxed W1 (w.heap.size + 1) 3 (.int .i64 0)) := ⟨hm1, hb1, hs1, k0, k1⟩
  have HLT : Hid (∀ b, b = mq ∨ Fs b ∨ Fo b → b < w.heap.size) := fun b hb => by
    rcases hb with rfl | hb | hb
    · exact h.ml
    · exact (h.s.lt b hb).2
    · exact (h.o.lt b hb).2
  have HG : Hid (∀ W, Keeps (fun b => Fs b ∨ b = mq) w W → GMem W gp N most m) := fun W hW => hg.kept hW (fun hb => by
    rcases hb with hb | hb
    · have := (h.s.lt _ hb).1; omega
    · have := h.lo; omega)
  clear hW1 hb1 hs1 k0 k1 hm1 hg h hdj hby hmt hdj2 hdu hfu hfn
  go_upto_region 2 with go_region
  obtain ⟨hm1, hb1, hs1, k0, k1⟩ := HM1.out
  have hs2 : (W1.alloc (.cells #[.pointer (some ⟨zs.q, 0, none⟩)] 62)).drew.heap.size = w.heap.size + 3 := by
    show (W1.alloc _).heap.size = _
    rw [World.size_alloc, hs1]
  have hb2 : Below w.heap.size w (W1.alloc (.cells #[.pointer (some ⟨zs.q, 0, none⟩)] 62)).drew := (hb1.alloc (by omega) _).drew
  have k02 : Boxed (W1.alloc (.cells #[.pointer (some ⟨zs.q, 0, none⟩)] 62)).drew w.heap.size 66 (.pointer (some ⟨mq, 0, none⟩)) := k0.alloc _
  have k12 : Boxed (W1.alloc (.cells #[.pointer (some ⟨zs.q, 0, none⟩)] 62)).drew (w.heap.size + 1) 3 (.int .i64 0) := k1.alloc _
  have k22 : Boxed (W1.alloc (.cells #[.pointer (some ⟨zs.q, 0, none⟩)] 62)).drew (w.heap.size + 2) 62 (.pointer (some ⟨zs.q, 0, none⟩)) := by
    have : Boxed (W1.alloc (.cells #[.pointer (some ⟨zs.q, 0, none⟩)] 62)) W1.heap.size 62 (.pointer (some ⟨zs.q, 0, none⟩)) := Boxed.new W1 _ _
    rw [hs1] at this
    exact this
  have hm2 : ME (W1.alloc (.cells #[.pointer (some ⟨zs.q, 0, none⟩)] 62)).drew B mq gp N 0 at_ x zs zo ks ko hs ho Fs Fo := hm1.on ((Below.refl _ _).alloc (Nat.le_refl _) _).drew
  rw [hs1]
  clear HM1 hm1 hb1 hs1 k0 k1 c0 c1 cs hcs hc0 hc1
  generalize (W1.alloc (.cells #[.pointer (some ⟨zs.q, 0, none⟩)] 62)).drew = W2 at *
  have hpop := hm2.s.pop (by omega) hf
  have c2 := k22.cell
  have cp := hm2.s.c0
  have HM2 : Hid (ME W2 B mq gp N 0 at_ x zs zo ks ko hs ho Fs Fo ∧ Below w.heap.size w W2 ∧ W2.heap.size = w.heap.size + 3 ∧ Boxed W2 w.heap.size 66 (.pointer (some ⟨mq, 0, none⟩)) ∧ Boxed W2 (w.heap.size + 1) 3 (.int .i64 0) ∧ Boxed W2 (w.heap.size + 2) 62 (.pointer (some ⟨zs.q, 0, none⟩))) := ⟨hm2, hb2, hs2, k02, k12, k22⟩
  clear hm2 hb2 hs2 k02 k12 k22 hf
  go_wp2_with fail
  refine hpop.mono ?_
  rintro e w3 ⟨rfl, hk3, hsd3⟩
  have HM3 : Hid (ME w3 B mq gp N 0 at_ x zs zo ks ko (HM.upd hs u none) ho Fs Fo ∧ Keeps (fun b => Fs b ∨ b = mq) w w3 ∧ w.heap.size + 3 ≤ w3.heap.size ∧ Boxed w3 w.heap.size 66 (.pointer (some ⟨mq, 0, none⟩)) ∧ Boxed w3 (w.heap.size + 1) 3 (.int .i64 0) ∧ Boxed w3 (w.heap.size + 2) 62 (.pointer (some ⟨zs.q, 0, none⟩))) := by
    obtain ⟨hm2, hb2, hs2, k02, k12, k22⟩ := HM2.out
    have no : ∀ b, w.heap.size ≤ b → ¬ Fs b := fun b hb hf => by
      have := HLT.out b (.inr (.inl hf))
      omega
    have e3 := hk3.size
    exact ⟨hm2.side hk3 hsd3 (fun b hb => .inl hb), (Below.keeps hb2 (fun b => Fs b ∨ b = mq)).trans hk3 (fun b hb => .inl (.inl hb)), by omega, (hk3.block _ k02.lt (no _ (by omega))).trans k02, (hk3.block _ k12.lt (no _ (by omega))).trans k12, (hk3.block _ k22.lt (no _ (by omega))).trans k22⟩
  clear hpop hk3 hsd3 c2 cp HM2
  go_upto_region 3 with fail
  obtain ⟨hm3, hk3, hs3, k03, k13, k23⟩ := HM3.out
  have hb4 : Below w3.heap.size w3 (w3.alloc (.cells #[.int .i64 r] 3)) := (Below.refl _ _).alloc (Nat.le_refl _) _
  have hm4 := hm3.on hb4
  have har := arcsO_any hm4.s (u : Int)
  have c24 := (k23.alloc (.cells #[.int .i64 r] 3)).cell
  have HM4 : Hid (ME (w3.alloc (.cells #[.int .i64 r] 3)) B mq gp N 0 at_ x zs zo ks ko (HM.upd hs u none) ho Fs Fo ∧ Keeps (fun b => Fs b ∨ b = mq) w (w3.alloc (.cells #[.int .i64 r] 3)) ∧ (w3.alloc (.cells #[.int .i64 r] 3)).heap.size = w3.heap.size + 1 ∧ w.heap.size + 3 ≤ w3.heap.size ∧ Boxed (w3.alloc (.cells #[.int .i64 r] 3)) w.heap.size 66 (.pointer (some ⟨mq, 0, none⟩)) ∧ Boxed (w3.alloc (.cells #[.int .i64 r] 3)) (w.heap.size + 1) 3 (.int .i64 0) ∧ Boxed (w3.alloc (.cells #[.int .i64 r] 3)) (w.heap.size + 2) 62 (.pointer (some ⟨zs.q, 0, none⟩)) ∧ Boxed (w3.alloc (.cells #[.int .i64 r] 3)) w3.heap.size 3 (.int .i64 r)) := ⟨hm4, hk3.alloc _, by simp, hs3, k03.alloc _, k13.alloc _, k23.alloc _, Boxed.new w3 _ _⟩
  clear HM3 hm3 hk3 hs3 k03 k13 k23 hb4 hm4
  generalize w3.alloc (.cells #[.int .i64 r] 3) = W4 at *
  generalize w3.heap.size = bD at *
  go_wp2_with fail
  refine har.mono ?_
  rintro e w5 ⟨T, rfl, hT, bV, bG, bF, hb5, hs5⟩
  have hsq : SQO w B mq gp N zs zo ko ho Fs Fo w.heap.size bD T m (fun v => NM.wayO (NM.opens m (GM.ends m (v : Int) false))) s u r (NM.updB dn u) [] (fun _ => False) w5 := by
    obtain ⟨hm4, hk4, hs4, hs3, k0, k1, k2, k3⟩ := HM4.out
    refine ⟨⟨at_, x, ks, _, Fs, hm4.on hb5, HPR.out.2.2, fun b hb => .inl hb, fun b hb => ⟨fun h => h, fun hx => ?_⟩⟩, ⟨(hb5.block _ k0.lt).trans k0, (hb5.block _ k1.lt).trans k1, (hb5.block _ k2.lt).trans k2, (hb5.block _ k3.lt).trans k3, bV, bG, bF⟩, fun b _ h => h, fun b h => h.elim, hk4.trans (Below.keeps hb5 (fun _ => False)) (fun _ h => h.elim)⟩
    have := HLT.out b hb
    unfold stBO at hx
    omega
  have HR0 : Hid (dn u = false ∧ r ≠ 4611686018427387906) := ⟨HPR.out.1, HPR.out.2.1⟩
  have hthose := thoseO_goesP 11 (by decide) (T + 1) (T + 1 + 1) T gp N most (u : Int) m hgm
  clear har c24 hT bV bG bF hb5 hs5 HM4 HPR
  go_wp2_with fail
  generalize hL : (fun v : Nat => NM.wayO (NM.opens m (GM.ends m (v : Int) false))) = L at *
  have HLU : Hid (L u = NM.wayO (NM.opens m (GM.ends m (u : Int) false))) := by show _ = _; rw [← hL]
  have HLE : Hid ((fun v : Nat => NM.wayO (NM.opens m (GM.ends m (v : Int) false))) = L) := hL
  clear hL
  refine (wpIn_wide (n := 12)).1 ?_
  refine range_goesP (by omega) (gf := 107) (lb := #[.pointer (some ⟨T + 1, 0, none⟩), .pointer (some ⟨T + 1 + 1, 0, none⟩)]) rfl (enters_of Try.func107 (by kernel_rfl) rfl) hthose (fun _ => rfl)
    (SQO w B mq gp N zs zo ko ho Fs Fo w.heap.size bD T m L s u r (NM.updB dn u)) (fun _ _ _ _ => False) SQO.apart (fun _ _ _ _ _ _ h _ _ => h)
    (fun pre X' A h => ⟨h.k.g.cell, h.k.f.cell, h.k.v.cell, HG.out _ h.kp⟩) hsq
    (fun x A => { tmps := #[.pointer (some ⟨mq, 0, none⟩), .int .i64 0, .pointer (some ⟨w.heap.size, 0, none⟩), .pointer (some ⟨w.heap.size + 1, 0, none⟩), .pointer (some ⟨w.heap.size + 2, 0, none⟩), .int .i64 u, .pointer (some ⟨bD, 0, none⟩), .bool true, .int .i64 (x : Nat), undef, .pointer (some ⟨mq, 0, none⟩), .int .i64 0, .pointer (some ⟨mq, 0, none⟩), .pointer (some ⟨mq, 0, none⟩), .pointer (some ⟨mq, 0, none⟩), .pointer (some ⟨zs.q, 0, none⟩), .tuple #[.int .i64 u, .int .i64 r, .bool true], .pointer (some ⟨zs.q, 0, none⟩), .pointer (some ⟨zs.q, 0, none⟩), .pointer (some ⟨zs.q, 0, none⟩), .pointer (some ⟨zs.p, 0, none⟩), .tuple #[.int .i64 u, .int .i64 r, .bool true], .int .i64 u, .int .i64 r, .bool true, .pointer (some ⟨zs.q, 0, none⟩), .int .i64 u, .func (.func 107) #[] #[.pointer (some ⟨T + 1, 0, none⟩), .pointer (some ⟨T + 1 + 1, 0, none⟩)], .int .i64 (x : Nat), undef, undef, undef, undef, undef, undef, undef, undef, undef, undef, undef, undef, undef, undef, undef, undef, undef, undef], defers := [] })
    (fun x A => A)
    (fun x W => Below.refl _ _) ?assign ?body ?done ?stop
  case assign =>
    rintro l' i A K hK
    simp only [oneNum]
    gi_wp2
    exact hK
  case body =>
    rintro l' pre i X0 A B1 hi hlt - - hAs hblk hsz hXb
    have hmem : i ∈ GM.ends m (u : Int) false := hlt.subset (by simp)
    obtain ⟨hi64, his, hend⟩ := NM.mem_ends.1 hmem
    have hl0 := lookO m hi64 pre
    have hXl : ∀ z, X0 z → z < B1.heap.size := fun z hz => by have := hXb z hz; omega
    have hsd : ∃ at_ x ks hs F, ME B1 B mq gp N 0 at_ x zs zo ks ko hs ho F Fo := by
      obtain ⟨at_, x, ks, hs, F, h1, -⟩ := hi.s
      exact ⟨_, _, _, _, _, h1⟩
    obtain ⟨_, _, _, _, _, hme⟩ := hsd
    have hal := alongO_any hme.s (HG.out _ hi.kp) hgm i hi64
    have c2 := hi.k.s.cell
    have HI : Hid (SQO w B mq gp N zs zo ko ho Fs Fo w.heap.size bD T m L s u r (NM.updB dn u) pre (fun b => X0 b ∨ (A.heap.size ≤ b ∧ b < B1.heap.size)) B1) := hi
    have HAP : Hid (∀ W, Below B1.heap.size B1 W → Rest X0 B1 W ∧ SQO w B mq gp N zs zo ko ho Fs Fo w.heap.size bD T m L s u r (NM.updB dn u) pre X0 W) := fun W hW => ⟨Rest.of_below hW, SQO.apart _ _ X0 _ _ hi (Below.keeps hW _) (fun b hb => .inl (.inl hb))⟩
    have HTU : Hid ((GM.arc m i).closed = false → ∀ B4, Below B1.heap.size B1 B4 → ∃ k : Nat, NM.hd m i = k ∧ Calls Try.prog 51 #[.pointer (some ⟨mq, 0, none⟩), .int .i64 0, .int .i64 (k : Nat), .agg #[.int .i64 (DM.two r (NM.wt m i)), .int .i64 (i : Nat)]] B4 fun e w6 => e = .returned (.tuple #[]) ∧ Rest X0 B1 w6 ∧ SQO w B mq gp N zs zo ko ho Fs Fo w.heap.size bD T m L s u r (NM.updB dn u) (pre ++ [i]) X0 w6 ∧ (∀ b, B1.heap.size ≤ b → b < B4.heap.size → w6.heap[b]? = B4.heap[b]?)) := fun hc B4 hb => by
      have hz : NM.opn m u i := by
        exact (NM.opn_at hi64).2 ⟨his, hend, hc⟩
      have hok := of_decide_eq_true (hgm.ok i his)
      have hwt : NM.wt m i = (GM.arc m i).weight := by
        exact NM.wt_at m hi64
      refine turnO_any HWA.out hu (if_pos rfl) HR0.out.2 hko hB hi (fun z hz => .inl hz) hXl hb hi64 hz (by rw [hwt]; omega) ?_ (by rw [hl0, hc]; rfl)
      have h2 : NM.opens m (pre ++ [i]) <+: NM.opens m (GM.ends m (u : Int) false) := NM.opens_pre m hlt
      have h3 : NM.wayO (NM.opens m (pre ++ [i])) <+: NM.wayO (NM.opens m (GM.ends m (u : Int) false)) := h2.map _
      rw [← HLU.out, hl0, hc] at h3
      exact h3.subset (by simp)
    have HSK : Hid ((GM.arc m i).closed = true → NM.wayO (NM.opens m (pre ++ [i])) = NM.wayO (NM.opens m pre)) := fun hc => by
      rw [hl0, hc]
      simp
    have HHD : Hid (NM.hd m i = (GM.arc m i).head ∧ NM.wt m i = (GM.arc m i).weight) := ⟨NM.hd_at _ hi64, NM.wt_at _ hi64⟩
    have HKB : Hid (∀ W, Below B1.heap.size B1 W → W.cell? ⟨w.heap.size, 0, none⟩ = some (.pointer (some ⟨mq, 0, none⟩)) ∧ W.cell? ⟨w.heap.size + 1, 0, none⟩ = some (.int .i64 0) ∧ W.cell? ⟨bD, 0, none⟩ = some (.int .i64 r)) := fun W hW => by
      have h4 := (HAP.out W hW).2.k
      exact ⟨h4.m.cell, h4.t.cell, h4.d.cell⟩
    have HKX : Hid (∀ W, SQO w B mq gp N zs zo ko ho Fs Fo w.heap.size bD T m L s u r (NM.updB dn u) (pre ++ [i]) X0 W → W.cell? ⟨w.heap.size, 0, none⟩ = some (.pointer (some ⟨mq, 0, none⟩)) ∧ W.cell? ⟨w.heap.size + 1, 0, none⟩ = some (.int .i64 0) ∧ W.cell? ⟨bD, 0, none⟩ = some (.int .i64 r)) := fun W h4 => ⟨h4.k.m.cell, h4.k.t.cell, h4.k.d.cell⟩
    generalize GM.arc m i = a at *
    obtain ⟨t, hh, y, c⟩ := a
    unfold arcV at hal
    dsimp only at hal
    clear hi hlt hAs hblk hsz hXb hmem his hend hl0 hme hthose
    gi_wp2_with fail
    refine ⟨trivial, (CallsIn.inRound l' (callsIn_wide.2 hal)).mono ?_⟩
    rintro e A1 ⟨rfl, hb1⟩
    have HB1 : Hid (Below B1.heap.size B1 A1) := hb1
    have hb2 := hb1.alloc hb1.size (.cells #[.int .i64 t, .int .i64 hh, .int .i64 y, .bool c] 33)
    clear hal hb1 c2
    cases c with
    | true =>
      have HO : Hid (Rest X0 B1 (A1.alloc (.cells #[.int .i64 t, .int .i64 hh, .int .i64 y, .bool true] 33)) ∧ SQO w B mq gp N zs zo ko ho Fs Fo w.heap.size bD T m L s u r (NM.updB dn u) (pre ++ [i]) X0 (A1.alloc (.cells #[.int .i64 t, .int .i64 hh, .int .i64 y, .bool true] 33))) := ⟨(HAP.out _ hb2).1, SQO.same (HAP.out _ hb2).2 (HSK.out rfl)⟩
      clear hb2 HAP HTU HSK HHD HKB HKX HI HG HB1
      gi_wp2_with fail
      exact HO.out
    | false =>
      obtain ⟨e1, e2⟩ := HHD.out
      (try dsimp only at e1 e2)
      obtain ⟨W2, hW2⟩ : ∃ W2, W2 = A1.alloc (.cells #[.int .i64 t, .int .i64 hh, .int .i64 y, .bool false] 33) := ⟨_, rfl⟩
      have harc := arcIn_new A1 t hh y false
      rw [← hW2] at hb2 harc
      have hg9 : W2.heap.size = A1.heap.size + 1 := by rw [hW2]; simp
      obtain ⟨B4, hB4⟩ : ∃ B4, B4 = (W2.alloc (.cells #[.int .i64 r, .int .i64 y] 3)).drew := ⟨_, rfl⟩
      have hb4 : Below W2.heap.size W2 B4 := by rw [hB4]; exact ((Below.refl _ _).alloc (Nat.le_refl _) _).drew
      obtain ⟨k, hk, hre⟩ := HTU.out rfl B4 (below_on hb2 hb4)
      rw [e1] at hk
      rw [e2] at hre
      subst hk
      obtain ⟨-, r1, r2, -⟩ := harc
      simp only [Nat.zero_add] at r1 r2
      have hadd : Calls Try.prog 62 #[.slice (some ⟨W2.heap.size, 0, none⟩) 2 2] B4 fun e w' => e = .returned (.int .i64 (DM.two r y)) ∧ w' = B4 := by
        refine add_cells ?_ ?_ <;> rw [hB4]
        · show (W2.alloc _).cell? _ = _
          simp
        · show (W2.alloc _).cell? _ = _
          simp
      have hszB : B1.heap.size ≤ A1.heap.size := HB1.out.size
      have HSX : Hid (∀ W, Below W2.heap.size W2 W → W.cell? ⟨w.heap.size, 0, none⟩ = some (.pointer (some ⟨mq, 0, none⟩)) ∧ W.cell? ⟨w.heap.size + 1, 0, none⟩ = some (.int .i64 0) ∧ W.cell? ⟨bD, 0, none⟩ = some (.int .i64 r) ∧ W.cell? ⟨A1.heap.size, 1, none⟩ = some (.int .i64 (k : Nat)) ∧ W.cell? ⟨A1.heap.size, 2, none⟩ = some (.int .i64 y)) := fun W hW => by
        obtain ⟨q1, q2, q3⟩ := HKB.out W (below_on hb2 hW)
        exact ⟨q1, q2, q3, (hW.cell (p := ⟨A1.heap.size, 1, none⟩) (cell_lt r1)).trans r1, (hW.cell (p := ⟨A1.heap.size, 2, none⟩) (cell_lt r2)).trans r2⟩
      have HSX4 : Hid (B4.cell? ⟨w.heap.size, 0, none⟩ = some (.pointer (some ⟨mq, 0, none⟩)) ∧ B4.cell? ⟨w.heap.size + 1, 0, none⟩ = some (.int .i64 0) ∧ B4.cell? ⟨bD, 0, none⟩ = some (.int .i64 r) ∧ B4.cell? ⟨A1.heap.size, 1, none⟩ = some (.int .i64 (k : Nat)) ∧ B4.cell? ⟨A1.heap.size, 2, none⟩ = some (.int .i64 y)) := HSX.out B4 hb4
      have HRE : Hid (Calls Try.prog 51 #[.pointer (some ⟨mq, 0, none⟩), .int .i64 0, .int .i64 (k : Nat), .agg #[.int .i64 (DM.two r y), .int .i64 (i : Nat)]] B4 fun e w6 => e = .returned (.tuple #[]) ∧ (Rest X0 B1 w6 ∧ SQO w B mq gp N zs zo ko ho Fs Fo w.heap.size bD T m L s u r (NM.updB dn u) (pre ++ [i]) X0 w6) ∧ (w6.cell? ⟨w.heap.size, 0, none⟩ = some (.pointer (some ⟨mq, 0, none⟩)) ∧ w6.cell? ⟨w.heap.size + 1, 0, none⟩ = some (.int .i64 0) ∧ w6.cell? ⟨bD, 0, none⟩ = some (.int .i64 r) ∧ w6.cell? ⟨A1.heap.size, 1, none⟩ = some (.int .i64 (k : Nat)) ∧ w6.cell? ⟨A1.heap.size, 2, none⟩ = some (.int .i64 y))) := by
        refine hre.mono ?_
        rintro e6 w6 ⟨rfl, h1, h2, h3⟩
        obtain ⟨q1, q2, q3⟩ := HKX.out w6 h2
        obtain ⟨-, -, -, q4, q5⟩ := HSX4.out
        have hbl := h3 A1.heap.size hszB (by have := hb4.size; omega)
        exact ⟨rfl, ⟨h1, h2⟩, q1, q2, q3, (World.cell?_of_block (w := B4) (a := ⟨A1.heap.size, 1, none⟩) hbl).trans q4, (World.cell?_of_block (w := B4) (a := ⟨A1.heap.size, 2, none⟩) hbl).trans q5⟩
      have cX := HSX.out W2.drew (Below.refl _ W2).drew
      have HADD : Hid (Calls Try.prog 62 #[.slice (some ⟨W2.heap.size, 0, none⟩) 2 2] B4 fun e w' => e = .returned (.int .i64 (DM.two r y)) ∧ w' = B4) := hadd
      have HB4E : Hid (B4 = (W2.alloc (.cells #[.int .i64 r, .int .i64 y] 3)).drew) := hB4
      have HSY := HSX4.out
      clear hre hadd hB4 hb4 hb2 HSX HKB HKX HTU HSK HAP HHD HI HG HB1 r1 r2 hszB hg9 hXl e1 e2
      generalize DM.two r y = d2 at *
      gi_wp2_with fail
      rw [← hW2]
      clear hW2
      generalize A1.heap.size = g9 at *
      have HSX : Hid (B4.cell? ⟨w.heap.size, 0, none⟩ = some (.pointer (some ⟨mq, 0, none⟩)) ∧ B4.cell? ⟨w.heap.size + 1, 0, none⟩ = some (.int .i64 0) ∧ B4.cell? ⟨bD, 0, none⟩ = some (.int .i64 r) ∧ B4.cell? ⟨g9, 1, none⟩ = some (.int .i64 (k : Nat)) ∧ B4.cell? ⟨g9, 2, none⟩ = some (.int .i64 y)) := HSY
      clear HSY HSX4
      refine wpIn_region_held (R := fun _ w6 => Rest X0 B1 w6 ∧ SQO w B mq gp N zs zo ko ho Fs Fo w.heap.size bD T m L s u r (NM.updB dn u) (pre ++ [i]) X0 w6) (S := fun W => W.cell? ⟨w.heap.size, 0, none⟩ = some (.pointer (some ⟨mq, 0, none⟩)) ∧ W.cell? ⟨w.heap.size + 1, 0, none⟩ = some (.int .i64 0) ∧ W.cell? ⟨bD, 0, none⟩ = some (.int .i64 r) ∧ W.cell? ⟨g9, 1, none⟩ = some (.int .i64 (k : Nat)) ∧ W.cell? ⟨g9, 2, none⟩ = some (.int .i64 y)) (by kernel_rfl) (by kernel_rfl) (fun a w h => h) cX (fun hHeld => ?_)
      refine wpAnyH_take (i := 0) (oi := { dst := some 35, op := Op.load 66 (Operand.tmp 2), type := 66, pos := "both.go:134", after := #[], guard := none }) (v := ?_) rfl (by kernel_rfl) (by kernel_rfl) (by kernel_rfl) (fun _ _ _ h => h) (Or.inl ⟨by rfl, ?_⟩) (by assumption) ?_
      rotate_left
      · intro w0 hSw
        (try dsimp only at hSw)
        go_simp <;> with_reducible rfl
      try simp only [Act.put, List.setIfInBounds_toArray, List.set_cons_zero, List.set_cons_succ]
      refine wpAnyH_take (i := 1) (oi := { dst := some 36, op := Op.load 3 (Operand.tmp 3), type := 3, pos := "both.go:134", after := #[], guard := none }) (v := ?_) rfl (by kernel_rfl) (by kernel_rfl) (by kernel_rfl) (fun _ _ _ h => h) (Or.inl ⟨by rfl, ?_⟩) (by assumption) ?_
      rotate_left
      · intro w0 hSw
        (try dsimp only at hSw)
        go_simp <;> with_reducible rfl
      try simp only [Act.put, List.setIfInBounds_toArray, List.set_cons_zero, List.set_cons_succ]
      refine wpAnyH_take (i := 2) (oi := { dst := some 37, op := Op.fieldAddr 33 (Operand.tmp 9) 1, type := 0, pos := "both.go:134", after := #[], guard := none }) (v := ?_) rfl (by kernel_rfl) (by kernel_rfl) (by kernel_rfl) (fun _ _ _ h => h) (Or.inl ⟨by rfl, ?_⟩) (by assumption) ?_
      rotate_left
      · intro w0 hSw
        (try dsimp only at hSw)
        go_simp <;> with_reducible rfl
      try simp only [Act.put, List.setIfInBounds_toArray, List.set_cons_zero, List.set_cons_succ]
      refine wpAnyH_take (i := 3) (oi := { dst := some 38, op := Op.load 3 (Operand.tmp 37), type := 3, pos := "both.go:134", after := #[{ on := 2, ground := Ground.data }], guard := none }) (v := ?_) rfl (by kernel_rfl) (by kernel_rfl) (by kernel_rfl) (fun _ _ _ h => h) (Or.inl ⟨by rfl, ?_⟩) (by assumption) ?_
      rotate_left
      · intro w0 hSw
        (try dsimp only at hSw)
        go_simp <;> with_reducible rfl
      try simp only [Act.put, List.setIfInBounds_toArray, List.set_cons_zero, List.set_cons_succ]
      refine wpAnyH_take (i := 4) (oi := { dst := some 39, op := Op.load 3 (Operand.tmp 6), type := 3, pos := "both.go:134", after := #[], guard := none }) (v := ?_) rfl (by kernel_rfl) (by kernel_rfl) (by kernel_rfl) (fun _ _ _ h => h) (Or.inl ⟨by rfl, ?_⟩) (by assumption) ?_
      rotate_left
      · intro w0 hSw
        (try dsimp only at hSw)
        go_simp <;> with_reducible rfl
      try simp only [Act.put, List.setIfInBounds_toArray, List.set_cons_zero, List.set_cons_succ]
      refine wpAnyH_take (i := 5) (oi := { dst := some 40, op := Op.fieldAddr 33 (Operand.tmp 9) 2, type := 0, pos := "both.go:134", after := #[], guard := none }) (v := ?_) rfl (by kernel_rfl) (by kernel_rfl) (by kernel_rfl) (fun _ _ _ h => h) (Or.inl ⟨by rfl, ?_⟩) (by assumption) ?_
      rotate_left
      · intro w0 hSw
        (try dsimp only at hSw)
        go_simp <;> with_reducible rfl
      try simp only [Act.put, List.setIfInBounds_toArray, List.set_cons_zero, List.set_cons_succ]
      refine wpAnyH_take (i := 6) (oi := { dst := some 41, op := Op.load 3 (Operand.tmp 40), type := 3, pos := "both.go:134", after := #[{ on := 5, ground := Ground.data }], guard := none }) (v := ?_) rfl (by kernel_rfl) (by kernel_rfl) (by kernel_rfl) (fun _ _ _ h => h) (Or.inl ⟨by rfl, ?_⟩) (by assumption) ?_
      rotate_left
      · intro w0 hSw
        (try dsimp only at hSw)
        go_simp <;> with_reducible rfl
      try simp only [Act.put, List.setIfInBounds_toArray, List.set_cons_zero, List.set_cons_succ]
      refine wpAnyH_take (i := 9) (oi := { dst := some 44, op := Op.move (Operand.tmp 8), type := 3, pos := "both.go:134", after := #[], guard := none }) (v := ?_) rfl (by kernel_rfl) (by kernel_rfl) (by kernel_rfl) (fun _ _ _ h => h) (Or.inl ⟨by rfl, ?_⟩) (by assumption) ?_
      rotate_left
      · intro w0 hSw
        (try dsimp only at hSw)
        go_simp <;> with_reducible rfl
      try simp only [Act.put, List.setIfInBounds_toArray, List.set_cons_zero, List.set_cons_succ]
      refine wpAnyH_ready (rs := [7]) (by kernel_rfl) (by simp) ?_
      refine AllReadyH.cons (o := { dst := some 42, op := Op.buildSlice 41 2 #[(0, Operand.tmp 39), (1, Operand.tmp 41)], type := 41, pos := "both.go:134", after := #[{ on := 4, ground := Ground.data }, { on := 6, ground := Ground.data }], guard := none }) rfl (fun K hK => ?_) AllReadyH.nil
      go_simp
      refine hK.out _ _ (by rw [← HB4E.out]; exact HSX.out) (fun hHeld => ?_)
      clear hK K
      rw [← HB4E.out] at hHeld ⊢
      try simp only [Act.put, List.setIfInBounds_toArray, List.set_cons_zero, List.set_cons_succ]
      refine wpAnyH_ready (rs := [8]) (by kernel_rfl) (by simp) ?_
      refine AllReadyH.cons (o := { dst := some 43, op := Op.call { callee := Callee.value (Operand.func 62), args := #[Operand.tmp 42], argTypes := #[41] }, type := 3, pos := "both.go:134", after := #[{ on := 7, ground := Ground.data }], guard := none }) rfl (fun K hK => ?_) AllReadyH.nil
      go_simp
      refine HADD.out.mono ?_
      rintro e w5' ⟨rfl, hw5⟩
      rw [hw5]
      clear hw5 w5'
      go_wp2_with fail
      refine hK.out _ _ (HSX.out) (fun hHeld => ?_)
      clear hK K
      try simp only [Act.put, List.setIfInBounds_toArray, List.set_cons_zero, List.set_cons_succ]
      refine wpAnyH_take (i := 10) (oi := { dst := some 45, op := Op.build 89 #[(0, Operand.tmp 43), (1, Operand.tmp 44)], type := 89, pos := "both.go:134", after := #[{ on := 8, ground := Ground.data }, { on := 9, ground := Ground.data }], guard := none }) (v := ?_) rfl (by kernel_rfl) (by kernel_rfl) (by kernel_rfl) (fun _ _ _ h => h) (Or.inl ⟨by rfl, ?_⟩) (by assumption) ?_
      rotate_left
      · intro w0 hSw
        (try dsimp only at hSw)
        go_simp <;> with_reducible rfl
      try simp only [Act.put, List.setIfInBounds_toArray, List.set_cons_zero, List.set_cons_succ]
      refine wpAnyH_ready (rs := [11]) (by kernel_rfl) (by simp) ?_
      refine AllReadyH.cons (o := { dst := some 46, op := Op.call { callee := Callee.value (Operand.func 51), args := #[Operand.tmp 35, Operand.tmp 36, Operand.tmp 38, Operand.tmp 45], argTypes := #[66, 3, 3, 89] }, type := 0, pos := "both.go:134", after := #[{ on := 0, ground := Ground.data }, { on := 1, ground := Ground.data }, { on := 3, ground := Ground.data }, { on := 10, ground := Ground.data }, { on := 8, ground := Ground.chain }], guard := none }) rfl (fun K hK => ?_) AllReadyH.nil
      go_simp
      refine HRE.out.mono ?_
      rintro e w6 ⟨rfl, hw6⟩
      have HR6 : Hid ((Rest X0 B1 w6 ∧ SQO w B mq gp N zs zo ko ho Fs Fo w.heap.size bD T m L s u r (NM.updB dn u) (pre ++ [i]) X0 w6) ∧ (w6.cell? ⟨w.heap.size, 0, none⟩ = some (.pointer (some ⟨mq, 0, none⟩)) ∧ w6.cell? ⟨w.heap.size + 1, 0, none⟩ = some (.int .i64 0) ∧ w6.cell? ⟨bD, 0, none⟩ = some (.int .i64 r) ∧ w6.cell? ⟨g9, 1, none⟩ = some (.int .i64 (k : Nat)) ∧ w6.cell? ⟨g9, 2, none⟩ = some (.int .i64 y))) := hw6
      clear hw6
      go_wp2_with fail
      refine hK.out _ _ HR6.out.2 (fun hHeld => ?_)
      clear hK K
      try simp only [Act.put, List.setIfInBounds_toArray, List.set_cons_zero, List.set_cons_succ]
      refine wpAnyH_done (by kernel_rfl) ?_ _
      exact ⟨rfl, HR6.out.1⟩
  case done =>
    intro W hi hK
    have HE : Hid (∀ o, ∃ at2 x2 ks2 hs2 F dn2, ME (W.putObj w5.heap.size o) B mq gp N 0 at2 x2 zs zo ks2 ko hs2 ho F Fo ∧ NM.DJ m (fun v => NM.wayO (NM.opens m (GM.ends m (v : Int) false))) N s N [] (NM.farOf ks2) hs2 dn2 ∧ NM.BY m N s ks2 dn2 ∧ NM.MT N (NM.farOf ks2) (NM.farOf ko) at2 x2 ∧ NM.rest N dn2 < NM.rest N dn ∧ Keeps (fun b => Fs b ∨ b = mq) w (W.putObj w5.heap.size o) ∧ (∀ b, F b → Fs b ∨ w.heap.size ≤ b)) := fun o => by
      have hi2 := SQO.apart _ _ (fun _ => False) _ _ hi (keeps_putK W w5.heap.size o) (fun _ h => h.elim)
      obtain ⟨⟨at2, x2, ks2, hs2, F, h1, h2, h3, -⟩, -, -, -, hkp⟩ := hi2
      rw [← HLU.out] at h2
      rw [HLE.out]
      exact ⟨at2, x2, ks2, hs2, F, _, h1, h2.next.1, h2.next.2.1, h2.next.2.2, NM.rest_upd hu HR0.out.1, hkp, h3⟩
    clear hi HG HLT HLU HWA HLE hko hgm hin hthose hsq
    gi_wp2
    refine ⟨by simp, .inl ⟨_, _, rfl, run_takeDeferred hK, ?_⟩⟩
    exact ⟨_, results_none rfl _ _ _, rfl, HE.out _⟩
  case stop =>
    intro c' pre W _ h
    exact h.elim
end Go.Proofs.Ytmamligiopbefaa
end

section
/-
  The walk of step, back.
-/
namespace Go.Proofs.Ytmamligiopbefaa
open Go.RowKit Go.Shelf
attribute [local go_sem] Oper.semAt_some

set_option maxRecDepth 100000 in
set_option maxHeartbeats 1000000 in
theorem stepI_any {w : World} {B mq gp N most at_ : Nat} {x : Int} {zs zo : Sid} {ks ko : Nat → Option (Int × Int)} {hs ho : Nat → Option Int} {Fs Fo : Nat → Prop} {m : GM.M} {s u : Nat} {r : Int} {dn : Nat → Bool} (h : ME w B mq gp N 1 at_ x zs zo ks ko hs ho Fs Fo) (hB : B ≤ w.heap.size) (hg : GMem w gp N most m) (hgp : gp < B) (hgm : GM.Good most m) (hin : WK.Inn N m) (hsN : s < N)
    (hdj : NM.DJ (NM.rev m) (fun v => NM.wayI (NM.opens m (GM.ends m (v : Int) true))) N s N [] (NM.farOf ks) hs dn) (hby : NM.BY (NM.rev m) N s ks dn) (hmt : NM.MT N (NM.farOf ks) (NM.farOf ko) at_ x) (hko : ∀ v, 0 ≤ NM.farOf ko v ∧ NM.farOf ko v ≤ 4611686018427387906) (hf : HM.IsFirst HM.TI hs (u, r)) :
    Calls Try.prog 53 #[.pointer (some ⟨mq, 0, none⟩), .int .i64 1] w fun e w' => e = .returned (.tuple #[]) ∧ ∃ at2 x2 ks2 hs2 F2 dn2, ME w' B mq gp N 1 at2 x2 zs zo ks2 ko hs2 ho F2 Fo ∧
      NM.DJ (NM.rev m) (fun v => NM.wayI (NM.opens m (GM.ends m (v : Int) true))) N s N [] (NM.farOf ks2) hs2 dn2 ∧ NM.BY (NM.rev m) N s ks2 dn2 ∧ NM.MT N (NM.farOf ks2) (NM.farOf ko) at2 x2 ∧ NM.rest N dn2 < NM.rest N dn ∧ Keeps (fun b => Fs b ∨ b = mq) w w' ∧ (∀ b, F2 b → Fs b ∨ w.heap.size ≤ b) := by
  have HWA : Hid (NM.Ways (NM.rev m) N (fun v => NM.wayI (NM.opens m (GM.ends m (v : Int) true)))) := NM.ways_back hin
  obtain ⟨hu, hdu, hfu, hfn, hdj2⟩ := hdj.pop HWA.out hsN (fun v hv => h.s.out hv) hf
  have HPR : Hid (dn u = false ∧ r ≠ 4611686018427387906 ∧ NM.PR (NM.rev m) (fun v => NM.wayI (NM.opens m (GM.ends m (v : Int) true))) N s u r (NM.updB dn u) ko [] ks (HM.upd hs u none) at_ x) := ⟨hdu, hfu ▸ hfn, hdj2, hby.pop, hfu, hmt⟩
  obtain ⟨W1, hW1⟩ : ∃ W1, W1 = (w.alloc (.cells #[.pointer (some ⟨mq, 0, none⟩)] 66)).alloc (.cells #[.int .i64 1] 3) := ⟨_, rfl⟩
  refine (callsIn_wide (n := 12)).1 ?_
  refine callsIn_of_wp_marks Try.func53 rfl trivial ?_ rfl
  simp only [Try.ntmps53, List.size_toArray, List.length_cons, List.length_nil, Nat.reduceAdd, Nat.reduceSub, Array.replicate_succ, Array.replicate_zero, List.push_toArray, List.append_toArray, List.nil_append, List.cons_append]
  refine wpIn_wide.2 ?_
  go_upto_region 1 with fail
  have hb1 : Below w.heap.size w W1 := by rw [hW1]; exact ((Below.refl _ _).alloc (Nat.le_refl _) _).alloc (by simp) _
  have hs1 : W1.heap.size = w.heap.size + 2 := by rw [hW1]; simp
  have k0 : Boxed W1 w.heap.size 66 (.pointer (some ⟨mq, 0, none⟩)) := by rw [hW1]; exact (Boxed.new w _ _).alloc _
  have k1 : Boxed W1 (w.heap.size + 1) 3 (.int .i64 1) := by
    rw [hW1]
    have := Boxed.new (w.alloc (.cells #[.pointer (some ⟨mq, 0, none⟩)] 66)) 3 (.int .i64 1)
    rwa [World.size_alloc] at this
  have hm1 := h.on hb1
  rw [← hW1]
  have c0 := k0.cell
  have c1 := k1.cell
  have cs := hm1.cs
  have hcs : (W1.alloc (.cells #[.pointer none] 62)).cell? ⟨mq, 1, none⟩ = some (.pointer (some ⟨zs.q, 0, none⟩)) := (hm1.on ((Below.refl _ _).alloc (Nat.le_refl _) _)).cs
  have hc0 := (k0.alloc (.cells #[.pointer none] 62)).cell
  have hc1 := (k1.alloc (.cells #[.pointer none] 62)).cell
  have HM1 : Hid (ME W1 B mq gp N 1 at_ x zs zo ks ko hs ho Fs Fo ∧ Below w.heap.size w W1 ∧ W1.heap.size = w.heap.size + 2 ∧ Boxed W1 w.heap.size 66 (.pointer (some ⟨mq, 0, none⟩)) ∧ Boxed W1 (w.heap.size + 1) 3 (.int .i64 1)) := ⟨hm1, hb1, hs1, k0, k1⟩
  have HLT : Hid (∀ b, b = mq ∨ Fs b ∨ Fo b → b < w.heap.size) := fun b hb => by
    rcases hb with rfl | hb | hb
    · exact h.ml
    · exact (h.s.lt b hb).2
    · exact (h.o.lt b hb).2
  have HG : Hid (∀ W, Keeps (fun b => Fs b ∨ b = mq) w W → GMem W gp N most m) := fun W hW => hg.kept hW (fun hb => by
    rcases hb with hb | hb
    · have := (h.s.lt _ hb).1; omega
    · have := h.lo; omega)
  clear hW1 hb1 hs1 k0 k1 hm1 hg h hdj hby hmt hdj2 hdu hfu hfn
  go_upto_region 2 with go_region
  obtain ⟨hm1, hb1, hs1, k0, k1⟩ := HM1.out
  have hs2 : (W1.alloc (.cells #[.pointer (some ⟨zs.q, 0, none⟩)] 62)).drew.heap.size = w.heap.size + 3 := by
    show (W1.alloc _).heap.size = _
    rw [World.size_alloc, hs1]
  have hb2 : Below w.heap.size w (W1.alloc (.cells #[.pointer (some ⟨zs.q, 0, none⟩)] 62)).drew := (hb1.alloc (by omega) _).drew
  have k02 : Boxed (W1.alloc (.cells #[.pointer (some ⟨zs.q, 0, none⟩)] 62)).drew w.heap.size 66 (.pointer (some ⟨mq, 0, none⟩)) := k0.alloc _
  have k12 : Boxed (W1.alloc (.cells #[.pointer (some ⟨zs.q, 0, none⟩)] 62)).drew (w.heap.size + 1) 3 (.int .i64 1) := k1.alloc _
  have k22 : Boxed (W1.alloc (.cells #[.pointer (some ⟨zs.q, 0, none⟩)] 62)).drew (w.heap.size + 2) 62 (.pointer (some ⟨zs.q, 0, none⟩)) := by
    have : Boxed (W1.alloc (.cells #[.pointer (some ⟨zs.q, 0, none⟩)] 62)) W1.heap.size 62 (.pointer (some ⟨zs.q, 0, none⟩)) := Boxed.new W1 _ _
    rw [hs1] at this
    exact this
  have hm2 : ME (W1.alloc (.cells #[.pointer (some ⟨zs.q, 0, none⟩)] 62)).drew B mq gp N 1 at_ x zs zo ks ko hs ho Fs Fo := hm1.on ((Below.refl _ _).alloc (Nat.le_refl _) _).drew
  rw [hs1]
  clear HM1 hm1 hb1 hs1 k0 k1 c0 c1 cs hcs hc0 hc1
  generalize (W1.alloc (.cells #[.pointer (some ⟨zs.q, 0, none⟩)] 62)).drew = W2 at *
  have hpop := hm2.s.pop (by omega) hf
  have c2 := k22.cell
  have cp := hm2.s.c0
  have HM2 : Hid (ME W2 B mq gp N 1 at_ x zs zo ks ko hs ho Fs Fo ∧ Below w.heap.size w W2 ∧ W2.heap.size = w.heap.size + 3 ∧ Boxed W2 w.heap.size 66 (.pointer (some ⟨mq, 0, none⟩)) ∧ Boxed W2 (w.heap.size + 1) 3 (.int .i64 1) ∧ Boxed W2 (w.heap.size + 2) 62 (.pointer (some ⟨zs.q, 0, none⟩))) := ⟨hm2, hb2, hs2, k02, k12, k22⟩
  clear hm2 hb2 hs2 k02 k12 k22 hf
  go_wp2_with fail
  refine hpop.mono ?_
  rintro e w3 ⟨rfl, hk3, hsd3⟩
  have HM3 : Hid (ME w3 B mq gp N 1 at_ x zs zo ks ko (HM.upd hs u none) ho Fs Fo ∧ Keeps (fun b => Fs b ∨ b = mq) w w3 ∧ w.heap.size + 3 ≤ w3.heap.size ∧ Boxed w3 w.heap.size 66 (.pointer (some ⟨mq, 0, none⟩)) ∧ Boxed w3 (w.heap.size + 1) 3 (.int .i64 1) ∧ Boxed w3 (w.heap.size + 2) 62 (.pointer (some ⟨zs.q, 0, none⟩))) := by
    obtain ⟨hm2, hb2, hs2, k02, k12, k22⟩ := HM2.out
    have no : ∀ b, w.heap.size ≤ b → ¬ Fs b := fun b hb hf => by
      have := HLT.out b (.inr (.inl hf))
      omega
    have e3 := hk3.size
    exact ⟨hm2.side hk3 hsd3 (fun b hb => .inl hb), (Below.keeps hb2 (fun b => Fs b ∨ b = mq)).trans hk3 (fun b hb => .inl (.inl hb)), by omega, (hk3.block _ k02.lt (no _ (by omega))).trans k02, (hk3.block _ k12.lt (no _ (by omega))).trans k12, (hk3.block _ k22.lt (no _ (by omega))).trans k22⟩
  clear hpop hk3 hsd3 c2 cp HM2
  go_upto_region 3 with fail
  obtain ⟨hm3, hk3, hs3, k03, k13, k23⟩ := HM3.out
  have hb4 : Below w3.heap.size w3 (w3.alloc (.cells #[.int .i64 r] 3)) := (Below.refl _ _).alloc (Nat.le_refl _) _
  have hm4 := hm3.on hb4
  have har := arcsI_any hm4.s (u : Int)
  have c24 := (k23.alloc (.cells #[.int .i64 r] 3)).cell
  have HM4 : Hid (ME (w3.alloc (.cells #[.int .i64 r] 3)) B mq gp N 1 at_ x zs zo ks ko (HM.upd hs u none) ho Fs Fo ∧ Keeps (fun b => Fs b ∨ b = mq) w (w3.alloc (.cells #[.int .i64 r] 3)) ∧ (w3.alloc (.cells #[.int .i64 r] 3)).heap.size = w3.heap.size + 1 ∧ w.heap.size + 3 ≤ w3.heap.size ∧ Boxed (w3.alloc (.cells #[.int .i64 r] 3)) w.heap.size 66 (.pointer (some ⟨mq, 0, none⟩)) ∧ Boxed (w3.alloc (.cells #[.int .i64 r] 3)) (w.heap.size + 1) 3 (.int .i64 1) ∧ Boxed (w3.alloc (.cells #[.int .i64 r] 3)) (w.heap.size + 2) 62 (.pointer (some ⟨zs.q, 0, none⟩)) ∧ Boxed (w3.alloc (.cells #[.int .i64 r] 3)) w3.heap.size 3 (.int .i64 r)) := ⟨hm4, hk3.alloc _, by simp, hs3, k03.alloc _, k13.alloc _, k23.alloc _, Boxed.new w3 _ _⟩
  clear HM3 hm3 hk3 hs3 k03 k13 k23 hb4 hm4
  generalize w3.alloc (.cells #[.int .i64 r] 3) = W4 at *
  generalize w3.heap.size = bD at *
  go_wp2_with fail
  refine har.mono ?_
  rintro e w5 ⟨T, rfl, hT, bV, bG, bF, hb5, hs5⟩
  have hsq : SQI w B mq gp N zs zo ko ho Fs Fo w.heap.size bD T m (fun v => NM.wayI (NM.opens m (GM.ends m (v : Int) true))) s u r (NM.updB dn u) [] (fun _ => False) w5 := by
    obtain ⟨hm4, hk4, hs4, hs3, k0, k1, k2, k3⟩ := HM4.out
    refine ⟨⟨at_, x, ks, _, Fs, hm4.on hb5, HPR.out.2.2, fun b hb => .inl hb, fun b hb => ⟨fun h => h, fun hx => ?_⟩⟩, ⟨(hb5.block _ k0.lt).trans k0, (hb5.block _ k1.lt).trans k1, (hb5.block _ k2.lt).trans k2, (hb5.block _ k3.lt).trans k3, bV, bG, bF⟩, fun b _ h => h, fun b h => h.elim, hk4.trans (Below.keeps hb5 (fun _ => False)) (fun _ h => h.elim)⟩
    have := HLT.out b hb
    unfold stBI at hx
    omega
  have HR0 : Hid (dn u = false ∧ r ≠ 4611686018427387906) := ⟨HPR.out.1, HPR.out.2.1⟩
  have hthose := thoseI_goesP 11 (by decide) (T + 1) (T + 1 + 1) T gp N most (u : Int) m hgm
  clear har c24 hT bV bG bF hb5 hs5 HM4 HPR
  go_wp2_with fail
  generalize hL : (fun v : Nat => NM.wayI (NM.opens m (GM.ends m (v : Int) true))) = L at *
  have HLU : Hid (L u = NM.wayI (NM.opens m (GM.ends m (u : Int) true))) := by show _ = _; rw [← hL]
  have HLE : Hid ((fun v : Nat => NM.wayI (NM.opens m (GM.ends m (v : Int) true))) = L) := hL
  clear hL
  refine (wpIn_wide (n := 12)).1 ?_
  refine range_goesP (by omega) (gf := 107) (lb := #[.pointer (some ⟨T + 1, 0, none⟩), .pointer (some ⟨T + 1 + 1, 0, none⟩)]) rfl (enters_of Try.func107 (by kernel_rfl) rfl) hthose (fun _ => rfl)
    (SQI w B mq gp N zs zo ko ho Fs Fo w.heap.size bD T m L s u r (NM.updB dn u)) (fun _ _ _ _ => False) SQI.apart (fun _ _ _ _ _ _ h _ _ => h)
    (fun pre X' A h => ⟨h.k.g.cell, h.k.f.cell, h.k.v.cell, HG.out _ h.kp⟩) hsq
    (fun x A => { tmps := #[.pointer (some ⟨mq, 0, none⟩), .int .i64 1, .pointer (some ⟨w.heap.size, 0, none⟩), .pointer (some ⟨w.heap.size + 1, 0, none⟩), .pointer (some ⟨w.heap.size + 2, 0, none⟩), .int .i64 u, .pointer (some ⟨bD, 0, none⟩), .bool true, .int .i64 (x : Nat), undef, .pointer (some ⟨mq, 0, none⟩), .int .i64 1, .pointer (some ⟨mq, 0, none⟩), .pointer (some ⟨mq, 0, none⟩), .pointer (some ⟨mq, 1, none⟩), .pointer (some ⟨zs.q, 0, none⟩), .tuple #[.int .i64 u, .int .i64 r, .bool true], .pointer (some ⟨zs.q, 0, none⟩), .pointer (some ⟨zs.q, 0, none⟩), .pointer (some ⟨zs.q, 0, none⟩), .pointer (some ⟨zs.p, 0, none⟩), .tuple #[.int .i64 u, .int .i64 r, .bool true], .int .i64 u, .int .i64 r, .bool true, .pointer (some ⟨zs.q, 0, none⟩), .int .i64 u, .func (.func 107) #[] #[.pointer (some ⟨T + 1, 0, none⟩), .pointer (some ⟨T + 1 + 1, 0, none⟩)], .int .i64 (x : Nat), undef, undef, undef, undef, undef, undef, undef, undef, undef, undef, undef, undef, undef, undef, undef, undef, undef, undef], defers := [] })
    (fun x A => A)
    (fun x W => Below.refl _ _) ?assign ?body ?done ?stop
  case assign =>
    rintro l' i A K hK
    simp only [oneNum]
    gi_wp2
    exact hK
  case body =>
    rintro l' pre i X0 A B1 hi hlt - - hAs hblk hsz hXb
    have hmem : i ∈ GM.ends m (u : Int) true := hlt.subset (by simp)
    obtain ⟨hi64, his, hend⟩ := NM.mem_ends.1 hmem
    have hl0 := lookI m hi64 pre
    have hXl : ∀ z, X0 z → z < B1.heap.size := fun z hz => by have := hXb z hz; omega
    have hsd : ∃ at_ x ks hs F, ME B1 B mq gp N 1 at_ x zs zo ks ko hs ho F Fo := by
      obtain ⟨at_, x, ks, hs, F, h1, -⟩ := hi.s
      exact ⟨_, _, _, _, _, h1⟩
    obtain ⟨_, _, _, _, _, hme⟩ := hsd
    have hal := alongI_any hme.s (HG.out _ hi.kp) hgm i hi64
    have c2 := hi.k.s.cell
    have HI : Hid (SQI w B mq gp N zs zo ko ho Fs Fo w.heap.size bD T m L s u r (NM.updB dn u) pre (fun b => X0 b ∨ (A.heap.size ≤ b ∧ b < B1.heap.size)) B1) := hi
    have HAP : Hid (∀ W, Below B1.heap.size B1 W → Rest X0 B1 W ∧ SQI w B mq gp N zs zo ko ho Fs Fo w.heap.size bD T m L s u r (NM.updB dn u) pre X0 W) := fun W hW => ⟨Rest.of_below hW, SQI.apart _ _ X0 _ _ hi (Below.keeps hW _) (fun b hb => .inl (.inl hb))⟩
    have HTU : Hid ((GM.arc (NM.rev m) i).closed = false → ∀ B4, Below B1.heap.size B1 B4 → ∃ k : Nat, NM.hd (NM.rev m) i = k ∧ Calls Try.prog 51 #[.pointer (some ⟨mq, 0, none⟩), .int .i64 1, .int .i64 (k : Nat), .agg #[.int .i64 (DM.two r (NM.wt (NM.rev m) i)), .int .i64 (i : Nat)]] B4 fun e w6 => e = .returned (.tuple #[]) ∧ Rest X0 B1 w6 ∧ SQI w B mq gp N zs zo ko ho Fs Fo w.heap.size bD T m L s u r (NM.updB dn u) (pre ++ [i]) X0 w6 ∧ (∀ b, B1.heap.size ≤ b → b < B4.heap.size → w6.heap[b]? = B4.heap[b]?)) := fun hc B4 hb => by
      have hz : NM.opn (NM.rev m) u i := by
        exact (NM.opn_at hi64).2 ⟨by rw [NM.is_rev]; exact his, by rw [NM.arc_rev]; exact hend, hc⟩
      have hok := of_decide_eq_true (hgm.ok i his)
      have hwt : NM.wt (NM.rev m) i = (GM.arc m i).weight := by
        rw [NM.wt_at _ hi64, NM.arc_rev]
        rfl
      refine turnI_any HWA.out hu (if_pos rfl) HR0.out.2 hko hB hi (fun z hz => .inl hz) hXl hb hi64 hz (by rw [hwt]; omega) ?_ (by rw [hl0, hc]; rfl)
      have h2 : NM.opens m (pre ++ [i]) <+: NM.opens m (GM.ends m (u : Int) true) := NM.opens_pre m hlt
      have h3 : NM.wayI (NM.opens m (pre ++ [i])) <+: NM.wayI (NM.opens m (GM.ends m (u : Int) true)) := h2.map _
      rw [← HLU.out, hl0, hc] at h3
      exact h3.subset (by simp)
    have HSK : Hid ((GM.arc (NM.rev m) i).closed = true → NM.wayI (NM.opens m (pre ++ [i])) = NM.wayI (NM.opens m pre)) := fun hc => by
      rw [hl0, hc]
      simp
    have HHD : Hid (NM.hd (NM.rev m) i = (GM.arc (NM.rev m) i).head ∧ NM.wt (NM.rev m) i = (GM.arc (NM.rev m) i).weight) := ⟨NM.hd_at _ hi64, NM.wt_at _ hi64⟩
    have HKB : Hid (∀ W, Below B1.heap.size B1 W → W.cell? ⟨w.heap.size, 0, none⟩ = some (.pointer (some ⟨mq, 0, none⟩)) ∧ W.cell? ⟨w.heap.size + 1, 0, none⟩ = some (.int .i64 1) ∧ W.cell? ⟨bD, 0, none⟩ = some (.int .i64 r)) := fun W hW => by
      have h4 := (HAP.out W hW).2.k
      exact ⟨h4.m.cell, h4.t.cell, h4.d.cell⟩
    have HKX : Hid (∀ W, SQI w B mq gp N zs zo ko ho Fs Fo w.heap.size bD T m L s u r (NM.updB dn u) (pre ++ [i]) X0 W → W.cell? ⟨w.heap.size, 0, none⟩ = some (.pointer (some ⟨mq, 0, none⟩)) ∧ W.cell? ⟨w.heap.size + 1, 0, none⟩ = some (.int .i64 1) ∧ W.cell? ⟨bD, 0, none⟩ = some (.int .i64 r)) := fun W h4 => ⟨h4.k.m.cell, h4.k.t.cell, h4.k.d.cell⟩
    generalize GM.arc (NM.rev m) i = a at *
    obtain ⟨t, hh, y, c⟩ := a
    unfold arcV at hal
    dsimp only at hal
    clear hi hlt hAs hblk hsz hXb hmem his hend hl0 hme hthose
    gi_wp2_with fail
    refine ⟨trivial, (CallsIn.inRound l' (callsIn_wide.2 hal)).mono ?_⟩
    rintro e A1 ⟨rfl, hb1⟩
    have HB1 : Hid (Below B1.heap.size B1 A1) := hb1
    have hb2 := hb1.alloc hb1.size (.cells #[.int .i64 t, .int .i64 hh, .int .i64 y, .bool c] 33)
    clear hal hb1 c2
    cases c with
    | true =>
      have HO : Hid (Rest X0 B1 (A1.alloc (.cells #[.int .i64 t, .int .i64 hh, .int .i64 y, .bool true] 33)) ∧ SQI w B mq gp N zs zo ko ho Fs Fo w.heap.size bD T m L s u r (NM.updB dn u) (pre ++ [i]) X0 (A1.alloc (.cells #[.int .i64 t, .int .i64 hh, .int .i64 y, .bool true] 33))) := ⟨(HAP.out _ hb2).1, SQI.same (HAP.out _ hb2).2 (HSK.out rfl)⟩
      clear hb2 HAP HTU HSK HHD HKB HKX HI HG HB1
      gi_wp2_with fail
      exact HO.out
    | false =>
      obtain ⟨e1, e2⟩ := HHD.out
      (try dsimp only at e1 e2)
      obtain ⟨W2, hW2⟩ : ∃ W2, W2 = A1.alloc (.cells #[.int .i64 t, .int .i64 hh, .int .i64 y, .bool false] 33) := ⟨_, rfl⟩
      have harc := arcIn_new A1 t hh y false
      rw [← hW2] at hb2 harc
      have hg9 : W2.heap.size = A1.heap.size + 1 := by rw [hW2]; simp
      obtain ⟨B4, hB4⟩ : ∃ B4, B4 = (W2.alloc (.cells #[.int .i64 r, .int .i64 y] 3)).drew := ⟨_, rfl⟩
      have hb4 : Below W2.heap.size W2 B4 := by rw [hB4]; exact ((Below.refl _ _).alloc (Nat.le_refl _) _).drew
      obtain ⟨k, hk, hre⟩ := HTU.out rfl B4 (below_on hb2 hb4)
      rw [e1] at hk
      rw [e2] at hre
      subst hk
      obtain ⟨-, r1, r2, -⟩ := harc
      simp only [Nat.zero_add] at r1 r2
      have hadd : Calls Try.prog 62 #[.slice (some ⟨W2.heap.size, 0, none⟩) 2 2] B4 fun e w' => e = .returned (.int .i64 (DM.two r y)) ∧ w' = B4 := by
        refine add_cells ?_ ?_ <;> rw [hB4]
        · show (W2.alloc _).cell? _ = _
          simp
        · show (W2.alloc _).cell? _ = _
          simp
      have hszB : B1.heap.size ≤ A1.heap.size := HB1.out.size
      have HSX : Hid (∀ W, Below W2.heap.size W2 W → W.cell? ⟨w.heap.size, 0, none⟩ = some (.pointer (some ⟨mq, 0, none⟩)) ∧ W.cell? ⟨w.heap.size + 1, 0, none⟩ = some (.int .i64 1) ∧ W.cell? ⟨bD, 0, none⟩ = some (.int .i64 r) ∧ W.cell? ⟨A1.heap.size, 1, none⟩ = some (.int .i64 (k : Nat)) ∧ W.cell? ⟨A1.heap.size, 2, none⟩ = some (.int .i64 y)) := fun W hW => by
        obtain ⟨q1, q2, q3⟩ := HKB.out W (below_on hb2 hW)
        exact ⟨q1, q2, q3, (hW.cell (p := ⟨A1.heap.size, 1, none⟩) (cell_lt r1)).trans r1, (hW.cell (p := ⟨A1.heap.size, 2, none⟩) (cell_lt r2)).trans r2⟩
      have HSX4 : Hid (B4.cell? ⟨w.heap.size, 0, none⟩ = some (.pointer (some ⟨mq, 0, none⟩)) ∧ B4.cell? ⟨w.heap.size + 1, 0, none⟩ = some (.int .i64 1) ∧ B4.cell? ⟨bD, 0, none⟩ = some (.int .i64 r) ∧ B4.cell? ⟨A1.heap.size, 1, none⟩ = some (.int .i64 (k : Nat)) ∧ B4.cell? ⟨A1.heap.size, 2, none⟩ = some (.int .i64 y)) := HSX.out B4 hb4
      have HRE : Hid (Calls Try.prog 51 #[.pointer (some ⟨mq, 0, none⟩), .int .i64 1, .int .i64 (k : Nat), .agg #[.int .i64 (DM.two r y), .int .i64 (i : Nat)]] B4 fun e w6 => e = .returned (.tuple #[]) ∧ (Rest X0 B1 w6 ∧ SQI w B mq gp N zs zo ko ho Fs Fo w.heap.size bD T m L s u r (NM.updB dn u) (pre ++ [i]) X0 w6) ∧ (w6.cell? ⟨w.heap.size, 0, none⟩ = some (.pointer (some ⟨mq, 0, none⟩)) ∧ w6.cell? ⟨w.heap.size + 1, 0, none⟩ = some (.int .i64 1) ∧ w6.cell? ⟨bD, 0, none⟩ = some (.int .i64 r) ∧ w6.cell? ⟨A1.heap.size, 1, none⟩ = some (.int .i64 (k : Nat)) ∧ w6.cell? ⟨A1.heap.size, 2, none⟩ = some (.int .i64 y))) := by
        refine hre.mono ?_
        rintro e6 w6 ⟨rfl, h1, h2, h3⟩
        obtain ⟨q1, q2, q3⟩ := HKX.out w6 h2
        obtain ⟨-, -, -, q4, q5⟩ := HSX4.out
        have hbl := h3 A1.heap.size hszB (by have := hb4.size; omega)
        exact ⟨rfl, ⟨h1, h2⟩, q1, q2, q3, (World.cell?_of_block (w := B4) (a := ⟨A1.heap.size, 1, none⟩) hbl).trans q4, (World.cell?_of_block (w := B4) (a := ⟨A1.heap.size, 2, none⟩) hbl).trans q5⟩
      have cX := HSX.out W2.drew (Below.refl _ W2).drew
      have HADD : Hid (Calls Try.prog 62 #[.slice (some ⟨W2.heap.size, 0, none⟩) 2 2] B4 fun e w' => e = .returned (.int .i64 (DM.two r y)) ∧ w' = B4) := hadd
      have HB4E : Hid (B4 = (W2.alloc (.cells #[.int .i64 r, .int .i64 y] 3)).drew) := hB4
      have HSY := HSX4.out
      clear hre hadd hB4 hb4 hb2 HSX HKB HKX HTU HSK HAP HHD HI HG HB1 r1 r2 hszB hg9 hXl e1 e2
      generalize DM.two r y = d2 at *
      gi_wp2_with fail
      rw [← hW2]
      clear hW2
      generalize A1.heap.size = g9 at *
      have HSX : Hid (B4.cell? ⟨w.heap.size, 0, none⟩ = some (.pointer (some ⟨mq, 0, none⟩)) ∧ B4.cell? ⟨w.heap.size + 1, 0, none⟩ = some (.int .i64 1) ∧ B4.cell? ⟨bD, 0, none⟩ = some (.int .i64 r) ∧ B4.cell? ⟨g9, 1, none⟩ = some (.int .i64 (k : Nat)) ∧ B4.cell? ⟨g9, 2, none⟩ = some (.int .i64 y)) := HSY
      clear HSY HSX4
      refine wpIn_region_held (R := fun _ w6 => Rest X0 B1 w6 ∧ SQI w B mq gp N zs zo ko ho Fs Fo w.heap.size bD T m L s u r (NM.updB dn u) (pre ++ [i]) X0 w6) (S := fun W => W.cell? ⟨w.heap.size, 0, none⟩ = some (.pointer (some ⟨mq, 0, none⟩)) ∧ W.cell? ⟨w.heap.size + 1, 0, none⟩ = some (.int .i64 1) ∧ W.cell? ⟨bD, 0, none⟩ = some (.int .i64 r) ∧ W.cell? ⟨g9, 1, none⟩ = some (.int .i64 (k : Nat)) ∧ W.cell? ⟨g9, 2, none⟩ = some (.int .i64 y)) (by kernel_rfl) (by kernel_rfl) (fun a w h => h) cX (fun hHeld => ?_)
      refine wpAnyH_take (i := 0) (oi := { dst := some 35, op := Op.load 66 (Operand.tmp 2), type := 66, pos := "both.go:134", after := #[], guard := none }) (v := ?_) rfl (by kernel_rfl) (by kernel_rfl) (by kernel_rfl) (fun _ _ _ h => h) (Or.inl ⟨by rfl, ?_⟩) (by assumption) ?_
      rotate_left
      · intro w0 hSw
        (try dsimp only at hSw)
        go_simp <;> with_reducible rfl
      try simp only [Act.put, List.setIfInBounds_toArray, List.set_cons_zero, List.set_cons_succ]
      refine wpAnyH_take (i := 1) (oi := { dst := some 36, op := Op.load 3 (Operand.tmp 3), type := 3, pos := "both.go:134", after := #[], guard := none }) (v := ?_) rfl (by kernel_rfl) (by kernel_rfl) (by kernel_rfl) (fun _ _ _ h => h) (Or.inl ⟨by rfl, ?_⟩) (by assumption) ?_
      rotate_left
      · intro w0 hSw
        (try dsimp only at hSw)
        go_simp <;> with_reducible rfl
      try simp only [Act.put, List.setIfInBounds_toArray, List.set_cons_zero, List.set_cons_succ]
      refine wpAnyH_take (i := 2) (oi := { dst := some 37, op := Op.fieldAddr 33 (Operand.tmp 9) 1, type := 0, pos := "both.go:134", after := #[], guard := none }) (v := ?_) rfl (by kernel_rfl) (by kernel_rfl) (by kernel_rfl) (fun _ _ _ h => h) (Or.inl ⟨by rfl, ?_⟩) (by assumption) ?_
      rotate_left
      · intro w0 hSw
        (try dsimp only at hSw)
        go_simp <;> with_reducible rfl
      try simp only [Act.put, List.setIfInBounds_toArray, List.set_cons_zero, List.set_cons_succ]
      refine wpAnyH_take (i := 3) (oi := { dst := some 38, op := Op.load 3 (Operand.tmp 37), type := 3, pos := "both.go:134", after := #[{ on := 2, ground := Ground.data }], guard := none }) (v := ?_) rfl (by kernel_rfl) (by kernel_rfl) (by kernel_rfl) (fun _ _ _ h => h) (Or.inl ⟨by rfl, ?_⟩) (by assumption) ?_
      rotate_left
      · intro w0 hSw
        (try dsimp only at hSw)
        go_simp <;> with_reducible rfl
      try simp only [Act.put, List.setIfInBounds_toArray, List.set_cons_zero, List.set_cons_succ]
      refine wpAnyH_take (i := 4) (oi := { dst := some 39, op := Op.load 3 (Operand.tmp 6), type := 3, pos := "both.go:134", after := #[], guard := none }) (v := ?_) rfl (by kernel_rfl) (by kernel_rfl) (by kernel_rfl) (fun _ _ _ h => h) (Or.inl ⟨by rfl, ?_⟩) (by assumption) ?_
      rotate_left
      · intro w0 hSw
        (try dsimp only at hSw)
        go_simp <;> with_reducible rfl
      try simp only [Act.put, List.setIfInBounds_toArray, List.set_cons_zero, List.set_cons_succ]
      refine wpAnyH_take (i := 5) (oi := { dst := some 40, op := Op.fieldAddr 33 (Operand.tmp 9) 2, type := 0, pos := "both.go:134", after := #[], guard := none }) (v := ?_) rfl (by kernel_rfl) (by kernel_rfl) (by kernel_rfl) (fun _ _ _ h => h) (Or.inl ⟨by rfl, ?_⟩) (by assumption) ?_
      rotate_left
      · intro w0 hSw
        (try dsimp only at hSw)
        go_simp <;> with_reducible rfl
      try simp only [Act.put, List.setIfInBounds_toArray, List.set_cons_zero, List.set_cons_succ]
      refine wpAnyH_take (i := 6) (oi := { dst := some 41, op := Op.load 3 (Operand.tmp 40), type := 3, pos := "both.go:134", after := #[{ on := 5, ground := Ground.data }], guard := none }) (v := ?_) rfl (by kernel_rfl) (by kernel_rfl) (by kernel_rfl) (fun _ _ _ h => h) (Or.inl ⟨by rfl, ?_⟩) (by assumption) ?_
      rotate_left
      · intro w0 hSw
        (try dsimp only at hSw)
        go_simp <;> with_reducible rfl
      try simp only [Act.put, List.setIfInBounds_toArray, List.set_cons_zero, List.set_cons_succ]
      refine wpAnyH_take (i := 9) (oi := { dst := some 44, op := Op.move (Operand.tmp 8), type := 3, pos := "both.go:134", after := #[], guard := none }) (v := ?_) rfl (by kernel_rfl) (by kernel_rfl) (by kernel_rfl) (fun _ _ _ h => h) (Or.inl ⟨by rfl, ?_⟩) (by assumption) ?_
      rotate_left
      · intro w0 hSw
        (try dsimp only at hSw)
        go_simp <;> with_reducible rfl
      try simp only [Act.put, List.setIfInBounds_toArray, List.set_cons_zero, List.set_cons_succ]
      refine wpAnyH_ready (rs := [7]) (by kernel_rfl) (by simp) ?_
      refine AllReadyH.cons (o := { dst := some 42, op := Op.buildSlice 41 2 #[(0, Operand.tmp 39), (1, Operand.tmp 41)], type := 41, pos := "both.go:134", after := #[{ on := 4, ground := Ground.data }, { on := 6, ground := Ground.data }], guard := none }) rfl (fun K hK => ?_) AllReadyH.nil
      go_simp
      refine hK.out _ _ (by rw [← HB4E.out]; exact HSX.out) (fun hHeld => ?_)
      clear hK K
      rw [← HB4E.out] at hHeld ⊢
      try simp only [Act.put, List.setIfInBounds_toArray, List.set_cons_zero, List.set_cons_succ]
      refine wpAnyH_ready (rs := [8]) (by kernel_rfl) (by simp) ?_
      refine AllReadyH.cons (o := { dst := some 43, op := Op.call { callee := Callee.value (Operand.func 62), args := #[Operand.tmp 42], argTypes := #[41] }, type := 3, pos := "both.go:134", after := #[{ on := 7, ground := Ground.data }], guard := none }) rfl (fun K hK => ?_) AllReadyH.nil
      go_simp
      refine HADD.out.mono ?_
      rintro e w5' ⟨rfl, hw5⟩
      rw [hw5]
      clear hw5 w5'
      go_wp2_with fail
      refine hK.out _ _ (HSX.out) (fun hHeld => ?_)
      clear hK K
      try simp only [Act.put, List.setIfInBounds_toArray, List.set_cons_zero, List.set_cons_succ]
      refine wpAnyH_take (i := 10) (oi := { dst := some 45, op := Op.build 89 #[(0, Operand.tmp 43), (1, Operand.tmp 44)], type := 89, pos := "both.go:134", after := #[{ on := 8, ground := Ground.data }, { on := 9, ground := Ground.data }], guard := none }) (v := ?_) rfl (by kernel_rfl) (by kernel_rfl) (by kernel_rfl) (fun _ _ _ h => h) (Or.inl ⟨by rfl, ?_⟩) (by assumption) ?_
      rotate_left
      · intro w0 hSw
        (try dsimp only at hSw)
        go_simp <;> with_reducible rfl
      try simp only [Act.put, List.setIfInBounds_toArray, List.set_cons_zero, List.set_cons_succ]
      refine wpAnyH_ready (rs := [11]) (by kernel_rfl) (by simp) ?_
      refine AllReadyH.cons (o := { dst := some 46, op := Op.call { callee := Callee.value (Operand.func 51), args := #[Operand.tmp 35, Operand.tmp 36, Operand.tmp 38, Operand.tmp 45], argTypes := #[66, 3, 3, 89] }, type := 0, pos := "both.go:134", after := #[{ on := 0, ground := Ground.data }, { on := 1, ground := Ground.data }, { on := 3, ground := Ground.data }, { on := 10, ground := Ground.data }, { on := 8, ground := Ground.chain }], guard := none }) rfl (fun K hK => ?_) AllReadyH.nil
      go_simp
      refine HRE.out.mono ?_
      rintro e w6 ⟨rfl, hw6⟩
      have HR6 : Hid ((Rest X0 B1 w6 ∧ SQI w B mq gp N zs zo ko ho Fs Fo w.heap.size bD T m L s u r (NM.updB dn u) (pre ++ [i]) X0 w6) ∧ (w6.cell? ⟨w.heap.size, 0, none⟩ = some (.pointer (some ⟨mq, 0, none⟩)) ∧ w6.cell? ⟨w.heap.size + 1, 0, none⟩ = some (.int .i64 1) ∧ w6.cell? ⟨bD, 0, none⟩ = some (.int .i64 r) ∧ w6.cell? ⟨g9, 1, none⟩ = some (.int .i64 (k : Nat)) ∧ w6.cell? ⟨g9, 2, none⟩ = some (.int .i64 y))) := hw6
      clear hw6
      go_wp2_with fail
      refine hK.out _ _ HR6.out.2 (fun hHeld => ?_)
      clear hK K
      try simp only [Act.put, List.setIfInBounds_toArray, List.set_cons_zero, List.set_cons_succ]
      refine wpAnyH_done (by kernel_rfl) ?_ _
      exact ⟨rfl, HR6.out.1⟩
  case done =>
    intro W hi hK
    have HE : Hid (∀ o, ∃ at2 x2 ks2 hs2 F dn2, ME (W.putObj w5.heap.size o) B mq gp N 1 at2 x2 zs zo ks2 ko hs2 ho F Fo ∧ NM.DJ (NM.rev m) (fun v => NM.wayI (NM.opens m (GM.ends m (v : Int) true))) N s N [] (NM.farOf ks2) hs2 dn2 ∧ NM.BY (NM.rev m) N s ks2 dn2 ∧ NM.MT N (NM.farOf ks2) (NM.farOf ko) at2 x2 ∧ NM.rest N dn2 < NM.rest N dn ∧ Keeps (fun b => Fs b ∨ b = mq) w (W.putObj w5.heap.size o) ∧ (∀ b, F b → Fs b ∨ w.heap.size ≤ b)) := fun o => by
      have hi2 := SQI.apart _ _ (fun _ => False) _ _ hi (keeps_putK W w5.heap.size o) (fun _ h => h.elim)
      obtain ⟨⟨at2, x2, ks2, hs2, F, h1, h2, h3, -⟩, -, -, -, hkp⟩ := hi2
      rw [← HLU.out] at h2
      rw [HLE.out]
      exact ⟨at2, x2, ks2, hs2, F, _, h1, h2.next.1, h2.next.2.1, h2.next.2.2, NM.rest_upd hu HR0.out.1, hkp, h3⟩
    clear hi HG HLT HLU HWA HLE hko hgm hin hthose hsq
    gi_wp2
    refine ⟨by simp, .inl ⟨_, _, rfl, run_takeDeferred hK, ?_⟩⟩
    exact ⟨_, results_none rfl _ _ _, rfl, HE.out _⟩
  case stop =>
    intro c' pre W _ h
    exact h.elim
end Go.Proofs.Ytmamligiopbefaa
end
