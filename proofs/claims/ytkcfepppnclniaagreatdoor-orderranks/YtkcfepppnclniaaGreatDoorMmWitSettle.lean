/-
  The walk of settle: a vertex is settled, and what its steps lead to is touched, and waits (layer 13).
-/
import Derived.Test.YtkcfepppnclniaaGreatDoorMmWitStep
import Derived.Test.YtkcfepppnclniaaGreatDoorMmNearRound
import Derived.Deep.RegionHeld3
import Derived.Deep.DeepCutAuto
namespace Go.Proofs.YtkcfepppnclniaaGreatDoor
open Go.RowKit Go.Shelf
attribute [local go_sem] Oper.semAt_some

set_option maxRecDepth 100000 in
set_option maxHeartbeats 1000000 in
theorem settle_any {w : World} {B : Nat} {z : Wid} {mp N O T v s : Nat} {D : Nat → Nat → Int} {d : Int} {k : Nat → Option Int} {hm : Nat → Option Int} {F : Nat → Prop} {L : List (Nat × Int)} (h : WD w B z mp N O k hm T F) (hB : B ≤ w.heap.size) (hx : XMem w mp N D) (hmp : mp < B) (hmm : XM.Mesh N D) (hO : O < 18446744073709551616)
    (hv : v < N) (hd : 0 ≤ d ∧ d < 4611686018427387906) (hk : WM.noted L k) (hLv : WM.has L v = false) (hmid : WM.MidL N D (WM.outOf O) L (v, d) [] hm) (ht : WM.TT N D (WM.outOf O) L T) :
    Calls Tryz.prog 103 #[.pointer (some ⟨z.q, 0, none⟩), .int .i64 (v : Nat), .int .i64 d] w fun e w' => e = .returned (.tuple #[]) ∧ ∃ k' hm' T' F', WD w' B z mp N O k' hm' T' F' ∧
      WM.noted (L ++ [(v, d)]) k' ∧ WM.Waits N D s (WM.outOf O) (L ++ [(v, d)]) hm' ∧ WM.TT N D (WM.outOf O) (L ++ [(v, d)]) T' ∧ Keeps F w w' ∧ (∀ b, F' b → F b ∨ w.heap.size ≤ b) := by
  have hN := h.few
  obtain ⟨W1, hW1, hsp⟩ := SP.new (D := D) (d := d) h hx hmp
  have HSP : Hid (SP w B z mp N O D d k hm T F W1) := hsp
  have HK : Hid (WM.noted (L ++ [(v, d)]) (SM.upd k v (some d))) := WM.noted_snoc hk hLv
  have HT : Hid (WM.TP N D (WM.outOf O) L v [] (T ||| BM.only (v : Int))) := ht.settle (by omega)
  have hT64 : T < 18446744073709551616 := by have := ht.1; omega
  have HMID : Hid (WM.MidL N D (WM.outOf O) L (v, d) [] hm) := hmid
  have c0 := hsp.ks.cell
  have c1 := hsp.kd.cell
  have cr := hsp.wd.c3
  have c0d : W1.drew.cell? ⟨w.heap.size, 0, none⟩ = some (.pointer (some ⟨z.q, 0, none⟩)) := c0
  have c1d : W1.drew.cell? ⟨w.heap.size + 1, 0, none⟩ = some (.int .i64 d) := c1
  have crd : W1.drew.cell? ⟨z.q, 3, none⟩ = some (.pointer (some ⟨z.r, 0, none⟩)) := cr
  have HMK : Hid (Calls Tryz.prog 115 #[.pointer (some ⟨z.r, 0, none⟩), .int .i64 (v : Nat), .int .i64 d] W1.drew fun e W' => e = .returned (.int .i64 0) ∧ SP w B z mp N O D d (SM.upd k v (some d)) hm T F W') := by
    have hs1 := hsp.on (Below.refl _ _).drew
    refine (hs1.wd.mark v hv d).mono ?_
    rintro e W' ⟨rfl, k1, k2⟩
    exact ⟨rfl, hs1.turn k1 k2⟩
  have HG2 : Hid (∀ W, SP w B z mp N O D d (SM.upd k v (some d)) hm T F W → (W.cell? ⟨w.heap.size, 0, none⟩ = some (.pointer (some ⟨z.q, 0, none⟩)) ∧ W.cell? ⟨w.heap.size + 1, 0, none⟩ = some (.int .i64 d) ∧ W.cell? ⟨z.q, 3, none⟩ = some (.pointer (some ⟨z.r, 0, none⟩)))) := fun W hW => ⟨hW.ks.cell, hW.kd.cell, hW.wd.c3⟩
  have hwith := fun W => with_any T (v : Int) hT64 W
  clear hsp h hx hk hLv hmid ht
  refine (callsIn_wide (n := 12)).1 ?_
  refine callsIn_of_wp_marks Tryz.func103 rfl trivial ?_ rfl
  simp only [Tryz.ntmps103, List.size_toArray, List.length_cons, List.length_nil, Nat.reduceAdd, Nat.reduceSub, Array.replicate_succ, Array.replicate_zero, List.push_toArray, List.append_toArray, List.nil_append, List.cons_append]
  refine wpIn_wide.2 ?_
  go_upto_region 1 with fail
  rw [← hW1]
  clear hW1
  go_upto_region 2 with (go_region_held3 (fun W => W.cell? ⟨w.heap.size, 0, none⟩ = some (.pointer (some ⟨z.q, 0, none⟩)) ∧ W.cell? ⟨w.heap.size + 1, 0, none⟩ = some (.int .i64 d) ∧ W.cell? ⟨z.q, 3, none⟩ = some (.pointer (some ⟨z.r, 0, none⟩))) (first | go_keep | exact HG2.out _ HS2.out) (first
    | (go_at_call 115; refine HMK.out.mono ?_; rintro e w2 ⟨rfl, hr2⟩; have HS2 : Hid (SP w B z mp N O D d (SM.upd k v (some d)) hm T F w2) := hr2; clear hr2; obtain ⟨g21, g22, g23⟩ := HG2.out _ HS2.out)))
  clear HMK HG2 HSP c0 c1 cr c0d c1d crd g21 g22 g23
  have c0 := HS2.out.ks.cell
  have ct := HS2.out.wd.c4
  have ft := HS2.out.wd.f4
  have c0d : w2.drew.cell? ⟨w.heap.size, 0, none⟩ = some (.pointer (some ⟨z.q, 0, none⟩)) := c0
  have ctd : w2.drew.cell? ⟨z.q, 4, none⟩ = some (.int .u64 (T : Nat)) := ct
  have ftd : w2.drew.frozen? ⟨z.q, 4, none⟩ = false := ft
  have hqn : ¬ z.q = w.heap.size := by have := HS2.out.lt _ (HS2.out.wd.f _ (.inl rfl)); omega
  go_upto_region 3 with (
    refine wp_region_heldR (S := fun W => W.cell? ⟨w.heap.size, 0, none⟩ = some (.pointer (some ⟨z.q, 0, none⟩))) (by kernel_rfl) (fun _ _ h => h) c0d (fun hHeld => ?_)
    refine wpAnyH_take (i := 0) (oi := { dst := some 17, op := Op.load 113 (Operand.tmp 3), type := 113, pos := "witness.go:91", after := #[], guard := none }) (v := ?_) rfl (by kernel_rfl) (by kernel_rfl) (by kernel_rfl) (fun _ _ _ h => nomatch h.1) (Or.inl ⟨by rfl, ?_⟩) (by assumption) ?_
    rotate_left
    · intro w0 hSw
      (try dsimp only at hSw)
      go_simp <;> with_reducible rfl
    try simp only [Act.put, List.setIfInBounds_toArray, List.set_cons_zero, List.set_cons_succ]
    refine wpAnyH_take (i := 1) (oi := { dst := some 18, op := Op.load 113 (Operand.tmp 3), type := 113, pos := "witness.go:91", after := #[], guard := none }) (v := ?_) rfl (by kernel_rfl) (by kernel_rfl) (by kernel_rfl) (fun _ _ _ h => nomatch h.1) (Or.inl ⟨by rfl, ?_⟩) (by assumption) ?_
    rotate_left
    · intro w0 hSw
      (try dsimp only at hSw)
      go_simp <;> with_reducible rfl
    try simp only [Act.put, List.setIfInBounds_toArray, List.set_cons_zero, List.set_cons_succ]
    refine wpAnyH_take (i := 5) (oi := { dst := some 22, op := Op.move (Operand.tmp 1), type := 3, pos := "witness.go:91", after := #[], guard := none }) (v := ?_) rfl (by kernel_rfl) (by kernel_rfl) (by kernel_rfl) (fun _ _ _ h => nomatch h.1) (Or.inl ⟨by rfl, ?_⟩) (by assumption) ?_
    rotate_left
    · intro w0 hSw
      (try dsimp only at hSw)
      go_simp <;> with_reducible rfl
    try simp only [Act.put, List.setIfInBounds_toArray, List.set_cons_zero, List.set_cons_succ]
    refine wpAnyH_take (i := 2) (oi := { dst := some 19, op := Op.nilCheck (Operand.tmp 18), type := 0, pos := "witness.go:91", after := #[{ on := 1, ground := Ground.data }], guard := none }) (v := ?_) rfl (by kernel_rfl) (by kernel_rfl) (by kernel_rfl) (fun _ _ _ h => nomatch h.1) (Or.inl ⟨by rfl, ?_⟩) (by assumption) ?_
    rotate_left
    · intro w0 hSw
      (try dsimp only at hSw)
      go_simp <;> with_reducible rfl
    try simp only [Act.put, List.setIfInBounds_toArray, List.set_cons_zero, List.set_cons_succ]
    refine wpAnyH_take (i := 3) (oi := { dst := some 20, op := Op.fieldAddr 131 (Operand.tmp 19) 4, type := 0, pos := "witness.go:91", after := #[{ on := 2, ground := Ground.data }], guard := none }) (v := ?_) rfl (by kernel_rfl) (by kernel_rfl) (by kernel_rfl) (fun _ _ _ h => nomatch h.1) (Or.inl ⟨by rfl, ?_⟩) (by assumption) ?_
    rotate_left
    · intro w0 hSw
      (try dsimp only at hSw)
      go_simp <;> with_reducible rfl
    try simp only [Act.put, List.setIfInBounds_toArray, List.set_cons_zero, List.set_cons_succ]
    refine wpAnyH_ready (rs := [4]) (by kernel_rfl) (by simp) ?_
    refine AllReadyH.cons (o := { dst := some 21, op := Op.load 62 (Operand.tmp 20), type := 62, pos := "witness.go:91", after := #[{ on := 3, ground := Ground.data }], guard := none }) rfl (fun K hK => ?_) AllReadyH.nil
    go_simp
    refine hK.out _ _ hHeld (fun hHeld => ?_)
    clear hK K
    try simp only [Act.put, List.setIfInBounds_toArray, List.set_cons_zero, List.set_cons_succ]
    refine wpAnyH_ready (rs := [6]) (by kernel_rfl) (by simp) ?_
    refine AllReadyH.cons (o := { dst := some 23, op := Op.call { callee := Callee.value (Operand.func 61), args := #[Operand.tmp 21, Operand.tmp 22], argTypes := #[62, 3] }, type := 62, pos := "witness.go:91", after := #[{ on := 4, ground := Ground.data }, { on := 5, ground := Ground.data }], guard := none }) rfl (fun K hK => ?_) AllReadyH.nil
    go_simp
    refine (hwith _).mono ?_
    rintro e w9 ⟨rfl, hw9⟩
    rw [hw9]
    clear hw9 w9
    go_wp2_with fail
    refine hK.out _ _ hHeld (fun hHeld => ?_)
    clear hK K
    try simp only [Act.put, List.setIfInBounds_toArray, List.set_cons_zero, List.set_cons_succ]
    refine wpAnyH_take (i := 7) (oi := { dst := some 24, op := Op.nilCheck (Operand.tmp 17), type := 0, pos := "witness.go:91", after := #[{ on := 0, ground := Ground.data }, { on := 0, ground := Ground.phase }, { on := 1, ground := Ground.phase }, { on := 2, ground := Ground.phase }, { on := 3, ground := Ground.phase }, { on := 4, ground := Ground.phase }, { on := 5, ground := Ground.phase }, { on := 6, ground := Ground.phase }], guard := none }) (v := ?_) rfl (by kernel_rfl) (by kernel_rfl) (by kernel_rfl) (fun _ _ _ h => nomatch h.1) (Or.inl ⟨by rfl, ?_⟩) (by assumption) ?_
    rotate_left
    · intro w0 hSw
      (try dsimp only at hSw)
      go_simp <;> with_reducible rfl
    try simp only [Act.put, List.setIfInBounds_toArray, List.set_cons_zero, List.set_cons_succ]
    refine wpAnyH_take (i := 8) (oi := { dst := some 25, op := Op.fieldAddr 131 (Operand.tmp 24) 4, type := 0, pos := "witness.go:91", after := #[{ on := 7, ground := Ground.data }, { on := 0, ground := Ground.phase }, { on := 1, ground := Ground.phase }, { on := 2, ground := Ground.phase }, { on := 3, ground := Ground.phase }, { on := 4, ground := Ground.phase }, { on := 5, ground := Ground.phase }, { on := 6, ground := Ground.phase }], guard := none }) (v := ?_) rfl (by kernel_rfl) (by kernel_rfl) (by kernel_rfl) (fun _ _ _ h => nomatch h.1) (Or.inl ⟨by rfl, ?_⟩) (by assumption) ?_
    rotate_left
    · intro w0 hSw
      (try dsimp only at hSw)
      go_simp <;> with_reducible rfl
    try simp only [Act.put, List.setIfInBounds_toArray, List.set_cons_zero, List.set_cons_succ]
    refine wpAnyH_ready (rs := [9]) (by kernel_rfl) (by simp) ?_
    refine AllReadyH.cons (o := { dst := none, op := Op.store 62 (Operand.tmp 25) (Operand.tmp 23), type := 0, pos := "witness.go:91", after := #[{ on := 8, ground := Ground.data }, { on := 6, ground := Ground.data }, { on := 6, ground := Ground.chain }, { on := 0, ground := Ground.phase }, { on := 1, ground := Ground.phase }, { on := 2, ground := Ground.phase }, { on := 3, ground := Ground.phase }, { on := 4, ground := Ground.phase }, { on := 5, ground := Ground.phase }, { on := 6, ground := Ground.phase }], guard := none }) rfl (fun K hK => ?_) AllReadyH.nil
    go_simp
    refine hK.out _ _ (by go_keep) (fun hHeld => ?_)
    clear hK K
    try simp only [Act.put, List.setIfInBounds_toArray, List.set_cons_zero, List.set_cons_succ]
    refine wpAnyH_done (by kernel_rfl) ?_ _
    refine ⟨rfl, ?_⟩
    )
  have hs3 : SP w B z mp N O D d (SM.upd k v (some d)) hm (T ||| BM.only (v : Int)) F (w2.setCell ⟨z.q, 4, none⟩ (.int .u64 ((T ||| BM.only (v : Int) : Nat) : Int))).drew := by
    have h2 := HS2.out.wd.touch (T ||| BM.only (v : Int))
    exact (HS2.out.turn h2.2 h2.1).on (Below.refl _ _).drew
  clear c0 ct ft c0d ctd ftd hqn HS2 hwith hT64
  generalize (w2.setCell ⟨z.q, 4, none⟩ (.int .u64 ((T ||| BM.only (v : Int) : Nat) : Int))).drew = W3 at *
  have HS3 : Hid (SP w B z mp N O D d (SM.upd k v (some d)) hm (T ||| BM.only (v : Int)) F W3) := hs3
  have c0 := hs3.ks.cell
  have cm := hs3.wd.c0
  have hout := outX_any mp (v : Int) W3
  obtain ⟨rd, hb4, hs4⟩ := iterW_reads hs3.x 63 (v : Int)
  have HWS : Hid (WS w B z mp N O D v d L (SM.upd k v (some d)) F W3.heap.size [] [] (iterW 63 mp (v : Int) W3)) := by
    have hp := hs3.on hb4
    refine ⟨⟨hp.kp, hp.ks, hp.kd, rd⟩, hm, _, F, hp.wd, HMID.out, HT.out, fun b hb => .inl hb, fun b hb => ?_⟩
    have h1 := hp.lt b hb
    have h2 := hs3.sz
    exact ⟨by omega, by omega, fun e => hp.mf (e ▸ hb)⟩
  have HSZ : Hid (w.heap.size + 2 ≤ W3.heap.size) := hs3.sz
  clear hs3 rd hb4 HMID HT HS3
  go_wp2_with fail
  refine hout.mono ?_
  rintro e w4 ⟨rfl, hw4⟩
  rw [hw4]
  clear hw4 w4 hout c0 cm
  generalize iterW 63 mp (v : Int) W3 = W4 at *
  have HS4 : Hid (W4.heap.size = W3.heap.size + 4) := hs4
  clear hs4
  generalize W3.heap.size = T4 at *
  unfold iterV
  go_wp2_with fail
  have hgo := out_goes 11 (by decide) T4 mp N hN D (v : Int)
  refine (wpIn_wide (n := 12)).1 (range_goesQ (by decide) (gf := 88) (lb := #[.pointer (some ⟨T4 + 1 + 1, 0, none⟩), .pointer (some ⟨T4 + 1 + 1 + 1, 0, none⟩)]) rfl (enters_of Tryz.func88 (by kernel_rfl) rfl) hgo (fun _ => rfl)
    (fun pre W => WS w B z mp N O D v d L (SM.upd k v (some d)) F T4 pre pre W)
    (fun _ _ _ => False)
    (fun pre A A' h hk => h.loop HSZ.out (by omega) (hk.mono (fun b hb => by have := HS4.out; omega)))
    (fun _ _ _ _ h _ => h)
    (fun pre A h => h.1.rd)
    HWS.out
    (fun x A => { tmps := #[.pointer (some ⟨z.q, 0, none⟩), .int .i64 (v : Nat), .int .i64 d, .pointer (some ⟨w.heap.size, 0, none⟩), undef, .pointer (some ⟨w.heap.size + 1, 0, none⟩), .int .i64 (x.1 : Nat), .int .i64 x.2, undef, undef, .pointer (some ⟨z.q, 0, none⟩), .pointer (some ⟨z.q, 0, none⟩), .pointer (some ⟨z.q, 3, none⟩), .pointer (some ⟨z.r, 0, none⟩), .int .i64 (v : Nat), .int .i64 d, .int .i64 0, .pointer (some ⟨z.q, 0, none⟩), .pointer (some ⟨z.q, 0, none⟩), .pointer (some ⟨z.q, 0, none⟩), .pointer (some ⟨z.q, 4, none⟩), .int .u64 (T : Nat), .int .i64 (v : Nat), .int .u64 ((T ||| BM.only (v : Int) : Nat) : Int), .pointer (some ⟨z.q, 0, none⟩), .pointer (some ⟨z.q, 4, none⟩), .pointer (some ⟨z.q, 0, none⟩), .pointer (some ⟨z.q, 0, none⟩), .pointer (some ⟨z.q, 0, none⟩), .pointer (some ⟨mp, 0, none⟩), .int .i64 (v : Nat), .func (.func 88) #[] #[.pointer (some ⟨T4 + 1 + 1, 0, none⟩), .pointer (some ⟨T4 + 1 + 1 + 1, 0, none⟩)], .int .i64 (x.1 : Nat), .int .i64 x.2, undef, undef, undef, undef, undef, undef, undef, undef, undef, undef, undef, undef, undef, undef, undef, undef, undef, undef, undef, undef, undef, undef, undef, undef, undef, undef, undef, undef, undef, undef, undef, undef, undef, undef, undef, undef], defers := [] })
    (fun x A => A) (fun x W => Below.refl _ _) ?assign ?body ?done ?stop)
  case assign =>
    intro l x W K hK
    simp only [stepV]
    gi_wp2
    exact hK
  case body =>
    rintro l pre ⟨u, y⟩ A W rfl hr hWS hpx hA hkA hsA
    dsimp only
    have hsz : T4 + 6 ≤ W.heap.size := by have := HS4.out; omega
    obtain ⟨hu1, hu2, hu3⟩ := XM.steps_mem (hpx.subset (show (u, y) ∈ pre ++ [(u, y)] by simp))
    have hu4 := WM.steps_once hpx
    dsimp only at hu1 hu2 hu3 hu4
    rw [show XM.dirE N D (v : Int) false (u : Nat) = D v u from XM.atE_nat hmm v u] at hu2
    have HY : Hid (y = D v u ∧ 0 ≤ D v u ∧ D v u < 4611686018427387906) := by
      have h1 := hmm.ok.1 v u
      exact ⟨hu2, h1.1, by omega⟩
    have HNO : Hid ((SM.upd k v (some d) u).isSome = WM.has (L ++ [(v, d)]) u) := HK.out.2 u
    obtain ⟨hb, hm', T', F', h2, h3, h4, h5⟩ := hWS
    have c0 := hb.ks.cell
    have cO := h2.c1
    have hc := has_any O (u : Int) hO W
    clear HWS HK hgo hpx hr hA hkA hsA hu2 hu3 hmm
    cases hOu : WM.outOf O u with
    | true =>
      have HE : Hid (WS w B z mp N O D v d L (SM.upd k v (some d)) F T4 (pre ++ [(u, y)]) (pre ++ [(u, y)]) W) := WS.skip ⟨hb, hm', T', F', h2, h3, h4, h5⟩ hOu
      rw [show BM.has O (u : Int) = true from hOu] at hc
      clear hb h2 h3 h4 h5 hOu HY HNO hu4
      gi_wp2_with fail
      refine ⟨trivial, (CallsIn.inRound (W4.heap.size + 1) (callsIn_wide.2 hc)).mono ?_⟩
      rintro e w5 ⟨rfl, hw5⟩
      rw [hw5]
      clear hw5 w5 hc
      gi_wp2_with fail
      exact ⟨fun _ _ _ => rfl, HE.out⟩
    | false =>
      rw [show BM.has O (u : Int) = false from hOu] at hc
      have hql := h2.ql
      have hqF : F' z.q := h2.f _ (.inl rfl)
      have hqn : ¬ z.q = w.heap.size := fun e => (h5.out _ hqF).1 ⟨by omega, by omega⟩
      have c0d : W.drew.cell? ⟨w.heap.size, 0, none⟩ = some (.pointer (some ⟨z.q, 0, none⟩)) := c0
      have ct := h2.c4
      have ft := h2.f4
      have hT64 : T' < 18446744073709551616 := by have := h4.1; omega
      have HWI : Hid (∀ W, Calls Tryz.prog 61 #[.int .u64 (T' : Nat), .int .i64 (u : Nat)] W fun e w' => e = .returned (.int .u64 ((T' ||| BM.only (u : Int) : Nat) : Int)) ∧ w' = W) := fun W => with_any T' (u : Int) hT64 W
      have hw7 := WS.touch (x := y) hb h2 h3 h4 h5 (show u < 24 by omega) hOu
      have HB7 : Hid (∀ b, W4.heap.size ≤ b → b < W4.heap.size + 2 → (W.setCell ⟨z.q, 4, none⟩ (.int .u64 ((T' ||| BM.only (u : Int) : Nat) : Int))).drew.heap[b]? = W.heap[b]?) := fun b b1 b2 => by
        have := HS4.out
        exact hw7.2.drew.block b (by omega) (fun c => (h5.out _ c).2.1 ⟨by omega, by omega⟩)
      have HW7 : Hid (WS w B z mp N O D v d L (SM.upd k v (some d)) F T4 pre (pre ++ [(u, y)]) (W.setCell ⟨z.q, 4, none⟩ (.int .u64 ((T' ||| BM.only (u : Int) : Nat) : Int))).drew) := hw7.1.on (Below.refl _ _).drew
      have HSK : Hid ((W.setCell ⟨z.q, 4, none⟩ (.int .u64 ((T' ||| BM.only (u : Int) : Nat) : Int))).drew.cell? ⟨w.heap.size, 0, none⟩ = some (.pointer (some ⟨z.q, 0, none⟩))) := HW7.out.1.ks.cell
      have HFR : Hid (WM.has (L ++ [(v, d)]) u = false → WM.Free N (WM.outOf O) (L ++ [(v, d)]) u) := fun e => ⟨hu1, hOu, e⟩
      have HZ7 : Hid (T4 + 6 ≤ (W.setCell ⟨z.q, 4, none⟩ (.int .u64 ((T' ||| BM.only (u : Int) : Nat) : Int))).drew.heap.size) := Nat.le_trans hsz hw7.2.drew.size
      clear hb h2 h3 h4 h5 hOu hqF hql hw7 hT64
      gi_wp2_with fail
      refine ⟨trivial, (CallsIn.inRound (W4.heap.size + 1) (callsIn_wide.2 hc)).mono ?_⟩
      rintro e w5 ⟨rfl, hw5⟩
      rw [hw5]
      clear hw5 w5 hc
      gi_wp2_with fail
      refine wpIn_region_held (S := fun W => W.cell? ⟨w.heap.size, 0, none⟩ = some (.pointer (some ⟨z.q, 0, none⟩))) (by kernel_rfl) (by kernel_rfl) (fun _ _ h => h) c0d (fun hHeld => ?_)
      refine wpAnyH_take (i := 0) (oi := { dst := some 40, op := Op.load 113 (Operand.tmp 3), type := 113, pos := "witness.go:96", after := #[], guard := none }) (v := ?_) rfl (by kernel_rfl) (by kernel_rfl) (by kernel_rfl) (fun _ _ _ h => nomatch h.1) (Or.inl ⟨by rfl, ?_⟩) (by assumption) ?_
      rotate_left
      · intro w0 hSw
        (try dsimp only at hSw)
        go_simp <;> with_reducible rfl
      try simp only [Act.put, List.setIfInBounds_toArray, List.set_cons_zero, List.set_cons_succ]
      refine wpAnyH_take (i := 1) (oi := { dst := some 41, op := Op.load 113 (Operand.tmp 3), type := 113, pos := "witness.go:96", after := #[], guard := none }) (v := ?_) rfl (by kernel_rfl) (by kernel_rfl) (by kernel_rfl) (fun _ _ _ h => nomatch h.1) (Or.inl ⟨by rfl, ?_⟩) (by assumption) ?_
      rotate_left
      · intro w0 hSw
        (try dsimp only at hSw)
        go_simp <;> with_reducible rfl
      try simp only [Act.put, List.setIfInBounds_toArray, List.set_cons_zero, List.set_cons_succ]
      refine wpAnyH_take (i := 5) (oi := { dst := some 45, op := Op.move (Operand.tmp 6), type := 3, pos := "witness.go:96", after := #[], guard := none }) (v := ?_) rfl (by kernel_rfl) (by kernel_rfl) (by kernel_rfl) (fun _ _ _ h => nomatch h.1) (Or.inl ⟨by rfl, ?_⟩) (by assumption) ?_
      rotate_left
      · intro w0 hSw
        (try dsimp only at hSw)
        go_simp <;> with_reducible rfl
      try simp only [Act.put, List.setIfInBounds_toArray, List.set_cons_zero, List.set_cons_succ]
      refine wpAnyH_take (i := 2) (oi := { dst := some 42, op := Op.nilCheck (Operand.tmp 41), type := 0, pos := "witness.go:96", after := #[{ on := 1, ground := Ground.data }], guard := none }) (v := ?_) rfl (by kernel_rfl) (by kernel_rfl) (by kernel_rfl) (fun _ _ _ h => nomatch h.1) (Or.inl ⟨by rfl, ?_⟩) (by assumption) ?_
      rotate_left
      · intro w0 hSw
        (try dsimp only at hSw)
        go_simp <;> with_reducible rfl
      try simp only [Act.put, List.setIfInBounds_toArray, List.set_cons_zero, List.set_cons_succ]
      refine wpAnyH_take (i := 3) (oi := { dst := some 43, op := Op.fieldAddr 131 (Operand.tmp 42) 4, type := 0, pos := "witness.go:96", after := #[{ on := 2, ground := Ground.data }], guard := none }) (v := ?_) rfl (by kernel_rfl) (by kernel_rfl) (by kernel_rfl) (fun _ _ _ h => nomatch h.1) (Or.inl ⟨by rfl, ?_⟩) (by assumption) ?_
      rotate_left
      · intro w0 hSw
        (try dsimp only at hSw)
        go_simp <;> with_reducible rfl
      try simp only [Act.put, List.setIfInBounds_toArray, List.set_cons_zero, List.set_cons_succ]
      refine wpAnyH_ready (rs := [4]) (by kernel_rfl) (by simp) ?_
      refine AllReadyH.cons (o := { dst := some 44, op := Op.load 62 (Operand.tmp 43), type := 62, pos := "witness.go:96", after := #[{ on := 3, ground := Ground.data }], guard := none }) rfl (fun K hK => ?_) AllReadyH.nil
      go_simp
      refine hK.out _ _ hHeld (fun hHeld => ?_)
      clear hK K
      try simp only [Act.put, List.setIfInBounds_toArray, List.set_cons_zero, List.set_cons_succ]
      refine wpAnyH_ready (rs := [6]) (by kernel_rfl) (by simp) ?_
      refine AllReadyH.cons (o := { dst := some 46, op := Op.call { callee := Callee.value (Operand.func 61), args := #[Operand.tmp 44, Operand.tmp 45], argTypes := #[62, 3] }, type := 62, pos := "witness.go:96", after := #[{ on := 4, ground := Ground.data }, { on := 5, ground := Ground.data }], guard := none }) rfl (fun K hK => ?_) AllReadyH.nil
      go_simp
      refine (HWI.out _).mono ?_
      rintro e w9 ⟨rfl, hw9⟩
      rw [hw9]
      clear hw9 w9
      go_wp2_with fail
      refine hK.out _ _ hHeld (fun hHeld => ?_)
      clear hK K
      try simp only [Act.put, List.setIfInBounds_toArray, List.set_cons_zero, List.set_cons_succ]
      refine wpAnyH_take (i := 7) (oi := { dst := some 47, op := Op.nilCheck (Operand.tmp 40), type := 0, pos := "witness.go:96", after := #[{ on := 0, ground := Ground.data }, { on := 0, ground := Ground.phase }, { on := 1, ground := Ground.phase }, { on := 2, ground := Ground.phase }, { on := 3, ground := Ground.phase }, { on := 4, ground := Ground.phase }, { on := 5, ground := Ground.phase }, { on := 6, ground := Ground.phase }], guard := none }) (v := ?_) rfl (by kernel_rfl) (by kernel_rfl) (by kernel_rfl) (fun _ _ _ h => nomatch h.1) (Or.inl ⟨by rfl, ?_⟩) (by assumption) ?_
      rotate_left
      · intro w0 hSw
        (try dsimp only at hSw)
        go_simp <;> with_reducible rfl
      try simp only [Act.put, List.setIfInBounds_toArray, List.set_cons_zero, List.set_cons_succ]
      refine wpAnyH_take (i := 8) (oi := { dst := some 48, op := Op.fieldAddr 131 (Operand.tmp 47) 4, type := 0, pos := "witness.go:96", after := #[{ on := 7, ground := Ground.data }, { on := 0, ground := Ground.phase }, { on := 1, ground := Ground.phase }, { on := 2, ground := Ground.phase }, { on := 3, ground := Ground.phase }, { on := 4, ground := Ground.phase }, { on := 5, ground := Ground.phase }, { on := 6, ground := Ground.phase }], guard := none }) (v := ?_) rfl (by kernel_rfl) (by kernel_rfl) (by kernel_rfl) (fun _ _ _ h => nomatch h.1) (Or.inl ⟨by rfl, ?_⟩) (by assumption) ?_
      rotate_left
      · intro w0 hSw
        (try dsimp only at hSw)
        go_simp <;> with_reducible rfl
      try simp only [Act.put, List.setIfInBounds_toArray, List.set_cons_zero, List.set_cons_succ]
      refine wpAnyH_ready (rs := [9]) (by kernel_rfl) (by simp) ?_
      refine AllReadyH.cons (o := { dst := none, op := Op.store 62 (Operand.tmp 48) (Operand.tmp 46), type := 0, pos := "witness.go:96", after := #[{ on := 8, ground := Ground.data }, { on := 6, ground := Ground.data }, { on := 6, ground := Ground.chain }, { on := 0, ground := Ground.phase }, { on := 1, ground := Ground.phase }, { on := 2, ground := Ground.phase }, { on := 3, ground := Ground.phase }, { on := 4, ground := Ground.phase }, { on := 5, ground := Ground.phase }, { on := 6, ground := Ground.phase }], guard := none }) rfl (fun K hK => ?_) AllReadyH.nil
      go_simp
      refine hK.out _ _ HSK.out (fun hHeld => ?_)
      clear hK K
      try simp only [Act.put, List.setIfInBounds_toArray, List.set_cons_zero, List.set_cons_succ]
      refine wpAnyH_done (by kernel_rfl) ?_ _
      refine ⟨rfl, ?_⟩
      clear hHeld c0 c0d cO ct ft hqn HSK HWI
      generalize (W.setCell ⟨z.q, 4, none⟩ (.int .u64 ((T' ||| BM.only (u : Int) : Nat) : Int))).drew = W7 at *
      have hget : Calls Tryz.prog 117 #[.pointer (some ⟨z.r, 0, none⟩), .int .i64 (u : Nat)] W7 fun e A' => e = .returned (getT (Value.int .i64) (0 : Int) (SM.upd k v (some d) u)) ∧ Below W7.heap.size W7 A' := by
        obtain ⟨-, _, _, _, q2, -⟩ := HW7.out
        exact q2.get u
      have c0 := HW7.out.1.ks.cell
      have cr : W7.cell? ⟨z.q, 3, none⟩ = some (.pointer (some ⟨z.r, 0, none⟩)) := by
        obtain ⟨-, _, _, _, q2, -⟩ := HW7.out
        exact q2.c3
      have HUV : Hid (u < N ∧ WM.has pre u = false) := ⟨hu1, hu4⟩
      clear hu4 hu1
      cases hku : SM.upd k v (some d) u with
      | some r =>
        rw [hku] at hget HNO
        simp only [getT] at hget
        have HE : Hid (∀ A, Below W7.heap.size W7 A → (∀ b, W4.heap.size ≤ b → b < W4.heap.size + 2 → A.heap[b]? = W.heap[b]?) ∧ WS w B z mp N O D v d L (SM.upd k v (some d)) F T4 (pre ++ [(u, y)]) (pre ++ [(u, y)]) A) := fun A hA => by
          refine ⟨fun b b1 b2 => (hA.block b ?_).trans (HB7.out b b1 b2), (HW7.out.old HNO.out.symm).on hA⟩
          have := HZ7.out
          have := HS4.out
          omega
        clear hku HNO HY HUV HW7 HB7 HZ7 HFR
        gi_wp2_with fail
        refine ⟨trivial, (CallsIn.inRound (W4.heap.size + 1) (callsIn_wide.2 hget)).mono ?_⟩
        rintro e w8 ⟨rfl, hb8⟩
        have HE8 : Hid _ := HE.out w8 hb8
        clear hb8 hget c0 cr HE
        gi_wp2_with fail
        exact HE8.out
      | none =>
        rw [hku] at hget HNO
        simp only [getT] at hget
        clear hku
        gi_wp2_with fail
        refine ⟨trivial, (CallsIn.inRound (W4.heap.size + 1) (callsIn_wide.2 hget)).mono ?_⟩
        rintro e w8 ⟨rfl, hb8⟩
        have hw8 := HW7.out.on hb8
        have HB8 : Hid (∀ b, W4.heap.size ≤ b → b < W4.heap.size + 2 → w8.heap[b]? = W.heap[b]?) := fun b b1 b2 => (hb8.block b (by have := HZ7.out; have := HS4.out; omega)).trans (HB7.out b b1 b2)
        have hz8 : T4 + 6 ≤ w8.heap.size := Nat.le_trans HZ7.out hb8.size
        obtain ⟨B8, hB8⟩ : ∃ B8, B8 = (w8.alloc (.cells #[.int .i64 d, .int .i64 y] 3)).drew := ⟨_, rfl⟩
        have hb9 : Below w8.heap.size w8 B8 := by rw [hB8]; exact ((Below.refl _ _).alloc (Nat.le_refl _) _).drew
        have hw9 := hw8.on hb9
        have cw : ∀ A, WS w B z mp N O D v d L (SM.upd k v (some d)) F T4 pre (pre ++ [(u, y)]) A → (A.cell? ⟨w.heap.size, 0, none⟩ = some (.pointer (some ⟨z.q, 0, none⟩)) ∧ A.cell? ⟨z.q, 2, none⟩ = some (.pointer (some ⟨z.p, 0, none⟩)) ∧ A.cell? ⟨w.heap.size + 1, 0, none⟩ = some (.int .i64 d)) := fun A hA => by
          obtain ⟨q1, _, _, _, q2, -⟩ := hA
          exact ⟨q1.ks.cell, q2.c2, q1.kd.cell⟩
        have cX := cw w8.drew (hw8.on (Below.refl _ _).drew)
        have HSA : Hid (B8.cell? ⟨w.heap.size, 0, none⟩ = some (.pointer (some ⟨z.q, 0, none⟩)) ∧ B8.cell? ⟨z.q, 2, none⟩ = some (.pointer (some ⟨z.p, 0, none⟩)) ∧ B8.cell? ⟨w.heap.size + 1, 0, none⟩ = some (.int .i64 d)) := cw B8 hw9
        have hadd : Calls Tryz.prog 74 #[.slice (some ⟨w8.heap.size, 0, none⟩) 2 2] B8 fun e w' => e = .returned (.int .i64 (DM.two d y)) ∧ w' = B8 := by
          refine wadd_cells ?_ ?_ <;> rw [hB8]
          · show (w8.alloc _).cell? _ = _
            simp
          · show (w8.alloc _).cell? _ = _
            simp
        have HADD : Hid (Calls Tryz.prog 74 #[.slice (some ⟨w8.heap.size, 0, none⟩) 2 2] B8 fun e w' => e = .returned (.int .i64 (DM.two d y)) ∧ w' = B8) := hadd
        have HPUT : Hid (Calls Tryz.prog 101 #[.pointer (some ⟨z.p, 0, none⟩), .int .i64 (u : Nat), .int .i64 (DM.two d y)] B8 fun e w' => (∃ c, e = .returned (.int .i64 c)) ∧ (((∀ b, W4.heap.size ≤ b → b < W4.heap.size + 2 → w'.heap[b]? = W.heap[b]?) ∧ WS w B z mp N O D v d L (SM.upd k v (some d)) F T4 (pre ++ [(u, y)]) (pre ++ [(u, y)]) w') ∧ (w'.cell? ⟨w.heap.size, 0, none⟩ = some (.pointer (some ⟨z.q, 0, none⟩)) ∧ w'.cell? ⟨z.q, 2, none⟩ = some (.pointer (some ⟨z.p, 0, none⟩)) ∧ w'.cell? ⟨w.heap.size + 1, 0, none⟩ = some (.int .i64 d)))) := by
          obtain ⟨hy, hy1, hy2⟩ := HY.out
          have hz9 := Nat.le_trans hz8 hb9.size
          have hs4 := HS4.out
          have hT4 := HSZ.out
          rw [hy]
          rw [hy] at hw9
          refine (hw9.new (x := D v u) (by omega) hz9 hT4 (by omega) HUV.out.2 (HFR.out HNO.out.symm) hd ⟨hy1, hy2⟩).mono ?_
          rintro e w' ⟨h1, h2, h3⟩
          have h2' := h2
          obtain ⟨q1, _, _, _, q2, -⟩ := h2'
          exact ⟨h1, ⟨fun b b1 b2 => (h3 b (by omega) (by omega)).trans ((hb9.block b (by omega)).trans (HB8.out b b1 b2)), h2⟩, q1.ks.cell, q2.c2, q1.kd.cell⟩
        have HB9E : Hid (B8 = (w8.alloc (.cells #[.int .i64 d, .int .i64 y] 3)).drew) := hB8
        clear hget c0 cr HNO HY HUV HW7 HB7 HZ7 HFR hb8 hw8 HB8 hz8 hB8 hb9 hw9 cw hadd
        generalize DM.two d y = d2 at *
        gi_wp2_with fail
        refine wpIn_region_held (S := fun W => W.cell? ⟨w.heap.size, 0, none⟩ = some (.pointer (some ⟨z.q, 0, none⟩)) ∧ W.cell? ⟨z.q, 2, none⟩ = some (.pointer (some ⟨z.p, 0, none⟩)) ∧ W.cell? ⟨w.heap.size + 1, 0, none⟩ = some (.int .i64 d)) (by kernel_rfl) (by kernel_rfl) (fun _ _ h => h) cX (fun hHeld => ?_)
        refine wpAnyH_take (i := 0) (oi := { dst := some 60, op := Op.load 113 (Operand.tmp 3), type := 113, pos := "witness.go:99", after := #[], guard := none }) (v := ?_) rfl (by kernel_rfl) (by kernel_rfl) (by kernel_rfl) (fun _ _ _ h => nomatch h.1) (Or.inl ⟨by rfl, ?_⟩) (by assumption) ?_
        rotate_left
        · intro w0 hSw
          (try dsimp only at hSw)
          go_simp <;> with_reducible rfl
        try simp only [Act.put, List.setIfInBounds_toArray, List.set_cons_zero, List.set_cons_succ]
        refine wpAnyH_take (i := 1) (oi := { dst := some 61, op := Op.nilCheck (Operand.tmp 60), type := 0, pos := "witness.go:99", after := #[{ on := 0, ground := Ground.data }], guard := none }) (v := ?_) rfl (by kernel_rfl) (by kernel_rfl) (by kernel_rfl) (fun _ _ _ h => nomatch h.1) (Or.inl ⟨by rfl, ?_⟩) (by assumption) ?_
        rotate_left
        · intro w0 hSw
          (try dsimp only at hSw)
          go_simp <;> with_reducible rfl
        try simp only [Act.put, List.setIfInBounds_toArray, List.set_cons_zero, List.set_cons_succ]
        refine wpAnyH_take (i := 2) (oi := { dst := some 62, op := Op.fieldAddr 131 (Operand.tmp 61) 2, type := 0, pos := "witness.go:99", after := #[{ on := 1, ground := Ground.data }], guard := none }) (v := ?_) rfl (by kernel_rfl) (by kernel_rfl) (by kernel_rfl) (fun _ _ _ h => nomatch h.1) (Or.inl ⟨by rfl, ?_⟩) (by assumption) ?_
        rotate_left
        · intro w0 hSw
          (try dsimp only at hSw)
          go_simp <;> with_reducible rfl
        try simp only [Act.put, List.setIfInBounds_toArray, List.set_cons_zero, List.set_cons_succ]
        refine wpAnyH_take (i := 3) (oi := { dst := some 63, op := Op.load 124 (Operand.tmp 62), type := 124, pos := "witness.go:99", after := #[{ on := 2, ground := Ground.data }], guard := none }) (v := ?_) rfl (by kernel_rfl) (by kernel_rfl) (by kernel_rfl) (fun _ _ _ h => nomatch h.1) (Or.inl ⟨by rfl, ?_⟩) (by assumption) ?_
        rotate_left
        · intro w0 hSw
          (try dsimp only at hSw)
          go_simp <;> with_reducible rfl
        try simp only [Act.put, List.setIfInBounds_toArray, List.set_cons_zero, List.set_cons_succ]
        refine wpAnyH_take (i := 4) (oi := { dst := some 64, op := Op.move (Operand.tmp 6), type := 3, pos := "witness.go:99", after := #[], guard := none }) (v := ?_) rfl (by kernel_rfl) (by kernel_rfl) (by kernel_rfl) (fun _ _ _ h => nomatch h.1) (Or.inl ⟨by rfl, ?_⟩) (by assumption) ?_
        rotate_left
        · intro w0 hSw
          (try dsimp only at hSw)
          go_simp <;> with_reducible rfl
        try simp only [Act.put, List.setIfInBounds_toArray, List.set_cons_zero, List.set_cons_succ]
        refine wpAnyH_take (i := 5) (oi := { dst := some 65, op := Op.load 3 (Operand.tmp 5), type := 3, pos := "witness.go:99", after := #[], guard := none }) (v := ?_) rfl (by kernel_rfl) (by kernel_rfl) (by kernel_rfl) (fun _ _ _ h => nomatch h.1) (Or.inl ⟨by rfl, ?_⟩) (by assumption) ?_
        rotate_left
        · intro w0 hSw
          (try dsimp only at hSw)
          go_simp <;> with_reducible rfl
        try simp only [Act.put, List.setIfInBounds_toArray, List.set_cons_zero, List.set_cons_succ]
        refine wpAnyH_take (i := 6) (oi := { dst := some 66, op := Op.move (Operand.tmp 7), type := 3, pos := "witness.go:99", after := #[], guard := none }) (v := ?_) rfl (by kernel_rfl) (by kernel_rfl) (by kernel_rfl) (fun _ _ _ h => nomatch h.1) (Or.inl ⟨by rfl, ?_⟩) (by assumption) ?_
        rotate_left
        · intro w0 hSw
          (try dsimp only at hSw)
          go_simp <;> with_reducible rfl
        try simp only [Act.put, List.setIfInBounds_toArray, List.set_cons_zero, List.set_cons_succ]
        refine wpAnyH_ready (rs := [7]) (by kernel_rfl) (by simp) ?_
        refine AllReadyH.cons (o := { dst := some 67, op := Op.buildSlice 28 2 #[(0, Operand.tmp 65), (1, Operand.tmp 66)], type := 28, pos := "witness.go:99", after := #[{ on := 5, ground := Ground.data }, { on := 6, ground := Ground.data }], guard := none }) rfl (fun K hK => ?_) AllReadyH.nil
        go_simp
        refine hK.out _ _ (by rw [← HB9E.out]; exact HSA.out) (fun hHeld => ?_)
        clear hK K
        try simp only [Act.put, List.setIfInBounds_toArray, List.set_cons_zero, List.set_cons_succ]
        refine wpAnyH_ready (rs := [8]) (by kernel_rfl) (by simp) ?_
        refine AllReadyH.cons (o := { dst := some 68, op := Op.call { callee := Callee.value (Operand.func 74), args := #[Operand.tmp 67], argTypes := #[28] }, type := 3, pos := "witness.go:99", after := #[{ on := 7, ground := Ground.data }], guard := none }) rfl (fun K hK => ?_) AllReadyH.nil
        go_simp
        rw [← HB9E.out] at hHeld ⊢
        refine (HADD.out).mono ?_
        rintro e w9 ⟨rfl, hw9⟩
        rw [hw9]
        clear hw9 w9
        go_wp2_with fail
        refine hK.out _ _ HSA.out (fun hHeld => ?_)
        clear hK K
        try simp only [Act.put, List.setIfInBounds_toArray, List.set_cons_zero, List.set_cons_succ]
        refine wpAnyH_ready (rs := [9]) (by kernel_rfl) (by simp) ?_
        refine AllReadyH.cons (o := { dst := some 69, op := Op.call { callee := Callee.value (Operand.func 101), args := #[Operand.tmp 63, Operand.tmp 64, Operand.tmp 68], argTypes := #[124, 3, 3] }, type := 42, pos := "witness.go:99", after := #[{ on := 3, ground := Ground.data }, { on := 4, ground := Ground.data }, { on := 8, ground := Ground.data }, { on := 8, ground := Ground.chain }], guard := none }) rfl (fun K hK => ?_) AllReadyH.nil
        go_simp
        refine HPUT.out.mono ?_
        rintro e w9 ⟨⟨cc, rfl⟩, hw9⟩
        have HP9 : Hid (((∀ b, W4.heap.size ≤ b → b < W4.heap.size + 2 → w9.heap[b]? = W.heap[b]?) ∧ WS w B z mp N O D v d L (SM.upd k v (some d)) F T4 (pre ++ [(u, y)]) (pre ++ [(u, y)]) w9) ∧ (w9.cell? ⟨w.heap.size, 0, none⟩ = some (.pointer (some ⟨z.q, 0, none⟩)) ∧ w9.cell? ⟨z.q, 2, none⟩ = some (.pointer (some ⟨z.p, 0, none⟩)) ∧ w9.cell? ⟨w.heap.size + 1, 0, none⟩ = some (.int .i64 d))) := hw9
        clear hw9
        go_wp2_with fail
        refine hK.out _ _ HP9.out.2 (fun hHeld => ?_)
        clear hK K
        try simp only [Act.put, List.setIfInBounds_toArray, List.set_cons_zero, List.set_cons_succ]
        refine wpAnyH_done (by kernel_rfl) ?_ _
        refine ⟨rfl, ?_⟩
        gi_wp2_with fail
        exact HP9.out.1
  case done =>
    intro W hi hK
    have HE : Hid (∀ o, ∃ k' hm' T' F', WD (W.putObj W4.heap.size o) B z mp N O k' hm' T' F' ∧ WM.noted (L ++ [(v, d)]) k' ∧ WM.Waits N D s (WM.outOf O) (L ++ [(v, d)]) hm' ∧ WM.TT N D (WM.outOf O) (L ++ [(v, d)]) T' ∧ Keeps F w (W.putObj W4.heap.size o) ∧ (∀ b, F' b → F b ∨ w.heap.size ≤ b)) := fun o => by
      obtain ⟨hb, hm', T', F', h2, h3, h4, h5⟩ := hi.loop HSZ.out (by omega) ((keeps_putK W W4.heap.size o).mono (fun b hb => by have := HS4.out; omega))
      exact ⟨_, hm', T', F', h2, HK.out, h3.done hmm ⟨hd.1, by omega⟩, h4.done hmm hv, hb.kp, h5.from'⟩
    clear hi hgo hmm hd hv hN HK HWS HSZ HS4
    gi_wp2
    refine ⟨by simp, .inl ⟨_, _, rfl, run_takeDeferred hK, ?_⟩⟩
    exact ⟨_, results_none rfl _ _ _, rfl, HE.out _⟩
  case stop =>
    intro c' pre W _ h
    exact h.elim
end Go.Proofs.YtkcfepppnclniaaGreatDoor
