/-
  The walks of package stamp's New, Set, Get and Clear, where things are pairs of numbers.
-/
import Derived.Test.YtfkfbpkhdneeeaaStampAP
namespace Go.Proofs.Ytfkfbpkhdneeeaa
namespace RP
open Go.RowKit

theorem infoT : (Try.prog.info? 52).map (fun i => (i.zero, i.size, i.bytes)) = some (some (.agg #[.int .i64 0, .int .i64 0]), 2, 16) := by kernel_rfl
theorem zeroT (w : World) : (zeroValue 52).run Try.prog w = .ok (.agg #[.int .i64 0, .int .i64 0]) w := by kernel_rfl
theorem run_make_two (t e : TypeId) (z : Value) (bytes : Nat) (ht : Try.prog.underlying t = some (.slice e)) (hinfo : (Try.prog.info? e).map (fun i => (i.zero, i.size, i.bytes)) = some (some (.agg #[z, z]), 2, bytes))
    (kl kc : IntKind) (n : Nat) (hbytes : bytes * n ≤ 281474976710656) (h63 : n ≤ 9223372036854775807) (w : World) :
    (Instr.makeSlice t (.int kl (n : Int)) (.int kc (n : Int))).run Try.prog w = .ok (.slice (some ⟨w.heap.size, 0, none⟩) n n) (w.alloc (.cells (madeCells #[z, z] (n * 2)) e)) := by
  obtain ⟨i, hi, hzz⟩ := Option.map_eq_some_iff.1 hinfo
  simp only [Prod.mk.injEq] at hzz
  obtain ⟨hz, hs, hb⟩ := hzz
  have hb' : (i.bytes : Int) * (n : Int) ≤ 281474976710656 := by
    have h : ((i.bytes * n : Nat) : Int) ≤ 281474976710656 := by rw [hb]; omega
    rwa [Int.natCast_mul] at h
  have hr := run_make (P := Try.prog) w t e i _ ht hi hz kl kc n n (by omega) (Int.le_refl _) hb' (by omega)
  simp only [Int.toNat_natCast, hs] at hr
  exact hr
theorem made_things (w : World) (B n : Nat) (hB : B ≤ w.heap.size) (hn : n ≤ 64) : (w.alloc (.cells (madeCells #[.int .i64 0, .int .i64 0] (n * 2)) 52)).ownsRow B 52 2 (.slice (some ⟨w.heap.size, 0, none⟩) n n) n (List.replicate (n * 2) (.int .i64 0)) := by
  have h := World.ownsRow_lit (base := B) (e := 52) (size := 2) w (madeCells #[.int .i64 0, .int .i64 0] (n * 2)) n hB (by unfold maxLen; omega) (by rw [size_madeCells])
  rw [made_two] at h
  simpa using h

set_option maxHeartbeats 2000000 in
theorem new_any (n : Nat) (hn : n ≤ 64) (w : World) :
    Calls Try.prog 18 #[.int .i64 n] w fun e w' => ∃ p bt bs xs st now, e = .returned (.tuple #[.pointer (some ⟨p, 0, none⟩), .int .i64 0]) ∧
      SMem 52 2 w' w.heap.size p bt bs n xs st now ∧ SM.Rep At n (fun _ => none) xs st now ∧ Below w.heap.size w w' := by
  have hmk := run_make_two 70 52 (.int .i64 0) 16 Try.underlying70 infoT .i64 .i64 n (by omega) (by omega)
  have hmb := run_make_row' (P := Try.prog) 60 5 (.int .u8 0) 1 Try.underlying60 info8 rfl .i64 .i64 n (by omega) (by omega)
  have HR : Hid (SM.Rep At n (fun _ => none) (List.replicate (n * 2) (.int .i64 0)) (List.replicate n 0) 1) := SM.rep_new n (fun t ht => at_zero ht)
  go_enter Try.func18, Try.ntmps18
  go_wp2_with fail
  go_region
  all_goals (go_wp2_with fail; go_ret2)
  · have q2 := made_stamps (w.alloc (.cells (madeCells #[.int .i64 0, .int .i64 0] (n * 2)) 52)) w.heap.size n (by simp) hn
    rw [World.size_alloc] at q2
    exact ⟨_, w.heap.size, w.heap.size + 1, _, _, _, rfl, (smem_new ((made_things w w.heap.size n (Nat.le_refl _) hn).alloc _) q2 (by omega) (by simp; omega) (by simp)).drew, HR.out, ((((Below.refl _ w).alloc (Nat.le_refl _) _).alloc (by simp) _).alloc (by simp; omega) _).drew⟩
  · have q1 := made_things (w.alloc (.cells (madeCells #[.int .u8 0] n) 5)) w.heap.size n (by simp) hn
    rw [World.size_alloc] at q1
    exact ⟨_, w.heap.size + 1, w.heap.size, _, _, _, rfl, (smem_new q1 ((made_stamps w w.heap.size n (Nat.le_refl _) hn).alloc _) (by omega) (by simp; omega) (by simp)).drew, HR.out, ((((Below.refl _ w).alloc (Nat.le_refl _) _).alloc (by simp) _).alloc (by simp; omega) _).drew⟩

set_option maxHeartbeats 1000000 in
theorem clear_any {w : World} {B p bt bs n : Nat} {xs : List Value} {st : List Nat} {now : Nat} (h : SMem 52 2 w B p bt bs n xs st now) {m : Nat → Option (Int × Int)} (hr : SM.Rep At n m xs st now) :
    Calls Try.prog 20 #[.pointer (some ⟨p, 0, none⟩)] w fun e w' => e = .returned (.tuple #[]) ∧
      ∃ xs' st' now', SMem 52 2 w' B p bt bs n xs' st' now' ∧ SM.Rep At n (fun _ => none) xs' st' now' ∧ Keeps (sfoot p bt bs) w w' := by
  have hlo := hr.lo
  have hhi := hr.hi
  have c2 := h.c2
  have fz := h.fz
  by_cases hlt : now < 255
  · have H3 : Hid (SMem 52 2 (w.setCell ⟨p, 2, none⟩ (.int .u8 ((now + 1 : Nat) : Int))) B p bt bs n xs st (now + 1)) := h.setNow (now + 1)
    have HR : Hid (SM.Rep At n (fun _ => none) xs st (now + 1)) := hr.next hlt
    have e' : (((now : Int) + 1) != 0) = true := by simp; omega
    clear h hr
    go_enter Try.func20, Try.ntmps20
    go_wp2_with fail
    (try simp only [Exit.inBlock, Exit.then]); refine bodyPost_ret (results_none rfl _ _ _) rfl ?_
    exact ⟨rfl, _, _, _, H3.out, HR.out, (Keeps.refl _ _).setCell (p := ⟨p, 2, none⟩) (.inl (.inl rfl)) _⟩
  · obtain rfl : now = 255 := by omega
    have hk1 : Keeps (sfoot p bt bs) w (w.setCell ⟨p, 2, none⟩ (.int .u8 0)) := (Keeps.refl _ _).setCell (p := ⟨p, 2, none⟩) (.inl (.inl rfl)) _
    have h1 : SMem 52 2 (w.setCell ⟨p, 2, none⟩ (.int .u8 0)) B p bt bs n xs st 0 := h.setNow 0
    clear hlo hhi hlt h
    go_enter Try.func20, Try.ntmps20
    go_upto_region 1 with fail
    clear c2 fz
    generalize w.setCell ⟨p, 2, none⟩ (.int .u8 0) = w1 at *
    have c2 := h1.c2
    have c1 := h1.c1
    have hcl := fun ty => run_clear_own (P := Try.prog) h1.sp 60 ty (.int .u8 0) (.int .u8 0) Try.underlying60 zero8 (zeroCells_one _ n) rfl
    have hk2 : Keeps (sfoot p bt bs) w1 (w1.setCells bs 0 (List.replicate (n * 1) (.int .u8 0))) := (keeps_setCells _ _ _ _).mono (fun b hb => .inr (.inr hb))
    have h2 := h1.clearStamps
    generalize w1.setCells bs 0 (List.replicate (n * 1) (.int .u8 0)) = w2 at *
    clear h1
    have c20 := h2.c0
    have hcl2 := fun ty => run_clear_own (P := Try.prog) h2.th 70 ty (.agg #[.int .i64 0, .int .i64 0]) (.int .i64 0) Try.underlying70 zeroT (zeroCells_two _ n) rfl
    have hk3 : Keeps (sfoot p bt bs) w2 (w2.setCells bt 0 (List.replicate (n * 2) (.int .i64 0))) := (keeps_setCells _ _ _ _).mono (fun b hb => .inr (.inl hb))
    have h3 := h2.clearThings (.int .i64 0)
    generalize w2.setCells bt 0 (List.replicate (n * 2) (.int .i64 0)) = w3 at *
    clear h2
    have c32 := h3.c2
    have f32 := h3.fz
    have H4 : Hid (SMem 52 2 (w3.setCell ⟨p, 2, none⟩ (.int .u8 1)) B p bt bs n (List.replicate (n * 2) (.int .i64 0)) (List.replicate n 0) 1) := h3.setNow 1
    have HR : Hid (SM.Rep At n (fun _ => none) (List.replicate (n * 2) (.int .i64 0)) (List.replicate n 0) 1) := SM.rep_new n (fun t ht => at_zero ht)
    have HK : Hid (Keeps (sfoot p bt bs) w w3) := (hk1.trans hk2 (fun _ h => .inl h)).trans hk3 (fun _ h => .inl h)
    clear h3 hk1 hk2 hk3 hr
    go_wp2_with (simp only [hcl, hcl2])
    go_end0
    exact ⟨rfl, _, _, _, H4.out, HR.out, HK.out.setCell (p := ⟨p, 2, none⟩) (.inl (.inl rfl)) _⟩

set_option maxHeartbeats 1000000 in
theorem set_in {w : World} {B p bt bs n : Nat} {xs : List Value} {st : List Nat} {now : Nat} (h : SMem 52 2 w B p bt bs n xs st now) {m : Nat → Option (Int × Int)} (hr : SM.Rep At n m xs st now) (_hn : n ≤ 64) (k : Nat) (hk : k < n) (a b : Int) :
    Calls Try.prog 19 #[.pointer (some ⟨p, 0, none⟩), .int .i64 k, .agg #[.int .i64 a, .int .i64 b]] w fun e w' => e = .returned (.int .i64 0) ∧
      ∃ xs' st', SMem 52 2 w' B p bt bs n xs' st' now ∧ SM.Rep At n (SM.upd m k (some (a, b))) xs' st' now ∧ Keeps (sfoot p bt bs) w w' := by
  have hb1 : Below w.heap.size w (w.alloc (.cells #[.int .i64 a, .int .i64 b] 52)) := (Below.refl _ _).alloc (Nat.le_refl _) _
  have h0 := h.below hb1
  have hm := may_any h0 k
  rw [decide_eq_true (by omega)] at hm
  have hsz : (w.alloc (.cells #[.int .i64 a, .int .i64 b] 52)).heap.size = w.heap.size + 1 := by simp
  have b0 : (w.alloc (.cells #[.int .i64 a, .int .i64 b] 52)).cell? ⟨w.heap.size, 0, none⟩ = some (.int .i64 a) := by simp
  have b1 : (w.alloc (.cells #[.int .i64 a, .int .i64 b] 52)).cell? ⟨w.heap.size, 1, none⟩ = some (.int .i64 b) := by simp
  have HK0 : Hid (Keeps (sfoot p bt bs) w (w.alloc (.cells #[.int .i64 a, .int .i64 b] 52))) := Below.keeps hb1 _
  go_enter Try.func19, Try.ntmps19
  go_wp2_with fail
  refine hm.mono ?_
  rintro e w' ⟨rfl, rfl⟩
  clear h hb1 hm
  generalize w.alloc (.cells #[.int .i64 a, .int .i64 b] 52) = w1 at *
  generalize w.heap.size = g at *
  have c0 := h0.c0
  have c1 := h0.c1
  have c2 := h0.c2
  have hxl : xs.length = n * 2 := h0.th.1
  obtain ⟨t1, f1⟩ := h0.thing (j := k * 2) (by omega)
  obtain ⟨x0, hx0⟩ : ∃ x0, xs[k * 2]? = some x0 := ⟨_, List.getElem?_eq_getElem (by omega)⟩
  rw [hx0] at t1
  have h2 := h0.setThing (k * 2) (.int .i64 a)
  obtain ⟨t2, f2⟩ := h2.thing (j := k * 2 + 1) (by omega)
  obtain ⟨x1, hx1⟩ : ∃ x1, (xs.set (k * 2) (.int .i64 a))[k * 2 + 1]? = some x1 := ⟨_, List.getElem?_eq_getElem (by rw [List.length_set]; omega)⟩
  rw [hx1] at t2
  have h3 := h2.setThing (k * 2 + 1) (.int .i64 b)
  obtain ⟨s1, g1⟩ := h3.stamp hk
  have H3 := h3.setStamp k now
  have ha := at_put hxl hk a b
  have HR : Hid (SM.Rep At n (SM.upd m k (some (a, b))) ((xs.set (k * 2) (.int .i64 a)).set (k * 2 + 1) (.int .i64 b)) (st.set k now) now) := hr.put hk ha.1 ha.2
  have n1 := h0.n1
  have n2 := h0.n2
  have n3 := h0.n3
  have g0 := (h0.stamp hk).2
  have f20 := (h0.thing (j := k * 2 + 1) (by omega)).2
  have kn : (k : Int) < (n : Int) := by omega
  have HH : Hid (SMem 52 2 (((w1.setCell ⟨bt, k * 2, none⟩ (.int .i64 a)).setCell ⟨bt, k * 2 + 1, none⟩ (.int .i64 b)).setCell ⟨bs, k, none⟩ (.int .u8 (now : Nat))) B p bt bs n ((xs.set (k * 2) (.int .i64 a)).set (k * 2 + 1) (.int .i64 b)) (st.set k now) now) := H3
  clear h0 h2 h3 H3 hr ha hxl hx0 hx1
  go_wp2_with fail
  go_region
  all_goals (go_wp2_with fail; go_ret)
  all_goals exact ⟨rfl, _, _, HH.out.drew, HR.out, (((HK0.out.setCell (p := ⟨bt, k * 2, none⟩) (.inl (.inr (.inl rfl))) _).setCell (p := ⟨bt, k * 2 + 1, none⟩) (.inl (.inr (.inl rfl))) _).setCell (p := ⟨bs, k, none⟩) (.inl (.inr (.inr rfl))) _).drew⟩

set_option maxHeartbeats 1000000 in
theorem get_in {w : World} {B p bt bs n : Nat} {xs : List Value} {st : List Nat} {now : Nat} (h : SMem 52 2 w B p bt bs n xs st now) {m : Nat → Option (Int × Int)} (hr : SM.Rep At n m xs st now) (k : Nat) (hk : k < n) (a b : Int) (hmk : m k = some (a, b)) :
    Calls Try.prog 21 #[.pointer (some ⟨p, 0, none⟩), .int .i64 k] w fun e w' => e = .returned (.tuple #[.agg #[.int .i64 a, .int .i64 b], .bool true]) ∧ Below w.heap.size w w' := by
  have hb1 : Below w.heap.size w (w.alloc (.cells #[.int .i64 0, .int .i64 0] 52)) := (Below.refl _ _).alloc (Nat.le_refl _) _
  have h0 := h.below hb1
  obtain ⟨v, hv, hm1⟩ := hr.is k hk
  have hs : SM.at0 st k = now ∧ v = (a, b) := by
    rw [hmk] at hm1
    split at hm1
    · exact ⟨by assumption, (Option.some.inj hm1).symm⟩
    · cases hm1
  obtain ⟨hs, rfl⟩ := hs
  have hm := fun q => may_any (h0.drewN q) (k : Int)
  rw [decide_eq_true (by omega)] at hm
  have HM0 : Hid (∀ q, Calls Try.prog 30 #[.pointer (some ⟨p, 0, none⟩), .int .i64 k] ((w.alloc (.cells #[.int .i64 0, .int .i64 0] 52)).drewN q) fun e w' => e = .returned (.bool true) ∧ w' = (w.alloc (.cells #[.int .i64 0, .int .i64 0] 52)).drewN q) := hm
  have c0 := h0.c0
  have c1 := h0.c1
  have c2 := h0.c2
  have s1 := (h0.stamp hk).1
  rw [hs] at s1
  have t1 := (h0.thing (j := k * 2) (by omega)).1
  rw [hv.1] at t1
  have t2 := (h0.thing (j := k * 2 + 1) (by omega)).1
  rw [hv.2] at t2
  have kn : (k : Int) < (n : Int) := by omega
  have b0 : (w.alloc (.cells #[.int .i64 0, .int .i64 0] 52)).cell? ⟨w.heap.size, 0, none⟩ = some (.int .i64 0) := by simp
  have b1 : (w.alloc (.cells #[.int .i64 0, .int .i64 0] 52)).cell? ⟨w.heap.size, 1, none⟩ = some (.int .i64 0) := by simp
  have f0 : (w.alloc (.cells #[.int .i64 0, .int .i64 0] 52)).frozen? ⟨w.heap.size, 0, none⟩ = false := by simp
  have f1 : (w.alloc (.cells #[.int .i64 0, .int .i64 0] 52)).frozen? ⟨w.heap.size, 1, none⟩ = false := by simp
  clear h h0 hr hv hm1 hmk hm hs
  go_enter Try.func21, Try.ntmps21
  go_wp2_with fail
  generalize w.alloc (.cells #[.int .i64 0, .int .i64 0] 52) = w1 at *
  go_quiet ((go_at_call 30; exact Calls.quiet_of_same (HM0.out _)))
  go_wp2_with fail
  have r1 : (((w1.drewN nq).setCell ⟨w.heap.size, 0, none⟩ (.int .i64 a)).setCell ⟨w.heap.size, 1, none⟩ (.int .i64 b)).cell? ⟨w.heap.size, 1, none⟩ = some (.int .i64 b) :=
    World.cell?_setCell_same' _ _ _ (by rw [World.cell?_setCell_other _ _ _ _ (by simp)]; exact Option.isSome_iff_exists.2 ⟨_, b1⟩)
  have r0 : (((w1.drewN nq).setCell ⟨w.heap.size, 0, none⟩ (.int .i64 a)).setCell ⟨w.heap.size, 1, none⟩ (.int .i64 b)).cell? ⟨w.heap.size, 0, none⟩ = some (.int .i64 a) := by
    rw [World.cell?_setCell_other _ _ _ _ (by simp)]
    exact World.cell?_setCell_same' _ _ _ (Option.isSome_iff_exists.2 ⟨_, b0⟩)
  have hbe : Below w.heap.size w (((w1.drewN nq).setCell ⟨w.heap.size, 0, none⟩ (.int .i64 a)).setCell ⟨w.heap.size, 1, none⟩ (.int .i64 b)) := ((below_drewN hb1 nq).setCell (p := ⟨w.heap.size, 0, none⟩) (Nat.le_refl _) _).setCell (p := ⟨w.heap.size, 1, none⟩) (Nat.le_refl _) _
  generalize ((w1.drewN nq).setCell ⟨w.heap.size, 0, none⟩ (.int .i64 a)).setCell ⟨w.heap.size, 1, none⟩ (.int .i64 b) = w2 at *
  refine bodyPost_ret (v := .tuple #[.agg #[.int .i64 a, .int .i64 b], .bool true]) ?_ rfl ⟨rfl, hbe⟩
  simp [results, Try.f21, go_sem, r0, r1]
end RP
end Go.Proofs.Ytfkfbpkhdneeeaa
