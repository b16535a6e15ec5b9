/-
  BothReachO, BothReachI.
-/
import Derived.Test.YtmamligiopbefaaMmBothOne
section
/-
  The walk of reach, onwards.
-/
namespace Go.Proofs.Ytmamligiopbefaa
open Go.RowKit Go.Shelf

set_option maxHeartbeats 4000000 in
theorem reachO_no {A : World} {B mq gp N at_ : Nat} {x : Int} {zs zo : Sid} {ks ko : Nat → Option (Int × Int)} {hs ho : Nat → Option Int} {Fs Fo : Nat → Prop} (h : ME A B mq gp N 0 at_ x zs zo ks ko hs ho Fs Fo) (v : Nat) (hv : v < N) (d b : Int) (hd : 0 ≤ d ∧ d ≤ 4611686018427387906) (hf : 0 ≤ NM.farOf ks v ∧ NM.farOf ks v ≤ 4611686018427387906) (hlt : ¬ d < NM.farOf ks v) :
    Calls Try.prog 51 #[.pointer (some ⟨mq, 0, none⟩), .int .i64 0, .int .i64 (v : Nat), .agg #[.int .i64 d, .int .i64 b]] A fun e A' => e = .returned (.tuple #[]) ∧ Below A.heap.size A A' := by
  have hb1 : Below A.heap.size A (A.alloc (.cells #[.int .i64 d, .int .i64 b] 89)) := (Below.refl _ _).alloc (Nat.le_refl _) _
  have h1 := h.on hb1
  have cs : (A.alloc (.cells #[.int .i64 d, .int .i64 b] 89)).cell? ⟨mq, 0, none⟩ = some (.pointer (some ⟨zs.q, 0, none⟩)) := h1.cs
  have co : (A.alloc (.cells #[.int .i64 d, .int .i64 b] 89)).cell? ⟨mq, 1, none⟩ = some (.pointer (some ⟨zo.q, 0, none⟩)) := h1.co
  have y0 : (A.alloc (.cells #[.int .i64 d, .int .i64 b] 89)).cell? ⟨A.heap.size, 0, none⟩ = some (.int .i64 d) := by simp
  have HF : Hid (∀ W, Below A.heap.size A W → Calls Try.prog 81 #[.pointer (some ⟨zs.q, 0, none⟩), .int .i64 (v : Nat)] W fun e w' => e = .returned (.int .i64 (NM.farOf ks v)) ∧ Below W.heap.size W w') := fun W hW => far_any (h.s.on hW) v hv
  have HL : Hid (∀ W, Calls Try.prog 65 #[.int .i64 d, .int .i64 (NM.farOf ks v)] W fun e w' => e = .returned (.bool false) ∧ w' = W) := fun W => by
    have := less_bd hd hf W
    rwa [decide_eq_false hlt] at this
  have HB1 : Hid (Below A.heap.size A (A.alloc (.cells #[.int .i64 d, .int .i64 b] 89))) := hb1
  have HSZ : Hid (A.heap.size < (A.alloc (.cells #[.int .i64 d, .int .i64 b] 89)).heap.size) := by show _ < _; simp
  clear h h1 hb1 hd hf hlt
  obtain ⟨q1, p1, a1, a2, a3⟩ := zs
  obtain ⟨q2, p2, a4, a5, a6⟩ := zo
  simp only at cs co HF
  go_enter Try.func51, Try.ntmps51
  go_upto_region 1 with fail
  generalize A.alloc (.cells #[.int .i64 d, .int .i64 b] 89) = W1 at *
  go_quiet (fail)
  have y2 : (W1.drewN nq).cell? ⟨A.heap.size, 0, none⟩ = some (.int .i64 d) := y0
  have HB2 : Hid (Below A.heap.size A (W1.drewN nq)) := below_drewN HB1.out _
  clear cs co y0 HB1
  generalize W1.drewN nq = W2 at *
  have HY : Hid (∀ W, Below W2.heap.size W2 W → W.cell? ⟨A.heap.size, 0, none⟩ = some (.int .i64 d)) := fun W hW => (hW.cell (p := ⟨A.heap.size, 0, none⟩) (cell_lt y2)).trans y2
  go_wp2_with fail
  have y2d : W2.drew.cell? ⟨A.heap.size, 0, none⟩ = some (.int .i64 d) := y2
  go_region_held3 (fun w' => w'.cell? ⟨A.heap.size, 0, none⟩ = some (.int .i64 d)) (go_keep) (first
    | (go_at_call 65; refine (HL.out _).mono ?_; rintro e w4 ⟨rfl, rfl⟩)
    | (go_at_call 81; refine (HF.out _ HB2.out.drew).mono ?_; rintro e w3 ⟨rfl, hb3⟩; have HB3 : Hid (Below W2.heap.size W2 w3) := below_of_drew hb3; clear hb3; have g3 := HY.out _ HB3.out))
  go_wp2_with fail
  (try simp only [Exit.inBlock, Exit.then])
  refine bodyPost_ret (results_none rfl _ _ _) rfl ?_
  exact ⟨rfl, below_on HB2.out HB3.out⟩

set_option maxHeartbeats 4000000 in
theorem reachO_yes {A : World} {B mq gp N at_ : Nat} {x : Int} {zs zo : Sid} {ks ko : Nat → Option (Int × Int)} {hs ho' : Nat → Option Int} {Fs Fo : Nat → Prop} (h : ME A B mq gp N 0 at_ x zs zo ks ko hs ho' Fs Fo) (hB : B ≤ A.heap.size) (v : Nat) (hv : v < N) (d b : Int) (hd : 0 ≤ d ∧ d ≤ 4611686018427387906) (hf : 0 ≤ NM.farOf ks v ∧ NM.farOf ks v ≤ 4611686018427387906) (_ho : 0 ≤ NM.farOf ko v ∧ NM.farOf ko v ≤ 4611686018427387906) (hx : 0 ≤ x ∧ x ≤ 4611686018427387906) (hlt : d < NM.farOf ks v) (hc : hs v = none ∨ ∃ y, hs v = some y ∧ d < y) :
    Calls Try.prog 51 #[.pointer (some ⟨mq, 0, none⟩), .int .i64 0, .int .i64 (v : Nat), .agg #[.int .i64 d, .int .i64 b]] A fun e A' => e = .returned (.tuple #[]) ∧ Keeps (fun b => Fs b ∨ b = mq) A A' ∧
      ME A' B mq gp N 0 (lessAt (DM.two d (NM.farOf ko v)) x v at_) (lessOf (DM.two d (NM.farOf ko v)) x) zs zo (SM.upd ks v (some (d, b))) ko (HM.upd hs v (some d)) ho' (grow Fs A A') Fo := by
  have hb1 : Below A.heap.size A (A.alloc (.cells #[.int .i64 d, .int .i64 b] 89)) := (Below.refl _ _).alloc (Nat.le_refl _) _
  have h1 := h.on hb1
  have cs : (A.alloc (.cells #[.int .i64 d, .int .i64 b] 89)).cell? ⟨mq, 0, none⟩ = some (.pointer (some ⟨zs.q, 0, none⟩)) := h1.cs
  have co : (A.alloc (.cells #[.int .i64 d, .int .i64 b] 89)).cell? ⟨mq, 1, none⟩ = some (.pointer (some ⟨zo.q, 0, none⟩)) := h1.co
  have HRS : Hid (RS A A.heap.size d b B mq gp N 0 at_ x zs zo ks ko hs ho' Fs Fo (A.alloc (.cells #[.int .i64 d, .int .i64 b] 89))) := RS.begin h
  have HL : Hid (∀ W, Calls Try.prog 65 #[.int .i64 d, .int .i64 (NM.farOf ks v)] W fun e w' => e = .returned (.bool true) ∧ w' = W) := fun W => by
    have := less_bd hd hf W
    rwa [decide_eq_true hlt] at this
  have HEND : Hid (∀ W at2 x2 ks2 hs2, RS A A.heap.size d b B mq gp N 0 at2 x2 zs zo ks2 ko hs2 ho' Fs Fo W → Keeps (fun b => Fs b ∨ b = mq) A W ∧ ME W B mq gp N 0 at2 x2 zs zo ks2 ko hs2 ho' (grow Fs A W) Fo) := fun W at2 x2 ks2 hs2 hr => hr.done (fun b hb => (h.o.lt b hb).2) h.ml h.s.lt hB h.d h.ms
  clear h h1 hb1 hd hf hlt
  go_enter Try.func51, Try.ntmps51
  go_upto_region 1 with fail
  generalize A.alloc (.cells #[.int .i64 d, .int .i64 b] 89) = W1 at *
  go_quiet (fail)
  have HR2 : Hid (RS A A.heap.size d b B mq gp N 0 at_ x zs zo ks ko hs ho' Fs Fo (W1.drewN nq)) := HRS.out.on (below_drewN (Below.refl _ _) _)
  clear cs co HRS
  generalize W1.drewN nq = W2 at *
  have y2 := HR2.out.y0
  have y2d : W2.drew.cell? ⟨A.heap.size, 0, none⟩ = some (.int .i64 d) := y2
  have HF : Hid (∀ W, Below W2.heap.size W2 W → Calls Try.prog 81 #[.pointer (some ⟨zs.q, 0, none⟩), .int .i64 (v : Nat)] W fun e w' => e = .returned (.int .i64 (NM.farOf ks v)) ∧ Below W.heap.size W w') := fun W hW => by
    obtain ⟨F, m, -, -⟩ := (HR2.out.on hW).m
    exact far_any m.s v hv
  have HY : Hid (∀ W, Below W2.heap.size W2 W → W.cell? ⟨A.heap.size, 0, none⟩ = some (.int .i64 d)) := fun W hW => (HR2.out.on hW).y0
  go_wp2_with fail
  go_upto_region 3 with (go_region_held3 (fun w' => w'.cell? ⟨A.heap.size, 0, none⟩ = some (.int .i64 d)) (go_keep) (first
    | (go_at_call 65; refine (HL.out _).mono ?_; rintro e w4 ⟨rfl, rfl⟩)
    | (go_at_call 81; refine (HF.out _ ((Below.refl _ _).drew)).mono ?_; rintro e w3 ⟨rfl, hb3⟩; have HB3 : Hid (Below W2.heap.size W2 w3) := below_of_drew hb3; clear hb3; have g3 := HY.out _ HB3.out)))
  have HR4 : Hid (RS A A.heap.size d b B mq gp N 0 at_ x zs zo ks ko hs ho' Fs Fo w4) := HR2.out.on HB3.out
  clear HB3 g3 y2 y2d HF HY HR2 HL
  have HS4 := fun q => (HR4.out.on (below_drewN (Below.refl _ _) q)).set v hv
  have y40 := HR4.out.y0
  have y41 := HR4.out.y1
  have c41 : w4.cell? ⟨zs.q, 1, none⟩ = some (.pointer (some ⟨zs.r, 0, none⟩)) := by
    obtain ⟨F, m, -, -⟩ := HR4.out.m
    exact m.s.c1
  have HG5 : Hid (∀ W, RS A A.heap.size d b B mq gp N 0 at_ x zs zo (SM.upd ks v (some (d, b))) ko hs ho' Fs Fo W → (W.cell? ⟨zs.q, 1, none⟩ = some (.pointer (some ⟨zs.r, 0, none⟩)) ∧ W.cell? ⟨A.heap.size, 0, none⟩ = some (.int .i64 d) ∧ W.cell? ⟨A.heap.size, 1, none⟩ = some (.int .i64 b))) := fun W hW => by
    obtain ⟨F, m, -, -⟩ := hW.m
    exact ⟨m.s.c1, hW.y0, hW.y1⟩
  have y40d : w4.drew.cell? ⟨A.heap.size, 0, none⟩ = some (.int .i64 d) := y40
  have y41d : w4.drew.cell? ⟨A.heap.size, 1, none⟩ = some (.int .i64 b) := y41
  have c41d : w4.drew.cell? ⟨zs.q, 1, none⟩ = some (.pointer (some ⟨zs.r, 0, none⟩)) := c41
  have HS : Hid (Calls Try.prog 82 #[.pointer (some ⟨zs.r, 0, none⟩), .int .i64 (v : Nat), .agg #[.int .i64 d, .int .i64 b]] w4.drew fun e W' => e = .returned (.int .i64 0) ∧ RS A A.heap.size d b B mq gp N 0 at_ x zs zo (SM.upd ks v (some (d, b))) ko hs ho' Fs Fo W') := HS4 1
  clear HS4
  go_upto_region 4 with (go_region_held3 (fun w' => w'.cell? ⟨zs.q, 1, none⟩ = some (.pointer (some ⟨zs.r, 0, none⟩)) ∧ w'.cell? ⟨A.heap.size, 0, none⟩ = some (.int .i64 d) ∧ w'.cell? ⟨A.heap.size, 1, none⟩ = some (.int .i64 b)) (first | go_keep | exact HG5.out _ HR5.out) (first
    | (go_at_call 82; refine HS.out.mono ?_; rintro e w5 ⟨rfl, hr5⟩; have HR5 : Hid (RS A A.heap.size d b B mq gp N 0 at_ x zs zo (SM.upd ks v (some (d, b))) ko hs ho' Fs Fo w5) := hr5; clear hr5; obtain ⟨g51, g52, g53⟩ := HG5.out _ HR5.out)))
  clear HR4 HS HG5 y40 y41 c41 y40d y41d c41d g51 g52 g53
  have c50 : w5.cell? ⟨zs.q, 0, none⟩ = some (.pointer (some ⟨zs.p, 0, none⟩)) := by
    obtain ⟨F, m, -, -⟩ := HR5.out.m
    exact m.s.c0
  have c50d : w5.drew.cell? ⟨zs.q, 0, none⟩ = some (.pointer (some ⟨zs.p, 0, none⟩)) := c50
  have y50 := HR5.out.y0
  have y50d : w5.drew.cell? ⟨A.heap.size, 0, none⟩ = some (.int .i64 d) := y50
  have HP : Hid (Calls Try.prog 66 #[.pointer (some ⟨zs.p, 0, none⟩), .int .i64 (v : Nat), .int .i64 d] w5.drew fun e W' => e = .returned (.int .i64 0) ∧ RS A A.heap.size d b B mq gp N 0 at_ x zs zo (SM.upd ks v (some (d, b))) ko (HM.upd hs v (some d)) ho' Fs Fo W') := (HR5.out.on (below_drewN (Below.refl _ _) 1)).put hB v hv hc
  have HG6 : Hid (∀ W, RS A A.heap.size d b B mq gp N 0 at_ x zs zo (SM.upd ks v (some (d, b))) ko (HM.upd hs v (some d)) ho' Fs Fo W → (W.cell? ⟨zs.q, 0, none⟩ = some (.pointer (some ⟨zs.p, 0, none⟩)) ∧ W.cell? ⟨A.heap.size, 0, none⟩ = some (.int .i64 d))) := fun W hW => by
    obtain ⟨F, m, -, -⟩ := hW.m
    exact ⟨m.s.c0, hW.y0⟩
  clear hc hB
  go_upto_region 5 with (go_region_held3 (fun w' => w'.cell? ⟨zs.q, 0, none⟩ = some (.pointer (some ⟨zs.p, 0, none⟩)) ∧ w'.cell? ⟨A.heap.size, 0, none⟩ = some (.int .i64 d)) (first | go_keep | exact HG6.out _ HR6.out) (first
    | (go_at_call 66; refine HP.out.mono ?_; rintro e w6 ⟨rfl, hr6⟩; have HR6 : Hid (RS A A.heap.size d b B mq gp N 0 at_ x zs zo (SM.upd ks v (some (d, b))) ko (HM.upd hs v (some d)) ho' Fs Fo w6) := hr6; clear hr6; obtain ⟨g61, g62⟩ := HG6.out _ HR6.out)))
  clear HR5 HP HG6 c50 c50d y50 y50d g61 g62
  have y60 := HR6.out.y0
  have y60d : w6.drew.cell? ⟨A.heap.size, 0, none⟩ = some (.int .i64 d) := y60
  have HF : Hid (∀ W, Below w6.heap.size w6 W → Calls Try.prog 81 #[.pointer (some ⟨zo.q, 0, none⟩), .int .i64 (v : Nat)] W fun e w' => e = .returned (.int .i64 (NM.farOf ko v)) ∧ Below W.heap.size W w') := fun W hW => by
    obtain ⟨F, m, -, -⟩ := (HR6.out.on hW).m
    exact far_any m.o v hv
  have HY : Hid (∀ W, Below w6.heap.size w6 W → W.cell? ⟨A.heap.size, 0, none⟩ = some (.int .i64 d)) := fun W hW => (HR6.out.on hW).y0
  have HADD : Hid (∀ W n, W.cell? ⟨n, 0, none⟩ = some (.int .i64 d) → W.cell? ⟨n, 1, none⟩ = some (.int .i64 (NM.farOf ko v)) → Calls Try.prog 62 #[.slice (some ⟨n, 0, none⟩) 2 2] W fun e w' => e = .returned (.int .i64 (DM.two d (NM.farOf ko v))) ∧ w' = W) := fun W n h0 h1 => add_cells h0 h1
  have htb := DM.two_bd d (NM.farOf ko v)
  have HLX : Hid (∀ W, Calls Try.prog 65 #[.int .i64 (DM.two d (NM.farOf ko v)), .int .i64 x] W fun e w' => e = .returned (.bool (decide (DM.two d (NM.farOf ko v) < x))) ∧ w' = W) := fun W => less_bd htb hx W
  clear htb hx _ho
  generalize heo : NM.farOf ko v = o at *
  generalize het : DM.two d o = t at *
  have HO : Hid (NM.farOf ko v = o) := heo
  have HT : Hid (DM.two d o = t) := het
  clear heo het
  go_upto_region 6 with (go_region_held3 (fun w' => w'.cell? ⟨A.heap.size, 0, none⟩ = some (.int .i64 d)) (first | go_keep | exact HY.out _ (HB7.out.alloc HB7.out.size _).drew | exact HY.out _ (HB7.out.alloc HB7.out.size _)) (first
    | (go_at_call 62; refine (HADD.out _ _ (by simp) (by simp)).mono ?_; rintro e w8 ⟨rfl, hw8⟩; rw [hw8]; clear hw8 w8; have g8 := HY.out _ (HB7.out.alloc HB7.out.size (.cells #[.int .i64 d, .int .i64 o] 3)).drew)
    | (go_at_call 81; refine (HF.out _ ((Below.refl _ _).drew)).mono ?_; rintro e w7 ⟨rfl, hb7⟩; have HB7 : Hid (Below w6.heap.size w6 w7) := below_of_drew hb7; clear hb7; have g7 := HY.out _ HB7.out)))
  have HR8 : Hid (RS A A.heap.size d b B mq gp N 0 at_ x zs zo (SM.upd ks v (some (d, b))) ko (HM.upd hs v (some d)) ho' Fs Fo (w7.alloc (.cells #[.int .i64 d, .int .i64 o] 3))) := HR6.out.on (HB7.out.alloc HB7.out.size _)
  clear HB7 g7 g8 HR6 y60 y60d HY HF HADD
  generalize w7.alloc (.cells #[.int .i64 d, .int .i64 o] 3) = W8 at *
  obtain ⟨cx, ca, fa, fx⟩ : W8.cell? ⟨mq, 3, none⟩ = some (.int .i64 x) ∧ W8.cell? ⟨mq, 2, none⟩ = some (.int .i64 (at_ : Nat)) ∧ W8.frozen? ⟨mq, 2, none⟩ = false ∧ W8.frozen? ⟨mq, 3, none⟩ = false := by
    obtain ⟨F, m, -, -⟩ := HR8.out.m
    exact ⟨m.cx, m.ca, m.fa, m.fx⟩
  have hl := HLX.out W8
  clear HLX
  by_cases hlt : t < x
  · rw [decide_eq_true hlt] at hl
    have HE : Hid (Keeps (fun b => Fs b ∨ b = mq) A ((W8.setCell ⟨mq, 2, none⟩ (.int .i64 (v : Nat))).setCell ⟨mq, 3, none⟩ (.int .i64 t)) ∧ ME ((W8.setCell ⟨mq, 2, none⟩ (.int .i64 (v : Nat))).setCell ⟨mq, 3, none⟩ (.int .i64 t)) B mq gp N 0 v t zs zo (SM.upd ks v (some (d, b))) ko (HM.upd hs v (some d)) ho' (grow Fs A ((W8.setCell ⟨mq, 2, none⟩ (.int .i64 (v : Nat))).setCell ⟨mq, 3, none⟩ (.int .i64 t))) Fo) := HEND.out _ _ _ _ _ (HR8.out.best v t)
    have HX : Hid (t < x) := hlt
    clear HR8 HEND hlt
    go_wp2_with fail
    refine hl.mono ?_
    rintro e w9 ⟨rfl, hw9⟩
    rw [hw9]
    clear hl hw9 w9
    go_wp2_with fail
    go_end0
    have e1 := HO.out
    have e2 := HT.out
    subst e1
    subst e2
    have e3 := HX.out
    rw [lessAt_pos (by omega), lessOf_pos (by omega)]
    exact ⟨rfl, HE.out⟩
  · rw [decide_eq_false hlt] at hl
    have HE : Hid (Keeps (fun b => Fs b ∨ b = mq) A W8 ∧ ME W8 B mq gp N 0 at_ x zs zo (SM.upd ks v (some (d, b))) ko (HM.upd hs v (some d)) ho' (grow Fs A W8) Fo) := HEND.out _ _ _ _ _ HR8.out
    have HX : Hid (¬ t < x) := hlt
    clear HR8 HEND hlt
    go_wp2_with fail
    refine hl.mono ?_
    rintro e w9 ⟨rfl, hw9⟩
    rw [hw9]
    clear hl hw9 w9
    go_wp2_with fail
    go_end0
    have e1 := HO.out
    have e2 := HT.out
    subst e1
    subst e2
    have e3 := HX.out
    rw [lessAt_neg (by omega), lessOf_neg (by omega)]
    exact ⟨rfl, HE.out⟩
end Go.Proofs.Ytmamligiopbefaa
end

section
/-
  The walk of reach, back.
-/
namespace Go.Proofs.Ytmamligiopbefaa
open Go.RowKit Go.Shelf

set_option maxHeartbeats 4000000 in
theorem reachI_no {A : World} {B mq gp N at_ : Nat} {x : Int} {zs zo : Sid} {ks ko : Nat → Option (Int × Int)} {hs ho : Nat → Option Int} {Fs Fo : Nat → Prop} (h : ME A B mq gp N 1 at_ x zs zo ks ko hs ho Fs Fo) (v : Nat) (hv : v < N) (d b : Int) (hd : 0 ≤ d ∧ d ≤ 4611686018427387906) (hf : 0 ≤ NM.farOf ks v ∧ NM.farOf ks v ≤ 4611686018427387906) (hlt : ¬ d < NM.farOf ks v) :
    Calls Try.prog 51 #[.pointer (some ⟨mq, 0, none⟩), .int .i64 1, .int .i64 (v : Nat), .agg #[.int .i64 d, .int .i64 b]] A fun e A' => e = .returned (.tuple #[]) ∧ Below A.heap.size A A' := by
  have hb1 : Below A.heap.size A (A.alloc (.cells #[.int .i64 d, .int .i64 b] 89)) := (Below.refl _ _).alloc (Nat.le_refl _) _
  have h1 := h.on hb1
  have cs : (A.alloc (.cells #[.int .i64 d, .int .i64 b] 89)).cell? ⟨mq, 1, none⟩ = some (.pointer (some ⟨zs.q, 0, none⟩)) := h1.cs
  have co : (A.alloc (.cells #[.int .i64 d, .int .i64 b] 89)).cell? ⟨mq, 0, none⟩ = some (.pointer (some ⟨zo.q, 0, none⟩)) := h1.co
  have y0 : (A.alloc (.cells #[.int .i64 d, .int .i64 b] 89)).cell? ⟨A.heap.size, 0, none⟩ = some (.int .i64 d) := by simp
  have HF : Hid (∀ W, Below A.heap.size A W → Calls Try.prog 81 #[.pointer (some ⟨zs.q, 0, none⟩), .int .i64 (v : Nat)] W fun e w' => e = .returned (.int .i64 (NM.farOf ks v)) ∧ Below W.heap.size W w') := fun W hW => far_any (h.s.on hW) v hv
  have HL : Hid (∀ W, Calls Try.prog 65 #[.int .i64 d, .int .i64 (NM.farOf ks v)] W fun e w' => e = .returned (.bool false) ∧ w' = W) := fun W => by
    have := less_bd hd hf W
    rwa [decide_eq_false hlt] at this
  have HB1 : Hid (Below A.heap.size A (A.alloc (.cells #[.int .i64 d, .int .i64 b] 89))) := hb1
  have HSZ : Hid (A.heap.size < (A.alloc (.cells #[.int .i64 d, .int .i64 b] 89)).heap.size) := by show _ < _; simp
  clear h h1 hb1 hd hf hlt
  obtain ⟨q1, p1, a1, a2, a3⟩ := zs
  obtain ⟨q2, p2, a4, a5, a6⟩ := zo
  simp only at cs co HF
  go_enter Try.func51, Try.ntmps51
  go_upto_region 1 with fail
  generalize A.alloc (.cells #[.int .i64 d, .int .i64 b] 89) = W1 at *
  go_quiet (fail)
  have y2 : (W1.drewN nq).cell? ⟨A.heap.size, 0, none⟩ = some (.int .i64 d) := y0
  have HB2 : Hid (Below A.heap.size A (W1.drewN nq)) := below_drewN HB1.out _
  clear cs co y0 HB1
  generalize W1.drewN nq = W2 at *
  have HY : Hid (∀ W, Below W2.heap.size W2 W → W.cell? ⟨A.heap.size, 0, none⟩ = some (.int .i64 d)) := fun W hW => (hW.cell (p := ⟨A.heap.size, 0, none⟩) (cell_lt y2)).trans y2
  go_wp2_with fail
  have y2d : W2.drew.cell? ⟨A.heap.size, 0, none⟩ = some (.int .i64 d) := y2
  go_region_held3 (fun w' => w'.cell? ⟨A.heap.size, 0, none⟩ = some (.int .i64 d)) (go_keep) (first
    | (go_at_call 65; refine (HL.out _).mono ?_; rintro e w4 ⟨rfl, rfl⟩)
    | (go_at_call 81; refine (HF.out _ HB2.out.drew).mono ?_; rintro e w3 ⟨rfl, hb3⟩; have HB3 : Hid (Below W2.heap.size W2 w3) := below_of_drew hb3; clear hb3; have g3 := HY.out _ HB3.out))
  go_wp2_with fail
  (try simp only [Exit.inBlock, Exit.then])
  refine bodyPost_ret (results_none rfl _ _ _) rfl ?_
  exact ⟨rfl, below_on HB2.out HB3.out⟩

set_option maxHeartbeats 4000000 in
theorem reachI_yes {A : World} {B mq gp N at_ : Nat} {x : Int} {zs zo : Sid} {ks ko : Nat → Option (Int × Int)} {hs ho' : Nat → Option Int} {Fs Fo : Nat → Prop} (h : ME A B mq gp N 1 at_ x zs zo ks ko hs ho' Fs Fo) (hB : B ≤ A.heap.size) (v : Nat) (hv : v < N) (d b : Int) (hd : 0 ≤ d ∧ d ≤ 4611686018427387906) (hf : 0 ≤ NM.farOf ks v ∧ NM.farOf ks v ≤ 4611686018427387906) (_ho : 0 ≤ NM.farOf ko v ∧ NM.farOf ko v ≤ 4611686018427387906) (hx : 0 ≤ x ∧ x ≤ 4611686018427387906) (hlt : d < NM.farOf ks v) (hc : hs v = none ∨ ∃ y, hs v = some y ∧ d < y) :
    Calls Try.prog 51 #[.pointer (some ⟨mq, 0, none⟩), .int .i64 1, .int .i64 (v : Nat), .agg #[.int .i64 d, .int .i64 b]] A fun e A' => e = .returned (.tuple #[]) ∧ Keeps (fun b => Fs b ∨ b = mq) A A' ∧
      ME A' B mq gp N 1 (lessAt (DM.two d (NM.farOf ko v)) x v at_) (lessOf (DM.two d (NM.farOf ko v)) x) zs zo (SM.upd ks v (some (d, b))) ko (HM.upd hs v (some d)) ho' (grow Fs A A') Fo := by
  have hb1 : Below A.heap.size A (A.alloc (.cells #[.int .i64 d, .int .i64 b] 89)) := (Below.refl _ _).alloc (Nat.le_refl _) _
  have h1 := h.on hb1
  have cs : (A.alloc (.cells #[.int .i64 d, .int .i64 b] 89)).cell? ⟨mq, 1, none⟩ = some (.pointer (some ⟨zs.q, 0, none⟩)) := h1.cs
  have co : (A.alloc (.cells #[.int .i64 d, .int .i64 b] 89)).cell? ⟨mq, 0, none⟩ = some (.pointer (some ⟨zo.q, 0, none⟩)) := h1.co
  have HRS : Hid (RS A A.heap.size d b B mq gp N 1 at_ x zs zo ks ko hs ho' Fs Fo (A.alloc (.cells #[.int .i64 d, .int .i64 b] 89))) := RS.begin h
  have HL : Hid (∀ W, Calls Try.prog 65 #[.int .i64 d, .int .i64 (NM.farOf ks v)] W fun e w' => e = .returned (.bool true) ∧ w' = W) := fun W => by
    have := less_bd hd hf W
    rwa [decide_eq_true hlt] at this
  have HEND : Hid (∀ W at2 x2 ks2 hs2, RS A A.heap.size d b B mq gp N 1 at2 x2 zs zo ks2 ko hs2 ho' Fs Fo W → Keeps (fun b => Fs b ∨ b = mq) A W ∧ ME W B mq gp N 1 at2 x2 zs zo ks2 ko hs2 ho' (grow Fs A W) Fo) := fun W at2 x2 ks2 hs2 hr => hr.done (fun b hb => (h.o.lt b hb).2) h.ml h.s.lt hB h.d h.ms
  clear h h1 hb1 hd hf hlt
  go_enter Try.func51, Try.ntmps51
  go_upto_region 1 with fail
  generalize A.alloc (.cells #[.int .i64 d, .int .i64 b] 89) = W1 at *
  go_quiet (fail)
  have HR2 : Hid (RS A A.heap.size d b B mq gp N 1 at_ x zs zo ks ko hs ho' Fs Fo (W1.drewN nq)) := HRS.out.on (below_drewN (Below.refl _ _) _)
  clear cs co HRS
  generalize W1.drewN nq = W2 at *
  have y2 := HR2.out.y0
  have y2d : W2.drew.cell? ⟨A.heap.size, 0, none⟩ = some (.int .i64 d) := y2
  have HF : Hid (∀ W, Below W2.heap.size W2 W → Calls Try.prog 81 #[.pointer (some ⟨zs.q, 0, none⟩), .int .i64 (v : Nat)] W fun e w' => e = .returned (.int .i64 (NM.farOf ks v)) ∧ Below W.heap.size W w') := fun W hW => by
    obtain ⟨F, m, -, -⟩ := (HR2.out.on hW).m
    exact far_any m.s v hv
  have HY : Hid (∀ W, Below W2.heap.size W2 W → W.cell? ⟨A.heap.size, 0, none⟩ = some (.int .i64 d)) := fun W hW => (HR2.out.on hW).y0
  go_wp2_with fail
  go_upto_region 3 with (go_region_held3 (fun w' => w'.cell? ⟨A.heap.size, 0, none⟩ = some (.int .i64 d)) (go_keep) (first
    | (go_at_call 65; refine (HL.out _).mono ?_; rintro e w4 ⟨rfl, rfl⟩)
    | (go_at_call 81; refine (HF.out _ ((Below.refl _ _).drew)).mono ?_; rintro e w3 ⟨rfl, hb3⟩; have HB3 : Hid (Below W2.heap.size W2 w3) := below_of_drew hb3; clear hb3; have g3 := HY.out _ HB3.out)))
  have HR4 : Hid (RS A A.heap.size d b B mq gp N 1 at_ x zs zo ks ko hs ho' Fs Fo w4) := HR2.out.on HB3.out
  clear HB3 g3 y2 y2d HF HY HR2 HL
  have HS4 := fun q => (HR4.out.on (below_drewN (Below.refl _ _) q)).set v hv
  have y40 := HR4.out.y0
  have y41 := HR4.out.y1
  have c41 : w4.cell? ⟨zs.q, 1, none⟩ = some (.pointer (some ⟨zs.r, 0, none⟩)) := by
    obtain ⟨F, m, -, -⟩ := HR4.out.m
    exact m.s.c1
  have HG5 : Hid (∀ W, RS A A.heap.size d b B mq gp N 1 at_ x zs zo (SM.upd ks v (some (d, b))) ko hs ho' Fs Fo W → (W.cell? ⟨zs.q, 1, none⟩ = some (.pointer (some ⟨zs.r, 0, none⟩)) ∧ W.cell? ⟨A.heap.size, 0, none⟩ = some (.int .i64 d) ∧ W.cell? ⟨A.heap.size, 1, none⟩ = some (.int .i64 b))) := fun W hW => by
    obtain ⟨F, m, -, -⟩ := hW.m
    exact ⟨m.s.c1, hW.y0, hW.y1⟩
  have y40d : w4.drew.cell? ⟨A.heap.size, 0, none⟩ = some (.int .i64 d) := y40
  have y41d : w4.drew.cell? ⟨A.heap.size, 1, none⟩ = some (.int .i64 b) := y41
  have c41d : w4.drew.cell? ⟨zs.q, 1, none⟩ = some (.pointer (some ⟨zs.r, 0, none⟩)) := c41
  have HS : Hid (Calls Try.prog 82 #[.pointer (some ⟨zs.r, 0, none⟩), .int .i64 (v : Nat), .agg #[.int .i64 d, .int .i64 b]] w4.drew fun e W' => e = .returned (.int .i64 0) ∧ RS A A.heap.size d b B mq gp N 1 at_ x zs zo (SM.upd ks v (some (d, b))) ko hs ho' Fs Fo W') := HS4 1
  clear HS4
  go_upto_region 4 with (go_region_held3 (fun w' => w'.cell? ⟨zs.q, 1, none⟩ = some (.pointer (some ⟨zs.r, 0, none⟩)) ∧ w'.cell? ⟨A.heap.size, 0, none⟩ = some (.int .i64 d) ∧ w'.cell? ⟨A.heap.size, 1, none⟩ = some (.int .i64 b)) (first | go_keep | exact HG5.out _ HR5.out) (first
    | (go_at_call 82; refine HS.out.mono ?_; rintro e w5 ⟨rfl, hr5⟩; have HR5 : Hid (RS A A.heap.size d b B mq gp N 1 at_ x zs zo (SM.upd ks v (some (d, b))) ko hs ho' Fs Fo w5) := hr5; clear hr5; obtain ⟨g51, g52, g53⟩ := HG5.out _ HR5.out)))
  clear HR4 HS HG5 y40 y41 c41 y40d y41d c41d g51 g52 g53
  have c50 : w5.cell? ⟨zs.q, 0, none⟩ = some (.pointer (some ⟨zs.p, 0, none⟩)) := by
    obtain ⟨F, m, -, -⟩ := HR5.out.m
    exact m.s.c0
  have c50d : w5.drew.cell? ⟨zs.q, 0, none⟩ = some (.pointer (some ⟨zs.p, 0, none⟩)) := c50
  have y50 := HR5.out.y0
  have y50d : w5.drew.cell? ⟨A.heap.size, 0, none⟩ = some (.int .i64 d) := y50
  have HP : Hid (Calls Try.prog 66 #[.pointer (some ⟨zs.p, 0, none⟩), .int .i64 (v : Nat), .int .i64 d] w5.drew fun e W' => e = .returned (.int .i64 0) ∧ RS A A.heap.size d b B mq gp N 1 at_ x zs zo (SM.upd ks v (some (d, b))) ko (HM.upd hs v (some d)) ho' Fs Fo W') := (HR5.out.on (below_drewN (Below.refl _ _) 1)).put hB v hv hc
  have HG6 : Hid (∀ W, RS A A.heap.size d b B mq gp N 1 at_ x zs zo (SM.upd ks v (some (d, b))) ko (HM.upd hs v (some d)) ho' Fs Fo W → (W.cell? ⟨zs.q, 0, none⟩ = some (.pointer (some ⟨zs.p, 0, none⟩)) ∧ W.cell? ⟨A.heap.size, 0, none⟩ = some (.int .i64 d))) := fun W hW => by
    obtain ⟨F, m, -, -⟩ := hW.m
    exact ⟨m.s.c0, hW.y0⟩
  clear hc hB
  go_upto_region 5 with (go_region_held3 (fun w' => w'.cell? ⟨zs.q, 0, none⟩ = some (.pointer (some ⟨zs.p, 0, none⟩)) ∧ w'.cell? ⟨A.heap.size, 0, none⟩ = some (.int .i64 d)) (first | go_keep | exact HG6.out _ HR6.out) (first
    | (go_at_call 66; refine HP.out.mono ?_; rintro e w6 ⟨rfl, hr6⟩; have HR6 : Hid (RS A A.heap.size d b B mq gp N 1 at_ x zs zo (SM.upd ks v (some (d, b))) ko (HM.upd hs v (some d)) ho' Fs Fo w6) := hr6; clear hr6; obtain ⟨g61, g62⟩ := HG6.out _ HR6.out)))
  clear HR5 HP HG6 c50 c50d y50 y50d g61 g62
  have y60 := HR6.out.y0
  have y60d : w6.drew.cell? ⟨A.heap.size, 0, none⟩ = some (.int .i64 d) := y60
  have HF : Hid (∀ W, Below w6.heap.size w6 W → Calls Try.prog 81 #[.pointer (some ⟨zo.q, 0, none⟩), .int .i64 (v : Nat)] W fun e w' => e = .returned (.int .i64 (NM.farOf ko v)) ∧ Below W.heap.size W w') := fun W hW => by
    obtain ⟨F, m, -, -⟩ := (HR6.out.on hW).m
    exact far_any m.o v hv
  have HY : Hid (∀ W, Below w6.heap.size w6 W → W.cell? ⟨A.heap.size, 0, none⟩ = some (.int .i64 d)) := fun W hW => (HR6.out.on hW).y0
  have HADD : Hid (∀ W n, W.cell? ⟨n, 0, none⟩ = some (.int .i64 d) → W.cell? ⟨n, 1, none⟩ = some (.int .i64 (NM.farOf ko v)) → Calls Try.prog 62 #[.slice (some ⟨n, 0, none⟩) 2 2] W fun e w' => e = .returned (.int .i64 (DM.two d (NM.farOf ko v))) ∧ w' = W) := fun W n h0 h1 => add_cells h0 h1
  have htb := DM.two_bd d (NM.farOf ko v)
  have HLX : Hid (∀ W, Calls Try.prog 65 #[.int .i64 (DM.two d (NM.farOf ko v)), .int .i64 x] W fun e w' => e = .returned (.bool (decide (DM.two d (NM.farOf ko v) < x))) ∧ w' = W) := fun W => less_bd htb hx W
  clear htb hx _ho
  generalize heo : NM.farOf ko v = o at *
  generalize het : DM.two d o = t at *
  have HO : Hid (NM.farOf ko v = o) := heo
  have HT : Hid (DM.two d o = t) := het
  clear heo het
  go_upto_region 6 with (go_region_held3 (fun w' => w'.cell? ⟨A.heap.size, 0, none⟩ = some (.int .i64 d)) (first | go_keep | exact HY.out _ (HB7.out.alloc HB7.out.size _).drew | exact HY.out _ (HB7.out.alloc HB7.out.size _)) (first
    | (go_at_call 62; refine (HADD.out _ _ (by simp) (by simp)).mono ?_; rintro e w8 ⟨rfl, hw8⟩; rw [hw8]; clear hw8 w8; have g8 := HY.out _ (HB7.out.alloc HB7.out.size (.cells #[.int .i64 d, .int .i64 o] 3)).drew)
    | (go_at_call 81; refine (HF.out _ ((Below.refl _ _).drew)).mono ?_; rintro e w7 ⟨rfl, hb7⟩; have HB7 : Hid (Below w6.heap.size w6 w7) := below_of_drew hb7; clear hb7; have g7 := HY.out _ HB7.out)))
  have HR8 : Hid (RS A A.heap.size d b B mq gp N 1 at_ x zs zo (SM.upd ks v (some (d, b))) ko (HM.upd hs v (some d)) ho' Fs Fo (w7.alloc (.cells #[.int .i64 d, .int .i64 o] 3))) := HR6.out.on (HB7.out.alloc HB7.out.size _)
  clear HB7 g7 g8 HR6 y60 y60d HY HF HADD
  generalize w7.alloc (.cells #[.int .i64 d, .int .i64 o] 3) = W8 at *
  obtain ⟨cx, ca, fa, fx⟩ : W8.cell? ⟨mq, 3, none⟩ = some (.int .i64 x) ∧ W8.cell? ⟨mq, 2, none⟩ = some (.int .i64 (at_ : Nat)) ∧ W8.frozen? ⟨mq, 2, none⟩ = false ∧ W8.frozen? ⟨mq, 3, none⟩ = false := by
    obtain ⟨F, m, -, -⟩ := HR8.out.m
    exact ⟨m.cx, m.ca, m.fa, m.fx⟩
  have hl := HLX.out W8
  clear HLX
  by_cases hlt : t < x
  · rw [decide_eq_true hlt] at hl
    have HE : Hid (Keeps (fun b => Fs b ∨ b = mq) A ((W8.setCell ⟨mq, 2, none⟩ (.int .i64 (v : Nat))).setCell ⟨mq, 3, none⟩ (.int .i64 t)) ∧ ME ((W8.setCell ⟨mq, 2, none⟩ (.int .i64 (v : Nat))).setCell ⟨mq, 3, none⟩ (.int .i64 t)) B mq gp N 1 v t zs zo (SM.upd ks v (some (d, b))) ko (HM.upd hs v (some d)) ho' (grow Fs A ((W8.setCell ⟨mq, 2, none⟩ (.int .i64 (v : Nat))).setCell ⟨mq, 3, none⟩ (.int .i64 t))) Fo) := HEND.out _ _ _ _ _ (HR8.out.best v t)
    have HX : Hid (t < x) := hlt
    clear HR8 HEND hlt
    go_wp2_with fail
    refine hl.mono ?_
    rintro e w9 ⟨rfl, hw9⟩
    rw [hw9]
    clear hl hw9 w9
    go_wp2_with fail
    go_end0
    have e1 := HO.out
    have e2 := HT.out
    subst e1
    subst e2
    have e3 := HX.out
    rw [lessAt_pos (by omega), lessOf_pos (by omega)]
    exact ⟨rfl, HE.out⟩
  · rw [decide_eq_false hlt] at hl
    have HE : Hid (Keeps (fun b => Fs b ∨ b = mq) A W8 ∧ ME W8 B mq gp N 1 at_ x zs zo (SM.upd ks v (some (d, b))) ko (HM.upd hs v (some d)) ho' (grow Fs A W8) Fo) := HEND.out _ _ _ _ _ HR8.out
    have HX : Hid (¬ t < x) := hlt
    clear HR8 HEND hlt
    go_wp2_with fail
    refine hl.mono ?_
    rintro e w9 ⟨rfl, hw9⟩
    rw [hw9]
    clear hl hw9 w9
    go_wp2_with fail
    go_end0
    have e1 := HO.out
    have e2 := HT.out
    subst e1
    subst e2
    have e3 := HX.out
    rw [lessAt_neg (by omega), lessOf_neg (by omega)]
    exact ⟨rfl, HE.out⟩
end Go.Proofs.Ytmamligiopbefaa
end
