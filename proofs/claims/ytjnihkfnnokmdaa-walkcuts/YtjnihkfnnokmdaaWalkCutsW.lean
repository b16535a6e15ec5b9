/-
  The walk of the law WalkCuts.
-/
import Derived.Test.YtjnihkfnnokmdaaWalkLed
import Derived.Test.YtjnihkfnnokmdaaWalkLaw
import Derived.Test.YtjnihkfnnokmdaaWalkVisits
import Derived.Deep.RegionHeld3
import Derived.Deep.DeepCutAuto
namespace Go.Proofs.Ytjnihkfnnokmdaa
open Go.RowKit

set_option maxHeartbeats 4000000 in
set_option maxRecDepth 100000 in
theorem cuts_walk (n : Int) (v : Value) (xs : List Chg) (f : Int) (va : Value) (ys : List Int) (w : World) (hn0 : 0 ≤ n) (hn1 : n ≤ 255) (hch : Chgs w v xs) (hf0 : 0 ≤ f) (hf1 : f ≤ 255) (hra : Row .u8 w va ys) (hza : ∀ z ∈ ys, 0 ≤ z ∧ z ≤ 255) :
    Calls Try.prog 6 #[.int .u8 n, v, .int .u8 f, va] w fun e w' => e = .returned (.bool true) ∧ Below w.heap.size w w' := by
  have haw := awake_any w
  have HMD : Hid (∀ W, Below w.heap.size w W → Calls Try.prog 9 #[.int .u8 n, v] W fun e w' => ∃ p q, e = .returned (.tuple #[.pointer (some ⟨p, 0, none⟩), .pointer (some ⟨q, 0, none⟩)]) ∧ ∃ N, (1 ≤ N ∧ N ≤ 24) ∧ Both w' W.heap.size p q N 64 (GM.made N xs (min xs.length 150)) ∧ Below W.heap.size W w') := fun W hW => made_any n v xs W hn0 hn1 (hch.on hW)
  have HRA : Hid (∀ W, Below w.heap.size w W → Row .u8 W va ys) := fun W hW => hra.below hW
  have HZA : Hid (∀ z ∈ ys, 0 ≤ z ∧ z ≤ 255) := hza
  have HIN : Hid (∀ N, WK.Inn N (GM.made N xs (min xs.length 150))) := fun N => WK.Inn.made N xs _
  obtain ⟨c, rfl⟩ : ∃ c : Nat, f = c := ⟨f.toNat, by omega⟩
  have hc255 : c < 256 := by omega
  clear hn0 hn1 hza hf0 hf1
  obtain ⟨ao, cap, rfl, -, -⟩ := hch
  obtain ⟨aa, capa, rfl, hata⟩ := hra
  have hma : ys.length ≤ 9223372036854775807 := by have := hata.1; have := hata.2.1; unfold maxLen at this; omega
  clear hata
  generalize xs.length = L at *
  obtain ⟨A, hA⟩ : ∃ A, A = ys.length := ⟨_, rfl⟩
  have HA : Hid (A = ys.length) := hA
  rw [← hA] at hma HRA ⊢
  clear hA
  go_enter Try.func6, Try.ntmps6
  go_wp2_with fail
  refine haw.mono ?_
  rintro e w1 ⟨rfl, hb1⟩
  clear haw
  go_wp2_with fail
  refine (HMD.out w1 hb1).mono ?_
  rintro e w2 ⟨p, q, rfl, N, hN, ho2, hb2⟩
  have hb2' := below_on hb1 hb2
  have HIN2 : Hid (WK.Inn N (GM.made N xs (min L 150))) := HIN.out N
  generalize GM.made N xs (min L 150) = m at *
  clear HMD hb1 hb2 HIN
  by_cases ha : 60 < A
  · go_wp2_with fail
    go_ret
    exact ⟨rfl, hb2'⟩
  have HG : Hid (∀ W, Below w2.heap.size w2 W → GMem W p N 64 m) := fun W hW => ho2.g.on hW
  have hr2 := ho2.r
  have HC : Hid (∀ W, Below w2.heap.size w2 W → W.cell? ⟨q, 0, none⟩ = some (.int .i64 (N : Nat))) := fun W hW => (ho2.r.on hW).c0
  have cN := ho2.r.c0
  have hok := ho2.ok
  clear ho2
  have hrem : (c : Int).tmod (N : Int) = ((c % N : Nat) : Int) := rfl
  have hne : ¬ (N : Int) = 0 := by omega
  have hs : c % N < N := Nat.mod_lt _ (by omega)
  have hs64 : c % N < 256 := by omega
  generalize c % N = s at *
  have HU : Hid (GM.vert N (s : Int) = true) := by
    show _ = _
    exact decide_eq_true (by omega)
  have hl1 := led_any hr2 (s : Int) (HRA.out w2 hb2') HZA.out (by rw [← HA.out]; omega)
  rw [← HA.out] at hl1
  clear hr2
  go_wp2_with fail
  refine hl1.mono ?_
  rintro e w3 ⟨r3, ids, en, rfl, ho3, hn3, he3, hb3⟩
  have hb3' := below_on hb2' hb3
  have HE3 : Hid (WK.ends (s : Int) (WK.list m ids) = some en) := he3
  clear hl1 cN he3 hrem hne
  have hvis := visits_any (HG.out w3 hb3) hok (s : Int) ho3.row (by omega)
  obtain ⟨hv1, -, hv3⟩ := WK.vcode_walk HU.out HE3.out
  have hVL : (WK.vlist N (s : Int) (WK.list m ids)).length = ids.length + 1 := by rw [hv3, List.length_cons, WK.heads_len, WK.list_len]
  rw [hv1] at hvis
  have HCUT : Hid (∀ k, k ≤ ids.length → WK.vcode N (s : Int) (WK.list m (ids.take k)) = 0 ∧ WK.vlist N (s : Int) (WK.list m (ids.take k)) = (WK.vlist N (s : Int) (WK.list m ids)).take (k + 1) ∧ ∃ c, (WK.vlist N (s : Int) (WK.list m ids))[k]?.getD 0 = c ∧ GM.vert N c = true ∧ WK.ccode N (s : Int) c (WK.list m (ids.take k)) = 0 ∧ ∀ o, GM.vert N o = true → o ≠ c → WK.ccode N (s : Int) o (WK.list m (ids.take k)) = 8) := fun k hk => WK.cuts HIN2.out HU.out HE3.out hk
  have H3 : Hid (∀ W, Below w3.heap.size w3 W → Row .i64 W r3 ids) := fun W hW => (ho3.below hW).row
  obtain ⟨a3, k3, rfl, hat3⟩ := ho3.at
  have hk3 := hat3.1
  have hk3m := hat3.2.1
  clear ho3 hat3 hv1 hv3 HIN2 HE3
  obtain ⟨I, hI⟩ : ∃ I, I = ids.length := ⟨_, rfl⟩
  have HI : Hid (I = ids.length) := hI
  rw [← hI] at hn3 H3 hVL hk3 HCUT hvis ⊢
  clear hI
  generalize WK.vlist N (s : Int) (WK.list m ids) = V at *
  go_wp2_with fail
  refine hvis.mono ?_
  rintro e w4 ⟨r4, rfl, ho4, hb4⟩
  have hb4' := below_on hb3' hb4
  have hb24 := below_on hb3 hb4
  have H3' : Hid (∀ W, Below w4.heap.size w4 W → Row .i64 W (.slice a3 I k3) ids) := fun W hW => H3.out W (below_on hb4 hW)
  have H4 : Hid (∀ W, Below w4.heap.size w4 W → Row .i64 W r4 V) := fun W hW => (ho4.below hW).row
  have HG4 : Hid (∀ W, Below w4.heap.size w4 W → GMem W p N 64 m) := fun W hW => HG.out W (below_on hb24 hW)
  have HC4 : Hid (∀ W, Below w4.heap.size w4 W → W.cell? ⟨q, 0, none⟩ = some (.int .i64 (N : Nat))) := fun W hW => HC.out W (below_on hb24 hW)
  obtain ⟨a4, k4, rfl, hat4⟩ := ho4.at
  have hk4 := hat4.1
  have hk4m := hat4.2.1
  clear hvis ho4 hat4 H3 HG HC hb3 hb3' hb4 hb24
  obtain ⟨J, hJ⟩ : ∃ J, J = V.length := ⟨_, rfl⟩
  have HJ : Hid (J = V.length) := hJ
  rw [← hJ] at hVL H4 hk4 ⊢
  clear hJ
  have HVL : Hid (J = I + 1) := hVL
  have hvl : (J : Int) = (I : Int) + 1 := by omega
  clear hVL
  have hI60 : I ≤ 60 := by omega
  clear hn3 ha
  go_wp2_with fail
  go_loopw [16] (fun iv wr => ∃ k : Nat, k ≤ I + 1 ∧ iv = .int .i64 k ∧ Below w4.heap.size w4 wr) (fun iv _ => I + 1 - (intOf iv).toNat)
  case atStart => exact ⟨0, Nat.zero_le _, rfl, Below.refl _ _⟩
  case round =>
    obtain ⟨k, hk, rfl, hbr⟩ := hrel
    by_cases hle : k ≤ I
    · have k1 : (k : Int) ≤ (I : Int) := by omega
      obtain ⟨q1, q2, cc, q3, q4, q5, q6⟩ := HCUT.out k hle
      obtain ⟨ci, rfl, hci⟩ : ∃ ci : Nat, cc = (ci : Int) ∧ ci < N := by
        have := of_decide_eq_true q4
        exact ⟨cc.toNat, by omega, by omega⟩
      have HT : Hid (∀ W, Below wr.heap.size wr W → Row .i64 W (.slice a3 k k3) (ids.take k)) := fun W hW => by
        obtain ⟨x1, x2, e, h⟩ := H3'.out W (below_on hbr hW)
        injection e with e1 e2 e3
        subst e1 e3
        exact h.take (by rw [← HI.out]; exact hle)
      have HAT : Hid (∀ W, Below wr.heap.size wr W → Row .i64 W (.slice a4 (k + 1) k4) (V.take (k + 1))) := fun W hW => by
        obtain ⟨x1, x2, e, h⟩ := H4.out W (below_on hbr hW)
        injection e with e1 e2 e3
        subst e1 e3
        exact h.take (by rw [← HJ.out, HVL.out]; omega)
      have HGR : Hid (∀ W, Below wr.heap.size wr W → GMem W p N 64 m) := fun W hW => HG4.out W (below_on hbr hW)
      have HCR : Hid (∀ W, Below wr.heap.size wr W → W.cell? ⟨q, 0, none⟩ = some (.int .i64 (N : Nat))) := fun W hW => HC4.out W (below_on hbr hW)
      have hkj : k < V.length := by rw [← HJ.out, HVL.out]; omega
      obtain ⟨b4, o4, ha4, hcell⟩ : ∃ b o, a4 = some ⟨b, o, none⟩ ∧ Hid (∀ W, Below wr.heap.size wr W → W.cell? ⟨b, o + k, none⟩ = some (.int .i64 (ci : Nat))) := by
        obtain ⟨x1, x2, e, h⟩ := H4.out wr hbr
        injection e with e1 e2 e3
        subst e1 e3
        obtain ⟨b, o, e, hc⟩ := h.2.2.2 (by omega)
        refine ⟨b, o, e, fun W hW => ?_⟩
        have h1 := hc k hkj
        rw [q3] at h1
        exact (hW.cell (p := ⟨b, o + k, none⟩) (cell_lt h1)).trans h1
      subst ha4
      have hvis := visits_any (HGR.out wr (Below.refl _ _)) hok (s : Int) (HT.out wr (Below.refl _ _)) (by rw [List.length_take, ← HI.out]; omega)
      rw [q1, q2] at hvis
      have hb5 := below_on hb4' hbr
      clear q1 q2 q3 q4 HCUT H3' H4 HG4 HC4 hkj
      have CC1 : Hid (∀ W, Below wr.heap.size wr W → Calls Try.prog 10 #[.pointer (some ⟨p, 0, none⟩), .int .i64 s, .int .i64 ci, .slice a3 k k3] W fun e w' => e = .returned (.int .i64 0) ∧ Below W.heap.size W w') := fun W hW => (check_any (HGR.out W hW) hok (s : Int) (ci : Int) (HT.out W hW)).mono (by
        rintro e w' ⟨rfl, hb⟩
        exact ⟨ret_int q5, hb⟩)
      have htm : ((ci : Int) + 1).tmod (N : Int) = (((ci + 1) % N : Nat) : Int) := rfl
      have ho : (ci + 1) % N < N := Nat.mod_lt _ (by omega)
      generalize (ci + 1) % N = o at *
      have CC2 : Hid (o ≠ ci → ∀ W, Below wr.heap.size wr W → Calls Try.prog 10 #[.pointer (some ⟨p, 0, none⟩), .int .i64 s, .int .i64 o, .slice a3 k k3] W fun e w' => e = .returned (.int .i64 8) ∧ Below W.heap.size W w') := fun hoc W hW => (check_any (HGR.out W hW) hok (s : Int) (o : Int) (HT.out W hW)).mono (by
        rintro e w' ⟨rfl, hb⟩
        refine ⟨ret_int (q6 _ ?_ (by omega)), hb⟩
        exact decide_eq_true (by omega))
      clear q5 q6 HT HGR
      generalize hVT : V.take (k + 1) = VT at *
      have hne : ¬ (N : Int) = 0 := by omega
      have hnn : ¬ N = 0 := by omega
      have kj : (k : Int) < (J : Int) := by omega
      go_wp2_with fail
      refine hvis.mono ?_
      rintro e w5 ⟨r5, rfl, ho5, hb5'⟩
      have H5 : Hid (∀ W, Below w5.heap.size w5 W → Row .i64 W r5 VT) := fun W hW => (ho5.below hW).row
      have CI : Hid (∀ W, Below w5.heap.size w5 W → Calls Try.prog 16 #[r5, .slice (some ⟨b4, o4, none⟩) (k + 1) k4] W fun e w' => e = .returned (.bool true) ∧ Below W.heap.size W w') := fun W hW => (ints_any _ _ _ _ W (H5.out W hW) (HAT.out W (below_on hb5' hW))).mono (by
        rintro e w' ⟨rfl, hb⟩
        exact ⟨ret_bool (by simp), hb⟩)
      obtain ⟨a5, k5, rfl, -⟩ := ho5.at
      generalize VT.length = vl at *
      have hb6 := below_on hb5 hb5'
      have cN := HCR.out w5 hb5'
      have cA := hcell.out w5 hb5'
      clear hvis ho5 HAT H5
      go_upto_region 17 with fail
      go_cut [19] (fun sx wx => sx = .int .i64 o ∧ Below w5.heap.size w5 wx)
      case first =>
        clear CC1 CC2 CI HCR
        go_region
        all_goals
          go_wp2_with fail
          go_meet
          exact ⟨rfl, below_drewN (Below.refl _ _) _⟩
      case rest =>
      obtain ⟨rfl, hbc⟩ := hcut
      have hb7 := below_on hb6 hbc
      have hb57 := below_on hb5' hbc
      have DI : Hid (∀ W, Below wc.heap.size wc W → Calls Try.prog 16 #[.slice a5 vl k5, .slice (some ⟨b4, o4, none⟩) (k + 1) k4] W fun e w' => e = .returned (.bool true) ∧ Below wc.heap.size wc w') := fun W hW => (CI.out W (below_on hbc hW)).mono (by
        rintro e w' ⟨rfl, hb⟩
        exact ⟨rfl, below_on hW hb⟩)
      have D1 : Hid (∀ W, Below wc.heap.size wc W → Calls Try.prog 10 #[.pointer (some ⟨p, 0, none⟩), .int .i64 s, .int .i64 ci, .slice a3 k k3] W fun e w' => e = .returned (.int .i64 0) ∧ Below wc.heap.size wc w') := fun W hW => (CC1.out W (below_on hb57 hW)).mono (by
        rintro e w' ⟨rfl, hb⟩
        exact ⟨rfl, below_on hW hb⟩)
      have D2 : Hid (o ≠ ci → ∀ W, Below wc.heap.size wc W → Calls Try.prog 10 #[.pointer (some ⟨p, 0, none⟩), .int .i64 s, .int .i64 o, .slice a3 k k3] W fun e w' => e = .returned (.int .i64 8) ∧ Below wc.heap.size wc w') := fun hoc W hW => (CC2.out hoc W (below_on hb57 hW)).mono (by
        rintro e w' ⟨rfl, hb⟩
        exact ⟨rfl, below_on hW hb⟩)
      have HA : Hid (∀ W, Below wc.heap.size wc W → W.cell? ⟨b4, o4 + k, none⟩ = some (.int .i64 (ci : Nat))) := fun W hW => hcell.out W (below_on hb57 hW)
      have cA := HA.out wc (Below.refl _ _)
      have HBW : Hid (∀ W, Below wc.heap.size wc W → Below w4.heap.size w4 W) := fun W hW => below_on (below_on hbr hb57) hW
      have s1 : (k : Int) + 1 ≤ (k4 : Int) := by have := HVL.out; omega
      have s2 : (k : Int) ≤ (k3 : Int) := by omega
      have s3 : IntKind.i64.wrap ((k : Int) + 1) = (k : Int) + 1 := by
        simp [IntKind.wrap, IntKind.bits, IntKind.signed]
        omega
      have s4 : (0 : Int) ≤ (k : Int) + 1 := by omega
      have s5 : k ≤ k3 := by omega
      have s6 : k + 1 ≤ k4 := by have := HVL.out; omega
      have hd : Below wc.heap.size wc wc.drew := (Below.refl _ _).drew
      clear CI CC1 CC2 HCR hcell hb57 hbc hb6 hb5 hb5' hbr htm hVT HJ HVL HI
      have kj2 : k < J := by omega
      clear hvl
      go_upto_region 18 with fail
      go_cut [130] (fun sx wx => sx = .bool false ∧ Below wc.heap.size wc wx)
      case first =>
        by_cases hoc : o = ci
        · have hoc1 : ((o : Int) != (ci : Int)) = false := by rw [hoc]; exact bne_self_eq_false _
          have hoc2 : (o != ci) = false := by rw [hoc]; exact bne_self_eq_false _
          clear D2 hoc
          refine wp_region_held_drew (S := fun w' => w'.cell? ⟨b4, o4 + k, none⟩ = some (.int .i64 (ci : Nat))) (by kernel_rfl) (by (try dsimp only); go_keep) (fun hHeld => ?_)
          refine wpAnyH_take (i := 0) (oi := { dst := some 89, op := Op.move (Operand.tmp 18), type := 29, pos := "outright.go:54", after := #[], guard := none }) (v := ?_) rfl (by kernel_rfl) (by kernel_rfl) (by kernel_rfl) (fun _ _ _ h => h) (Or.inl ⟨by rfl, ?_⟩) (by assumption) ?_
          rotate_left
          · intro w0 hSw
            (try dsimp only at hSw)
            go_simp <;> with_reducible rfl
          try simp only [Act.put, List.setIfInBounds_toArray, List.set_cons_zero, List.set_cons_succ]
          refine wpAnyH_take (i := 1) (oi := { dst := some 90, op := Op.binOp BinOp.neq 29 (Operand.tmp 89) (Operand.const (Value.int IntKind.i64 0)) 29, type := 4, pos := "outright.go:54", after := #[{ on := 0, ground := Ground.data }], guard := none }) (v := ?_) rfl (by kernel_rfl) (by kernel_rfl) (by kernel_rfl) (fun _ _ _ h => h) (Or.inl ⟨by rfl, ?_⟩) (by assumption) ?_
          rotate_left
          · intro w0 hSw
            (try dsimp only at hSw)
            go_simp <;> with_reducible rfl
          try simp only [Act.put, List.setIfInBounds_toArray, List.set_cons_zero, List.set_cons_succ]
          refine wpAnyH_take (i := 2) (oi := { dst := some 91, op := Op.move (Operand.tmp 90), type := 4, pos := "outright.go:54", after := #[{ on := 1, ground := Ground.data }], guard := none }) (v := ?_) rfl (by kernel_rfl) (by kernel_rfl) (by kernel_rfl) (fun _ _ _ h => h) (Or.inl ⟨by rfl, ?_⟩) (by assumption) ?_
          rotate_left
          · intro w0 hSw
            (try dsimp only at hSw)
            go_simp <;> with_reducible rfl
          try simp only [Act.put, List.setIfInBounds_toArray, List.set_cons_zero, List.set_cons_succ]
          refine wpAnyH_take (i := 3) (oi := { dst := some 92, op := Op.move (Operand.tmp 17), type := 23, pos := "outright.go:54", after := #[{ on := 2, ground := Ground.guard }], guard := some (2, false) }) (v := ?_) rfl (by kernel_rfl) (by kernel_rfl) (by kernel_rfl) (fun _ _ _ h => h) (Or.inl ⟨by rfl, ?_⟩) (by assumption) ?_
          rotate_left
          · intro w0 hSw
            (try dsimp only at hSw)
            go_simp <;> with_reducible rfl
          try simp only [Act.put, List.setIfInBounds_toArray, List.set_cons_zero, List.set_cons_succ]
          refine wpAnyH_take (i := 4) (oi := { dst := some 93, op := Op.move (Operand.tmp 14), type := 23, pos := "outright.go:54", after := #[{ on := 2, ground := Ground.guard }], guard := some (2, false) }) (v := ?_) rfl (by kernel_rfl) (by kernel_rfl) (by kernel_rfl) (fun _ _ _ h => h) (Or.inl ⟨by rfl, ?_⟩) (by assumption) ?_
          rotate_left
          · intro w0 hSw
            (try dsimp only at hSw)
            go_simp <;> with_reducible rfl
          try simp only [Act.put, List.setIfInBounds_toArray, List.set_cons_zero, List.set_cons_succ]
          refine wpAnyH_take (i := 5) (oi := { dst := some 94, op := Op.move (Operand.tmp 16), type := 3, pos := "outright.go:54", after := #[{ on := 2, ground := Ground.guard }], guard := some (2, false) }) (v := ?_) rfl (by kernel_rfl) (by kernel_rfl) (by kernel_rfl) (fun _ _ _ h => h) (Or.inl ⟨by rfl, ?_⟩) (by assumption) ?_
          rotate_left
          · intro w0 hSw
            (try dsimp only at hSw)
            go_simp <;> with_reducible rfl
          try simp only [Act.put, List.setIfInBounds_toArray, List.set_cons_zero, List.set_cons_succ]
          refine wpAnyH_take (i := 6) (oi := { dst := some 95, op := Op.binOp BinOp.add 3 (Operand.tmp 94) (Operand.const (Value.int IntKind.i64 1)) 3, type := 3, pos := "outright.go:54", after := #[{ on := 5, ground := Ground.data }, { on := 2, ground := Ground.guard }], guard := some (2, false) }) (v := ?_) rfl (by kernel_rfl) (by kernel_rfl) (by kernel_rfl) (fun _ _ _ h => h) (Or.inl ⟨by rfl, ?_⟩) (by assumption) ?_
          rotate_left
          · intro w0 hSw
            (try dsimp only at hSw)
            go_simp <;> with_reducible rfl
          try simp only [Act.put, List.setIfInBounds_toArray, List.set_cons_zero, List.set_cons_succ]
          refine wpAnyH_take (i := 7) (oi := { dst := some 96, op := Op.slice 23 (Operand.tmp 93) none (some (Operand.tmp 95)) none, type := 23, pos := "outright.go:54", after := #[{ on := 4, ground := Ground.data }, { on := 6, ground := Ground.data }, { on := 2, ground := Ground.guard }], guard := some (2, false) }) (v := ?_) rfl (by kernel_rfl) (by kernel_rfl) (by kernel_rfl) (fun _ _ _ h => h) (Or.inl ⟨by rfl, ?_⟩) (by assumption) ?_
          rotate_left
          · intro w0 hSw
            (try dsimp only at hSw)
            go_simp <;> with_reducible rfl
          try simp only [Act.put, List.setIfInBounds_toArray, List.set_cons_zero, List.set_cons_succ]
          refine wpAnyH_ready (rs := [8]) (by kernel_rfl) (by simp) ?_
          refine AllReadyH.cons (o := { dst := some 97, op := Op.call { callee := Callee.value (Operand.func 16), args := #[Operand.tmp 92, Operand.tmp 96], argTypes := #[23, 23] }, type := 4, pos := "outright.go:54", after := #[{ on := 3, ground := Ground.data }, { on := 7, ground := Ground.data }, { on := 2, ground := Ground.chain }, { on := 2, ground := Ground.guard }], guard := some (2, false) }) rfl (fun K hK => ?_) AllReadyH.nil
          go_simp
          refine (DI.out _ hd).mono ?_
          rintro e w8 ⟨rfl, hb8⟩
          have g8 := HA.out _ hb8
          go_wp2_with fail
          refine hK.out _ _ g8 (fun hHeld => ?_)
          clear hK K
          try simp only [Act.put, List.setIfInBounds_toArray, List.set_cons_zero, List.set_cons_succ]
          refine wpAnyH_take (i := 9) (oi := { dst := some 98, op := Op.unOp UnOp.not 4 (Operand.tmp 97), type := 4, pos := "outright.go:54", after := #[{ on := 8, ground := Ground.data }, { on := 2, ground := Ground.guard }], guard := some (2, false) }) (v := ?_) rfl (by kernel_rfl) (by kernel_rfl) (by kernel_rfl) (fun _ _ _ h => h) (Or.inl ⟨by rfl, ?_⟩) (by assumption) ?_
          rotate_left
          · intro w0 hSw
            (try dsimp only at hSw)
            go_simp <;> with_reducible rfl
          try simp only [Act.put, List.setIfInBounds_toArray, List.set_cons_zero, List.set_cons_succ]
          refine wpAnyH_take (i := 10) (oi := { dst := some 99, op := Op.pick (Operand.tmp 91) (Operand.const (Value.bool true)) (Operand.tmp 98), type := 4, pos := "outright.go:54", after := #[{ on := 2, ground := Ground.data }, { on := 9, ground := Ground.data }], guard := none }) (v := ?_) rfl (by kernel_rfl) (by kernel_rfl) (by kernel_rfl) (fun _ _ _ h => h) (Or.inl ⟨by rfl, ?_⟩) (by assumption) ?_
          rotate_left
          · intro w0 hSw
            (try dsimp only at hSw)
            go_simp <;> with_reducible rfl
          try simp only [Act.put, List.setIfInBounds_toArray, List.set_cons_zero, List.set_cons_succ]
          refine wpAnyH_take (i := 11) (oi := { dst := some 100, op := Op.move (Operand.tmp 99), type := 4, pos := "outright.go:54", after := #[{ on := 10, ground := Ground.data }, { on := 8, ground := Ground.chain }], guard := none }) (v := ?_) rfl (by kernel_rfl) (by kernel_rfl) (by kernel_rfl) (fun _ _ _ h => h) (Or.inl ⟨by rfl, ?_⟩) (by assumption) ?_
          rotate_left
          · intro w0 hSw
            (try dsimp only at hSw)
            go_simp <;> with_reducible rfl
          try simp only [Act.put, List.setIfInBounds_toArray, List.set_cons_zero, List.set_cons_succ]
          refine wpAnyH_take (i := 12) (oi := { dst := some 101, op := Op.move (Operand.tmp 9), type := 25, pos := "outright.go:54", after := #[{ on := 11, ground := Ground.guard }], guard := some (11, false) }) (v := ?_) rfl (by kernel_rfl) (by kernel_rfl) (by kernel_rfl) (fun _ _ _ h => h) (Or.inl ⟨by rfl, ?_⟩) (by assumption) ?_
          rotate_left
          · intro w0 hSw
            (try dsimp only at hSw)
            go_simp <;> with_reducible rfl
          try simp only [Act.put, List.setIfInBounds_toArray, List.set_cons_zero, List.set_cons_succ]
          refine wpAnyH_take (i := 13) (oi := { dst := some 102, op := Op.move (Operand.tmp 11), type := 3, pos := "outright.go:54", after := #[{ on := 11, ground := Ground.guard }], guard := some (11, false) }) (v := ?_) rfl (by kernel_rfl) (by kernel_rfl) (by kernel_rfl) (fun _ _ _ h => h) (Or.inl ⟨by rfl, ?_⟩) (by assumption) ?_
          rotate_left
          · intro w0 hSw
            (try dsimp only at hSw)
            go_simp <;> with_reducible rfl
          try simp only [Act.put, List.setIfInBounds_toArray, List.set_cons_zero, List.set_cons_succ]
          refine wpAnyH_take (i := 14) (oi := { dst := some 103, op := Op.move (Operand.tmp 14), type := 23, pos := "outright.go:54", after := #[{ on := 11, ground := Ground.guard }], guard := some (11, false) }) (v := ?_) rfl (by kernel_rfl) (by kernel_rfl) (by kernel_rfl) (fun _ _ _ h => h) (Or.inl ⟨by rfl, ?_⟩) (by assumption) ?_
          rotate_left
          · intro w0 hSw
            (try dsimp only at hSw)
            go_simp <;> with_reducible rfl
          try simp only [Act.put, List.setIfInBounds_toArray, List.set_cons_zero, List.set_cons_succ]
          refine wpAnyH_take (i := 15) (oi := { dst := some 104, op := Op.move (Operand.tmp 16), type := 3, pos := "outright.go:54", after := #[{ on := 11, ground := Ground.guard }], guard := some (11, false) }) (v := ?_) rfl (by kernel_rfl) (by kernel_rfl) (by kernel_rfl) (fun _ _ _ h => h) (Or.inl ⟨by rfl, ?_⟩) (by assumption) ?_
          rotate_left
          · intro w0 hSw
            (try dsimp only at hSw)
            go_simp <;> with_reducible rfl
          try simp only [Act.put, List.setIfInBounds_toArray, List.set_cons_zero, List.set_cons_succ]
          refine wpAnyH_take (i := 16) (oi := { dst := some 105, op := Op.indexAddr 23 (Operand.tmp 103) (Operand.tmp 104), type := 0, pos := "outright.go:54", after := #[{ on := 14, ground := Ground.data }, { on := 15, ground := Ground.data }, { on := 11, ground := Ground.guard }], guard := some (11, false) }) (v := ?_) rfl (by kernel_rfl) (by kernel_rfl) (by kernel_rfl) (fun _ _ _ h => h) (Or.inl ⟨by rfl, ?_⟩) (by assumption) ?_
          rotate_left
          · intro w0 hSw
            (try dsimp only at hSw)
            go_simp <;> with_reducible rfl
          try simp only [Act.put, List.setIfInBounds_toArray, List.set_cons_zero, List.set_cons_succ]
          refine wpAnyH_take (i := 17) (oi := { dst := some 106, op := Op.load 3 (Operand.tmp 105), type := 3, pos := "outright.go:54", after := #[{ on := 16, ground := Ground.data }, { on := 11, ground := Ground.guard }], guard := some (11, false) }) (v := ?_) rfl (by kernel_rfl) (by kernel_rfl) (by kernel_rfl) (fun _ _ _ h => h) (Or.inl ⟨by rfl, ?_⟩) (by assumption) ?_
          rotate_left
          · intro w0 hSw
            (try dsimp only at hSw)
            go_simp <;> with_reducible rfl
          try simp only [Act.put, List.setIfInBounds_toArray, List.set_cons_zero, List.set_cons_succ]
          refine wpAnyH_take (i := 18) (oi := { dst := some 107, op := Op.move (Operand.tmp 12), type := 23, pos := "outright.go:54", after := #[{ on := 11, ground := Ground.guard }], guard := some (11, false) }) (v := ?_) rfl (by kernel_rfl) (by kernel_rfl) (by kernel_rfl) (fun _ _ _ h => h) (Or.inl ⟨by rfl, ?_⟩) (by assumption) ?_
          rotate_left
          · intro w0 hSw
            (try dsimp only at hSw)
            go_simp <;> with_reducible rfl
          try simp only [Act.put, List.setIfInBounds_toArray, List.set_cons_zero, List.set_cons_succ]
          refine wpAnyH_take (i := 19) (oi := { dst := some 108, op := Op.move (Operand.tmp 16), type := 3, pos := "outright.go:54", after := #[{ on := 11, ground := Ground.guard }], guard := some (11, false) }) (v := ?_) rfl (by kernel_rfl) (by kernel_rfl) (by kernel_rfl) (fun _ _ _ h => h) (Or.inl ⟨by rfl, ?_⟩) (by assumption) ?_
          rotate_left
          · intro w0 hSw
            (try dsimp only at hSw)
            go_simp <;> with_reducible rfl
          try simp only [Act.put, List.setIfInBounds_toArray, List.set_cons_zero, List.set_cons_succ]
          refine wpAnyH_take (i := 20) (oi := { dst := some 109, op := Op.slice 23 (Operand.tmp 107) none (some (Operand.tmp 108)) none, type := 23, pos := "outright.go:54", after := #[{ on := 18, ground := Ground.data }, { on := 19, ground := Ground.data }, { on := 11, ground := Ground.guard }], guard := some (11, false) }) (v := ?_) rfl (by kernel_rfl) (by kernel_rfl) (by kernel_rfl) (fun _ _ _ h => h) (Or.inl ⟨by rfl, ?_⟩) (by assumption) ?_
          rotate_left
          · intro w0 hSw
            (try dsimp only at hSw)
            go_simp <;> with_reducible rfl
          try simp only [Act.put, List.setIfInBounds_toArray, List.set_cons_zero, List.set_cons_succ]
          refine wpAnyH_ready (rs := [21]) (by kernel_rfl) (by simp) ?_
          refine AllReadyH.cons (o := { dst := some 110, op := Op.call { callee := Callee.value (Operand.func 10), args := #[Operand.tmp 101, Operand.tmp 102, Operand.tmp 106, Operand.tmp 109], argTypes := #[25, 3, 3, 23] }, type := 29, pos := "outright.go:54", after := #[{ on := 12, ground := Ground.data }, { on := 13, ground := Ground.data }, { on := 17, ground := Ground.data }, { on := 20, ground := Ground.data }, { on := 11, ground := Ground.chain }, { on := 11, ground := Ground.guard }], guard := some (11, false) }) rfl (fun K hK => ?_) AllReadyH.nil
          go_simp
          refine (D1.out _ hb8).mono ?_
          rintro e w9 ⟨rfl, hb9⟩
          have g9 := HA.out _ hb9
          go_wp2_with fail
          refine hK.out _ _ g9 (fun hHeld => ?_)
          clear hK K
          try simp only [Act.put, List.setIfInBounds_toArray, List.set_cons_zero, List.set_cons_succ]
          refine wpAnyH_take (i := 22) (oi := { dst := some 111, op := Op.binOp BinOp.neq 29 (Operand.tmp 110) (Operand.const (Value.int IntKind.i64 0)) 29, type := 4, pos := "outright.go:54", after := #[{ on := 21, ground := Ground.data }, { on := 11, ground := Ground.guard }], guard := some (11, false) }) (v := ?_) rfl (by kernel_rfl) (by kernel_rfl) (by kernel_rfl) (fun _ _ _ h => h) (Or.inl ⟨by rfl, ?_⟩) (by assumption) ?_
          rotate_left
          · intro w0 hSw
            (try dsimp only at hSw)
            go_simp <;> with_reducible rfl
          try simp only [Act.put, List.setIfInBounds_toArray, List.set_cons_zero, List.set_cons_succ]
          refine wpAnyH_take (i := 23) (oi := { dst := some 112, op := Op.pick (Operand.tmp 100) (Operand.const (Value.bool true)) (Operand.tmp 111), type := 4, pos := "outright.go:54", after := #[{ on := 11, ground := Ground.data }, { on := 22, ground := Ground.data }], guard := none }) (v := ?_) rfl (by kernel_rfl) (by kernel_rfl) (by kernel_rfl) (fun _ _ _ h => h) (Or.inl ⟨by rfl, ?_⟩) (by assumption) ?_
          rotate_left
          · intro w0 hSw
            (try dsimp only at hSw)
            go_simp <;> with_reducible rfl
          try simp only [Act.put, List.setIfInBounds_toArray, List.set_cons_zero, List.set_cons_succ]
          refine wpAnyH_take (i := 24) (oi := { dst := some 113, op := Op.move (Operand.tmp 112), type := 4, pos := "outright.go:54", after := #[{ on := 23, ground := Ground.data }, { on := 21, ground := Ground.chain }], guard := none }) (v := ?_) rfl (by kernel_rfl) (by kernel_rfl) (by kernel_rfl) (fun _ _ _ h => h) (Or.inl ⟨by rfl, ?_⟩) (by assumption) ?_
          rotate_left
          · intro w0 hSw
            (try dsimp only at hSw)
            go_simp <;> with_reducible rfl
          try simp only [Act.put, List.setIfInBounds_toArray, List.set_cons_zero, List.set_cons_succ]
          refine wpAnyH_take (i := 25) (oi := { dst := some 114, op := Op.move (Operand.tmp 19), type := 3, pos := "outright.go:54", after := #[{ on := 24, ground := Ground.guard }], guard := some (24, false) }) (v := ?_) rfl (by kernel_rfl) (by kernel_rfl) (by kernel_rfl) (fun _ _ _ h => h) (Or.inl ⟨by rfl, ?_⟩) (by assumption) ?_
          rotate_left
          · intro w0 hSw
            (try dsimp only at hSw)
            go_simp <;> with_reducible rfl
          try simp only [Act.put, List.setIfInBounds_toArray, List.set_cons_zero, List.set_cons_succ]
          refine wpAnyH_take (i := 26) (oi := { dst := some 115, op := Op.move (Operand.tmp 14), type := 23, pos := "outright.go:54", after := #[{ on := 24, ground := Ground.guard }], guard := some (24, false) }) (v := ?_) rfl (by kernel_rfl) (by kernel_rfl) (by kernel_rfl) (fun _ _ _ h => h) (Or.inl ⟨by rfl, ?_⟩) (by assumption) ?_
          rotate_left
          · intro w0 hSw
            (try dsimp only at hSw)
            go_simp <;> with_reducible rfl
          try simp only [Act.put, List.setIfInBounds_toArray, List.set_cons_zero, List.set_cons_succ]
          refine wpAnyH_take (i := 27) (oi := { dst := some 116, op := Op.move (Operand.tmp 16), type := 3, pos := "outright.go:54", after := #[{ on := 24, ground := Ground.guard }], guard := some (24, false) }) (v := ?_) rfl (by kernel_rfl) (by kernel_rfl) (by kernel_rfl) (fun _ _ _ h => h) (Or.inl ⟨by rfl, ?_⟩) (by assumption) ?_
          rotate_left
          · intro w0 hSw
            (try dsimp only at hSw)
            go_simp <;> with_reducible rfl
          try simp only [Act.put, List.setIfInBounds_toArray, List.set_cons_zero, List.set_cons_succ]
          refine wpAnyH_take (i := 28) (oi := { dst := some 117, op := Op.indexAddr 23 (Operand.tmp 115) (Operand.tmp 116), type := 0, pos := "outright.go:54", after := #[{ on := 26, ground := Ground.data }, { on := 27, ground := Ground.data }, { on := 24, ground := Ground.guard }], guard := some (24, false) }) (v := ?_) rfl (by kernel_rfl) (by kernel_rfl) (by kernel_rfl) (fun _ _ _ h => h) (Or.inl ⟨by rfl, ?_⟩) (by assumption) ?_
          rotate_left
          · intro w0 hSw
            (try dsimp only at hSw)
            go_simp <;> with_reducible rfl
          try simp only [Act.put, List.setIfInBounds_toArray, List.set_cons_zero, List.set_cons_succ]
          refine wpAnyH_take (i := 29) (oi := { dst := some 118, op := Op.load 3 (Operand.tmp 117), type := 3, pos := "outright.go:54", after := #[{ on := 28, ground := Ground.data }, { on := 24, ground := Ground.guard }], guard := some (24, false) }) (v := ?_) rfl (by kernel_rfl) (by kernel_rfl) (by kernel_rfl) (fun _ _ _ h => h) (Or.inl ⟨by rfl, ?_⟩) (by assumption) ?_
          rotate_left
          · intro w0 hSw
            (try dsimp only at hSw)
            go_simp <;> with_reducible rfl
          try simp only [Act.put, List.setIfInBounds_toArray, List.set_cons_zero, List.set_cons_succ]
          refine wpAnyH_take (i := 30) (oi := { dst := some 119, op := Op.binOp BinOp.neq 3 (Operand.tmp 114) (Operand.tmp 118) 3, type := 4, pos := "outright.go:54", after := #[{ on := 25, ground := Ground.data }, { on := 29, ground := Ground.data }, { on := 24, ground := Ground.guard }], guard := some (24, false) }) (v := ?_) rfl (by kernel_rfl) (by kernel_rfl) (by kernel_rfl) (fun _ _ _ h => h) (Or.inl ⟨by rfl, ?_⟩) (by assumption) ?_
          rotate_left
          · intro w0 hSw
            (try dsimp only at hSw)
            go_simp <;> with_reducible rfl
          try simp only [Act.put, List.setIfInBounds_toArray, List.set_cons_zero, List.set_cons_succ]
          refine wpAnyH_take (i := 31) (oi := { dst := some 120, op := Op.move (Operand.tmp 119), type := 4, pos := "outright.go:54", after := #[{ on := 30, ground := Ground.data }, { on := 24, ground := Ground.chain }, { on := 24, ground := Ground.guard }], guard := some (24, false) }) (v := ?_) rfl (by kernel_rfl) (by kernel_rfl) (by kernel_rfl) (fun _ _ _ h => h) (Or.inl ⟨by rfl, ?_⟩) (by assumption) ?_
          rotate_left
          · intro w0 hSw
            (try dsimp only at hSw)
            go_simp <;> with_reducible rfl
          try simp only [Act.put, List.setIfInBounds_toArray, List.set_cons_zero, List.set_cons_succ]
          refine wpAnyH_take (i := 32) (oi := { dst := some 121, op := Op.move (Operand.tmp 9), type := 25, pos := "outright.go:54", after := #[{ on := 31, ground := Ground.guard }], guard := some (31, true) }) (v := undef) rfl (by kernel_rfl) (by kernel_rfl) (by kernel_rfl) (fun _ _ _ h => h) (Or.inr ⟨by rfl, rfl⟩) (by assumption) ?_
          try simp only [Act.put, List.setIfInBounds_toArray, List.set_cons_zero, List.set_cons_succ]
          refine wpAnyH_take (i := 33) (oi := { dst := some 122, op := Op.move (Operand.tmp 11), type := 3, pos := "outright.go:54", after := #[{ on := 31, ground := Ground.guard }], guard := some (31, true) }) (v := undef) rfl (by kernel_rfl) (by kernel_rfl) (by kernel_rfl) (fun _ _ _ h => h) (Or.inr ⟨by rfl, rfl⟩) (by assumption) ?_
          try simp only [Act.put, List.setIfInBounds_toArray, List.set_cons_zero, List.set_cons_succ]
          refine wpAnyH_take (i := 34) (oi := { dst := some 123, op := Op.move (Operand.tmp 19), type := 3, pos := "outright.go:54", after := #[{ on := 31, ground := Ground.guard }], guard := some (31, true) }) (v := undef) rfl (by kernel_rfl) (by kernel_rfl) (by kernel_rfl) (fun _ _ _ h => h) (Or.inr ⟨by rfl, rfl⟩) (by assumption) ?_
          try simp only [Act.put, List.setIfInBounds_toArray, List.set_cons_zero, List.set_cons_succ]
          refine wpAnyH_take (i := 35) (oi := { dst := some 124, op := Op.move (Operand.tmp 12), type := 23, pos := "outright.go:54", after := #[{ on := 31, ground := Ground.guard }], guard := some (31, true) }) (v := undef) rfl (by kernel_rfl) (by kernel_rfl) (by kernel_rfl) (fun _ _ _ h => h) (Or.inr ⟨by rfl, rfl⟩) (by assumption) ?_
          try simp only [Act.put, List.setIfInBounds_toArray, List.set_cons_zero, List.set_cons_succ]
          refine wpAnyH_take (i := 36) (oi := { dst := some 125, op := Op.move (Operand.tmp 16), type := 3, pos := "outright.go:54", after := #[{ on := 31, ground := Ground.guard }], guard := some (31, true) }) (v := undef) rfl (by kernel_rfl) (by kernel_rfl) (by kernel_rfl) (fun _ _ _ h => h) (Or.inr ⟨by rfl, rfl⟩) (by assumption) ?_
          try simp only [Act.put, List.setIfInBounds_toArray, List.set_cons_zero, List.set_cons_succ]
          refine wpAnyH_take (i := 37) (oi := { dst := some 126, op := Op.slice 23 (Operand.tmp 124) none (some (Operand.tmp 125)) none, type := 23, pos := "outright.go:54", after := #[{ on := 35, ground := Ground.data }, { on := 36, ground := Ground.data }, { on := 31, ground := Ground.guard }], guard := some (31, true) }) (v := undef) rfl (by kernel_rfl) (by kernel_rfl) (by kernel_rfl) (fun _ _ _ h => h) (Or.inr ⟨by rfl, rfl⟩) (by assumption) ?_
          try simp only [Act.put, List.setIfInBounds_toArray, List.set_cons_zero, List.set_cons_succ]
          refine wpAnyH_take (i := 38) (oi := { dst := some 127, op := Op.call { callee := Callee.value (Operand.func 10), args := #[Operand.tmp 121, Operand.tmp 122, Operand.tmp 123, Operand.tmp 126], argTypes := #[25, 3, 3, 23] }, type := 29, pos := "outright.go:54", after := #[{ on := 32, ground := Ground.data }, { on := 33, ground := Ground.data }, { on := 34, ground := Ground.data }, { on := 37, ground := Ground.data }, { on := 31, ground := Ground.chain }, { on := 31, ground := Ground.guard }], guard := some (31, true) }) (v := undef) rfl (by kernel_rfl) (by kernel_rfl) (by kernel_rfl) (fun _ _ _ h => h) (Or.inr ⟨by rfl, rfl⟩) (by assumption) ?_
          try simp only [Act.put, List.setIfInBounds_toArray, List.set_cons_zero, List.set_cons_succ]
          refine wpAnyH_take (i := 39) (oi := { dst := some 128, op := Op.binOp BinOp.neq 29 (Operand.tmp 127) (Operand.const (Value.int IntKind.i64 8)) 29, type := 4, pos := "outright.go:54", after := #[{ on := 38, ground := Ground.data }, { on := 31, ground := Ground.guard }], guard := some (31, true) }) (v := undef) rfl (by kernel_rfl) (by kernel_rfl) (by kernel_rfl) (fun _ _ _ h => h) (Or.inr ⟨by rfl, rfl⟩) (by assumption) ?_
          try simp only [Act.put, List.setIfInBounds_toArray, List.set_cons_zero, List.set_cons_succ]
          refine wpAnyH_take (i := 40) (oi := { dst := some 129, op := Op.pick (Operand.tmp 120) (Operand.tmp 128) (Operand.const (Value.bool false)), type := 4, pos := "outright.go:54", after := #[{ on := 31, ground := Ground.data }, { on := 39, ground := Ground.data }, { on := 24, ground := Ground.guard }], guard := some (24, false) }) (v := ?_) rfl (by kernel_rfl) (by kernel_rfl) (by kernel_rfl) (fun _ _ _ h => h) (Or.inl ⟨by rfl, ?_⟩) (by assumption) ?_
          rotate_left
          · intro w0 hSw
            (try dsimp only at hSw)
            go_simp <;> with_reducible rfl
          try simp only [Act.put, List.setIfInBounds_toArray, List.set_cons_zero, List.set_cons_succ]
          refine wpAnyH_take (i := 41) (oi := { dst := some 130, op := Op.pick (Operand.tmp 113) (Operand.const (Value.bool true)) (Operand.tmp 129), type := 4, pos := "outright.go:54", after := #[{ on := 24, ground := Ground.data }, { on := 40, ground := Ground.data }], guard := none }) (v := ?_) rfl (by kernel_rfl) (by kernel_rfl) (by kernel_rfl) (fun _ _ _ h => h) (Or.inl ⟨by rfl, ?_⟩) (by assumption) ?_
          rotate_left
          · intro w0 hSw
            (try dsimp only at hSw)
            go_simp <;> with_reducible rfl
          try simp only [Act.put, List.setIfInBounds_toArray, List.set_cons_zero, List.set_cons_succ]
          refine wpAnyH_done (by kernel_rfl) ?_ _
          all_goals
            go_wp2_with fail
            go_meet
            exact ⟨rfl, hb9⟩
        · have hoc1 : ((o : Int) != (ci : Int)) = true := bne_iff_ne.2 (by omega)
          have hoc2 : (o != ci) = true := bne_iff_ne.2 hoc
          have D2' : Hid (∀ W, Below wc.heap.size wc W → Calls Try.prog 10 #[.pointer (some ⟨p, 0, none⟩), .int .i64 s, .int .i64 o, .slice a3 k k3] W fun e w' => e = .returned (.int .i64 8) ∧ Below wc.heap.size wc w') := fun W hW => D2.out hoc W hW
          clear D2
          go_region_held3 (fun w' => w'.cell? ⟨b4, o4 + k, none⟩ = some (.int .i64 (ci : Nat))) (go_keep) (first
            | (go_at_call 10; refine (D2'.out _ hb9).mono ?_; rintro e w10 ⟨rfl, hb10⟩; have g10 := HA.out _ hb10)
            | (go_at_call 10; refine (D1.out _ hb8).mono ?_; rintro e w9 ⟨rfl, hb9⟩; have g9 := HA.out _ hb9)
            | (go_at_call 16; refine (DI.out _ hd).mono ?_; rintro e w8 ⟨rfl, hb8⟩; have g8 := HA.out _ hb8))
          all_goals
            go_wp2_with fail
            go_meet
            exact ⟨rfl, hb10⟩
      case rest =>
      obtain ⟨rfl, hb8⟩ := hcut
      have hb9 := HBW.out _ hb8
      go_wp2_with fail
      go_roundw
      case rel => exact ⟨k + 1, by omega, by go_num, hb9⟩
      case measure => simp [intOf]; omega
    · have k1 : ¬ (k : Int) ≤ (I : Int) := by omega
      have hb5 := below_on hb4' hbr
      go_wp2_with fail
      go_ret
      exact ⟨rfl, hb5⟩
end Go.Proofs.Ytjnihkfnnokmdaa
