/-
  The walk of the law MeshLast.
-/
import Derived.Test.YtleckkpfnjpbiaaMeshLawC
import Derived.Deep.DeepCutAuto
namespace Go.Proofs.Ytleckkpfnjpbiaa
open Go.RowKit

namespace XM
/-- Vertices other than a and b are contracted, among them those less than k: from a to b, and back, it is as far as at first. -/
structure LE (N : Nat) (T : Nat → Nat → Int) (a b : Nat) (E : Nat → Nat → Int) (k : Nat) : Prop where
  m : Mesh N E
  ab : Far E N a b (T a b)
  ba : Far E N b a (T b a)
  gone : ∀ v, v < k → v ≠ a → v ≠ b → Gone E v
theorem LE.con {N : Nat} {T : Nat → Nat → Int} {a b : Nat} {E : Nat → Nat → Int} {k v : Nat} (h : LE N T a b E k) (hv : v < N) (ha : v ≠ a) (hb : v ≠ b) : LE N T a b (con E v) k :=
  ⟨h.m.con, h.ab.con h.m.ok hv ha.symm hb.symm, h.ba.con h.m.ok hv hb.symm ha.symm, fun x hx h1 h2 => (h.gone x hx h1 h2).con h.m.ok v⟩
theorem LE.next {N : Nat} {T : Nat → Nat → Int} {a b : Nat} {E : Nat → Nat → Int} {k : Nat} (h : LE N T a b E k) (hv : k < N) (ha : k ≠ a) (hb : k ≠ b) : LE N T a b (XM.con E k) (k + 1) := by
  refine ⟨(h.con hv ha hb).m, (h.con hv ha hb).ab, (h.con hv ha hb).ba, fun x hx h1 h2 => ?_⟩
  by_cases e : x = k
  · rw [e]; exact gone_con E k
  · exact (h.con hv ha hb).gone x (by omega) h1 h2
theorem LE.pass {N : Nat} {T : Nat → Nat → Int} {a b : Nat} {E : Nat → Nat → Int} {k : Nat} (h : LE N T a b E k) (hab : k = a ∨ k = b) : LE N T a b E (k + 1) :=
  ⟨h.m, h.ab, h.ba, fun x hx h1 h2 => h.gone x (by omega) h1 h2⟩
theorem LE.none {N : Nat} {T : Nat → Nat → Int} {a b : Nat} {E : Nat → Nat → Int} (h : LE N T a b E N) : ∀ w, w ≠ b → E a w = 4611686018427387906 := fun w hw => by
  by_cases e : w = a
  · rw [e]; exact h.m.ok.self a
  · by_cases hl : w < N
    · exact (h.gone w hl e hw a).1
    · exact h.m.out a w (.inr (by omega))
theorem LE.swap {N : Nat} {T : Nat → Nat → Int} {a b : Nat} {E : Nat → Nat → Int} {k : Nat} (h : LE N T a b E k) : LE N T b a E k := ⟨h.m, h.ba, h.ab, fun v h1 h2 h3 => h.gone v h1 h3 h2⟩
theorem LE.last {N : Nat} {T : Nat → Nat → Int} {a b : Nat} {E : Nat → Nat → Int} (h : LE N T a b E N) (hb : b < N) (hne : a ≠ b) : E a b = T a b := (Far.last h.m.ok hb hne h.none).unique h.ab
end XM
/-- What the law has while vertices are contracted. -/
structure LI (w1 : World) (p q fb N : Nat) (D T E : Nat → Nat → Int) (W : World) : Prop where
  s : St w1 w1.heap.size p q N E D W
  f : TMem W fb T
  pf : p < fb
theorem LI.on {w1 : World} {p q fb N : Nat} {D T E : Nat → Nat → Int} {W W' : World} (h : LI w1 p q fb N D T E W) (hb : Below W.heap.size W W') : LI w1 p q fb N D T E W' := ⟨h.s.on hb, h.f.on hb, h.pf⟩
theorem LI.left {w1 : World} {p q fb N : Nat} {D T E E' : Nat → Nat → Int} {W W' : World} (h : LI w1 p q fb N D T E W) (hk : Keeps (fun b => b = p) W W') (hX : XMem W' p N E') : LI w1 p q fb N D T E' W' := ⟨h.s.left hk hX, h.f.of_block (hk.block _ h.f.lt (by have := h.pf; omega)), h.pf⟩

set_option maxHeartbeats 4000000 in
set_option maxRecDepth 100000 in
theorem last_walk (n : Int) (v : Value) (xs : List Stp) (v2 : Value) (zs : List Int) (u t : Int) (w : World) (hn0 : 0 ≤ n) (hn1 : n ≤ 255) (hch : Stps w v xs) (hrow : Row .u8 w v2 zs) (hbd : ∀ z ∈ zs, 0 ≤ z ∧ z ≤ 255) (hu0 : 0 ≤ u) (hu1 : u ≤ 255) (ht0 : 0 ≤ t) (ht1 : t ≤ 255) :
    Calls Try.prog 6 #[.int .u8 n, v, v2, .int .u8 u, .int .u8 t] w fun e w' => e = .returned (.bool true) ∧ Below w.heap.size w w' := by
  have haw := awakeX_any w
  have HMD : Hid (∀ W, Below w.heap.size w W → Calls Try.prog 20 #[.int .u8 n, v] W fun e w' => ∃ p q, e = .returned (.tuple #[.pointer (some ⟨p, 0, none⟩), .pointer (some ⟨q, 0, none⟩)]) ∧ ∃ N, (1 ≤ N ∧ N ≤ 24) ∧ St W W.heap.size p q N (XM.made N xs (min xs.length 400)) (XM.made N xs (min xs.length 400)) w') := fun W hW => madeX_any n v xs W hn0 hn1 (hch.on hW)
  have HMM : Hid (∀ N, XM.Mesh N (XM.made N xs (min xs.length 400))) := fun N => XM.made_mesh N xs _
  obtain ⟨un, rfl⟩ : ∃ un : Nat, u = un := ⟨u.toNat, by omega⟩
  obtain ⟨tn, rfl⟩ : ∃ tn : Nat, t = tn := ⟨t.toNat, by omega⟩
  clear hn0 hn1
  obtain ⟨ao, cap, rfl, -, -⟩ := hch
  obtain ⟨a2, cap2, rfl, hat⟩ := hrow
  have hz1 := hat.1
  have hz2 := hat.2.1
  have hz3 : zs.length ≤ 9223372036854775807 := by unfold maxLen at hz2; omega
  have hz1I : (zs.length : Int) ≤ (cap2 : Int) := by omega
  obtain ⟨C, hC⟩ : ∃ C, C = zs.length := ⟨_, rfl⟩
  have HAT : Hid (0 < C → ∃ b o, a2 = some ⟨b, o, none⟩ ∧ ∀ i, i < C → ∃ zn : Nat, zn ≤ 255 ∧ w.cell? ⟨b, o + i, none⟩ = some (.int .u8 (zn : Nat))) := fun h0 => by
    obtain ⟨b, o, e, hc⟩ := hat.2.2.2 (by omega)
    refine ⟨b, o, e, fun i hi => ?_⟩
    have := hc i (by omega)
    have hil : i < zs.length := by omega
    have hb := hbd zs[i] (List.getElem_mem hil)
    refine ⟨zs[i].toNat, by omega, ?_⟩
    rw [List.getElem?_eq_getElem hil, Option.getD_some] at this
    rw [this, show ((zs[i].toNat : Nat) : Int) = zs[i] by omega]
  rw [← hC] at hz1I hz3 ⊢
  clear hat hz1 hz2 hC hbd
  generalize xs.length = L at *
  go_enter Try.func6, Try.ntmps6
  go_wp2_with fail
  refine haw.mono ?_
  rintro e w1 ⟨rfl, hb1⟩
  clear haw
  go_wp2_with fail
  refine (HMD.out w1 hb1).mono ?_
  rintro e w2 ⟨p, q, rfl, N, ⟨hN1, hN2⟩, hS2⟩
  have hMD := HMM.out N
  generalize XM.made N xs (min L 400) = D at *
  have HS2 : Hid (St w1 w1.heap.size p q N D D w2) := hS2
  have HM : Hid (XM.Mesh N D ∧ 1 ≤ N ∧ N ≤ 24) := ⟨hMD, hN1, hN2⟩
  have HW1 : Hid (Below w.heap.size w w1) := hb1
  have c0 := hS2.xq.c0
  obtain ⟨a, ha⟩ : ∃ a, a = un % N := ⟨_, rfl⟩
  obtain ⟨b, hb⟩ : ∃ b, b = tn % N := ⟨_, rfl⟩
  have hN0 : ¬ N = 0 := by omega
  have hN0I : ¬ (N : Int) = 0 := by omega
  have hra : (un : Int).tmod (N : Int) = (a : Int) := by rw [ha, Int.tmod_eq_emod_of_nonneg (by omega)]; omega
  have hrb : (tn : Int).tmod (N : Int) = (b : Int) := by rw [hb, Int.tmod_eq_emod_of_nonneg (by omega)]; omega
  have haN : a < N := by rw [ha]; exact Nat.mod_lt _ (by omega)
  have hbN : b < N := by rw [hb]; exact Nat.mod_lt _ (by omega)
  clear HMD HMM hb1 hS2 hMD hN1 ha hb
  go_upto_region 6 with fail
  go_quiet (fail)
  have HSQ : Hid (St w1 w1.heap.size p q N D D (w2.drewN nq)) := HS2.out.on (below_drewN (Below.refl _ _) nq)
  generalize w2.drewN nq = w3 at *
  clear c0 hra hrb HS2
  have hall := xall_any HSQ.out.xq HM.out.1 HM.out.2.2
  have hz := zeroT
  have HZ : Hid (zT.size = 576) := zT_size
  generalize zT = Z0 at *
  go_wp2_with fail
  refine hall.mono ?_
  rintro e w5 ⟨T, rfl, hT, hb5⟩
  have HLE : Hid (XM.LE N T a b D 0) := ⟨HM.out.1, hT a b haN hbN, hT b a hbN haN, fun v hv => by omega⟩
  have HTL : Hid ((tabCells T).toArray.size = 576) := by
    show _ = _
    rw [List.size_toArray]
    exact tabCells_len T
  have HTO : Hid ((tabCells T).toArray.all (·.oneCell') = true) := all_one (tabCells_one T)
  have HTN : Hid (TMem (w5.alloc (.cells (tabCells T).toArray 52)) w5.heap.size T) := tmem_new w5 T _
  have HS5 : Hid (St w1 w1.heap.size p q N D D w5) := HSQ.out.on hb5
  clear hall hT hb5 HSQ
  generalize tabCells T = TC at *
  go_wp2_with (refine wpList_store_row rfl 52 (.tmp 15) (.tmp 44) rfl w5.heap.size TC.toArray rfl rfl 52 Z0 (heap_alloc_last w5 _) (by rw [HTL.out]; exact infoT) (by rw [HZ.out, HTL.out]) HTO.out ?_; rw [World.setRow_alloc_new])
  have HLI : Hid (LI w1 p q w5.heap.size N D T D (w5.alloc (.cells TC.toArray 52))) := ⟨HS5.out.on ((Below.refl _ _).alloc (Nat.le_refl _) _), HTN.out, HS5.out.xp.lt⟩
  clear HS5 HTL HTO HTN HZ hz
  generalize w5.alloc (.cells TC.toArray 52) = W8 at *
  generalize w5.heap.size = fb at *
  have HBW : Hid (∀ W E, LI w1 p q fb N D T E W → Below w.heap.size w W) := fun W E h => below_on HW1.out h.s.bel
  clear HW1
  have HAB : Hid (a < N ∧ b < N ∧ N ≤ 24) := ⟨haN, hbN, HM.out.2.2⟩
  clear haN hbN
  go_loopw [16] (fun iv wr => ∃ (k : Nat) (E : Nat → Nat → Int), k ≤ C ∧ k ≤ 100 ∧ iv = .int .i64 k ∧ LI w1 p q fb N D T E wr ∧ XM.LE N T a b E 0) (fun iv _ => C - (intOf iv).toNat)
  case atStart => exact ⟨0, D, Nat.zero_le _, by decide, rfl, HLI.out, HLE.out⟩
  case round =>
    clear HLI HLE
    obtain ⟨k, E, hk, hk2, rfl, hLI, hLE⟩ := hrel
    have HLI : Hid (LI w1 p q fb N D T E wr) := hLI
    have HLE : Hid (XM.LE N T a b E 0) := hLE
    by_cases hlt : k < C ∧ k < 100
    · obtain ⟨b2, o2, rfl, hcz⟩ := HAT.out (by omega)
      obtain ⟨zn, hzn, hcz⟩ := hcz k hlt.1
      have cz := ((HBW.out wr E hLI).cell (p := ⟨b2, o2 + k, none⟩) (cell_lt hcz)).trans hcz
      have c0 := hLI.s.xq.c0
      have k1 : (k : Int) < (C : Int) := by omega
      have k4 : (k : Int) < 100 := by omega
      have hznI : (zn : Int) ≤ 255 := by omega
      obtain ⟨x, hx⟩ : ∃ x, x = zn % N := ⟨_, rfl⟩
      have hrx : (zn : Int).tmod (N : Int) = (x : Int) := by rw [hx, Int.tmod_eq_emod_of_nonneg (by omega)]; omega
      have hxN : x < N := by rw [hx]; exact Nat.mod_lt _ (by omega)
      clear hcz hLI hLE hlt hx
      go_upto_region 11 with fail
      go_quiet (fail)
      have HLQ : Hid (LI w1 p q fb N D T E (wr.drewN nq)) := HLI.out.on (below_drewN (Below.refl _ _) nq)
      generalize wr.drewN nq = wq at *
      clear c0 cz hrx HLI
      by_cases hxa : x = a
      · have hne : ((x : Int) != (a : Int)) = false := by simp [hxa]
        clear hxa
        go_wp2_with fail
        go_roundw
        case rel => exact ⟨k + 1, E, by omega, by omega, by go_num, HLQ.out, HLE.out⟩
        case measure => simp [intOf]; omega
      · have hne : ((x : Int) != (a : Int)) = true := by simp; omega
        by_cases hxb : x = b
        · have hne2 : ((x : Int) != (b : Int)) = false := by simp [hxb]
          clear hxa hxb
          go_wp2_with fail
          go_roundw
          case rel => exact ⟨k + 1, E, by omega, by omega, by go_num, HLQ.out, HLE.out⟩
          case measure => simp [intOf]; omega
        · have hne2 : ((x : Int) != (b : Int)) = true := by simp; omega
          have hcon := xcon_ok HLQ.out.s.xp HLE.out.m HAB.out.2.2 x hxN
          have HE2 : Hid (XM.LE N T a b (XM.con E x) 0) := HLE.out.con hxN hxa hxb
          clear hxa hxb
          go_wp2_with fail
          refine hcon.mono ?_
          rintro e w9 ⟨rfl, hX9, hK9⟩
          have HL9 : Hid (LI w1 p q fb N D T (XM.con E x) w9) := HLQ.out.left hK9 hX9
          clear hcon hX9 hK9
          go_wp2_with fail
          go_roundw
          case rel => exact ⟨k + 1, _, by omega, by omega, by go_num, HL9.out, HE2.out⟩
          case measure => simp [intOf]; omega
    · have hkn : ¬ ((k : Int) < (C : Int) ∧ (k : Int) < 100) := by omega
      clear hLI hLE
      by_cases hkl : (k : Int) < (C : Int)
      all_goals
        first
        | have h4 : ¬ (k : Int) < 100 := fun h => hkn ⟨hkl, h⟩
        | skip
        clear hkn
        go_wp2_with fail
        go_loopw [18] (fun iv wr' => ∃ (j : Nat) (E : Nat → Nat → Int), j ≤ N ∧ iv = .int .i64 j ∧ LI w1 p q fb N D T E wr' ∧ XM.LE N T a b E j) (fun iv _ => N - (intOf iv).toNat)
        case atStart => exact ⟨0, E, Nat.zero_le _, rfl, HLI.out, HLE.out⟩
        case round =>
          clear HLI HLE
          rename_i wr0 hwr0
          obtain ⟨j, E2, hj, rfl, hLI, hLE⟩ := hrel
          have HLI : Hid (LI w1 p q fb N D T E2 wr) := hLI
          have HLE : Hid (XM.LE N T a b E2 j) := hLE
          have c0 := hLI.s.xq.c0
          have hjN : (j : Int) ≤ (N : Int) := by omega
          clear hLI hLE
          by_cases hjl : j < N
          · have j1 : (j : Int) < (N : Int) := by omega
            by_cases hxa : j = a
            · have hne : ((j : Int) != (a : Int)) = false := by simp [hxa]
              have HE3 : Hid (XM.LE N T a b E2 (j + 1)) := HLE.out.pass (.inl hxa)
              clear hxa
              go_wp2_with fail
              go_roundw
              case rel => exact ⟨j + 1, E2, by omega, by go_num, HLI.out, HE3.out⟩
              case measure => simp [intOf]; omega
            · have hne : ((j : Int) != (a : Int)) = true := by simp; omega
              by_cases hxb : j = b
              · have hne2 : ((j : Int) != (b : Int)) = false := by simp [hxb]
                have HE3 : Hid (XM.LE N T a b E2 (j + 1)) := HLE.out.pass (.inr hxb)
                clear hxa hxb
                go_wp2_with fail
                go_roundw
                case rel => exact ⟨j + 1, E2, by omega, by go_num, HLI.out, HE3.out⟩
                case measure => simp [intOf]; omega
              · have hne2 : ((j : Int) != (b : Int)) = true := by simp; omega
                have hcon := xcon_ok HLI.out.s.xp HLE.out.m HAB.out.2.2 j hjl
                have HE3 : Hid (XM.LE N T a b (XM.con E2 j) (j + 1)) := HLE.out.next hjl hxa hxb
                clear hxa hxb
                go_wp2_with fail
                refine hcon.mono ?_
                rintro e w9 ⟨rfl, hX9, hK9⟩
                have HL9 : Hid (LI w1 p q fb N D T (XM.con E2 j) w9) := HLI.out.left hK9 hX9
                clear hcon hX9 hK9 c0
                go_wp2_with fail
                go_roundw
                case rel => exact ⟨j + 1, _, by omega, by go_num, HL9.out, HE3.out⟩
                case measure => simp [intOf]; omega
          · obtain rfl : j = N := by omega
            have HBF : Hid (Below w.heap.size w wr) := HBW.out _ _ HLI.out
            by_cases hab : a = b
            · subst hab
              have hat := xat_any HLI.out.s.xp HAB.out.2.2 (a : Nat) (a : Nat)
              rw [XM.atE_self HLE.out.m] at hat
              go_wp2_with fail
              refine hat.mono ?_
              rintro e w9 ⟨rfl, hw9⟩
              rw [hw9]
              clear hw9 w9 hat
              go_wp2_with fail
              go_ret
              exact ⟨rfl, HBF.out⟩
            · have hne : ((a : Int) == (b : Int)) = false := beq_eq_false_iff_ne.2 (by omega)
              obtain ⟨haN, hbN, hN24⟩ := HAB.out
              have e1 := HLE.out.last hbN hab
              have e2 := HLE.out.swap.last haN (fun e => hab e.symm)
              have cf1 := HLI.out.f.c a b (by omega) (by omega)
              have cf2 := HLI.out.f.c b a (by omega) (by omega)
              rw [← e1, ← XM.atE_nat HLE.out.m] at cf1
              rw [← e2, ← XM.atE_nat HLE.out.m] at cf2
              have HA : Hid (∀ W, Below wr.heap.size wr W → ∀ x y : Int, Calls Try.prog 26 #[.pointer (some ⟨p, 0, none⟩), .int .i64 x, .int .i64 y] W fun e w' => e = .returned (.int .i64 (XM.atE j E2 x y)) ∧ w' = W) := fun W hW x y => xat_any (HLI.out.on hW).s.xp hN24 x y
              have a24 : (a : Int) < 24 := by omega
              have b24 : (b : Int) < 24 := by omega
              clear e1 e2 haN hbN hN24 hab HLE
              generalize XM.atE j E2 = F at *
              go_upto_region 21 with fail
              go_quiet ((go_at_call 26; exact Calls.quiet_of_same (HA.out _ (below_drewN (Below.refl _ _) _) _ _)))
              have HBQ : Hid (Below w.heap.size w (wr.drewN nq)) := below_drewN HBF.out nq
              clear cf1 cf2 c0
              go_wp2_with fail
              go_ret
              exact ⟨by simp, HBQ.out⟩
end Go.Proofs.Ytleckkpfnjpbiaa
