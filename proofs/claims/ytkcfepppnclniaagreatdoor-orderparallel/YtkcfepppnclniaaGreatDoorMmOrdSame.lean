/-
  OrdSame, WalkInnM, OrdParW, OrdPar.
-/
import Derived.Test.YtkcfepppnclniaaGreatDoorMmOrdMath
import Derived.Test.YtkcfepppnclniaaGreatDoorMmGraphRef4
import Derived.Test.YtkcfepppnclniaaGreatDoorMmWalkMath
import Derived.Test.YtkcfepppnclniaaGreatDoorMmGraphActs
import Derived.Test.YtkcfepppnclniaaGreatDoorMmWitMath
import Derived.Test.YtkcfepppnclniaaGreatDoorMmOrdFull
import Derived.Deep.DeepCutAuto
section
/-
  An arc beside a better one changes nothing of a graph's mesh (layer 14). Nothing of the program.
-/
namespace Go.Proofs.YtkcfepppnclniaaGreatDoor
namespace GM
/-- What fits is not less than the best one. -/
theorem best_le {most : Nat} {m : M} (hg : Good most m) (u v : Int) {i : Nat} (hi : i < 64) (h1 : is m i = true) (h2 : fits u v (arc m i) = true) : (best m u v 64).1 ≤ (arc m i).weight := by
  rcases best_is hg u v 64 (Nat.le_refl _) with ⟨-, h⟩ | ⟨j, -, -, -, e, h⟩
  · rw [h i hi h1] at h2
    cases h2
  · rw [e]
    exact (h i hi h1 h2).1
/-- One more arc, not better than one that fits where it fits. -/
theorem best_more {most : Nat} {m : M} (hg : Good most m) {f j : Nat} {a : Arc} (hg' : Good most (upd m f (some a))) (hf : is m f = false) (hj : j < 64) (hm : is m j = true) (u v : Int) (hw : fits u v a = true → fits u v (arc m j) = true ∧ (arc m j).weight ≤ a.weight) : (best (upd m f (some a)) u v 64).1 = (best m u v 64).1 := by
  have e1 : ∀ i, i ≠ f → is (upd m f (some a)) i = is m i ∧ arc (upd m f (some a)) i = arc m i := fun i hi => by
    rw [is_upd, arc_upd, if_neg hi, if_neg hi]
    exact ⟨rfl, rfl⟩
  have e2 : arc (upd m f (some a)) f = a := by rw [arc_upd, if_pos rfl]; rfl
  have hne : ∀ i, is m i = true → i ≠ f := fun i hi e => by
    rw [e, hf] at hi
    cases hi
  apply Int.le_antisymm
  · rcases best_is hg u v 64 (Nat.le_refl _) with ⟨h, -⟩ | ⟨i, h1, h2, h3, h4, -⟩
    · rw [h]
      exact (XM.best_lo hg' u v).2
    · rw [h4]
      obtain ⟨g1, g2⟩ := e1 i (hne i h2)
      have := best_le hg' u v h1 (by rw [g1]; exact h2) (by rw [g2]; exact h3)
      rw [g2] at this
      exact this
  · rcases best_is hg' u v 64 (Nat.le_refl _) with ⟨h, -⟩ | ⟨i, h1, h2, h3, h4, -⟩
    · rw [h]
      exact (XM.best_lo hg u v).2
    · rw [h4]
      by_cases e : i = f
      · rw [e, e2] at h3 ⊢
        obtain ⟨g1, g2⟩ := hw h3
        exact Int.le_trans (best_le hg u v hj hm g1) g2
      · obtain ⟨g1, g2⟩ := e1 i e
        rw [g1] at h2
        rw [g2] at h3 ⊢
        exact best_le hg u v h1 h2 h3
theorem ofD_more {most : Nat} {m : M} (hg : Good most m) {f j : Nat} {a : Arc} (hg' : Good most (upd m f (some a))) (hf : is m f = false) (hj : j < 64) (hm : is m j = true) (ht : a.tail = (arc m j).tail) (hh : a.head = (arc m j).head) (hc : a.closed = (decide (a.weight < (arc m j).weight) || (arc m j).closed && decide ((arc m j).tail ≠ (arc m j).head))) (N : Nat) : XM.ofD (upd m f (some a)) N N 0 = XM.ofD m N N 0 := by
  funext x y
  unfold XM.ofD
  by_cases h : (x < N ∨ x = N ∧ y < 0) ∧ y < N ∧ x ≠ y
  · rw [if_pos h, if_pos h]
    refine best_more hg hg' hf hj hm _ _ (fun hfit => ?_)
    unfold fits at hfit ⊢
    rw [Bool.and_eq_true, Bool.and_eq_true] at hfit
    obtain ⟨⟨h1, h2⟩, h3⟩ := hfit
    have h1 := of_decide_eq_true h1
    have h2 := of_decide_eq_true h2
    rw [hc] at h3
    rw [ht] at h1
    rw [hh] at h2
    have hne : (arc m j).tail ≠ (arc m j).head := by rw [h1, h2]; omega
    rw [decide_eq_true hne, Bool.and_true, Bool.not_or, Bool.and_eq_true] at h3
    have h4 : ¬ a.weight < (arc m j).weight := by simpa using h3.1
    refine ⟨?_, by omega⟩
    rw [decide_eq_true h1, decide_eq_true h2, h3.2]
    rfl
  · rw [if_neg h, if_neg h]
theorem ids_free {m : M} {f : Nat} (hf : is m f = false) : ∀ k, f < k → (ids m k).length < k
  | 0, h => by omega
  | k + 1, h => by
    by_cases e : f = k
    · rw [e] at hf
      rw [ids_skip hf]
      have := ids_le m k
      omega
    · have ih := ids_free hf k (by omega)
      cases h : is m k with
      | true => rw [ids_take h, List.length_append, List.length_singleton]; omega
      | false => rw [ids_skip h]; omega
/-- Where a place is free there is room. -/
theorem cnt_free {m : M} {f : Nat} (h : f < 64) (hf : is m f = false) : cnt m < 64 := ids_free hf 64 h
/-- The arc beside another is let in. -/
theorem ins_beside {n : Nat} {m : M} {f : Nat} {a : Arc} (h : f < 64) (hf : is m f = false) (ht : vert n a.tail = true) (hh : vert n a.head = true) (hw : okW a.weight = true) : insCode n 64 m (f : Int) a = 0 ∧ ins n 64 m (f : Int) a = upd m f (some a) := by
  have hc := cnt_free h hf
  have hp : place (f : Int) = true := decide_eq_true (by omega)
  have e : insCode n 64 m (f : Int) a = 0 := by
    unfold insCode
    rw [hp, ht, hh, hw, Int.toNat_natCast, hf]
    simp [hc]
  refine ⟨e, ?_⟩
  unfold ins
  rw [if_pos e, Int.toNat_natCast]
end GM
end Go.Proofs.YtkcfepppnclniaaGreatDoor
end

section
/-
  Every arc of a graph that changes have made leads from a vertex to one.
-/
namespace Go.Proofs.YtkcfepppnclniaaGreatDoor
open Go.RowKit

namespace WK
def Inn (N : Nat) (m : GM.M) : Prop := ∀ i a, m i = some a → GM.vert N a.tail = true ∧ GM.vert N a.head = true
theorem Inn.upd {N : Nat} {m : GM.M} (h : Inn N m) (i : Nat) (x : Option Arc) (hx : ∀ a, x = some a → GM.vert N a.tail = true ∧ GM.vert N a.head = true) : Inn N (GM.upd m i x) := fun j a hj => by
  unfold GM.upd at hj
  split at hj
  · exact hx a hj
  · exact h j a hj
theorem Inn.zero (N : Nat) : Inn N GM.none0 := fun i a h => by simp [GM.none0] at h
theorem Inn.at {N : Nat} {m : GM.M} (h : Inn N m) {i : Nat} (hi : GM.is m i = true) : GM.vert N (GM.arc m i).tail = true ∧ GM.vert N (GM.arc m i).head = true := by
  unfold GM.is at hi
  unfold GM.arc
  cases e : m i with
  | none => rw [e] at hi; cases hi
  | some a => exact h i a e
theorem Inn.ins {N most : Nat} {m : GM.M} (h : Inn N m) (id : Int) (a : Arc) : Inn N (GM.ins N most m id a) := by
  unfold GM.ins
  split
  · rename_i hc
    refine h.upd _ _ (fun b hb => ?_)
    injection hb with hb
    subst hb
    unfold GM.insCode at hc
    split at hc
    · rename_i hp
      simp only [Bool.and_eq_true] at hp
      exact ⟨hp.1.1.2, hp.1.2⟩
    · cases hc
  · exact h
theorem Inn.del {N : Nat} {m : GM.M} (h : Inn N m) (id : Int) : Inn N (GM.del m id) := by
  unfold GM.del
  split
  · exact h.upd _ _ (fun a ha => by cases ha)
  · exact h
theorem at_is {m : GM.M} {id : Int} (h : GM.atCode m id = 0) : GM.is m id.toNat = true := by
  obtain ⟨i, rfl, -, hi⟩ := GM.atCode_zero h
  rwa [Int.toNat_natCast]
theorem Inn.turn {N : Nat} {m : GM.M} (h : Inn N m) (id : Int) (c : Bool) : Inn N (GM.turn m id c) := by
  unfold GM.turn
  split
  · rename_i hc
    refine h.upd _ _ (fun b hb => ?_)
    injection hb with hb
    subst hb
    unfold GM.turnCode at hc
    split at hc
    · rename_i h0
      exact h.at (at_is h0)
    · rename_i h0
      exact absurd hc h0
  · exact h
theorem Inn.weigh {N : Nat} {m : GM.M} (h : Inn N m) (id : Int) (x : Int) : Inn N (GM.weigh m id x) := by
  unfold GM.weigh
  split
  · rename_i hc
    refine h.upd _ _ (fun b hb => ?_)
    injection hb with hb
    subst hb
    unfold GM.weighCode at hc
    split at hc
    · exact h.at (at_is hc)
    · cases hc
  · exact h
theorem Inn.made (N : Nat) (xs : List Chg) : ∀ k, Inn N (GM.made N xs k)
  | 0 => Inn.zero N
  | k + 1 => by
    have h := Inn.made N xs k
    unfold GM.made GM.next
    split
    · exact h.ins _ _
    split
    · exact h.del _
    split
    · exact h.turn _ _
    split
    · exact h.turn _ _
    · exact h.weigh _ _
/-- A walk ends at a vertex. -/
theorem Inn.ends {N : Nat} {m : GM.M} (h : Inn N m) : ∀ {zs : List Int} {u b : Int}, GM.vert N u = true → WK.ends u (WK.list m zs) = some b → GM.vert N b = true
  | [], u, b, hu, he => by
    have : some u = some b := he
    injection this with this
    rw [← this]
    exact hu
  | z :: zs, u, b, hu, he => by
    have e0 : WK.list m (z :: zs) = WK.arcOf m z :: WK.list m zs := rfl
    rw [e0, WK.ends] at he
    split at he
    · rename_i h0
      refine Inn.ends h ?_ he
      have h1 := (codeAt_zero.1 h0).1
      unfold arcOf code1 at h1 ⊢
      dsimp only at h1 ⊢
      split at h1
      · rename_i hl
        unfold GM.look at hl ⊢
        split at hl
        · rename_i hp
          rw [if_pos hp]
          exact (h.at hl).2
        · cases hl
      · cases h1
    · cases he
end WK
end Go.Proofs.YtkcfepppnclniaaGreatDoor
end

section
/-
  The walk of the law OrderParallel.
-/
namespace Go.Proofs.YtkcfepppnclniaaGreatDoor
open Go.RowKit
set_option maxHeartbeats 4000000 in
set_option maxRecDepth 100000 in
theorem par_walk (HAW : AwakeIs) (HRK : RankIs) (n : Int) (v : Value) (xs : List Chg) (dd more : Int) (w : World) (hT : Ready w) (hn0 : 0 ≤ n) (_hn1 : n ≤ 255) (hch : Chgs w v xs) (hd0 : 0 ≤ dd) (hd1 : dd ≤ 255) (hm0 : 0 ≤ more) (hm1 : more ≤ 255) :
    Calls Tryz.prog 4 #[.int .u8 n, v, .int .u8 dd, .int .u8 more] w fun e w' => e = .returned (.bool true) ∧ Below w.heap.size w w' := by
  have haw := HAW w
  have HT : Hid (∀ W, Below w.heap.size w W → Ready W) := fun W hW => hT.below hT.1 hW
  clear hT
  have ht : n.tmod 10 = n % 10 := Int.tmod_eq_emod_of_nonneg (by omega)
  have hw : IntKind.u8.wrap (n % 10) = n % 10 := by rw [IntKind.wrap_u8]; omega
  have HMD : Hid (∀ W, Below w.heap.size w W → Calls Tryz.prog 6 #[.int .u8 (n % 10), v] W fun e w' => ∃ p q, e = .returned (.tuple #[.pointer (some ⟨p, 0, none⟩), .pointer (some ⟨q, 0, none⟩)]) ∧ ∃ N, (1 ≤ N ∧ N ≤ 24) ∧ Both w' W.heap.size p q N 64 (GM.made N xs (min xs.length 150)) ∧ Below W.heap.size W w') := fun W hW => made_any (n % 10) v xs W (by omega) (by omega) (hch.on hW)
  have HIN : Hid (∀ N, WK.Inn N (GM.made N xs (min xs.length 150))) := fun N => WK.Inn.made N xs _
  obtain ⟨ao, cap, rfl, -, -⟩ := hch
  generalize xs.length = L at *
  obtain ⟨dn, rfl⟩ : ∃ a : Nat, dd = a := ⟨dd.toNat, by omega⟩
  have ed : (dn : Int).tmod 64 = ((dn % 64 : Nat) : Int) := by rw [Int.tmod_eq_emod_of_nonneg (by omega)]; omega
  have hj : dn % 64 < 64 := Nat.mod_lt _ (by omega)
  generalize dn % 64 = j at *
  go_enter Tryz.func4, Tryz.ntmps4
  go_wp2_with fail
  refine haw.mono ?_
  rintro e w1 ⟨rfl, hb1⟩
  clear haw
  go_wp2_with fail
  refine (HMD.out w1 hb1).mono ?_
  rintro e w2 ⟨p, q, rfl, N, ⟨hN1, hN2⟩, hS2, hb2⟩
  have hin := HIN.out N
  generalize GM.made N xs (min L 150) = m at *
  have HW2 : Hid (Below w.heap.size w w2) := hb1.trans (hb2.mono hb1.size)
  have HS2 : Hid (Both w2 w1.heap.size p q N 64 m ∧ WK.Inn N m) := ⟨hS2, hin⟩
  have HWP : Hid (w.heap.size ≤ p) := Nat.le_trans hb1.size hS2.lp
  have HPL : Hid (p < w2.heap.size) := hS2.g.lt
  have h1 := HRK (HT.out w2 HW2.out) hS2.g hS2.ok hN1 hN2 24
  have HN1 : Hid (1 ≤ N) := hN1
  clear HMD HIN hb1 hb2 ht hw hn0 _hn1 hin hS2 hN1
  go_wp2_with fail
  refine h1.mono ?_
  rintro e w3 ⟨r1, rfl, ho3, hb3⟩
  have harc := rarc_any (HS2.out.1.on hb3).r (j : Int)
  have HO3 : Hid (Own .i64 3 w3 w2.heap.size r1 (rankOf N m 24)) := ho3
  obtain ⟨a1, c1, rfl, -⟩ := ho3.at
  rw [rankOf_len] at HO3 ⊢
  have HB3 : Hid (Below w2.heap.size w2 w3) := hb3
  clear h1 ho3 hb3
  go_wp2_with fail
  refine harc.mono ?_
  rintro e w4 ⟨rfl, hb4⟩
  have HB4 : Hid (Below w2.heap.size w2 w4) := below_on HB3.out hb4
  have HO4 : Hid (Own .i64 3 w4 w2.heap.size (.slice a1 N c1) (rankOf N m 24)) := below_row HO3.out hb4
  have hlk : GM.look m (j : Int) = (GM.arc m j, GM.is m j) := by
    have hp : GM.place (j : Int) = true := decide_eq_true (by omega)
    unfold GM.look
    rw [if_pos hp, Int.toNat_natCast]
  rw [hlk]
  obtain ⟨A, hA⟩ : ∃ A, A = GM.arc m j := ⟨_, rfl⟩
  have HA : Hid (A = GM.arc m j) := hA
  rw [← hA]
  obtain ⟨t, h, y, c⟩ := A
  rw [show arcV ⟨t, h, y, c⟩ = .agg #[.int .i64 t, .int .i64 h, .int .i64 y, .bool c] from rfl]
  have HB5 : Hid (Below w2.heap.size w2 (w4.alloc (.cells #[.int .i64 t, .int .i64 h, .int .i64 y, .bool c] 35))) := HB4.out.alloc HB4.out.size _
  have HO5 : Hid (Own .i64 3 (w4.alloc (.cells #[.int .i64 t, .int .i64 h, .int .i64 y, .bool c] 35)) w2.heap.size (.slice a1 N c1) (rankOf N m 24)) := below_row HO4.out ((Below.refl _ _).alloc (Nat.le_refl _) _)
  have HAI : Hid (ArcIn (w4.alloc (.cells #[.int .i64 t, .int .i64 h, .int .i64 y, .bool c] 35)) w4.heap.size 0 ⟨t, h, y, c⟩) := arcIn_new _ _ _ _ _
  have HLT : Hid (w2.heap.size ≤ w4.heap.size) := HB4.out.size
  clear harc hb4 hlk hA HO3 HB3 HO4
  go_wp2_with fail
  generalize w4.alloc (.cells #[.int .i64 t, .int .i64 h, .int .i64 y, .bool c] 35) = w5 at *
  generalize w4.heap.size = ab at *
  go_loopw [14, 15] (fun fv iv wr => ∃ i : Nat, i ≤ 64 ∧ iv = .int .i64 i ∧ wr = w5 ∧ ∃ fi : Int, fv = .int .i64 fi ∧ (fi = -1 ∨ ∃ f : Nat, f < 64 ∧ fi = f ∧ GM.is m f = false)) (fun _ iv _ => 64 - (intOf iv).toNat)
  case atStart => exact ⟨0, by omega, rfl, rfl, -1, rfl, .inl rfl⟩
  case round =>
    obtain ⟨i, hi, rfl, rfl, fi, rfl, hfi⟩ := hrel
    have HFI : Hid (fi = -1 ∨ ∃ f : Nat, f < 64 ∧ fi = f ∧ GM.is m f = false) := hfi
    clear hfi
    by_cases hlt : i < 64
    · have i1 : (i : Int) < 64 := by omega
      have i0 : (0 : Int) ≤ (i : Int) := by omega
      have ck := (HS2.out.1.on HB5.out).r.tk i hlt
      cases e : GM.is m i with
      | true =>
        rw [e] at ck
        clear e
        go_wp2_with fail
        go_roundw
        case rel => exact ⟨i + 1, by omega, by go_num, by trivial, fi, rfl, HFI.out⟩
        case measure => simp [intOf]; omega
      | false =>
        rw [e] at ck
        have HE : Hid (GM.is m i = false) := e
        clear e
        go_wp2_with fail
        go_roundw
        case rel => exact ⟨i + 1, by omega, by go_num, by trivial, i, rfl, .inr ⟨i, hlt, rfl, HE.out⟩⟩
        case measure => simp [intOf]; omega
    · have i1 : ¬ (i : Int) < 64 := by omega
      have cN := (HS2.out.1.on HB5.out).r.c0
      cases e : GM.is m j with
      | false =>
        clear hlt
        go_wp2_with fail
        go_ret
        exact ⟨by simp, below_on HW2.out HB5.out⟩
      | true =>
        rcases HFI.out with hf | ⟨f, hf1, hf2, hf3⟩
        · subst hf
          clear hlt
          go_wp2_with fail
          go_ret
          exact ⟨by simp, below_on HW2.out HB5.out⟩
        · subst hf2
          have f0 : ¬ (f : Int) < 0 := by omega
          have hva := HS2.out.2.at e
          have hwa := of_decide_eq_true (HS2.out.1.ok.ok j e)
          rw [← HA.out] at hva hwa
          have HINS : Hid (∀ (ww : Int) (cl : Bool), 1 ≤ ww ∧ ww ≤ 4611686018427387904 → cl = (decide (ww < y) || c && decide (t ≠ h)) → ∀ W, Below w2.heap.size w2 W → Calls Tryz.prog 12 #[.pointer (some ⟨p, 0, none⟩), .int .i64 (f : Nat), .agg #[.int .i64 t, .int .i64 h, .int .i64 ww, .bool cl]] W fun e w' => e = .returned (.int .i64 0) ∧ Keeps (fun b => b = p) W w' ∧ Calls Tryz.prog 7 #[.pointer (some ⟨p, 0, none⟩), .int .i64 24] w' fun e w'' => ∃ r, e = .returned r ∧ Own .i64 3 w'' w'.heap.size r (rankOf N m 24) ∧ Below w'.heap.size w' w'') := fun ww cl hw hcl W hW => by
            have hin := insert_any (HS2.out.1.on hW).g HS2.out.1.ok (f : Int) ⟨t, h, ww, cl⟩
            obtain ⟨g1, g2⟩ := GM.ins_beside (n := N) (a := ⟨t, h, ww, cl⟩) hf1 hf3 hva.1 hva.2 (decide_eq_true hw)
            have hgd := GM.good_ins (n := N) HS2.out.1.ok (f : Int) ⟨t, h, ww, cl⟩
            rw [g1, g2] at hin
            rw [g2] at hgd
            have ho := GM.ofD_more (j := j) HS2.out.1.ok hgd hf3 hj e (by rw [← HA.out]) (by rw [← HA.out]) (by rw [← HA.out]; exact hcl) N
            refine hin.mono ?_
            rintro e w' ⟨he, hg, hk⟩
            refine ⟨he, hk, ?_⟩
            have hbw' : Below w.heap.size w w' := (below_on HW2.out hW).trans (hk.below (fun b e => by rw [e]; exact HWP.out) (Nat.le_trans HW2.out.size hW.size))
            have hr := HRK (HT.out w' hbw') hg hgd HN1.out hN2 24
            unfold rankOf at hr ⊢
            rwa [ho] at hr
          obtain ⟨k0, k1, k2, k3⟩ := HAI.out
          simp only [Nat.zero_add] at k0 k1 k2 k3
          have hab := cell_lt k0
          have HOK : Hid (∀ W, Below wr.heap.size wr W → ∀ w7, Keeps (fun b => b = p) W w7 → Own .i64 3 w7 w2.heap.size (.slice a1 N c1) (rankOf N m 24)) := fun W hW w7 hk => hk.row (below_row HO5.out hW) (fun g hg e => by
            have h1 := (World.ownsRow.lt HO5.out g hg).1
            have h2 := HPL.out
            omega)
          have HBK : Hid (∀ W, Below wr.heap.size wr W → ∀ w7, Keeps (fun b => b = p) W w7 → Below w.heap.size w w7) := fun W hW w7 hk => (below_on (below_on HW2.out HB5.out) hW).trans (hk.below (fun b e => by rw [e]; exact HWP.out) (Nat.le_trans HW2.out.size (Nat.le_trans HB5.out.size hW.size)))
          have HBW : Hid (∀ W, Below wr.heap.size wr W → Below w2.heap.size w2 W) := fun W hW => below_on HB5.out hW
          have HYB : Hid (1 ≤ y ∧ y ≤ 4611686018427387904) := hwa
          clear hlt HS2 cN hf3 e HFI HA hva hwa HAI
          go_upto_region 16 with fail
          obtain ⟨ww, hww⟩ : ∃ ww, ww = min y 2305843009213693952 + more := ⟨_, rfl⟩
          have HWW : Hid (ww = min y 2305843009213693952 + more) := hww
          clear hww
          go_cut [16] (fun s wx => s = .pointer (some ⟨wr.heap.size, 0, none⟩) ∧ wx = wr.alloc (.cells #[.int .i64 t, .int .i64 h, .int .i64 ww, .bool false] 35))
          case first =>
            obtain ⟨y1, y2⟩ := HYB.out
            by_cases hy : (2305843009213693952 : Int) < y
            · have e1 : ww = 2305843009213693952 + more := by have := HWW.out; omega
              go_wp2_with fail
              go_meet
              exact ⟨rfl, by rw [e1]⟩
            · have e1 : ww = y + more := by have := HWW.out; omega
              go_wp2_with fail
              go_meet
              exact ⟨rfl, by rw [e1]⟩
          case rest =>
            obtain ⟨rfl, rfl⟩ := hcut
            obtain ⟨cl, hcl⟩ : ∃ cl, cl = (decide (ww < y) || c && decide (t ≠ h)) := ⟨_, rfl⟩
            have HCL : Hid (cl = (decide (ww < y) || c && decide (t ≠ h))) := hcl
            clear hcl
            go_upto_region 17 with fail
            go_cut [90] (fun _ wx => wx = wr.alloc (.cells #[.int .i64 t, .int .i64 h, .int .i64 ww, .bool cl] 35))
            case first =>
              by_cases hlt : ww < y
              · have e1 : cl = true := by rw [HCL.out, decide_eq_true hlt]; rfl
                go_wp2_with fail
                go_meet
                rw [e1]
              · have e0 : cl = (c && decide (t ≠ h)) := by rw [HCL.out, decide_eq_false hlt]; rfl
                cases c with
                | false =>
                  have e1 : cl = false := by rw [e0]; rfl
                  clear e0
                  go_wp2_with fail
                  go_meet
                  rw [e1]
                | true =>
                  by_cases hth : t = h
                  · have e1 : cl = false := by rw [e0, decide_eq_false (fun hc => hc hth)]; rfl
                    clear e0
                    subst hth
                    go_wp2_with fail
                    go_meet
                    rw [e1]
                  · have e1 : cl = true := by rw [e0, decide_eq_true hth]; rfl
                    clear e0
                    go_wp2_with fail
                    go_meet
                    rw [e1, show (t != h) = true from bne_iff_ne.2 hth]
            case rest =>
              obtain rfl := hcut
              have hbw : Below wr.heap.size wr (wr.alloc (.cells #[.int .i64 t, .int .i64 h, .int .i64 ww, .bool cl] 35)) := (Below.refl _ _).alloc (Nat.le_refl _) _
              have hins := HINS.out ww cl (by have h1 := HWW.out; have h2 := HYB.out; omega) HCL.out _ (HBW.out _ hbw)
              have HBX : Hid (Below wr.heap.size wr (wr.alloc (.cells #[.int .i64 t, .int .i64 h, .int .i64 ww, .bool cl] 35))) := hbw
              clear HINS HBW hbw k0 k1 k2 k3 HCL HWW HYB
              go_wp2_with fail
              refine hins.mono ?_
              rintro e w7 ⟨rfl, hk7, hrk⟩
              have HO7 := HOK.out _ HBX.out w7 hk7
              have HB7 : Hid (Below w.heap.size w w7) := HBK.out _ HBX.out w7 hk7
              clear hins HOK HBK HBX hk7
              have HO7 : Hid (Own .i64 3 w7 w2.heap.size (.slice a1 N c1) (rankOf N m 24)) := HO7
              go_wp2_with fail
              refine hrk.mono ?_
              rintro e w8 ⟨r2, rfl, ho8, hb8⟩
              have hint := ints_any r2 (.slice a1 N c1) _ _ w8 ho8.row (Own.row (below_row HO7.out hb8))
              rw [decide_eq_true rfl] at hint
              have HB8 : Hid (Below w.heap.size w w8) := below_on HB7.out hb8
              clear hrk ho8 hb8 HO7 HB7
              go_wp2_with fail
              refine hint.mono ?_
              rintro e w9 ⟨rfl, hb9⟩
              have HB9 : Hid (Below w.heap.size w w9) := below_on HB8.out hb9
              clear hint hb9
              go_wp2_with fail
              go_ret
              exact ⟨rfl, HB9.out⟩
end Go.Proofs.YtkcfepppnclniaaGreatDoor
end

section
/-
  The walk of the law OrderParallel, of the program as it is.
-/
namespace Go.Proofs.YtkcfepppnclniaaGreatDoor
open Go.RowKit
theorem par14_walk (n : Int) (v : Value) (xs : List Chg) (dd more : Int) (w : World) (hT : Ready w) (hn0 : 0 ≤ n) (hn1 : n ≤ 255) (hch : Chgs w v xs) (hd0 : 0 ≤ dd) (hd1 : dd ≤ 255) (hm0 : 0 ≤ more) (hm1 : more ≤ 255) :
    Calls Tryz.prog 4 #[.int .u8 n, v, .int .u8 dd, .int .u8 more] w fun e w' => e = .returned (.bool true) ∧ Below w.heap.size w w' :=
  par_walk awake14_any rank_ok n v xs dd more w hT hn0 hn1 hch hd0 hd1 hm0 hm1
end Go.Proofs.YtkcfepppnclniaaGreatDoor
end
