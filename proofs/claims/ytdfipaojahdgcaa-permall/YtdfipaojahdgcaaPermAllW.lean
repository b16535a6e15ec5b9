/-
  The walk of the law PermAll.
-/
import Derived.Test.YtdfipaojahdgcaaPermAwake
namespace Go.Proofs.Ytdfipaojahdgcaa
open Go.RowKit

theorem infoR : (Try.prog.info? 22).map (fun i => (i.zero, i.size, i.bytes)) = some (some (.slice none 0 0), 1, 24) := by kernel_rfl
/-- A row of slices, and a slice's own cells, lie apart: they are of unlike types. -/
theorem own_ne {w : World} {B B' n : Nat} {v u : Value} {xs : List Value} {zs : List Int} (h : w.ownsRow B 22 1 v n xs) (o : Own .i64 3 w B' u zs) (g : Nat) (hu : u.ownBlock = some g) : ¬ v.ownBlock = some g := by
  intro hv
  rcases h.2 with ⟨rfl, _⟩ | ⟨g1, c1, cur1, rfl, _, hg1, _⟩
  · cases hv
  · rcases o.2 with ⟨rfl, _⟩ | ⟨g2, c2, cur2, rfl, _, hg2, _⟩
    · cases hu
    · cases hv
      cases hu
      rw [hg1] at hg2
      cases hg2
/-- Orders that were seen, one behind the other. -/
structure Seen (w : World) (B k : Nat) (v : Value) (vs : List Value) : Prop where
  row : w.ownsRow B 22 1 v vs.length vs
  own : ∀ (j : Nat) (h : j < vs.length), Own .i64 3 w 0 vs[j] (PM.of k j)
theorem Seen.below {w w' : World} {B k : Nat} {v : Value} {vs : List Value} (h : Seen w B k v vs) (hb : Below w.heap.size w w') : Seen w' B k v vs := ⟨below_row h.row hb, fun j hj => (h.own j hj).below hb⟩
theorem Seen.more {w w1 : World} {B k : Nat} {v v1 l : Value} {vs : List Value} (h : Seen w B k v vs) (hl : Own .i64 3 w 0 l (PM.of k vs.length)) (hr : w1.ownsRow B 22 1 v1 (vs ++ [l]).length (vs ++ [l])) (hg : w.grownBy w1 v.ownBlock) : Seen w1 B k v1 (vs ++ [l]) := by
  have hk : Keeps (fun b => v.ownBlock = some b) w w1 := (Keeps.refl _ w).grown hg (fun k hk => .inl hk)
  refine ⟨hr, fun j hj => ?_⟩
  by_cases hlt : j < vs.length
  · rw [List.getElem_append_left hlt]
    exact hk.row (h.own j hlt) (fun g hu => own_ne h.row (h.own j hlt) g hu)
  · obtain rfl : j = vs.length := by simp at hj; omega
    rw [List.getElem_append_right (Nat.le_refl _)]
    simp
    exact hk.row hl (fun g hu => own_ne h.row hl g hu)

theorem fac5 {k : Nat} (h : k ≤ 5) : PM.fac k ≤ 120 := Nat.le_trans (PM.fac_le h) (by decide)
theorem of_ne {k i j : Nat} (hk : k ≤ 5) (hi : i < PM.fac k) (hj : j < i) : PM.of k j ≠ PM.of k i := fun e => by
  have := (PM.of_inj (by omega)).1 e
  rw [Nat.mod_eq_of_lt hi, Nat.mod_eq_of_lt (by omega)] at this
  omega
theorem of_all (k : Nat) : PM.of k (PM.fac k) = PM.of k 0 := by
  rw [← PM.of_mod k (PM.fac k), Nat.mod_self]

set_option maxHeartbeats 8000000 in
set_option maxRecDepth 100000 in
theorem all_walk (x : Int) (w : World) (hx0 : 0 ≤ x) (hx1 : x ≤ 255) :
    Calls Try.prog 7 #[.int .u8 x] w fun e w' => e = .returned (.bool true) ∧ Below w.heap.size w w' := by
  obtain ⟨i0, hi, hz0, hz1, hz2⟩ := info_parts infoR
  have haw := awake_any w
  obtain ⟨k, hk, hkx⟩ : ∃ k : Nat, k ≤ 5 ∧ x % 6 = (k : Int) := ⟨(x % 6).toNat, by omega, by omega⟩
  have hF := fac5 hk
  have hF0 := PM.fac_pos k
  have C1 : Hid (∀ (c : Nat) W, c < 18446744073709551616 → Calls Try.prog 15 #[.int .i64 k, .int .u64 c] W fun e w' => ∃ ar cr, e = .returned (.slice ar k cr) ∧ Own .i64 3 w' W.heap.size (.slice ar k cr) (PM.of k c) ∧ Below W.heap.size W w') := fun c W hc => (pof_any k c hc W).mono (by
    rintro e w' ⟨r, rfl, ho, hb⟩
    rw [cnt_nat (by omega)] at ho
    obtain ⟨ar, cr, er, hat⟩ := ho.row
    rw [PM.of_len] at er
    subst er
    exact ⟨ar, cr, rfl, ho, hb⟩)
  go_enter Try.func7, Try.ntmps7
  go_wp2_with fail
  refine haw.mono ?_
  rintro e w1 ⟨rfl, hb1⟩
  clear haw
  go_wp2_with fail
  simp only [hkx]
  clear hkx hx0 hx1
  go_loop [4, 5] (fun av iv => ∃ j : Nat, (j + 1 ≤ k ∨ j = 0) ∧ iv = .int .i64 (j + 2 : Nat) ∧ av = .int .i64 (PM.fac (j + 1) : Nat)) (fun _ i => k + 2 - (intOf i).toNat)
  case atStart => exact ⟨0, .inr rfl, rfl, rfl⟩
  case round =>
    obtain ⟨j, hj, rfl, rfl⟩ := hrel
    by_cases hlt : j + 2 ≤ k
    · have hf2 : PM.fac (j + 2) ≤ 120 := fac5 (by omega)
      have HW : Hid (wrap64 ((PM.fac (j + 1) : Int) * ((j : Int) + 2)) = ((PM.fac (j + 2) : Nat) : Int)) := by
        show _ = _
        rw [show (j : Int) + 2 = ((j + 2 : Nat) : Int) by omega, ← Int.natCast_mul, Nat.mul_comm, show (j + 2) * PM.fac (j + 1) = PM.fac (j + 2) from rfl]
        unfold wrap64
        omega
      have hlt' : (j : Int) + 2 ≤ (k : Int) := by omega
      clear hf2
      go_wp2_with fail
      go_round
      case rel => exact ⟨j + 1, .inl (by omega), by simp; omega, by rw [HW.out]⟩
      case measure => simp [intOf]; omega
    · have hfe : PM.fac (j + 1) = PM.fac k := by
        rcases hj with h | h
        · rw [show j + 1 = k by omega]
        · subst h
          have : k = 0 ∨ k = 1 := by omega
          rcases this with rfl | rfl <;> rfl
      rw [hfe]
      have hlt' : ¬ (j : Int) + 2 ≤ (k : Int) := by omega
      have HA : Hid (PM.of k (PM.fac k) = PM.of k 0) := of_all k
      have HNE : Hid (∀ i j, i < PM.fac k → j < i → PM.of k j ≠ PM.of k i) := fun i j h1 h2 => of_ne hk h1 h2
      clear hfe hj
      generalize PM.fac k = F at *
      have hS1 : Seen w1 w1.heap.size k (.slice none 0 0) [] := ⟨World.ownsRow_nil _ _ _ _, fun j h => by simp at h⟩
      have HS1 : Hid (Seen w1 w1.heap.size k (.slice none 0 0) []) := hS1
      clear hS1
      go_wp2_with fail
      go_loopw [6, 7] (fun sv iv wr => ∃ (i : Nat) (ao : Option Addr) (cap : Nat) (vs : List Value), i ≤ F ∧ iv = .int .i64 i ∧ vs.length = i ∧ sv = .slice ao i cap ∧ Hid (Seen wr w1.heap.size k (.slice ao i cap) vs) ∧ Below w1.heap.size w1 wr) (fun _ iv _ => F - (intOf iv).toNat)
      case atStart => exact ⟨0, none, 0, [], Nat.zero_le _, rfl, rfl, rfl, HS1, Below.refl _ _⟩
      case round =>
        clear HS1
        obtain ⟨i, ao, cap, vs, hiF, rfl, hvl, rfl, HS, hbr⟩ := hrel
        by_cases hlt2 : i < F
        · have HL : Hid (vs.length = i) := hvl
          clear hvl
          go_wp2_with fail
          refine (C1.out i _ (by omega)).mono ?_
          rintro e w2 ⟨ar, cr, rfl, ho2, hb2'⟩
          have hb2 : Below w1.heap.size w1 w2 := hbr.trans (hb2'.mono hbr.size)
          have HS2 : Hid (Seen w2 w1.heap.size k (.slice ao i cap) vs) := HS.out.below hb2'
          have HO2 : Hid (Own .i64 3 w2 0 (.slice ar k cr) (PM.of k i)) := ho2.base_le (Nat.zero_le _)
          have c3 := right_any _ _ w2 ho2.row
          rw [(PM.right_iff _).2 (PM.ord_of (by omega) i)] at c3
          clear ho2 hb2' hbr HS
          go_wp2_with fail
          refine c3.mono ?_
          rintro e wx ⟨rfl, hwx⟩
          rw [hwx]
          clear hwx wx c3
          go_wp2_with fail
          go_loopw [9] (fun jv wj => ∃ t : Nat, t ≤ i ∧ jv = .int .i64 t ∧ Below w2.heap.size w2 wj) (fun jv _ => i - (intOf jv).toNat)
          case atStart => exact ⟨0, Nat.zero_le _, rfl, Below.refl _ _⟩
          case round =>
            obtain ⟨t, ht, rfl, hbj⟩ := hrel
            have HSj := HS2.out.below hbj
            have HOj := HO2.out.below hbj
            by_cases htl : t < i
            · have htv : t < vs.length := by rw [HL.out]; exact htl
              obtain ⟨g, c2, hg⟩ : ∃ g c2, Value.slice ao i cap = .slice (some ⟨g, 0, none⟩) i c2 := by
                rcases HSj.row.2 with ⟨e, h0⟩ | ⟨g, c2, cur, e, _⟩
                · omega
                · rw [HL.out] at e
                  exact ⟨g, c2, e⟩
              injection hg with hg1 hg2 hg3
              subst hg1 hg3
              have hrow : wr.ownsRow w1.heap.size 22 1 (.slice (some ⟨g, 0, none⟩) i cap) i vs := by have := HSj.row; rw [HL.out] at this; exact this
              have hcell := World.ownsRow.cellAt (size := 1) hrow t (by omega)
              rw [List.getElem?_eq_getElem htv] at hcell
              have c4 := ints_any vs[t] _ _ _ wr (HSj.own t htv).row HOj.row
              rw [decide_eq_false (HNE.out i t hlt2 htl)] at c4
              clear hrow HSj HOj
              generalize vs[t] = u at *
              have ht0 : (0 : Int) ≤ (t : Int) := by omega
              have ht1 : (t : Int) < (i : Int) := by omega
              go_wp2_with fail
              refine c4.mono ?_
              rintro e w4 ⟨rfl, hb4'⟩
              have hb4 := below_on hbj hb4'
              clear c4 hcell hb4'
              go_wp2_with fail
              go_roundw
              case rel => exact ⟨t + 1, by omega, by simp, hb4⟩
              case measure => simp [intOf]; omega
            · obtain rfl : t = i := by omega
              have hbw : Below w1.heap.size w1 wr := hb2.trans (hbj.mono hb2.size)
              have hbn : Below wr.heap.size wr (wr.alloc (.cells #[.slice ar k cr] 22)) := below_new (Below.refl _ _) _
              have HSn : Hid (Seen (wr.alloc (.cells #[.slice ar k cr] 22)) w1.heap.size k (.slice ao t cap) vs) := HSj.below hbn
              have HOn : Hid (Own .i64 3 (wr.alloc (.cells #[.slice ar k cr] 22)) 0 (.slice ar k cr) (PM.of k t)) := HOj.below hbn
              have HRn : Hid ((wr.alloc (.cells #[.slice ar k cr] 22)).ownsRow w1.heap.size 22 1 (.slice ao t cap) t vs) := by have := HSn.out.row; rw [HL.out] at this; exact this
              clear HSj HOj HS2 HO2 hbn
              go_wp2_with (at_builtin; refine wpList_append_own _ rfl _ _ 40 rfl w1.heap.size 22 i0 (.slice none 0 0) 1 24 Try.underlying40 hi hz0 hz1 hz2 rfl (by decide) (.slice ao t cap) t vs rfl HRn.out ⟨wr.heap.size, 0, none⟩ 1 1 [.slice ar k cr] rfl rfl (cell_new1 _ _ _) (by simp [Value.oneCell']) (by unfold maxLen; omega) (by omega) (by have := hbw.size; simp; omega) ?_)
              intro v5 w5 hr5 hg5 _
              have hbw5 : Below w1.heap.size w1 w5 := (hbw.alloc hbw.size _).grown hg5 (by have := hbw.size; simp; omega) (fun k hk => (World.ownsRow.lt HRn.out k hk).1)
              have hl5 : (vs ++ [Value.slice ar k cr]).length = t + 1 := by simp [HL.out]
              have hs5 := HSn.out.more (by rw [HL.out]; exact HOn.out) (by rw [hl5]; exact hr5) hg5
              obtain ⟨g5, cp5, e5⟩ : ∃ g c2, v5 = .slice (some ⟨g, 0, none⟩) (t + 1) c2 := by
                rcases hr5.2 with ⟨e, h0⟩ | ⟨g, c2, cur, e, _⟩
                · omega
                · exact ⟨g, c2, e⟩
              subst e5
              have HS5 : Hid (Seen w5 w1.heap.size k (.slice (some ⟨g5, 0, none⟩) (t + 1) cp5) (vs ++ [.slice ar k cr])) := hs5
              clear hs5 hr5 hg5 HSn HOn HRn
              go_wp2_with fail
              go_roundw
              case rel => exact ⟨t + 1, some ⟨g5, 0, none⟩, cp5, vs ++ [.slice ar k cr], by omega, by simp, hl5, rfl, HS5, hbw5⟩
              case measure => simp [intOf]; omega
        · obtain rfl : i = F := by omega
          clear HS HNE
          go_wp2_with fail
          refine (C1.out i _ (by omega)).mono ?_
          rintro e w2 ⟨ar, cr, rfl, ho2, hb2'⟩
          have hb2 : Below w1.heap.size w1 w2 := hbr.trans (hb2'.mono hbr.size)
          have HO2 : Hid (∀ W, Below w2.heap.size w2 W → Row .i64 W (.slice ar k cr) (PM.of k 0)) := fun W hb => by
            rw [HA.out] at ho2
            exact ho2.row.below hb
          clear ho2 hb2' hbr
          go_wp2_with fail
          refine (C1.out 0 _ (by omega)).mono ?_
          rintro e w3 ⟨a3, c3, rfl, ho3, hb3'⟩
          have hb3 : Below w1.heap.size w1 w3 := hb2.trans (hb3'.mono hb2.size)
          have c4 := ints_any _ _ _ _ w3 (HO2.out _ hb3') ho3.row
          rw [decide_eq_true rfl] at c4
          clear ho3 hb3' hb2 HO2
          go_wp2_with fail
          refine c4.mono ?_
          rintro e w4 ⟨rfl, hb4'⟩
          have hb4 : Below w1.heap.size w1 w4 := hb3.trans (hb4'.mono hb3.size)
          clear c4 hb4' hb3
          go_wp2_with fail
          go_ret
          exact ⟨rfl, below_on hb1 hb4⟩
end Go.Proofs.Ytdfipaojahdgcaa
