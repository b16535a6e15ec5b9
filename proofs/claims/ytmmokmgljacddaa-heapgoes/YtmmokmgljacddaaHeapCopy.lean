/-
  The walks of slices.Clone and of package heap's copy and All.
-/
import Derived.Test.YtmmokmgljacddaaHeapD
import Derived.Deep.RegionHeld3
import Derived.Lib.SliceRun
namespace Go.Proofs.Ytmmokmgljacddaa
namespace HI
open Go.RowKit

set_option maxHeartbeats 1000000 in
theorem clone_any (v : Value) (zs : List Int) (w : World) (B : Nat) (h : Own .i64 3 w B v zs) (hl : zs.length ≤ 1000) :
    Calls Try.prog 38 #[v] w fun e w' => ∃ v', e = .returned v' ∧ Own .i64 3 w' w.heap.size v' zs ∧ (v ≠ .slice none 0 0 → v' ≠ .slice none 0 0) ∧ Below w.heap.size w w' := by
  obtain ⟨i0, hi, hz0, hz1, hz2⟩ := info_parts info3
  have hq : ∀ (w : World) (a : Option Addr) (n c n' c' : Nat), (binOp .eql 43 (.slice a n c) (.slice none n' c')).run Try.prog w = .ok (.bool a.isNone) w := fun w a n c n' c' => Lib.run_eql_slice_nil w _ _ a n c n' c' Try.underlying43
  rcases h.shape with ⟨rfl, rfl⟩ | ⟨g, cap, rfl, hB, hg⟩
  · clear h
    go_enter Try.func38, Try.ntmps38
    go_wp2_with fail
    go_ret
    exact ⟨_, rfl, Own.nil _ _ _ _, fun h => absurd rfl h, Below.refl _ _⟩
  · obtain ⟨ao, cp, e, hat⟩ := h.row
    injection e with e1 e2 e3
    subst e1 e3
    have HA : Hid (RowAt .i64 w (some ⟨g, 0, none⟩) cap zs) := hat
    clear h hat hB
    go_enter Try.func38, Try.ntmps38
    go_wp2_with (at_builtin; refine wpList_append_row _ rfl _ _ 43 rfl .i64 w.heap.size 3 i0 8 Try.underlying43 hi hz0 hz1 hz2 (.slice (some ⟨w.heap.size, 0, none⟩) 0 0) [] rfl (Own.lit .i64 3 w w.heap.size (Nat.le_refl _) [] _ 0 rfl rfl (by decide)) (some ⟨g, 0, none⟩) zs.length cap zs rfl rfl (HA.out.below ((Below.refl _ _).alloc (Nat.le_refl _) _)) (by unfold maxLen; simp; omega) (by simp; omega) (by simp) ?_)
    intro v' w' ho hgr hnil
    have hb : Below w.heap.size w w' := ((Below.refl _ w).alloc (Nat.le_refl _) _).grown hgr (by simp) (fun k hk => by cases hk; exact Nat.le_refl _)
    have HO : Hid (Own .i64 3 w' w.heap.size v' zs) := ho
    have HN : Hid (v' ≠ .slice none 0 0) := fun e => by have := hnil e; cases this
    clear ho hgr hnil
    go_wp2_with fail
    go_ret
    exact ⟨_, rfl, HO.out, fun _ => HN.out, hb⟩

theorem own_nat {w : World} {B : Nat} {v : Value} {line : List Nat} : w.ownsRow B 3 1 v line.length (line.map natV) ↔ Own .i64 3 w B v (line.map (fun k : Nat => (k : Int))) := by
  unfold Own
  rw [List.length_map, List.map_map]
  exact Iff.rfl
/-- A row that is not nil. -/
theorem own_some {w : World} {B : Nat} {v : Value} {zs : List Int} (h : Own .i64 3 w B v zs) (hn : v ≠ .slice none 0 0) : ∃ g c, v = .slice (some ⟨g, 0, none⟩) zs.length c ∧ B ≤ g ∧ g < w.heap.size := by
  rcases h.shape with ⟨e, _⟩ | ⟨g, c, e, h1, h2⟩
  · exact absurd e hn
  · exact ⟨g, c, e, h1, h2⟩

set_option maxHeartbeats 2000000 in
theorem copy_any {w : World} {B p bp bc : Nat} {lv : Value} {line : List Nat} {place : List Int} {come : List Int} (h : HMem (Value.int .i64) 3 w B p bp bc lv line place come) (hl : line.length ≤ 64) (hp : place.length ≤ 64) (hc : come.length ≤ 64) :
    Calls Try.prog 32 #[.pointer (some ⟨p, 0, none⟩)] w fun e w' => ∃ p' bp' bc' lv', e = .returned (.pointer (some ⟨p', 0, none⟩)) ∧ HMem (Value.int .i64) 3 w' w.heap.size p' bp' bc' lv' line place come ∧ Below w.heap.size w w' := by
  have hsz := (h.lt p (.inl rfl)).2
  have c0 := h.c0
  obtain ⟨c1c, c1, o1⟩ := h.c1
  obtain ⟨c2c, c2, o2⟩ := h.c2
  obtain ⟨ao, cap, hlv⟩ : ∃ ao cap, lv = .slice ao line.length cap := by
    rcases h.lineAt with ⟨rfl, rfl⟩ | ⟨g, cap, rfl, _⟩
    · exact ⟨_, _, rfl⟩
    · exact ⟨_, _, rfl⟩
  have HL : Hid (∀ W, Below w.heap.size w W → Own .i64 3 W B (.slice ao line.length cap) (line.map (fun k : Nat => (k : Int)))) := fun W hW => by
    have := own_nat.1 h.ln
    rw [hlv] at this
    exact this.below hW
  have HP : Hid (∀ W, Below w.heap.size w W → Own .i64 3 W B (.slice (some ⟨bp, 0, none⟩) place.length c1c) place) := fun W hW => Own.below (k := .i64) o1 hW
  have HC : Hid (∀ W, Below w.heap.size w W → Own .i64 3 W B (.slice (some ⟨bc, 0, none⟩) come.length c2c) come) := fun W hW => Own.below (k := .i64) o2 hW
  rw [hlv] at c0
  have hcell : ∀ W, Below w.heap.size w W → W.cell? ⟨p, 0, none⟩ = some (.slice ao line.length cap) ∧ W.cell? ⟨p, 1, none⟩ = some (.slice (some ⟨bp, 0, none⟩) place.length c1c) ∧ W.cell? ⟨p, 2, none⟩ = some (.slice (some ⟨bc, 0, none⟩) come.length c2c) := fun W hW => by
    rw [hW.cell (by exact hsz), hW.cell (by exact hsz), hW.cell (by exact hsz)]
    exact ⟨c0, c1, c2⟩
  have HCE : Hid (∀ W, Below w.heap.size w W → W.cell? ⟨p, 0, none⟩ = some (.slice ao line.length cap) ∧ W.cell? ⟨p, 1, none⟩ = some (.slice (some ⟨bp, 0, none⟩) place.length c1c) ∧ W.cell? ⟨p, 2, none⟩ = some (.slice (some ⟨bc, 0, none⟩) come.length c2c)) := hcell
  have hd : Below w.heap.size w w.drew := (Below.refl _ _).drew
  have HD : Hid (Below w.heap.size w w.drew) := hd
  have hlm : (line.map (fun k : Nat => (k : Int))).length ≤ 1000 := by rw [List.length_map]; omega
  clear h o1 o2 hlv hcell hd
  go_enter Try.func32, Try.ntmps32
  go_wp2_with fail
  go_region_held3 (fun w' => w'.cell? ⟨p, 0, none⟩ = some (.slice ao line.length cap) ∧ w'.cell? ⟨p, 1, none⟩ = some (.slice (some ⟨bp, 0, none⟩) place.length c1c) ∧ w'.cell? ⟨p, 2, none⟩ = some (.slice (some ⟨bc, 0, none⟩) come.length c2c)) (go_keep) (first
    | (go_at_call 38; refine (clone_any _ come _ B (HC.out _ B6.out) (by omega)).mono ?_; rintro e w7 ⟨v7, rfl, ho7, hn7, hb7⟩; obtain ⟨g7, d7, hv7, e7, f7⟩ := own_some ho7 (hn7 (by simp)); subst hv7; have B7 : Hid (Below w.heap.size w w7) := B6.out.trans (hb7.mono B6.out.size); obtain ⟨x7, y7, z7⟩ := HCE.out w7 B7.out)
    | (go_at_call 38; refine (clone_any _ place _ B (HP.out _ B5.out) (by omega)).mono ?_; rintro e w6 ⟨v6, rfl, ho6, hn6, hb6⟩; obtain ⟨g6, d6, hv6, e6, f6⟩ := own_some ho6 (hn6 (by simp)); subst hv6; have B6 : Hid (Below w.heap.size w w6) := B5.out.trans (hb6.mono B5.out.size); obtain ⟨x6, y6, z6⟩ := HCE.out w6 B6.out)
    | (go_at_call 38; refine (clone_any _ (line.map (fun k : Nat => (k : Int))) _ B (HL.out _ HD.out) hlm).mono ?_; rintro e w5 ⟨v5, rfl, ho5, hn5, hb5⟩; obtain ⟨a5, d5, hv5, _⟩ := ho5.at; subst hv5; have B5 : Hid (Below w.heap.size w w5) := HD.out.trans (hb5.mono HD.out.size); obtain ⟨x5, y5, z5⟩ := HCE.out w5 B5.out))
  all_goals
    have s5 := hb5.size
    have s6 := hb6.size
    have s7 := hb7.size
    have q5 : Own .i64 3 w7 w.heap.size (.slice a5 (line.map (fun k : Nat => (k : Int))).length d5) (line.map (fun k : Nat => (k : Int))) := (ho5.below hb6 |>.below hb7)
    have q6 : Own .i64 3 w7 w.heap.size (.slice (some ⟨g6, 0, none⟩) place.length d6) place := (ho6.below hb7).base_le (by simp at s5; omega)
    have q7 : Own .i64 3 w7 w.heap.size (.slice (some ⟨g7, 0, none⟩) come.length d7) come := ho7.base_le (by simp at s5; omega)
    have l5 : ∀ g, (Value.slice a5 (line.map (fun k : Nat => (k : Int))).length d5).ownBlock = some g → w.heap.size ≤ g ∧ g < w5.heap.size := fun g hg => World.ownsRow.lt ho5 g hg
    have hm : HMem (Value.int .i64) 3 (w7.alloc (.cells #[.slice a5 (line.map (fun k : Nat => (k : Int))).length d5, .slice (some ⟨g6, 0, none⟩) place.length d6, .slice (some ⟨g7, 0, none⟩) come.length d7] 59)) w.heap.size w7.heap.size g6 g7 (.slice a5 (line.map (fun k : Nat => (k : Int))).length d5) line place come := by
      refine ⟨by simp, ⟨d6, by simp, q6.alloc _⟩, ⟨d7, by simp, q7.alloc _⟩, by simp, own_nat.2 (q5.alloc _), by simp at s5; omega, by omega, by omega, by omega, fun g hg => ?_⟩
      have := l5 g hg
      omega
    have HMM : Hid (HMem (Value.int .i64) 3 (w7.alloc (.cells #[.slice a5 (line.map (fun k : Nat => (k : Int))).length d5, .slice (some ⟨g6, 0, none⟩) place.length d6, .slice (some ⟨g7, 0, none⟩) come.length d7] 59)) w.heap.size w7.heap.size g6 g7 (.slice a5 (line.map (fun k : Nat => (k : Int))).length d5) line place come) := hm
    have HBW : Hid (Below w.heap.size w (w7.alloc (.cells #[.slice a5 (line.map (fun k : Nat => (k : Int))).length d5, .slice (some ⟨g6, 0, none⟩) place.length d6, .slice (some ⟨g7, 0, none⟩) come.length d7] 59))) := B7.out.alloc B7.out.size _
    clear hm q5 q6 q7 ho5 ho6 ho7 hb5 hb6 hb7 hn5 hn6 hn7 l5
    go_wp2_with fail
    go_ret
    have a1 := HMM.out
    have a2 := HBW.out
    rw [List.length_map] at a1 a2
    exact ⟨_, g6, g7, _, rfl, a1, a2⟩

theorem all_any (p : Nat) (w : World) :
    Calls Try.prog 21 #[.pointer (some ⟨p, 0, none⟩)] w fun e w' => e = .returned (.func (.func 31) #[] #[.pointer (some ⟨w.heap.size, 0, none⟩)]) ∧ w' = w.alloc (.cells #[.pointer (some ⟨p, 0, none⟩)] 24) := by
  go_enter Try.func21, Try.ntmps21
  go_wp2_with fail
  go_ret
  exact ⟨rfl, rfl⟩
end HI
end Go.Proofs.Ytmmokmgljacddaa
