/-
  What comes out of a heap, one behind the other; the program's All, gone through.
-/
import Derived.Test.YtmmokmgljacddaaHeapRange
import Derived.Test.YtmmokmgljacddaaHeapCopy
import Derived.Test.YtmmokmgljacddaaHeapX
namespace Go.Proofs.Ytmmokmgljacddaa
open Go.RowKit Go.Shelf
attribute [local go_sem] Oper.semAt_some

/-! Out of a heap, one behind the other. -/
/-- The things, with their priorities, as they come out. -/
noncomputable def outs : Nat → (Nat → Option Int) → List (Nat × Int)
  | 0, _ => []
  | c + 1, m => match HM.firstOf HM.TI m with | some x => x :: outs c (HM.popped HM.TI m) | none => []
/-- What is in it when k have come out. -/
noncomputable def aft (m : Nat → Option Int) : Nat → Nat → Option Int
  | 0 => m
  | k + 1 => HM.popped HM.TI (aft m k)
theorem aft_comm (m : Nat → Option Int) : ∀ k, aft (HM.popped HM.TI m) k = aft m (k + 1)
  | 0 => rfl
  | k + 1 => by
    show HM.popped HM.TI (aft (HM.popped HM.TI m) k) = HM.popped HM.TI (aft m (k + 1))
    rw [aft_comm m k]
theorem outs_get : ∀ (c : Nat) (m : Nat → Option Int) (k : Nat) (h : k < (outs c m).length), HM.firstOf HM.TI (aft m k) = some ((outs c m)[k])
  | 0, m, k, h => by simp [outs] at h
  | c + 1, m, k, h => by
    cases hf : HM.firstOf HM.TI m with
    | none => simp [outs, hf] at h
    | some x =>
      have e : outs (c + 1) m = x :: outs c (HM.popped HM.TI m) := by simp [outs, hf]
      cases k with
      | zero => simp only [e, List.getElem_cons_zero]; exact hf
      | succ k =>
        simp only [e, List.getElem_cons_succ]
        rw [← aft_comm]
        exact outs_get c _ k (by rw [e] at h; simpa using h)
/-- Of a heap in which something is, something is the first. -/
theorem best_any (ins : List Bool) (ps : List Int) : ∀ k, ∃ b, HR.Best ins ps k b
  | 0 => ⟨-1, .inl ⟨rfl, fun t ht => by omega⟩⟩
  | k + 1 => by
    obtain ⟨b, hb⟩ := best_any ins ps k
    cases hk : bat ins k with
    | false => exact ⟨b, hb.skip hk⟩
    | true =>
      rcases id hb with ⟨rfl, _⟩ | ⟨j, rfl, _⟩
      · exact ⟨_, hb.begin hk⟩
      · by_cases hlt : HM.pat ps k < HM.pat ps j
        · exact ⟨_, hb.take hk hlt⟩
        · exact ⟨_, hb.stay hlt⟩
theorem first_any {n : Nat} {m : Nat → Option Int} (hm : ∀ t, n ≤ t → m t = none) (hc : 0 < HM.cnt n m) : ∃ x, HM.firstOf HM.TI m = some x ∧ x.1 < n := by
  have hr : HR.Rep n m ((List.range n).map (fun t => (m t).isSome)) ((List.range n).map (fun t => (m t).getD 0)) := by
    refine ⟨by simp, by simp, fun t => ?_⟩
    by_cases ht : t < n
    · cases h : m t with
      | none => simp [bat, ht, h]
      | some v => simp [bat, HM.pat, ht, h]
    · rw [if_neg (by omega)]
      exact hm t (by omega)
  obtain ⟨b, hb⟩ := best_any ((List.range n).map (fun t => (m t).isSome)) ((List.range n).map (fun t => (m t).getD 0)) n
  rcases id hb with ⟨rfl, hall⟩ | ⟨j, rfl, _⟩
  · exfalso
    have h0 : HM.cnt n m = 0 := HM.cnt_zero (fun t => by
      by_cases ht : t < n
      · have := hall t ht
        cases h : m t with
        | none => rfl
        | some v => simp [bat, ht, h] at this
      · exact hm t (by omega))
    omega
  · obtain ⟨h1, h2⟩ := HR.Best.first hr hb
    exact ⟨_, h2, h1⟩
theorem popped_out {n : Nat} {m : Nat → Option Int} (hm : ∀ t, n ≤ t → m t = none) : ∀ t, n ≤ t → HM.popped HM.TI m t = none := by
  intro t ht
  unfold HM.popped
  cases HM.firstOf HM.TI m with
  | none => exact hm t ht
  | some x =>
    show HM.upd m x.1 none t = none
    unfold HM.upd
    split
    · rfl
    · exact hm t ht
theorem outs_len (n : Nat) : ∀ (c : Nat) (m : Nat → Option Int), (∀ t, n ≤ t → m t = none) → HM.cnt n m = c → (outs c m).length = c
  | 0, m, _, _ => rfl
  | c + 1, m, hm, hc => by
    obtain ⟨x, hx, hxn⟩ := first_any hm (by omega)
    have := popped_cnt hx hxn
    have ih := outs_len n c (HM.popped HM.TI m) (popped_out hm) (by omega)
    simp [outs, hx, ih]
theorem pre_snoc {α : Type} {pre zs : List α} {x : α} (h : pre <+: zs) (hlt : pre.length < zs.length) : pre ++ [x] <+: zs ↔ zs[pre.length] = x := by
  obtain ⟨r, rfl⟩ := h
  cases r with
  | nil => simp at hlt
  | cons y r =>
    constructor
    · rintro ⟨q, hq⟩
      simp at hq
      simp [hq.1]
    · intro e
      simp at e
      subst e
      exact ⟨r, by simp⟩

/-! The program's All. -/
theorem One.out {w : World} {B p n : Nat} {m : Nat → Option Int} (h : One w B p n m) : ∀ t, n ≤ t → m t = none := by
  obtain ⟨F, bp, bc, lv, line, place, come, _, h2, _⟩ := h
  intro t ht
  exact h2.out.2 (.inl ht)
theorem One.above {w w' : World} {B p n N : Nat} {m : Nat → Option Int} (h : One w B p n m) (ha : Above N w w') (hN : N ≤ B) : One w' B p n m := by
  obtain ⟨F, h⟩ := h
  exact ⟨F, h.kept ha (fun b hb hn => by have := (h.lt b hb).1; omega)⟩
/-- How many are left in a heap, read off its struct. -/
def leftIn (p : Nat) (w : World) : Nat := match w.cell? ⟨p, 0, none⟩ with | some (.slice _ n _) => n | _ => 0
theorem One.left {w : World} {B p n : Nat} {m : Nat → Option Int} (h : One w B p n m) : leftIn p w = HM.cnt n m := by
  obtain ⟨F, bp, bc, lv, line, place, come, h1, h2, _⟩ := h
  unfold leftIn
  rw [h1.c0, ← h2.len]
  rcases h1.lineAt with ⟨rfl, rfl⟩ | ⟨g, cap, rfl, _⟩
  · rfl
  · rfl
theorem one_copy {w : World} {B p n : Nat} {m : Nat → Option Int} (h : One w B p n m) (hn : n ≤ 64) :
    Calls Try.prog 32 #[.pointer (some ⟨p, 0, none⟩)] w fun e w' => ∃ p', e = .returned (.pointer (some ⟨p', 0, none⟩)) ∧ One w' w.heap.size p' n m ∧ Below w.heap.size w w' := by
  obtain ⟨F, bp, bc, lv, line, place, come, h1, h2, _⟩ := h
  have a1 : place.length = n := h2.1.1
  have a2 : come.length = n := h2.2.1
  have a3 := h2.le
  refine (HI.copy_any h1 (by omega) (by omega) (by omega)).mono ?_
  rintro e w' ⟨p', bp', bc', lv', rfl, b1, b2⟩
  exact ⟨p', rfl, ⟨_, bp', bc', lv', line, place, come, b1, h2, rfl⟩, b2⟩
/-- A thing and its priority, as the loop's two variables. -/
def two (x : Nat × Int) : Array Value := #[.int .i64 (x.1 : Nat), .int .i64 x.2]

set_option maxRecDepth 100000 in
set_option maxHeartbeats 2000000 in
theorem all_goes (n : Nat) (hn : 1 ≤ n) (Bn p B k : Nat) (m : Nat → Option Int) (w : World) (hbox : w.cell? ⟨Bn, 0, none⟩ = some (.pointer (some ⟨p, 0, none⟩))) (hh : One w B p k m) (hk : k ≤ 64) :
    Goes n Try.prog 31 #[.pointer (some ⟨Bn, 0, none⟩)] two (fun ys => ys = outs (HM.cnt k m) m) (fun pre => pre <+: outs (HM.cnt k m) m) (outs (HM.cnt k m) m).length w := by
  intro l J Jx W hW hs hJ hJx hY h0
  have hbl := cell_lt hbox
  have hc : W.cell? ⟨Bn, 0, none⟩ = some (.pointer (some ⟨p, 0, none⟩)) := (hW.cell (p := ⟨Bn, 0, none⟩) hbl).trans hbox
  have hcp := one_copy (hh.below hW) hk
  obtain ⟨L, hL⟩ : ∃ L, L = outs (HM.cnt k m) m := ⟨_, rfl⟩
  rw [← hL] at hY ⊢
  have HL : Hid (L = outs (HM.cnt k m) m) := hL
  clear hL
  refine callsIn_of_wp Try.func31 rfl trivial ?_ rfl
  simp only [Try.ntmps31, List.size_toArray, List.length_cons, List.length_nil, Nat.reduceAdd, Nat.reduceSub, Array.replicate_succ, Array.replicate_zero, List.push_toArray, List.append_toArray, List.nil_append, List.cons_append]
  gi_wp2_with fail
  refine ⟨trivial, (callsIn_wide.2 hcp).mono ?_⟩
  rintro e w1 ⟨p', rfl, ho1, hb1⟩
  have hJ1 : J [] w1 := hJ _ _ _ h0 (hb1.mono hs)
  clear hcp
  gi_wp2_with fail
  gi_loopw [4] (fun _ wr => ∃ (pre : List (Nat × Int)) (c : Nat) (mm : Nat → Option Int), L = pre ++ outs c mm ∧ HM.cnt k mm = c ∧ One wr W.heap.size p' k mm ∧ J pre wr) (fun _ wr => leftIn p' wr)
  case atStart => exact ⟨[], HM.cnt k m, m, HL.out, rfl, ho1, hJ1⟩
  case round =>
    clear ho1 hJ1
    obtain ⟨pre, c, mm, hx, hcn, ho, hJs⟩ := hrel
    have hln := one_len ho
    rw [hcn] at hln
    cases c with
    | zero =>
      gi_wp2_with fail
      refine ⟨trivial, (callsIn_wide.2 hln).mono ?_⟩
      rintro e w2 ⟨rfl, rfl⟩
      gi_wp2_with fail
      go_end0
      exact ⟨⟨_, rfl⟩, .inl ⟨pre, by rw [hx]; simp [outs], hJs⟩⟩
    | succ c =>
      obtain ⟨⟨t, r⟩, hf, htn⟩ := first_any ho.out (by omega)
      have hpop := one_pop ho hk
      rw [hf] at hpop
      simp only [peekT] at hpop
      have hc2 := popped_cnt hf htn
      have hx2 : L = (pre ++ [(t, r)]) ++ outs c (HM.popped HM.TI mm) := by rw [hx]; simp [outs, hf]
      have hml : leftIn p' wr = c + 1 := by rw [ho.left, hcn]
      have HX2 : Hid (L = (pre ++ [(t, r)]) ++ outs c (HM.popped HM.TI mm)) := hx2
      have HC2 : Hid (HM.cnt k (HM.popped HM.TI mm) = c) := by show _ = _; omega
      have HML : Hid (leftIn p' wr = c + 1) := hml
      have hlen : pre.length < L.length := by rw [hx2]; simp
      clear hx hf hc2 hx2 hml hcn
      gi_wp2_with fail
      refine ⟨trivial, (callsIn_wide.2 hln).mono ?_⟩
      rintro e w2 ⟨rfl, rfl⟩
      gi_wp2_with fail
      refine ⟨trivial, (callsIn_wide.2 hpop).mono ?_⟩
      rintro e w3 ⟨rfl, ho3, hb3⟩
      have hJ3 : J pre w3 := hJ _ _ _ hJs (hb3.mono hs)
      have HO3 : Hid (One w3 W.heap.size p' k (HM.popped HM.TI mm)) := ho3
      obtain ⟨fn, tmps, assign, body, hy, hRd⟩ := hY pre (t, r) w3 hJ3 hlen
      dsimp only [two] at hy
      clear ho3 hb3 hpop hln hJs ho
      gi_wp2_with fail
      refine hRd.mono ?_
      rintro e W4 (⟨rfl, hJ4, hk4⟩ | ⟨rfl, hJx4⟩)
      · have HO4 : Hid (One W4 W.heap.size p' k (HM.popped HM.TI mm)) := HO3.out.above hk4 hs
        gi_wp2_with fail
        go_roundw
        case rel => exact ⟨pre ++ [(t, r)], c, _, HX2.out, HC2.out, HO4.out, hJ4⟩
        case measure => rw [HO4.out.left, HC2.out, HML.out]; omega
      · gi_wp2_with fail
        (try simp only [Exit.inBlock, Exit.then]); refine bodyPost_ret (results_none rfl _ _ _) rfl ?_
        exact ⟨⟨_, rfl⟩, .inr ⟨pre ++ [(t, r)], ⟨_, HX2.out.symm⟩, hJx4⟩⟩
end Go.Proofs.Ytmmokmgljacddaa
