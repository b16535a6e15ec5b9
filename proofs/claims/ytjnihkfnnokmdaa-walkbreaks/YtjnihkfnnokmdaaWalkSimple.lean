/-
  The walk of package walk's Simple: a range over stops that keeps in a cell the set of where the walk has been, left early where it is wrong or comes back.
-/
import Derived.Test.YtjnihkfnnokmdaaWalkCheck
import Derived.Test.YtjnihkfnnokmdaaWalkDist
import Derived.WalkMore
namespace Go.Proofs.Ytjnihkfnnokmdaa
open Go.RowKit Go.Shelf
attribute [local go_sem] Oper.semAt_some

namespace WK
/-- The set of where the walk has been. -/
def been (pre : List (Int × Int)) : Nat := BM.setOf (pre.map Prod.fst)
/-- So far nothing is wrong, and no vertex has come twice. -/
def fine (pre : List (Int × Int)) : Prop := ∀ q y, q ++ [y] <+: pre → y.2 = 0 ∧ BM.has (been q) y.1 = false
theorem has_been {pre : List (Int × Int)} {x : Int} : BM.has (been pre) x = true ↔ (0 ≤ x ∧ x < 64) ∧ x ∈ pre.map Prod.fst := by
  unfold been BM.has
  rw [BM.setOf_eq, Bool.and_eq_true, decide_eq_true_iff]
  refine and_congr_right fun h => ?_
  rw [BM.ofL_bit _ (by omega), List.contains_iff_mem, Int.toNat_of_nonneg h.1]
theorem been_snoc (pre : List (Int × Int)) (y : Int × Int) : been (pre ++ [y]) = been pre ||| BM.only y.1 := by
  unfold been
  rw [List.map_append, List.map_singleton, BM.setOf_snoc]
theorem fine_nil : fine [] := fun q y h => by
  have := List.prefix_nil.1 h
  simp at this
theorem fine_snoc {pre : List (Int × Int)} {y : Int × Int} (h : fine pre) (h0 : y.2 = 0) (hy : BM.has (been pre) y.1 = false) : fine (pre ++ [y]) := fun q z hz => by
  rcases List.prefix_concat_iff.1 hz with e | e
  · obtain ⟨rfl, e2⟩ := List.append_inj' e rfl
    obtain rfl : z = y := by simpa using e2
    exact ⟨h0, hy⟩
  · exact h q z e
theorem fine_codes {pre : List (Int × Int)} (h : fine pre) : ∀ y ∈ pre, y.2 = 0 := fun y hy => by
  obtain ⟨a, b, rfl⟩ := List.append_of_mem hy
  exact (h a y ⟨b, by simp⟩).1
theorem fine_nodup : ∀ {pre : List (Int × Int)}, fine pre → (∀ y ∈ pre, 0 ≤ y.1 ∧ y.1 < 64) → (pre.map Prod.fst).Nodup := by
  intro pre
  obtain ⟨n, hn⟩ : ∃ n, n = pre.length := ⟨_, rfl⟩
  induction n generalizing pre with
  | zero =>
    intro _ _
    rw [List.length_eq_zero_iff.1 hn.symm]
    simp
  | succ n ih =>
    intro h hr
    obtain ⟨l, a, rfl⟩ : ∃ l a, pre = l ++ [a] := by
      rcases List.eq_nil_or_concat pre with rfl | ⟨l, a, e⟩
      · simp at hn
      · exact ⟨l, a, by simpa using e⟩
    have h1 : fine l := fun q y hq => h q y (hq.trans ⟨[a], rfl⟩)
    rw [List.map_append, List.nodup_append]
    refine ⟨ih (by simpa using hn) h1 (fun y hy => hr y (by simp [hy])), by simp, fun x hx y hy e => ?_⟩
    have hb := (h l a (List.prefix_refl _)).2
    have ht : BM.has (been l) a.1 = true := has_been.2 ⟨hr a (by simp), by
      have : y = a.1 := by simpa using hy
      rw [← this, ← e]
      exact hx⟩
    rw [ht] at hb
    cases hb
theorem fine_yes {n : Nat} {u : Int} {xs : List (Arc × Int)} (h : fine (stops n u xs)) (hr : ∀ y ∈ stops n u xs, y.2 = 0 → 0 ≤ y.1 ∧ y.1 < 64) : simple n u xs = true :=
  simple_yes (fine_codes h) (fine_nodup h (fun y hy => hr y hy (fine_codes h y hy)))
theorem fine_no {n : Nat} {u : Int} {xs : List (Arc × Int)} {p : List (Int × Int)} {y : Int × Int} (hp : fine p) (h : p ++ [y] <+: stops n u xs) (hy : y.2 ≠ 0 ∨ BM.has (been p) y.1 = true) : simple n u xs = false :=
  simple_no (fine_codes hp) h (hy.imp id (fun h => (has_been.1 h).2))
/-- Every head of an arc that may be asked for is a number of a set. -/
def Small (m : GM.M) : Prop := ∀ i, 0 ≤ (GM.arc m i).head ∧ (GM.arc m i).head < 64
theorem run_small : ∀ (xs : List (Arc × Int)) (u : Int), (∀ x ∈ xs, 0 ≤ x.1.head ∧ x.1.head < 64) → ∀ y ∈ run u xs, 0 ≤ y.1 ∧ y.1 < 64
  | [], _, _ => by intro y hy; simp [run] at hy
  | x :: xs, u, h => by
    intro y hy
    rw [run] at hy
    rcases List.mem_cons.1 hy with rfl | hy
    · exact h x (by simp)
    · split at hy
      · exact run_small xs _ (fun z hz => h z (by simp [hz])) y hy
      · simp at hy
theorem stops_small {n : Nat} (hn : n ≤ 64) {m : GM.M} (hm : Small m) (u : Int) (zs : List Int) : ∀ y ∈ stops n u (list m zs), y.2 = 0 → 0 ≤ y.1 ∧ y.1 < 64 := by
  intro y hy h0
  unfold stops at hy
  split at hy
  · rename_i hv
    rcases List.mem_cons.1 hy with rfl | hy
    · unfold GM.vert at hv
      have := of_decide_eq_true hv
      dsimp only
      omega
    · refine run_small _ _ (fun x hx => ?_) y hy
      unfold list at hx
      obtain ⟨id, -, rfl⟩ := List.mem_map.1 hx
      unfold arcOf GM.look
      dsimp only
      split
      · exact hm _
      · exact ⟨by decide, by decide⟩
  · rw [List.mem_singleton.1 hy] at h0
    cases h0
end WK

/-- What lies in Simple's cells. -/
structure Spl (w : World) (p : Nat) (u : Int) (v : Value) (s : Nat) (ok : Bool) (W : World) : Prop where
  set : Boxed W w.heap.size 76 (.int .u64 s)
  ok : Boxed W (w.heap.size + 1) 4 (.bool ok)
  bg : Boxed W (w.heap.size + 1 + 1) 25 (.pointer (some ⟨p, 0, none⟩))
  bf : Boxed W (w.heap.size + 1 + 1 + 1) 3 (.int .i64 u)
  bi : Boxed W (w.heap.size + 1 + 1 + 1 + 1) 23 v
  bel : Below w.heap.size w W
theorem Spl.below {w W W' : World} {p : Nat} {u : Int} {v : Value} {s : Nat} {k : Bool} (h : Spl w p u v s k W) (hb : Below (w.heap.size + 5) W W') : Spl w p u v s k W' :=
  ⟨(hb.block _ (by omega)).trans h.set, (hb.block _ (by omega)).trans h.ok, (hb.block _ (by omega)).trans h.bg, (hb.block _ (by omega)).trans h.bf, (hb.block _ (by omega)).trans h.bi, h.bel.trans (hb.mono (by omega))⟩
theorem Spl.put {w W : World} {p : Nat} {u : Int} {v : Value} {s : Nat} {k : Bool} (h : Spl w p u v s k W) (s' : Nat) : Spl w p u v s' k (W.setCell ⟨w.heap.size, 0, none⟩ (.int .u64 s')) :=
  ⟨h.set.set _, h.ok.other (by omega) _, h.bg.other (by omega) _, h.bf.other (by omega) _, h.bi.other (by omega) _, h.bel.setCell (p := ⟨w.heap.size, 0, none⟩) (Nat.le_refl _) _⟩
theorem Spl.no {w W : World} {p : Nat} {u : Int} {v : Value} {s : Nat} {k : Bool} (h : Spl w p u v s k W) (k' : Bool) : Spl w p u v s k' (W.setCell ⟨w.heap.size + 1, 0, none⟩ (.bool k')) :=
  ⟨h.set.other (by omega) _, h.ok.set _, h.bg.other (by omega) _, h.bf.other (by omega) _, h.bi.other (by omega) _, h.bel.setCell (p := ⟨w.heap.size + 1, 0, none⟩) (by show w.heap.size ≤ w.heap.size + 1; omega) _⟩
/-- Three boxes more, behind two. -/
theorem spl_new (w W : World) (p : Nat) (u : Int) (v : Value) (s : Nat) (k : Bool) (s2 : W.heap.size = w.heap.size + 1 + 1) (b1 : Boxed W w.heap.size 76 (.int .u64 s)) (b2 : Boxed W (w.heap.size + 1) 4 (.bool k)) (l1 : Below w.heap.size w W) :
    Spl w p u v s k (((W.alloc (.cells #[.pointer (some ⟨p, 0, none⟩)] 25)).alloc (.cells #[.int .i64 u] 3)).alloc (.cells #[v] 23)) ∧ (((W.alloc (.cells #[.pointer (some ⟨p, 0, none⟩)] 25)).alloc (.cells #[.int .i64 u] 3)).alloc (.cells #[v] 23)).heap.size = w.heap.size + 5 := by
  have s3 : (W.alloc (.cells #[.pointer (some ⟨p, 0, none⟩)] 25)).heap.size = w.heap.size + 1 + 1 + 1 := by simp [s2]
  have b3 := Boxed.new W 25 (.pointer (some ⟨p, 0, none⟩))
  rw [s2] at b3
  replace b1 := b1.alloc (.cells #[.pointer (some ⟨p, 0, none⟩)] 25)
  replace b2 := b2.alloc (.cells #[.pointer (some ⟨p, 0, none⟩)] 25)
  replace l1 := l1.alloc (by omega) (.cells #[.pointer (some ⟨p, 0, none⟩)] 25)
  generalize W.alloc (.cells #[.pointer (some ⟨p, 0, none⟩)] 25) = w3 at *
  have s4 : (w3.alloc (.cells #[.int .i64 u] 3)).heap.size = w.heap.size + 1 + 1 + 1 + 1 := by simp [s3]
  have b4 := Boxed.new w3 3 (.int .i64 u)
  rw [s3] at b4
  replace b1 := b1.alloc (.cells #[.int .i64 u] 3)
  replace b2 := b2.alloc (.cells #[.int .i64 u] 3)
  replace b3 := b3.alloc (.cells #[.int .i64 u] 3)
  replace l1 := l1.alloc (by omega) (.cells #[.int .i64 u] 3)
  generalize w3.alloc (.cells #[.int .i64 u] 3) = w4 at *
  have b5 := Boxed.new w4 23 v
  rw [s4] at b5
  exact ⟨⟨b1.alloc _, b2.alloc _, b3.alloc _, b4.alloc _, b5, l1.alloc (by omega) _⟩, by simp [s4]⟩

set_option maxRecDepth 100000 in
set_option maxHeartbeats 2000000 in
theorem simple_in {w : World} {p N most : Nat} {m : GM.M} (hg : GMem w p N most m) (hm : GM.Good most m) (hN : N ≤ 64) (hsm : WK.Small m) (u : Int) {v : Value} {zs : List Int} (hrow : Row .i64 w v zs) :
    CallsIn Fence.wide 5 Try.prog 17 #[.pointer (some ⟨p, 0, none⟩), .int .i64 u, v] w fun e w' => e = .returned (.bool (WK.simple N u (WK.list m zs))) ∧ Below w.heap.size w w' := by
  have HG : Hid (∀ W, Below w.heap.size w W → GMem W p N most m) := fun W hW => hg.on hW
  have HR : Hid (∀ W, Below w.heap.size w W → Row .i64 W v zs) := fun W hW => hrow.below hW
  obtain ⟨ao, cap, rfl, -⟩ := hrow
  have hgo := stops_goes 4 (by decide) (w.heap.size + 1 + 1) (w.heap.size + 1 + 1 + 1) (w.heap.size + 1 + 1 + 1 + 1) u (.slice ao zs.length cap) zs p N most m hm
  have HSA : Hid (∀ W, Calls Try.prog 29 #[.pointer (some ⟨p, 0, none⟩), .int .i64 u, .slice ao zs.length cap] W fun e w' => e = .returned (.func (.func 54) #[] #[.pointer (some ⟨W.heap.size, 0, none⟩), .pointer (some ⟨W.heap.size + 1, 0, none⟩), .pointer (some ⟨W.heap.size + 1 + 1, 0, none⟩)]) ∧ w' = ((W.alloc (.cells #[.pointer (some ⟨p, 0, none⟩)] 25)).alloc (.cells #[.int .i64 u] 3)).alloc (.cells #[.slice ao zs.length cap] 23)) := fun W => stops_any p u ao zs.length cap W
  have HC1 : Hid (WK.fine (WK.stops N u (WK.list m zs)) → WK.simple N u (WK.list m zs) = true) := fun h => WK.fine_yes h (WK.stops_small hN hsm u zs)
  have HC2 : Hid (∀ q y, WK.fine q → q ++ [y] <+: WK.stops N u (WK.list m zs) → (y.2 ≠ 0 ∨ BM.has (WK.been q) y.1 = true) → WK.simple N u (WK.list m zs) = false) := fun q y h1 h2 h3 => WK.fine_no h1 h2 h3
  have hof := of_none w
  clear hg hm
  generalize WK.simple N u (WK.list m zs) = C at *
  refine callsIn_of_wp_marks Try.func17 rfl trivial ?_ rfl
  simp only [Try.ntmps17, List.size_toArray, List.length_cons, List.length_nil, Nat.reduceAdd, Nat.reduceSub, Array.replicate_succ, Array.replicate_zero, List.push_toArray, List.append_toArray, List.nil_append, List.cons_append]
  refine wpIn_wide.2 ?_
  go_wp2_with fail
  go_step3
  go_wp2_with fail
  refine hof.mono ?_
  rintro e w9 ⟨rfl, hw9⟩
  rw [hw9]
  clear hw9 w9 hof
  go_wp2_with fail
  go_step3
  go_wp2_with fail
  refine (HSA.out _).mono ?_
  rintro e w9 ⟨rfl, hw9⟩
  rw [hw9]
  clear hw9 w9 HSA
  simp only [World.size_alloc]
  have hN0 := spl_new w ((w.alloc (.cells #[.int .u64 0] 76)).alloc (.cells #[.bool true] 4)) p u (.slice ao zs.length cap) 0 true (by simp) ((Boxed.new w 76 (.int .u64 0)).alloc _) (by
    have := Boxed.new (w.alloc (.cells #[.int .u64 0] 76)) 4 (.bool true)
    rwa [World.size_alloc] at this) (((Below.refl _ _).alloc (Nat.le_refl _) _).alloc (by simp) _)
  obtain ⟨hB0, hS⟩ := hN0
  generalize ((((w.alloc (.cells #[.int .u64 0] 76)).alloc (.cells #[.bool true] 4)).alloc (.cells #[.pointer (some ⟨p, 0, none⟩)] 25)).alloc (.cells #[.int .i64 u] 3)).alloc (.cells #[.slice ao zs.length cap] 23) = W0 at *
  go_wp2_with fail
  refine (wpIn_wide (n := 5)).1 (range_low (by decide) (gf := 54) (lb := #[.pointer (some ⟨w.heap.size + 1 + 1, 0, none⟩), .pointer (some ⟨w.heap.size + 1 + 1 + 1, 0, none⟩), .pointer (some ⟨w.heap.size + 1 + 1 + 1 + 1, 0, none⟩)]) rfl (enters_of Try.func54 (by kernel_rfl) rfl) hgo (fun _ => rfl)
    (fun pre W => Spl w p u (.slice ao zs.length cap) (WK.been pre) true W ∧ WK.fine pre)
    (fun c pre W => c = .exit 0 ∧ ∃ q y s, pre = q ++ [y] ∧ WK.fine q ∧ (y.2 ≠ 0 ∨ BM.has (WK.been q) y.1 = true) ∧ Spl w p u (.slice ao zs.length cap) s false W)
    (fun pre A A' h hb => ⟨h.1.below (hb.mono (by omega)), h.2⟩)
    (fun c pre A A' h hb => by
      obtain ⟨h1, q, y, k, h2, h3, h4, h5⟩ := h
      exact ⟨h1, q, y, k, h2, h3, h4, h5.below (hb.mono (by omega))⟩)
    (fun pre A h => ⟨h.1.bg.cell, h.1.bf.cell, h.1.bi.cell, HR.out A h.1.bel, HG.out A h.1.bel⟩)
    ⟨hB0, WK.fine_nil⟩
    (fun x A => { tmps := #[.pointer (some ⟨p, 0, none⟩), .int .i64 u, .slice ao zs.length cap, undef, undef, undef, .bool false, .pointer (some ⟨w.heap.size, 0, none⟩), .pointer (some ⟨w.heap.size + 1, 0, none⟩), .int .i64 x.1, .int .i64 x.2, .int .u64 0, .pointer (some ⟨p, 0, none⟩), .int .i64 u, .slice ao zs.length cap, .func (.func 54) #[] #[.pointer (some ⟨w.heap.size + 1 + 1, 0, none⟩), .pointer (some ⟨w.heap.size + 1 + 1 + 1, 0, none⟩), .pointer (some ⟨w.heap.size + 1 + 1 + 1 + 1, 0, none⟩)], .int .i64 x.1, .int .i64 x.2, undef, undef, undef, undef, undef, undef, undef, undef, undef, undef], defers := [] })
    (fun x A => A)
    (fun x W => Below.refl _ W) ?assign ?body ?done ?stop)
  case assign =>
    rintro l ⟨x, cd⟩ W K hK
    simp only [stopV]
    gi_wp2
    exact hK
  case body =>
    rintro l pre ⟨x, cd⟩ A W ⟨hb, hf⟩ hlt hA hblk hsz
    have k0 := hb.set.cell
    have f0 := hb.set.frozen
    have k1 := hb.ok.cell
    have f1 := hb.ok.frozen
    have HB : Hid (Spl w p u (.slice ao zs.length cap) (WK.been pre) true W) := hb
    have HF : Hid (WK.fine pre) := hf
    have HS : Hid (w.heap.size + 5 ≤ W0.heap.size) := Nat.le_of_eq hS.symm
    have hsl : WK.been pre < 18446744073709551616 := BM.setOf_lt _
    have hhas := has_any (WK.been pre) x hsl W
    have hwith := with_any (WK.been pre) x hsl W
    have HBS : Hid (WK.been (pre ++ [(x, cd)]) = WK.been pre ||| BM.only x) := WK.been_snoc _ _
    have HFS : Hid (cd = 0 → BM.has (WK.been pre) x = false → WK.fine (pre ++ [(x, cd)])) := fun h1 h2 => WK.fine_snoc hf h1 h2
    have HNO : Hid (cd ≠ 0 ∨ BM.has (WK.been pre) x = true → ∃ q y s, pre ++ [(x, cd)] = q ++ [y] ∧ WK.fine q ∧ (y.2 ≠ 0 ∨ BM.has (WK.been q) y.1 = true) ∧ Spl w p u (.slice ao zs.length cap) s false (W.setCell ⟨w.heap.size + 1, 0, none⟩ (.bool false))) := fun h => ⟨pre, (x, cd), _, rfl, hf, h, hb.no false⟩
    have HA : Hid (Above W0.heap.size W (W.setCell ⟨w.heap.size + 1, 0, none⟩ (.bool false))) := above_set _ _ _ (by have := HS.out; omega) _
    clear hb hf hblk hgo hB0 hS hsz
    by_cases hcd : cd = 0
    · generalize hh : BM.has (WK.been pre) x = bh at *
      cases bh with
      | false =>
        have HN : Hid (Spl w p u (.slice ao zs.length cap) (WK.been (pre ++ [(x, cd)])) true (W.setCell ⟨w.heap.size, 0, none⟩ (.int .u64 (WK.been pre ||| BM.only x : Nat))) ∧ WK.fine (pre ++ [(x, cd)])) := by
          rw [HBS.out]
          exact ⟨HB.out.put _, HFS.out hcd rfl⟩
        have HA2 : Hid (Above W0.heap.size W (W.setCell ⟨w.heap.size, 0, none⟩ (.int .u64 (WK.been pre ||| BM.only x : Nat)))) := above_set _ _ _ (by have := HS.out; omega) _
        subst hcd
        clear hh HBS HFS HNO
        generalize WK.been pre = s at *
        generalize s ||| BM.only x = s2 at *
        gi_wp2_with fail
        refine ⟨trivial, (CallsIn.inRound l (callsIn_wide.2 hhas)).mono ?_⟩
        rintro e w9 ⟨rfl, hw9⟩
        rw [hw9]
        clear hw9 w9 hhas
        gi_wp2_with fail
        refine ⟨trivial, (CallsIn.inRound l (callsIn_wide.2 hwith)).mono ?_⟩
        rintro e w9 ⟨rfl, hw9⟩
        rw [hw9]
        clear hw9 w9 hwith
        gi_wp2_with fail
        exact ⟨HA2.out, HN.out⟩
      | true =>
        have HN := HNO.out (.inr rfl)
        have HN2 : Hid (∃ q y s, pre ++ [(x, cd)] = q ++ [y] ∧ WK.fine q ∧ (y.2 ≠ 0 ∨ BM.has (WK.been q) y.1 = true) ∧ Spl w p u (.slice ao zs.length cap) s false (W.setCell ⟨w.heap.size + 1, 0, none⟩ (.bool false))) := HN
        subst hcd
        clear hh HBS HFS HNO HN hwith
        generalize WK.been pre = s at *
        gi_wp2_with fail
        refine ⟨trivial, (CallsIn.inRound l (callsIn_wide.2 hhas)).mono ?_⟩
        rintro e w9 ⟨rfl, hw9⟩
        rw [hw9]
        clear hw9 w9 hhas
        gi_wp2_with fail
        exact ⟨HA.out, rfl, HN2.out⟩
    · have hcd2 : (cd != 0) = true := by simpa using hcd
      have HN2 : Hid (∃ q y s, pre ++ [(x, cd)] = q ++ [y] ∧ WK.fine q ∧ (y.2 ≠ 0 ∨ BM.has (WK.been q) y.1 = true) ∧ Spl w p u (.slice ao zs.length cap) s false (W.setCell ⟨w.heap.size + 1, 0, none⟩ (.bool false))) := HNO.out (.inl hcd)
      clear HBS HFS HNO hwith hhas
      gi_wp2_with fail
      first
        | exact ⟨HA.out, rfl, HN2.out⟩
        | (refine ⟨trivial, ?_⟩
           gi_wp2_with fail
           exact ⟨HA.out, rfl, HN2.out⟩)
  case done =>
    rintro ys W rfl ⟨hb, hf⟩ hK
    obtain rfl := HC1.out hf
    have k1 := hb.ok.cell
    have HBL : Hid (Below w.heap.size w W) := hb.bel
    rw [hS] at hK
    clear hb hgo hB0 hf
    go_wp2_with fail
    refine ⟨by simp, .inl ⟨_, _, rfl, run_takeDeferred hK, ?_⟩⟩
    exact ⟨_, results_tmp rfl _ _ _, rfl, HBL.out.trans (belowK_b (w := w) (Nat.le_refl _) W _ _ _ (by omega) hK rfl rfl)⟩
  case stop =>
    rintro c pre W hpre ⟨rfl, q, y, s, rfl, hq, hy, hb⟩ hK
    obtain rfl := HC2.out _ _ hq hpre hy
    have k1 := hb.ok.cell
    have HBL : Hid (Below w.heap.size w W) := hb.bel
    rw [hS] at hK
    clear hb hgo hB0 hq hy
    refine wpIn_wide.2 ?_
    go_wp2_with fail
    refine ⟨by simp, .inl ⟨_, _, rfl, run_takeDeferred hK, ?_⟩⟩
    exact ⟨_, results_tmp rfl _ _ _, rfl, HBL.out.trans (belowK_b (w := w) (Nat.le_refl _) W _ _ _ (by omega) hK rfl rfl)⟩
/-- Simple: the document's answer. -/
theorem simple_any {w : World} {p N most : Nat} {m : GM.M} (hg : GMem w p N most m) (hm : GM.Good most m) (hN : N ≤ 64) (hsm : WK.Small m) (u : Int) {v : Value} {zs : List Int} (hrow : Row .i64 w v zs) :
    Calls Try.prog 17 #[.pointer (some ⟨p, 0, none⟩), .int .i64 u, v] w fun e w' => e = .returned (.bool (WK.simple N u (WK.list m zs))) ∧ Below w.heap.size w w' := callsIn_wide.1 (simple_in hg hm hN hsm u hrow)
end Go.Proofs.Ytjnihkfnnokmdaa
