/-
  NHeapN, NHeapEI.
-/
import Derived.Test.YtkcfepppnclniaaMmNHeapMem
import Derived.Test.YtkcfepppnclniaaMmNHeapBI
import Derived.BigRegion
import Derived.BigQuiet
import Derived.Laws.CopyOwn
import Derived.Deep.RegionLaw
import Derived.Deep.OwnRows
import Derived.Deep.DeepCutAuto
import Derived.Laws.MathBits
import Derived.Deep.RegionWith
import Derived.Deep.RegionHeld3
section
/-
  The walks of math/bits.Mul and slices.Repeat, of one number.
-/
namespace Go.Proofs.Ytkcfepppnclniaa
namespace HN
open Go.RowKit

theorem info3 : (Try.prog.info? 3).map (fun i => (i.zero, i.size, i.bytes)) = some (some (.int .i64 0), 1, 8) := by kernel_rfl
theorem size3 : (Try.prog.info? 3).map (·.size) = some 1 := by kernel_rfl

set_option maxHeartbeats 1000000 in
theorem mul64_one (n : Nat) (hn : n ≤ 64) (w : World) :
    Calls Try.prog 75 #[.int .u64 1, .int .u64 n] w fun e w' => e = .returned (.tuple #[.int .u64 0, .int .u64 n]) ∧ w' = w := by
  have h1 : bits .and .u64 1 4294967295 = 1 := by decide
  have h2 : bits .and .u64 (n : Int) 4294967295 = (n : Int) := by rw [and_low32 _ (by omega) (by omega)]; omega
  have h3 : (n : Int) / 4294967296 = 0 := by omega
  have h4 : bits .and .u64 0 4294967295 = 0 := by decide
  go_enter Try.func75, Try.ntmps75
  go_wp2_with fail
  go_ret2
  exact ⟨rfl, rfl⟩
set_option maxHeartbeats 1000000 in
theorem mul_one (n : Nat) (hn : n ≤ 64) (w : World) :
    Calls Try.prog 71 #[.int .u64 1, .int .u64 n] w fun e w' => e = .returned (.tuple #[.int .u64 0, .int .u64 n]) ∧ w' = w := by
  have hc := mul64_one n hn w
  go_enter Try.func71, Try.ntmps71
  go_wp2_with fail
  refine hc.mono ?_
  rintro e w' ⟨rfl, rfl⟩
  go_wp2_with fail
  go_ret2
  exact ⟨rfl, rfl⟩

/-- A row of n, the first k of which are x. -/
def blk (x : Int) (n k : Nat) : List Value := List.replicate k (.int .i64 x) ++ List.replicate (n - k) (.int .i64 0)
def ones (x : Int) (k : Nat) : List Value := List.replicate k (.int .i64 x)
theorem blk_len {x : Int} {n k : Nat} (h : k ≤ n) : (blk x n k).length = n := by simp [blk]; omega
theorem ones_len (x : Int) (k : Nat) : (ones x k).length = k := by simp [ones]
theorem blk_splice {x : Int} {n k j : Nat} (h : k + j ≤ n) : splice (blk x n k) k (ones x j) = blk x n (k + j) := by
  unfold splice blk ones
  rw [List.take_append_of_le_length (by simp), List.take_of_length_le (by simp), List.length_replicate, List.drop_append, List.drop_of_length_le (by simp)]
  simp only [List.length_replicate, List.nil_append, List.drop_replicate]
  rw [← List.append_assoc, List.replicate_append_replicate]
  congr 2
  omega
theorem ones_at {x : Int} (k j : Nat) (v : Value) (h : (ones x k)[j]? = some v) : j < k ∧ v = .int .i64 x := by
  unfold ones at h
  rw [List.getElem?_replicate] at h
  split at h
  · exact ⟨by assumption, (Option.some.inj h).symm⟩
  · cases h
theorem ones_one (x : Int) (k : Nat) : ∀ v ∈ ones x k, v.oneCell' = true := by
  intro v hv
  obtain rfl := List.eq_of_mem_replicate hv
  rfl

set_option maxHeartbeats 2000000 in
theorem repeat_of (b n : Nat) (x : Int) (hn : n ≤ 64) (w : World) (hb : w.cell? ⟨b, 0, none⟩ = some (.int .i64 x)) :
    Calls Try.prog 61 #[.slice (some ⟨b, 0, none⟩) 1 1, .int .i64 n] w fun e w' => e = .returned (.slice (some ⟨w.heap.size, 0, none⟩) n n) ∧
      w'.ownsRow w.heap.size 3 1 (.slice (some ⟨w.heap.size, 0, none⟩) n n) n ((List.replicate n x).map (Value.int .i64)) ∧ Below w.heap.size w w' := by
  have hc := mul_one n hn w
  have hmk := run_make_row' (P := Try.prog) 43 3 (.int .i64 0) 8 Try.underlying43 info3 rfl .i64 .i64 n (by omega) (by omega)
  have hlb : b < w.heap.size := cell_lt hb
  go_enter Try.func61, Try.ntmps61
  go_wp2_with fail
  refine hc.mono ?_
  rintro e w' ⟨rfl, rfl⟩
  have hb1 : Below w'.heap.size w' (w'.alloc (.cells (madeCells #[.int .i64 0] n) 3)) := (Below.refl _ _).alloc (Nat.le_refl _) _
  have hg1 : (w'.alloc (.cells (madeCells #[.int .i64 0] n) 3)).heap[w'.heap.size]? = some (.cells (blk x n 0).toArray 3 (0, 0)) := by
    rw [heap_alloc_new]
    congr 2
    apply Array.ext'
    rw [toList_madeCells_one]
    simp [blk]
  have hsrc : ∀ j v, (ones x (min 1 n))[j]? = some v → (w'.alloc (.cells (madeCells #[.int .i64 0] n) 3)).cell? ((⟨b, 0, none⟩ : Addr).add j) = some v := by
    intro j v hj
    obtain ⟨h1, rfl⟩ := ones_at _ _ _ hj
    obtain rfl : j = 0 := by omega
    rw [hb1.cell (by simpa [Addr.add] using hlb)]
    simpa [Addr.add] using hb
  obtain ⟨k0, hk0⟩ : ∃ k0, k0 = min 1 n := ⟨_, rfl⟩
  rw [← hk0] at hsrc
  have hk1 : k0 ≤ n := by omega
  have hk2 : n = 0 ∨ 0 < k0 := by omega
  have hk3 : (ones x k0).length = Nat.min 1 n := by rw [ones_len, hk0]
  have HG1 : Hid ((w'.alloc (.cells (madeCells #[.int .i64 0] n) 3)).heap[w'.heap.size]? = some (.cells (blk x n 0).toArray 3 (0, 0))) := hg1
  have HS1 : Hid (∀ j v, (ones x k0)[j]? = some v → (w'.alloc (.cells (madeCells #[.int .i64 0] n) 3)).cell? ((⟨b, 0, none⟩ : Addr).add j) = some v) := hsrc
  have HK3 : Hid ((ones x k0).length = Nat.min 1 n) := hk3
  have hol := ones_len x k0
  clear hk0 hg1 hsrc hk3
  go_upto_region 7 with fail
  go_wp2_with (refine wpList_copy_splice rfl (.tmp 31) (.tmp 32) 43 43 rfl 3 Try.underlying43 size3 (some ⟨w'.heap.size, 0, none⟩) (some ⟨b, 0, none⟩) n n 1 1 rfl rfl w'.heap.size 0 (blk x n 0) 3 HG1.out (ones x k0) HK3.out (fun _ => ⟨rfl, _, rfl, HS1.out⟩) (by rw [blk_len (Nat.zero_le _), ones_len]; omega) (ones_one x _) w'.heap.size w' hb1 (Nat.le_refl _) ?_)
  intro w1 hg1 hbw1
  rw [blk_splice (by omega), Nat.zero_add] at hg1
  clear hb1 HG1 HS1 HK3 hmk hc hb
  go_wp2_with fail
  go_loopw [8] (fun kv wr => ∃ k : Nat, k ≤ n ∧ (n = 0 ∨ 0 < k) ∧ kv = .int .i64 k ∧ Hid (wr.heap[w'.heap.size]? = some (.cells (blk x n k).toArray 3 (0, 0))) ∧ Below w'.heap.size w' wr) (fun kv _ => n - (intOf kv).toNat)
  case atStart => exact ⟨k0, hk1, hk2, by simp, hg1, hbw1⟩
  case round =>
    obtain ⟨k, hk, hkp, rfl, hgr, hbr⟩ := hrel
    clear hol hg1 hbw1 hk1 hk2
    by_cases hlt : k < n
    · obtain ⟨j, hj⟩ : ∃ j, j = min k (n - k) := ⟨_, rfl⟩
      have hjl : (ones x j).length = Nat.min k (n - k) := by rw [ones_len, hj]
      have hol := ones_len x j
      have hsrc : ∀ i v, (ones x j)[i]? = some v → wr.cell? ((⟨w'.heap.size, 0, none⟩ : Addr).add i) = some v := by
        intro i v hi
        obtain ⟨h1, rfl⟩ := ones_at _ _ _ hi
        rw [Addr.add_lit, cell_of_row wr w'.heap.size (0 + i) _ 3 (0, 0) hgr.out]
        have : i < k := by omega
        simp [blk, List.getElem?_append, this]
      have HS : Hid (∀ i v, (ones x j)[i]? = some v → wr.cell? ((⟨w'.heap.size, 0, none⟩ : Addr).add i) = some v) := hsrc
      have HJ : Hid ((ones x j).length = Nat.min k (n - k)) := hjl
      have hj1 : 0 < j := by omega
      have hj2 : k + j ≤ n := by omega
      have hsp : splice (blk x n k) k (ones x j) = blk x n (k + j) := blk_splice hj2
      have HSP : Hid (splice (blk x n k) k (ones x j) = blk x n (k + j)) := hsp
      have kn : (k : Int) ≤ (n : Int) := by omega
      have hwr : IntKind.i64.wrap ((k : Int) + (j : Int)) = ((k + j : Nat) : Int) := by
        rw [← Int.natCast_add]
        simp [IntKind.wrap, IntKind.bits, IntKind.signed]
        omega
      have HWR : Hid (IntKind.i64.wrap ((k : Int) + (j : Int)) = ((k + j : Nat) : Int)) := hwr
      clear hsrc hjl hj hsp hwr
      go_wp2_with fail
      go_region_law (refine step_copy_splice rfl (.tmp 41) (.tmp 44) 43 43 rfl 3 Try.underlying43 size3 (some ⟨w'.heap.size, k, none⟩) (some ⟨w'.heap.size, 0, none⟩) (n - k) (n - k) k n (by simp [Act.eval, Act.put]; omega) (by simp [Act.eval, Act.put]) w'.heap.size k (blk x n k) 3 hgr.out (ones x j) HJ.out (fun _ => ⟨rfl, _, rfl, HS.out⟩) (by rw [blk_len hk, ones_len]; omega) (ones_one x _) w'.heap.size w' hbr.drew (Nat.le_refl _) ?_; intro w4 hg4 hb4)
      rw [HSP.out] at hg4
      all_goals (go_wp2_with fail; go_roundw)
      case rel => exact ⟨k + j, hj2, .inr (by omega), HWR.out, hg4⟩
      case measure => simp only [intOf]; rw [HWR.out]; omega
    · obtain rfl : k = n := by omega
      go_wp2_with fail
      go_ret
      refine ⟨rfl, ⟨by simp, Or.inr ⟨w'.heap.size, k, _, rfl, Nat.le_refl _, hgr.out, Nat.le_refl _, by unfold maxLen; omega, by simp [blk], by simp [blk]⟩⟩, hbr⟩
theorem repeat_any (b n : Nat) (hn : n ≤ 64) (w : World) (hb : w.cell? ⟨b, 0, none⟩ = some (.int .i64 (-1))) :
    Calls Try.prog 61 #[.slice (some ⟨b, 0, none⟩) 1 1, .int .i64 n] w fun e w' => e = .returned (.slice (some ⟨w.heap.size, 0, none⟩) n n) ∧
      w'.ownsRow w.heap.size 3 1 (.slice (some ⟨w.heap.size, 0, none⟩) n n) n ((List.replicate n (-1 : Int)).map (Value.int .i64)) ∧ Below w.heap.size w w' := repeat_of b n (-1) hn w hb
end HN
end Go.Proofs.Ytkcfepppnclniaa
end

section
/-
  The walk of package heap's New, where priorities are of type int.
-/
namespace Go.Proofs.Ytkcfepppnclniaa
namespace HI
open Go.RowKit

theorem infoC : (Try.prog.info? 3).map (fun i => (i.zero, i.size, i.bytes)) = some (some ((Value.int .i64) (0 : Int)), 1, 8) := by kernel_rfl

theorem new_mem {w : World} {B g c n : Nat} {st : TypeId} (h1 : w.ownsRow B 3 1 (.slice (some ⟨g, 0, none⟩) n n) n ((List.replicate n (-1 : Int)).map (Value.int .i64))) (h2 : w.ownsRow B 3 1 (.slice (some ⟨c, 0, none⟩) n n) n ((List.replicate n (0 : Int)).map (Value.int .i64))) (hgc : g ≠ c) (hB : B ≤ w.heap.size) {p : Nat} (hp : p = w.heap.size) :
    HMem (Value.int .i64) 3 (w.alloc (.cells #[.slice none 0 0, .slice (some ⟨g, 0, none⟩) n n, .slice (some ⟨c, 0, none⟩) n n] st)) B p g c (.slice none 0 0) [] (List.replicate n (-1)) (List.replicate n (0 : Int)) := by
  subst hp
  have l1 := (World.ownsRow.lt h1 g rfl).2
  have l2 := (World.ownsRow.lt h2 c rfl).2
  refine ⟨by simp, ⟨n, by simp, ?_⟩, ⟨n, by simp, ?_⟩, by simp, World.ownsRow_nil _ _ _ _, hB, by omega, by omega, hgc, fun g' h => by cases h⟩
  · rw [List.length_replicate]; exact h1.alloc _
  · rw [List.length_replicate]; exact h2.alloc _
theorem rep_new (n : Nat) : HM.Rep HM.TI (0 : Int) n (fun _ => none) [] (List.replicate n (-1)) (List.replicate n (0 : Int)) := by
  refine ⟨⟨by simp, fun i hi => by simp at hi, fun t ht => .inl ?_⟩, by simp, fun k _ hk => by simp at hk, fun t => ?_⟩
  · simp [HM.pat, ht]
  · by_cases ht : t < n
    · simp [HM.pat, ht]
    · rw [if_neg (by omega)]

theorem row_base {w : World} {B B' : Nat} {e : TypeId} {v : Value} {n : Nat} {xs : List Value} (h : w.ownsRow B e 1 v n xs) (hb : B' ≤ B) : w.ownsRow B' e 1 v n xs := by
  refine ⟨h.1, ?_⟩
  rcases h.2 with h' | ⟨g, cap, cur, hv, hg, r⟩
  · exact .inl h'
  · exact .inr ⟨g, cap, cur, hv, Nat.le_trans hb hg, r⟩
theorem made_row (w : World) (B n : Nat) (hB : B ≤ w.heap.size) (hn : n ≤ 64) : (w.alloc (.cells (madeCells #[(Value.int .i64) (0 : Int)] n) 3)).ownsRow B 3 1 (.slice (some ⟨w.heap.size, 0, none⟩) n n) n ((List.replicate n (0 : Int)).map (Value.int .i64)) := by
  have h := World.ownsRow_lit (base := B) (e := 3) (size := 1) w (madeCells #[(Value.int .i64) (0 : Int)] n) n hB (by unfold maxLen; omega) (by rw [size_madeCells]; omega)
  rw [toList_madeCells_one] at h
  simpa using h
theorem below_row {w w' : World} {B : Nat} {e : TypeId} {v : Value} {n : Nat} {xs : List Value} (h : w.ownsRow B e 1 v n xs) (hb : Below w.heap.size w w') : w'.ownsRow B e 1 v n xs := (Below.keeps hb (fun _ => False)).row h (fun _ _ h => h)

set_option maxHeartbeats 2000000 in
theorem new_bad (n : Int) (hn : n < 0 ∨ 64 < n) (w : World) :
    Calls Try.prog 49 #[.int .i64 n] w fun e w' => e = .returned (.tuple #[.pointer none, .int .i64 1]) ∧ w' = w := by
  by_cases h0 : n < 0
  · go_enter Try.func49, Try.ntmps49
    go_wp2_with fail
    go_ret2
    exact ⟨rfl, rfl⟩
  · have h1 : 64 < n := by omega
    clear hn
    go_enter Try.func49, Try.ntmps49
    go_wp2_with fail
    go_ret2
    exact ⟨rfl, rfl⟩

set_option maxHeartbeats 2000000 in
theorem new_any (n : Nat) (hn : n ≤ 64) (w : World) :
    Calls Try.prog 49 #[.int .i64 n] w fun e w' => ∃ p bp bc, e = .returned (.tuple #[.pointer (some ⟨p, 0, none⟩), .int .i64 0]) ∧
      HMem (Value.int .i64) 3 w' w.heap.size p bp bc (.slice none 0 0) [] (List.replicate n (-1)) (List.replicate n (0 : Int)) ∧ Below w.heap.size w w' := by
  have hmk := run_make_row' (P := Try.prog) 43 3 ((Value.int .i64) (0 : Int)) 8 Try.underlying43 infoC rfl .i64 .i64 n (by omega) (by omega)
  go_enter Try.func49, Try.ntmps49
  go_wp2_with fail
  go_region_with (go_at_call 61; refine (HN.repeat_any _ n hn _ (by simp)).mono ?_; rintro e w1 ⟨rfl, ho1, hb1⟩)
  all_goals (go_wp2_with fail; go_ret2)
  · have s1 := hb1.size
    have q1 : w1.ownsRow w.heap.size 3 1 (.slice (some ⟨w.heap.size + 1, 0, none⟩) n n) n ((List.replicate n (-1 : Int)).map (Value.int .i64)) := by
      have := row_base ho1 (B' := w.heap.size) (by simp)
      simpa using this
    have b1 : Below w.heap.size w w1 := ((Below.refl _ w).alloc (Nat.le_refl _) _).drew.trans (hb1.mono (B' := w.heap.size) (by simp))
    have s2 : w.heap.size + 1 < w1.heap.size := (World.ownsRow.lt q1 _ rfl).2
    refine ⟨_, w.heap.size + 1, w1.heap.size, rfl, new_mem (q1.alloc _) (made_row w1 w.heap.size n (by omega) hn) (by omega) (by simp; omega) (by simp), (b1.alloc (by omega) _).alloc (by simp; omega) _⟩
  · have s1 := hb1.size
    have q1 : w1.ownsRow w.heap.size 3 1 (.slice (some ⟨w.heap.size + 1 + 1, 0, none⟩) n n) n ((List.replicate n (-1 : Int)).map (Value.int .i64)) := by
      have := row_base ho1 (B' := w.heap.size) (by simp; omega)
      simpa using this
    have b1 : Below w.heap.size w w1 := (((Below.refl _ w).alloc (Nat.le_refl _) _).alloc (by simp) _).drew.trans (hb1.mono (B' := w.heap.size) (by simp; omega))
    have s2 : w.heap.size + 1 + 1 < w1.heap.size := (World.ownsRow.lt q1 _ rfl).2
    have q2 := below_row (made_row (w.alloc (.cells #[.int .i64 (-1)] 3)) w.heap.size n (by simp) hn) (below_of_drew hb1)
    rw [show (w.alloc (.cells #[.int .i64 (-1)] 3)).heap.size = w.heap.size + 1 by simp] at q2
    refine ⟨_, w.heap.size + 1 + 1, w.heap.size + 1, rfl, new_mem q1 q2 (by omega) (by omega) (by simp), b1.alloc (by omega) _⟩
  · have s1 := hb1.size
    have q1 : w1.ownsRow w.heap.size 3 1 (.slice (some ⟨w.heap.size + 1 + 1, 0, none⟩) n n) n ((List.replicate n (-1 : Int)).map (Value.int .i64)) := by
      have := row_base ho1 (B' := w.heap.size) (by simp; omega)
      simpa using this
    have b1 : Below w.heap.size w w1 := (((Below.refl _ w).alloc (Nat.le_refl _) _).alloc (by simp) _).drew.trans (hb1.mono (B' := w.heap.size) (by simp; omega))
    have s2 : w.heap.size + 1 + 1 < w1.heap.size := (World.ownsRow.lt q1 _ rfl).2
    have q2 := below_row ((made_row w w.heap.size n (Nat.le_refl _) hn).alloc (.cells #[.int .i64 (-1)] 3)) (below_of_drew hb1)
    refine ⟨_, w.heap.size + 1 + 1, w.heap.size, rfl, new_mem q1 q2 (by omega) (by omega) (by simp), b1.alloc (by omega) _⟩
end HI
end Go.Proofs.Ytkcfepppnclniaa
end
