/-
  The walks of math/bits.Mul and slices.Repeat, of one number.
-/
import Derived.Test.YtmkpcidgiobpeaaMmNHeapMem
import Derived.BigRegion
import Derived.BigQuiet
import Derived.Laws.CopyOwn
import Derived.Deep.RegionLaw
import Derived.Deep.OwnRows
import Derived.Deep.DeepCutAuto
import Derived.Laws.MathBits
namespace Go.Proofs.Ytmkpcidgiobpeaa
namespace HN
open Go.RowKit

theorem info3 : (Try.prog.info? 3).map (fun i => (i.zero, i.size, i.bytes)) = some (some (.int .i64 0), 1, 8) := by kernel_rfl
theorem size3 : (Try.prog.info? 3).map (·.size) = some 1 := by kernel_rfl

set_option maxHeartbeats 1000000 in
theorem mul64_one (n : Nat) (hn : n ≤ 64) (w : World) :
    Calls Try.prog 69 #[.int .u64 1, .int .u64 n] w fun e w' => e = .returned (.tuple #[.int .u64 0, .int .u64 n]) ∧ w' = w := by
  have h1 : bits .and .u64 1 4294967295 = 1 := by decide
  have h2 : bits .and .u64 (n : Int) 4294967295 = (n : Int) := by rw [and_low32 _ (by omega) (by omega)]; omega
  have h3 : (n : Int) / 4294967296 = 0 := by omega
  have h4 : bits .and .u64 0 4294967295 = 0 := by decide
  go_enter Try.func69, Try.ntmps69
  go_wp2_with fail
  go_ret2
  exact ⟨rfl, rfl⟩
set_option maxHeartbeats 1000000 in
theorem mul_one (n : Nat) (hn : n ≤ 64) (w : World) :
    Calls Try.prog 64 #[.int .u64 1, .int .u64 n] w fun e w' => e = .returned (.tuple #[.int .u64 0, .int .u64 n]) ∧ w' = w := by
  have hc := mul64_one n hn w
  go_enter Try.func64, Try.ntmps64
  go_wp2_with fail
  refine hc.mono ?_
  rintro e w' ⟨rfl, rfl⟩
  go_wp2_with fail
  go_ret2
  exact ⟨rfl, rfl⟩

/-- A row of n, the first k of which are x. -/
def blk (x : Int) (n k : Nat) : List Value := List.replicate k (.int .i64 x) ++ List.replicate (n - k) (.int .i64 0)
def ones (x : Int) (k : Nat) : List Value := List.replicate k (.int .i64 x)
theorem blk_len {x : Int} {n k : Nat} (h : k ≤ n) : (blk x n k).length = n := by simp [blk]; omega
theorem ones_len (x : Int) (k : Nat) : (ones x k).length = k := by simp [ones]
theorem blk_splice {x : Int} {n k j : Nat} (h : k + j ≤ n) : splice (blk x n k) k (ones x j) = blk x n (k + j) := by
  unfold splice blk ones
  rw [List.take_append_of_le_length (by simp), List.take_of_length_le (by simp), List.length_replicate, List.drop_append, List.drop_of_length_le (by simp)]
  simp only [List.length_replicate, List.nil_append, List.drop_replicate]
  rw [← List.append_assoc, List.replicate_append_replicate]
  congr 2
  omega
theorem ones_at {x : Int} (k j : Nat) (v : Value) (h : (ones x k)[j]? = some v) : j < k ∧ v = .int .i64 x := by
  unfold ones at h
  rw [List.getElem?_replicate] at h
  split at h
  · exact ⟨by assumption, (Option.some.inj h).symm⟩
  · cases h
theorem ones_one (x : Int) (k : Nat) : ∀ v ∈ ones x k, v.oneCell' = true := by
  intro v hv
  obtain rfl := List.eq_of_mem_replicate hv
  rfl

set_option maxHeartbeats 2000000 in
theorem repeat_of (b n : Nat) (x : Int) (hn : n ≤ 64) (w : World) (hb : w.cell? ⟨b, 0, none⟩ = some (.int .i64 x)) :
    Calls Try.prog 55 #[.slice (some ⟨b, 0, none⟩) 1 1, .int .i64 n] w fun e w' => e = .returned (.slice (some ⟨w.heap.size, 0, none⟩) n n) ∧
      w'.ownsRow w.heap.size 3 1 (.slice (some ⟨w.heap.size, 0, none⟩) n n) n ((List.replicate n x).map (Value.int .i64)) ∧ Below w.heap.size w w' := by
  have hc := mul_one n hn w
  have hmk := run_make_row' (P := Try.prog) 29 3 (.int .i64 0) 8 Try.underlying29 info3 rfl .i64 .i64 n (by omega) (by omega)
  have hlb : b < w.heap.size := cell_lt hb
  go_enter Try.func55, Try.ntmps55
  go_wp2_with fail
  refine hc.mono ?_
  rintro e w' ⟨rfl, rfl⟩
  have hb1 : Below w'.heap.size w' (w'.alloc (.cells (madeCells #[.int .i64 0] n) 3)) := (Below.refl _ _).alloc (Nat.le_refl _) _
  have hg1 : (w'.alloc (.cells (madeCells #[.int .i64 0] n) 3)).heap[w'.heap.size]? = some (.cells (blk x n 0).toArray 3 (0, 0)) := by
    rw [heap_alloc_new]
    congr 2
    apply Array.ext'
    rw [toList_madeCells_one]
    simp [blk]
  have hsrc : ∀ j v, (ones x (min 1 n))[j]? = some v → (w'.alloc (.cells (madeCells #[.int .i64 0] n) 3)).cell? ((⟨b, 0, none⟩ : Addr).add j) = some v := by
    intro j v hj
    obtain ⟨h1, rfl⟩ := ones_at _ _ _ hj
    obtain rfl : j = 0 := by omega
    rw [hb1.cell (by simpa [Addr.add] using hlb)]
    simpa [Addr.add] using hb
  obtain ⟨k0, hk0⟩ : ∃ k0, k0 = min 1 n := ⟨_, rfl⟩
  rw [← hk0] at hsrc
  have hk1 : k0 ≤ n := by omega
  have hk2 : n = 0 ∨ 0 < k0 := by omega
  have hk3 : (ones x k0).length = Nat.min 1 n := by rw [ones_len, hk0]
  have HG1 : Hid ((w'.alloc (.cells (madeCells #[.int .i64 0] n) 3)).heap[w'.heap.size]? = some (.cells (blk x n 0).toArray 3 (0, 0))) := hg1
  have HS1 : Hid (∀ j v, (ones x k0)[j]? = some v → (w'.alloc (.cells (madeCells #[.int .i64 0] n) 3)).cell? ((⟨b, 0, none⟩ : Addr).add j) = some v) := hsrc
  have HK3 : Hid ((ones x k0).length = Nat.min 1 n) := hk3
  have hol := ones_len x k0
  clear hk0 hg1 hsrc hk3
  go_upto_region 7 with fail
  go_wp2_with (refine wpList_copy_splice rfl (.tmp 31) (.tmp 32) 29 29 rfl 3 Try.underlying29 size3 (some ⟨w'.heap.size, 0, none⟩) (some ⟨b, 0, none⟩) n n 1 1 rfl rfl w'.heap.size 0 (blk x n 0) 3 HG1.out (ones x k0) HK3.out (fun _ => ⟨rfl, _, rfl, HS1.out⟩) (by rw [blk_len (Nat.zero_le _), ones_len]; omega) (ones_one x _) w'.heap.size w' hb1 (Nat.le_refl _) ?_)
  intro w1 hg1 hbw1
  rw [blk_splice (by omega), Nat.zero_add] at hg1
  clear hb1 HG1 HS1 HK3 hmk hc hb
  go_wp2_with fail
  go_loopw [8] (fun kv wr => ∃ k : Nat, k ≤ n ∧ (n = 0 ∨ 0 < k) ∧ kv = .int .i64 k ∧ Hid (wr.heap[w'.heap.size]? = some (.cells (blk x n k).toArray 3 (0, 0))) ∧ Below w'.heap.size w' wr) (fun kv _ => n - (intOf kv).toNat)
  case atStart => exact ⟨k0, hk1, hk2, by simp, hg1, hbw1⟩
  case round =>
    obtain ⟨k, hk, hkp, rfl, hgr, hbr⟩ := hrel
    clear hol hg1 hbw1 hk1 hk2
    by_cases hlt : k < n
    · obtain ⟨j, hj⟩ : ∃ j, j = min k (n - k) := ⟨_, rfl⟩
      have hjl : (ones x j).length = Nat.min k (n - k) := by rw [ones_len, hj]
      have hol := ones_len x j
      have hsrc : ∀ i v, (ones x j)[i]? = some v → wr.cell? ((⟨w'.heap.size, 0, none⟩ : Addr).add i) = some v := by
        intro i v hi
        obtain ⟨h1, rfl⟩ := ones_at _ _ _ hi
        rw [Addr.add_lit, cell_of_row wr w'.heap.size (0 + i) _ 3 (0, 0) hgr.out]
        have : i < k := by omega
        simp [blk, List.getElem?_append, this]
      have HS : Hid (∀ i v, (ones x j)[i]? = some v → wr.cell? ((⟨w'.heap.size, 0, none⟩ : Addr).add i) = some v) := hsrc
      have HJ : Hid ((ones x j).length = Nat.min k (n - k)) := hjl
      have hj1 : 0 < j := by omega
      have hj2 : k + j ≤ n := by omega
      have hsp : splice (blk x n k) k (ones x j) = blk x n (k + j) := blk_splice hj2
      have HSP : Hid (splice (blk x n k) k (ones x j) = blk x n (k + j)) := hsp
      have kn : (k : Int) ≤ (n : Int) := by omega
      have hwr : IntKind.i64.wrap ((k : Int) + (j : Int)) = ((k + j : Nat) : Int) := by
        rw [← Int.natCast_add]
        simp [IntKind.wrap, IntKind.bits, IntKind.signed]
        omega
      have HWR : Hid (IntKind.i64.wrap ((k : Int) + (j : Int)) = ((k + j : Nat) : Int)) := hwr
      clear hsrc hjl hj hsp hwr
      go_wp2_with fail
      go_region_law (refine step_copy_splice rfl (.tmp 41) (.tmp 44) 29 29 rfl 3 Try.underlying29 size3 (some ⟨w'.heap.size, k, none⟩) (some ⟨w'.heap.size, 0, none⟩) (n - k) (n - k) k n (by simp [Act.eval, Act.put]; omega) (by simp [Act.eval, Act.put]) w'.heap.size k (blk x n k) 3 hgr.out (ones x j) HJ.out (fun _ => ⟨rfl, _, rfl, HS.out⟩) (by rw [blk_len hk, ones_len]; omega) (ones_one x _) w'.heap.size w' hbr.drew (Nat.le_refl _) ?_; intro w4 hg4 hb4)
      rw [HSP.out] at hg4
      all_goals (go_wp2_with fail; go_roundw)
      case rel => exact ⟨k + j, hj2, .inr (by omega), HWR.out, hg4⟩
      case measure => simp only [intOf]; rw [HWR.out]; omega
    · obtain rfl : k = n := by omega
      go_wp2_with fail
      go_ret
      refine ⟨rfl, ⟨by simp, Or.inr ⟨w'.heap.size, k, _, rfl, Nat.le_refl _, hgr.out, Nat.le_refl _, by unfold maxLen; omega, by simp [blk], by simp [blk]⟩⟩, hbr⟩
theorem repeat_any (b n : Nat) (hn : n ≤ 64) (w : World) (hb : w.cell? ⟨b, 0, none⟩ = some (.int .i64 (-1))) :
    Calls Try.prog 55 #[.slice (some ⟨b, 0, none⟩) 1 1, .int .i64 n] w fun e w' => e = .returned (.slice (some ⟨w.heap.size, 0, none⟩) n n) ∧
      w'.ownsRow w.heap.size 3 1 (.slice (some ⟨w.heap.size, 0, none⟩) n n) n ((List.replicate n (-1 : Int)).map (Value.int .i64)) ∧ Below w.heap.size w w' := repeat_of b n (-1) hn w hb
end HN
end Go.Proofs.Ytmkpcidgiobpeaa
