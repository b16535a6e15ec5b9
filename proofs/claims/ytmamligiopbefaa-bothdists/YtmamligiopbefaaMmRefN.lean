/-
  NearRefFT, NearRefTree, NearRefPath.
-/
import Derived.Test.YtmamligiopbefaaMmSufs
import Derived.Deep.RegionLawGrows
section
/-
  The walks of the document's From and To (layer 10).
-/
namespace Go.Proofs.Ytmamligiopbefaa
open Go.RowKit

theorem info_int : ∃ i, Try.prog.info? 3 = some i ∧ i.zero = some (.int .i64 0) ∧ i.size = 1 ∧ i.bytes = 8 := by
  have h : (Try.prog.info? 3).map (fun i => (i.zero, i.size, i.bytes)) = some (some (.int .i64 0), 1, 8) := by kernel_rfl
  obtain ⟨i, h1, h2⟩ := Option.map_eq_some_iff.1 h
  injection h2 with h3 h4
  injection h4 with h5 h6
  exact ⟨i, h1, h3, h5, h6⟩
theorem own_grown {w W w' : World} {e : TypeId} {v : Value} {n : Nat} {zs : List Int} (h : w'.ownsRow W.heap.size e 1 v n ([] ++ zs.map (Value.int .i64))) (hg : W.grownBy w' none) (hn : n = zs.length) (hb : Below w.heap.size w W) : Own .i64 e w' w.heap.size v zs ∧ Below w.heap.size w w' := by
  subst hn
  exact ⟨row_base h hb.size, hb.trans (((Keeps.refl (fun _ => False) W).grown hg (fun k h => by cases h)).below (fun b h => h.elim) hb.size)⟩
set_option maxHeartbeats 2000000 in
set_option maxRecDepth 100000 in
theorem rfrom_any {w : World} {q N most : Nat} {m : GM.M} (hg : RMem w q N most m) (hm : GM.Good most m) (hN : N ≤ 24) (hin : WK.Inn N m) (s : Nat) (hs : s < N) :
    Calls Try.prog 13 #[.pointer (some ⟨q, 0, none⟩), .int .i64 s] w fun e w' => ∃ r, e = .returned r ∧ Own .i64 3 w' w.heap.size r (NM.rowFrom m N s) ∧ Below w.heap.size w w' := by
  have hall := all_any10 hg hm hN hin
  have HG : Hid (∀ W, Below w.heap.size w W → RMem W q N most m) := fun W hW => hg.on hW
  clear hg hm hin
  go_enter Try.func13, Try.ntmps13
  go_wp2_with fail
  refine hall.mono ?_
  rintro e w1 ⟨D, rfl, hD, hb1⟩
  have hz := zeroT
  have hsz := zT_size
  have hne := zT_ne
  have hLT := tabCells_len D
  have hO1 : (tabCells D).toArray.all (·.oneCell') = true := all_one (tabCells_one D)
  have HT : Hid (TMem (w1.alloc (.cells (tabCells D).toArray 29)) w1.heap.size D) := tmem_new _ _ _
  have HD : Hid (∀ a b : Nat, a < N → b < N → D a b = NM.dist m a b) := hD
  have HB1 : Hid (Below w.heap.size w w1) := hb1
  clear hall hD hb1
  generalize hTC : tabCells D = TC at *
  generalize zT = Z0 at *
  have HZ : Hid (Z0.size = 576) := hsz
  have HL : Hid (TC.length = 576) := hLT
  have HO1 : Hid (TC.toArray.all (·.oneCell') = true) := hO1
  clear hTC hLT hO1
  go_wp2_with (first
    | (simp only)
    | (refine wpList_store_row rfl 29 (.tmp 5) (.tmp 7) rfl w1.heap.size TC.toArray rfl rfl 29 Z0 (heap_alloc_last w1 _) (by rw [List.size_toArray, HL.out]; exact infoT) (by rw [HZ.out, List.size_toArray, HL.out]) HO1.out ?_; rw [World.setRow_alloc_new]))
  have hw3 : (w1.alloc (.cells TC.toArray 29)).heap.size = w1.heap.size + 1 := by simp
  have HB3 : Hid (Below w.heap.size w (w1.alloc (.cells TC.toArray 29))) := HB1.out.alloc HB1.out.size _
  have HT3 : Hid (TMem (w1.alloc (.cells TC.toArray 29)) w1.heap.size D) := HT.out
  clear hz hsz hne HT HZ HL HO1 HB1
  generalize w1.alloc (.cells TC.toArray 29) = w3 at *
  generalize w1.heap.size = bd at *
  obtain ⟨i0, hi0, hz0, hz1, hz2⟩ := info_int
  have c0 := (HG.out w3 HB3.out).c0
  have HRW : Hid (∀ W, Below w3.heap.size w3 W → ∀ j u, ((NM.rowFrom m N s).map (Value.int .i64))[j]? = some u → W.cell? ((⟨bd, s * 24, none⟩ : Addr).add j) = some u) := fun W hW j u hu => by
    rw [List.getElem?_map] at hu
    obtain ⟨x, hx, rfl⟩ := Option.map_eq_some_iff.1 hu
    have hj : j < N := by
      have := (List.getElem?_eq_some_iff.1 hx).1
      rwa [NM.rowFrom_len] at this
    have h1 := (HT3.out.on hW).c s j (by omega) (by omega)
    rw [Addr.add_lit, h1, HD.out s j hs hj, ← NM.rowFrom_at m s hj, hx]
    rfl
  have HLR : Hid (((NM.rowFrom m N s).map (Value.int .i64)).length = N * 1) := by show _ = _; rw [List.length_map, NM.rowFrom_len, Nat.mul_one]
  have s24 : (s : Int) < 24 := by omega
  have n24 : (N : Int) ≤ 24 := by omega
  have n0 : (0 : Int) ≤ (N : Int) := by omega
  have hbw : bd < w3.heap.size := by omega
  have hbe : Below w3.heap.size w3 ((w3.alloc (.cells #[] 3)).drew) := ((Below.refl _ _).alloc (Nat.le_refl _) _).drew
  have c0' := (HG.out _ (below_on HB3.out hbe)).c0
  go_region_law (refine step_append_grows rfl (.tmp 8) (.tmp 15) 41 rfl 3 i0 (.int .i64 0) 1 8 Try.underlying41 hi0 hz0 hz1 hz2 rfl (by decide) (some ⟨w3.heap.size, 0, none⟩) 0 0 [] (by simp [Act.eval, Act.put]) (fun h => by cases h) rfl (fun _ _ j u h => by simp at h) ⟨bd, s * 24, none⟩ N 24 ((NM.rowFrom m N s).map (Value.int .i64)) (by simp [Act.eval, Act.put]) HLR.out (HRW.out _ hbe) (ints_oneCell _ _) (by omega) (by unfold maxLen; omega) (by omega) ?_; intro v' w' hown hgrow; have HF : Hid (Own .i64 3 w' w.heap.size v' (NM.rowFrom m N s) ∧ Below w.heap.size w w') := own_grown hown hgrow (by rw [NM.rowFrom_len]; omega) (below_on HB3.out hbe))
  all_goals
    go_wp2_with fail
    go_ret
    exact ⟨v', rfl, HF.out⟩
end Go.Proofs.Ytmamligiopbefaa
end

section
/-
  The walk of the document's Tree (layer 10).
-/
namespace Go.Proofs.Ytmamligiopbefaa
open Go.RowKit

end Go.Proofs.Ytmamligiopbefaa
end

section
/-
  The walk of the document's Path (layer 10).
-/
namespace Go.Proofs.Ytmamligiopbefaa
open Go.RowKit

namespace NM
/-- The path that the tree tells. -/
noncomputable def path (m : GM.M) (s t : Int) : List Int := back m (dist m s) s 24 t
theorem mapD {m : GM.M} {N most : Nat} {s : Nat} (hm : GM.Good most m) (hN : N ≤ 24) (hin : WK.Inn N m) (hs : s < N) : Map m N (s : Int) (dist m (s : Int)) := map_of hN (decide_eq_true (by omega)) hm hin (fun v _ => dist_dst m s v)
/-- Part of the path, from v on. -/
structure Pt (m : GM.M) (N : Nat) (s t : Int) (v : Int) (out : List Int) : Prop where
  bk : Bk m N (dist m s) t v out
  eq : back m (dist m s) s (24 - out.length) v ++ out = path m s t
theorem Pt.begin {m : GM.M} {N : Nat} {s t : Int} (ht : GM.vert N t = true) (hF : dist m s t ≤ 4611686018427387904) : Pt m N s t t [] := ⟨Bk.start ht hF, by rw [List.append_nil]; rfl⟩
theorem Pt.vert {m : GM.M} {N : Nat} {s t v : Int} {out : List Int} (h : Pt m N s t v out) : GM.vert N v = true := h.bk.vert v (by simp)
theorem Pt.done {m : GM.M} {N : Nat} {s t : Int} {out : List Int} (h : Pt m N s t s out) : out = path m s t := by
  have := h.eq
  rwa [back_src, List.nil_append] at this
theorem Pt.step {m : GM.M} {N : Nat} {s t v : Int} {out : List Int} (hM : Map m N s (dist m s)) (h : Pt m N s t v out) (hs : v ≠ s) :
    ∃ i : Nat, tree m (dist m s) s v = i ∧ i < 64 ∧ GM.is m i = true ∧ out.length + 2 ≤ N ∧ Pt m N s t (GM.arc m i).tail ((i : Int) :: out) := by
  obtain ⟨h1, h2, i, h3, h4, h5⟩ := h.bk.step hM hs
  refine ⟨i, h3, h4, h5, h2, ?_⟩
  rw [h3, Int.toNat_natCast] at h1
  refine ⟨h1, ?_⟩
  have he := h.eq
  have hN := hM.few
  rw [show 24 - out.length = (24 - (out.length + 1)) + 1 by omega, back_step m _ _ hs, h3, Int.toNat_natCast, List.append_assoc] at he
  exact he
end NM
def lenOf : Value → Nat
  | .slice _ n _ => n
  | _ => 0
end Go.Proofs.Ytmamligiopbefaa
end
