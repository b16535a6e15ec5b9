/-
  The walk of graph's Copy: a whole graph out of its block, and into a new one.
-/
import Derived.Test.YthoihkkabgedgaaGraphA
import Derived.Deep.WholeRow
namespace Go.Proofs.Ythoihkkabgedgaa
open Go.RowKit

/-- A whole struct (or array) out of its cells, whatever lies around them. -/
theorem wpList_load_cells {P : Program} {ops : Array Oper} {rest : List Oper} {o : Oper} {a : Act} {w : World} {Q : Exit → Act → World → Prop} (hgd : o.guard = none) (ty : TypeId) (x : Operand) (ho : o.op = .load ty x)
    (g : Nat) (hx : a.eval x = .pointer (some ⟨g, 0, none⟩)) (cs : List Value) (d : TypeDesc) (hu : P.underlying ty = some d) (hd : (match d with | .struct _ | .array _ _ => true | _ => false) = true) (hi : (P.info? ty).map (·.size) = some cs.length)
    (hc : ∀ j v, cs[j]? = some v → w.cell? ((⟨g, 0, none⟩ : Addr).add j) = some v)
    (h : wpList P ops Q rest (a.put o.dst (.agg cs.toArray)) w) : wpList P ops Q (o :: rest) a w := by
  refine wpList_plain hgd fun _ hK => ?_
  have hl : (loadCells ⟨g, 0, none⟩ cs.length).run P w = .ok cs.toArray w := run_loadCells_list (P := P) w ⟨g, 0, none⟩ cs hc
  have hv : (loadVar ty ⟨g, 0, none⟩).run P w = .ok (.agg cs.toArray) w := by
    cases hq : P.info? ty with
    | none => simp [hq] at hi
    | some i =>
      have hs : i.size = cs.length := by simpa [hq] using hi
      have hagg : (isAgg ty).run P w = .ok true w := by
        unfold isAgg
        rw [Sem.run_bind, run_underlying hu w]
        cases d <;> simp_all
      simp [loadVar, Sem.run_bind, hagg, sizeOf, typeInfo, hq, hs, hl]
  unfold Oper.wp execOp
  simp only [ho, hx, Instr.loadAt, Instr.sureAddr, Sem.run_bind, Sem.run_pure, Result.andThen_ok, hv]
  exact hK _ _ h
theorem infoG : (Try.prog.info? 64).map (·.size) = some 258 := by kernel_rfl
theorem infoR : (Try.prog.info? 55).map (·.size) = some 322 := by kernel_rfl
theorem all_one {l : List Value} (h : ∀ v ∈ l, v.oneCell' = true) : l.toArray.all (·.oneCell') = true := by
  rw [Array.all_eq_true_iff_forall_mem]
  intro v hv
  exact h v (by simpa using hv)

set_option maxHeartbeats 1000000 in
theorem copy_any {w : World} {p N most : Nat} {m : GM.M} (hg : GMem w p N most m) :
    Calls Try.prog 20 #[.pointer (some ⟨p, 0, none⟩)] w fun e w' => ∃ c, e = .returned (.pointer (some ⟨c, 0, none⟩)) ∧ c = w.heap.size ∧ GMem w' c N most m ∧ Below w.heap.size w w' := by
  have HC : Hid (∀ j v, (gCells N most m)[j]? = some v → w.cell? ((⟨p, 0, none⟩ : Addr).add j) = some v) := hg.cells
  have HL : Hid ((gCells N most m).length = 258) := gCells_len N most m
  have HO : Hid ((gCells N most m).toArray.all (·.oneCell') = true) := all_one (gCells_one N most m)
  have HN : Hid (GMem (w.alloc (.cells (gCells N most m).toArray 64)) w.heap.size N most m) := gmem_new _ _ _ _ _
  have hz := zeroG
  have HZ : Hid (zG.size = 258) := zG_size
  clear hg
  generalize zG = Z at *
  generalize gCells N most m = C at *
  go_enter Try.func20, Try.ntmps20
  go_wp2_with (first
    | (refine wpList_load_cells rfl 64 (.tmp 5) rfl p rfl C _ Try.underlying64 rfl (by rw [HL.out]; exact infoG) HC.out ?_)
    | (refine wpList_store_row rfl 64 (.tmp 3) (.tmp 6) rfl w.heap.size C.toArray rfl rfl 64 Z (heap_alloc_last w _) (by rw [List.size_toArray, HL.out]; exact infoG) (by rw [HZ.out, List.size_toArray, HL.out]) HO.out ?_; rw [World.setRow_alloc_new]))
  go_ret
  exact ⟨w.heap.size, rfl, rfl, HN.out, (Below.refl _ _).alloc (Nat.le_refl _) _⟩
end Go.Proofs.Ythoihkkabgedgaa
