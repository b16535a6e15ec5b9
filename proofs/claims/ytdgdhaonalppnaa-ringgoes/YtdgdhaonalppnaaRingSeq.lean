/-
  What a stack of texts tells when it is gone through: the program's places and All, gone through.
-/
import Derived.Test.YtdgdhaonalppnaaRange
import Derived.Test.YtdgdhaonalppnaaRingAS
import Derived.Test.YtdgdhaonalppnaaRingKept
namespace Go.Proofs.Ytdgdhaonalppnaa
open Go.RowKit Go.Shelf
attribute [local go_sem] Oper.semAt_some

set_option maxHeartbeats 400000 in
theorem all_any (p : Nat) (w : World) :
    Calls Try.prog 19 #[.pointer (some ⟨p, 0, none⟩)] w fun e w' => e = .returned (.func (.func 27) #[] #[.pointer (some ⟨w.heap.size, 0, none⟩)]) ∧ w' = w.alloc (.cells #[.pointer (some ⟨p, 0, none⟩)] 38) := by
  go_enter Try.func19, Try.ntmps19
  go_wp2_with fail
  go_ret
  exact ⟨rfl, rfl⟩
set_option maxHeartbeats 400000 in
theorem places_any (p : Nat) (w : World) :
    Calls Try.prog 28 #[.pointer (some ⟨p, 0, none⟩)] w fun e w' => e = .returned (.func (.func 31) #[] #[.pointer (some ⟨w.heap.size, 0, none⟩)]) ∧ w' = w.alloc (.cells #[.pointer (some ⟨p, 0, none⟩)] 38) := by
  go_enter Try.func28, Try.ntmps28
  go_wp2_with fail
  go_ret
  exact ⟨rfl, rfl⟩

/-! The places of c things, from the top down, each told by how many lie below it. -/
abbrev Spot (c : Nat) := { j : Nat // j < c }
def downs (c : Nat) : (m : Nat) → m ≤ c → List (Spot c)
  | 0, _ => []
  | m + 1, h => ⟨m, h⟩ :: downs c m (Nat.le_of_succ_le h)
theorem downs_len (c : Nat) : ∀ (m : Nat) (h : m ≤ c), (downs c m h).length = m
  | 0, _ => rfl
  | m + 1, h => by simp [downs, downs_len c m]
/-- The text of such a place. -/
def txt (L : List ByteArray) (j : Spot L.length) : ByteArray := RK.el ⟨#[]⟩ L j.1
theorem downs_txt (L : List ByteArray) : ∀ (m : Nat) (h : m ≤ L.length), (downs L.length m h).map (txt L) = (L.take m).reverse
  | 0, _ => by simp [downs]
  | m + 1, h => by
    rw [downs, List.map_cons, downs_txt L m, List.take_add_one, List.getElem?_eq_getElem h, Option.toList_some, List.reverse_append, txt, RK.el_eq h]
    rfl
/-- Where in the ring it lies. -/
def spot (n o : Nat) {c : Nat} (j : Spot c) : Array Value := #[.int .i64 ((o + j.1) % n : Nat)]

set_option maxRecDepth 100000 in
set_option maxHeartbeats 2000000 in
theorem places_goes (n : Nat) (hn : 1 ≤ n) (Bn p B bt k : Nat) (xs : List Value) (o c : Nat) (w : World) (hk1 : 1 ≤ k) (hk : k ≤ 32) (ho : o < k) (hc : c ≤ 32) :
    Goes n Try.prog 31 #[.pointer (some ⟨Bn, 0, none⟩)] (spot k o (c := c)) (fun ys => ys = downs c c (Nat.le_refl _)) (fun pre => pre <+: downs c c (Nat.le_refl _)) c
      (fun A => A.cell? ⟨Bn, 0, none⟩ = some (.pointer (some ⟨p, 0, none⟩)) ∧ KMem 9 A B p bt k xs o c) w := by
  intro l J Jx W hW hs hR hJ hJx hY h0
  obtain ⟨hcb, hm0⟩ := hR _ _ h0
  have c2 := hm0.c2
  have HJ : Hid (∀ s A A', J s A → Below (w.heap.size + 2) A A' → J s A') := hJ
  have HR : Hid (∀ s A, J s A → A.cell? ⟨Bn, 0, none⟩ = some (.pointer (some ⟨p, 0, none⟩)) ∧ KMem 9 A B p bt k xs o c) := hR
  have HY : Hid (∀ pre x W1, J pre W1 → pre.length < c → YieldAt Fence.wide (n - 1) Try.prog l (spot k o x) W1 fun e W' => (e = .returned (.bool true) ∧ J (pre ++ [x]) W' ∧ Above (w.heap.size + 2) W1 W') ∨ (e = .returned (.bool false) ∧ Jx (pre ++ [x]) W' ∧ Above (w.heap.size + 2) W1 W')) := hY
  have H0 : Hid (J [] W) := h0
  clear hJ hJx hR hY h0 hm0
  refine callsIn_of_wp Try.func31 rfl trivial ?_ rfl
  simp only [Try.ntmps31, List.size_toArray, List.length_cons, List.length_nil, Nat.reduceAdd, Nat.reduceSub, Array.replicate_succ, Array.replicate_zero, List.push_toArray, List.append_toArray, List.nil_append, List.cons_append]
  gi_wp2_with fail
  gi_loopw [3] (fun iv wr => ∃ (pre : List (Spot c)) (m : Nat) (hm : m ≤ c) (i : Int), i = (m : Int) - 1 ∧ iv = .int .i64 i ∧ downs c c (Nat.le_refl _) = pre ++ downs c m hm ∧ J pre wr ∧ w.heap.size + 2 ≤ wr.heap.size) (fun iv _ => (intOf iv + 1).toNat)
  case atStart => exact ⟨[], c, Nat.le_refl _, _, rfl, rfl, rfl, H0.out, hs⟩
  case round =>
    clear hcb c2
    obtain ⟨pre, m, hm, i, hi, rfl, hx, hJs, hsr⟩ := hrel
    cases m with
    | succ m =>
      obtain rfl : i = (m : Int) := by omega
      obtain ⟨hcb, hkm⟩ := HR.out _ _ hJs
      have hpl := RS.place_any hkm hk1 hk ho m (by omega)
      have hx2 : downs c c (Nat.le_refl _) = (pre ++ [⟨m, hm⟩]) ++ downs c m (Nat.le_of_succ_le hm) := by rw [hx, downs]; simp
      have HX2 : Hid (downs c c (Nat.le_refl _) = (pre ++ [⟨m, hm⟩]) ++ downs c m (Nat.le_of_succ_le hm)) := hx2
      have hlen : pre.length < c := by
        have := congrArg List.length hx2
        rw [downs_len] at this
        simp at this
        omega
      have HJS : Hid (J pre wr) := hJs
      have HYX : Hid (∀ W1, J pre W1 → YieldAt Fence.wide (n - 1) Try.prog l (spot k o ⟨m, hm⟩) W1 fun e W' => (e = .returned (.bool true) ∧ J (pre ++ [⟨m, hm⟩]) W' ∧ Above (w.heap.size + 2) W1 W') ∨ (e = .returned (.bool false) ∧ Jx (pre ++ [⟨m, hm⟩]) W' ∧ Above (w.heap.size + 2) W1 W')) := fun W1 h => HY.out pre ⟨m, hm⟩ W1 h hlen
      unfold spot at HYX
      dsimp only at HYX
      clear hkm hx hx2 hJs hi hlen
      generalize (o + m) % k = r at *
      gi_wp2_with fail
      refine ⟨trivial, (callsIn_wide.2 hpl).mono ?_⟩
      rintro e w2 ⟨rfl, nq, rfl⟩
      have hJ2 : J pre (wr.drewN nq) := HJ.out _ _ _ HJS.out (below_drewN (Below.refl _ _) _)
      have hs2 : w.heap.size + 2 ≤ (wr.drewN nq).heap.size := hsr
      clear hpl
      generalize wr.drewN nq = w2 at *
      obtain ⟨fn, tmps, assign, body, hy, hRd⟩ := HYX.out w2 hJ2
      clear hcb hJ2
      gi_wp2_with fail
      refine hRd.mono ?_
      rintro e W4 (⟨rfl, hJ4, hk4⟩ | ⟨rfl, hJx4, -⟩)
      · have hs4 : w.heap.size + 2 ≤ W4.heap.size := Nat.le_trans hs2 hk4.size
        have HJ4 : Hid (J (pre ++ [⟨m, hm⟩]) W4) := hJ4
        clear hJ4 hk4 hy hRd
        gi_wp2_with fail
        go_roundw
        case rel => exact ⟨pre ++ [⟨m, hm⟩], m, Nat.le_of_succ_le hm, (m : Int) - 1, rfl, by go_num, HX2.out, HJ4.out, hs4⟩
        case measure => simp [intOf]
      · have HJ4 : Hid (Jx (pre ++ [⟨m, hm⟩]) W4) := hJx4
        clear hJx4 hy hRd
        gi_wp2_with fail
        (try simp only [Exit.inBlock, Exit.then]); refine bodyPost_ret (results_none rfl _ _ _) rfl ?_
        exact ⟨⟨_, rfl⟩, .inr ⟨pre ++ [⟨m, hm⟩], ⟨_, HX2.out.symm⟩, HJ4.out⟩⟩
    | zero =>
      obtain rfl : i = -1 := by omega
      have HX : Hid (downs c c (Nat.le_refl _) = pre) := by
        show _ = _
        rw [hx]
        simp [downs]
      have HJS : Hid (J pre wr) := hJs
      clear hx hJs hi
      gi_wp2_with fail
      go_end0
      exact ⟨⟨_, rfl⟩, .inl ⟨pre, HX.out.symm, HJS.out⟩⟩
end Go.Proofs.Ytdgdhaonalppnaa
