/-
  The program's arcs, gone through: each of a list's, with what is wrong with it wherever it stands.
-/
import Derived.Test.YtjnihkfnnokmdaaRangeK
import Derived.Test.YtjnihkfnnokmdaaWalkMath
import Derived.Test.YtjnihkfnnokmdaaGraphA
namespace Go.Proofs.Ytjnihkfnnokmdaa
open Go.RowKit Go.Shelf
attribute [local go_sem] Oper.semAt_some

set_option maxHeartbeats 400000 in
theorem arcs_any (p : Nat) (ao : Option Addr) (n c : Nat) (w : World) :
    Calls Try.prog 31 #[.pointer (some ⟨p, 0, none⟩), .slice ao n c] w fun e w' => e = .returned (.func (.func 55) #[] #[.pointer (some ⟨w.heap.size + 1, 0, none⟩), .pointer (some ⟨w.heap.size, 0, none⟩)]) ∧ w' = (w.alloc (.cells #[.pointer (some ⟨p, 0, none⟩)] 25)).alloc (.cells #[.slice ao n c] 23) := by
  go_enter Try.func31, Try.ntmps31
  go_wp2_with fail
  go_ret
  exact ⟨rfl, rfl⟩

/-- An arc and its code, as the loop's variables. -/
def arcCode (x : Arc × Int) : Array Value := #[.agg #[.int .i64 x.1.tail, .int .i64 x.1.head, .int .i64 x.1.weight, .bool x.1.closed], .int .i64 x.2]
/-- What arcs reads: the list and the graph, each by its box. -/
structure ArcsR (bi bg : Nat) (v : Value) (zs : List Int) (p N most : Nat) (m : GM.M) (A : World) : Prop where
  ci : A.cell? ⟨bi, 0, none⟩ = some v
  row : Row .i64 A v zs
  cg : A.cell? ⟨bg, 0, none⟩ = some (.pointer (some ⟨p, 0, none⟩))
  g : GMem A p N most m

set_option maxRecDepth 100000 in
set_option maxHeartbeats 2000000 in
theorem arcs_goes (n : Nat) (_hn : 1 ≤ n) (bi bg : Nat) (v : Value) (zs : List Int) (p N most : Nat) (m : GM.M) (hm : GM.Good most m) :
    GoesK n Try.prog 55 #[.pointer (some ⟨bi, 0, none⟩), .pointer (some ⟨bg, 0, none⟩)] arcCode (fun ys => ys = WK.list m zs) (fun pre => pre <+: WK.list m zs) zs.length (ArcsR bi bg v zs p N most m) := by
  intro l J Jx X W hR hJ hJx hY h0 hXW
  obtain ⟨ci, row, cg, g0⟩ := hR _ _ _ h0
  obtain ⟨ao, cap, rfl, hat⟩ := row
  have hml : zs.length ≤ 9223372036854775807 := by have := hat.1; have := hat.2.1; unfold maxLen at this; omega
  have hcap := hat.1
  have HJ : Hid (∀ s A A', J s X A → Below A.heap.size A A' → J s X A') := fun s A A' h hb => hJ _ _ _ _ _ h (Below.keeps hb _) (fun b hb => .inl hb)
  have HR : Hid (∀ s A, J s X A → ArcsR bi bg (.slice ao zs.length cap) zs p N most m A) := fun s A h => hR s X A h
  have HY : Hid (∀ pre x W1, J pre X W1 → pre.length < zs.length → (∀ b, X b → b < W1.heap.size) → YieldAt Fence.wide (n - 1) Try.prog l (arcCode x) W1 fun e W' => (e = .returned (.bool true) ∧ J (pre ++ [x]) X W' ∧ Rest X W1 W') ∨ (e = .returned (.bool false) ∧ Jx (pre ++ [x]) X W' ∧ Rest X W1 W')) := fun pre x W1 => hY pre x X W1
  have H0 : Hid (J [] X W) := h0
  have HX : Hid (∀ b, X b → b < W.heap.size) := hXW
  clear hJ hJx hR hY h0 hXW g0 hat cg
  obtain ⟨L, hL⟩ : ∃ L, L = zs.length := ⟨_, rfl⟩
  have HL : Hid (L = zs.length) := hL
  rw [← hL] at hml hcap ci
  clear hL
  refine callsIn_of_wp Try.func55 rfl trivial ?_ rfl
  simp only [Try.ntmps55, List.size_toArray, List.length_cons, List.length_nil, Nat.reduceAdd, Nat.reduceSub, Array.replicate_succ, Array.replicate_zero, List.push_toArray, List.append_toArray, List.nil_append, List.cons_append]
  gi_wp2_with fail
  gi_loopw [11] (fun iv wr => ∃ k : Nat, k ≤ L ∧ iv = .int .i64 k ∧ J (WK.list m (zs.take k)) X wr ∧ W.heap.size ≤ wr.heap.size) (fun iv _ => L - (intOf iv).toNat)
  case atStart => exact ⟨0, Nat.zero_le _, rfl, H0.out, Nat.le_refl _⟩
  case round =>
    obtain ⟨k, hk, rfl, hJs, hsr⟩ := hrel
    by_cases hlt : k < L
    · obtain ⟨-, hrow, hcb, hkm⟩ := HR.out _ _ hJs
      obtain ⟨ao', cap', er, hat⟩ := hrow
      injection er with er1 er2 er3
      subst er1
      subst er3
      clear er2
      have hz : k < zs.length := by rw [← HL.out]; exact hlt
      obtain ⟨b, o, rfl, hc⟩ := hat.2.2.2 (by omega)
      have hck := hc k hz
      rw [List.getElem?_eq_getElem hz, Option.getD_some] at hck
      have har := arc_any hkm hm zs[k]
      have HA : Hid (WK.list m (zs.take (k + 1)) = WK.list m (zs.take k) ++ [WK.arcOf m zs[k]]) := WK.list_snoc m zs k hz
      have HP : Hid (WK.list m (zs.take (k + 1)) <+: WK.list m zs) := WK.list_pre m zs _
      have HJS : Hid (J (WK.list m (zs.take k)) X wr) := hJs
      have HLEN : Hid ((WK.list m (zs.take k)).length < zs.length) := by
        show _ < _
        rw [WK.list_len, List.length_take]
        omega
      have k64 : (k : Int) < (L : Int) := by omega
      have kn : (0 : Int) ≤ (k : Int) := by omega
      clear hkm hJs hat hc
      have HYX : Hid (∀ W1, J (WK.list m (zs.take k)) X W1 → W.heap.size ≤ W1.heap.size → YieldAt Fence.wide (n - 1) Try.prog l (arcCode (WK.arcOf m zs[k])) W1 fun e W' => (e = .returned (.bool true) ∧ J (WK.list m (zs.take (k + 1))) X W' ∧ Rest X W1 W') ∨ (e = .returned (.bool false) ∧ Jx (WK.list m (zs.take (k + 1))) X W' ∧ Rest X W1 W')) := fun W1 h1 h2 => by
        rw [HA.out]
        exact HY.out _ _ W1 h1 HLEN.out (fun b hb => Nat.lt_of_lt_of_le (HX.out b hb) h2)
      unfold WK.arcOf at HYX
      clear HA
      generalize zs[k] = z at *
      clear hz
      generalize GM.look m z = y at *
      obtain ⟨a, f⟩ := y
      obtain ⟨t, h, x, c⟩ := a
      unfold arcV at har
      unfold arcCode WK.code1 at HYX
      dsimp only at har HYX
      gi_wp2_with fail
      refine ⟨trivial, (callsIn_wide.2 har).mono ?_⟩
      rintro e w2 ⟨rfl, hb2⟩
      have hJ2 : J (WK.list m (zs.take k)) X (w2.alloc (.cells #[.int .i64 t, .int .i64 h, .int .i64 x, .bool c] 47)) := HJ.out _ _ _ HJS.out (hb2.alloc hb2.size _)
      have hs2 : W.heap.size ≤ (w2.alloc (.cells #[.int .i64 t, .int .i64 h, .int .i64 x, .bool c] 47)).heap.size := by have := hb2.size; simp; omega
      have hy1 := HYX.out _ hJ2 hs2
      clear har hb2 hcb hJ2 hck
      cases f with
      | false =>
        rw [if_neg (by decide)] at hy1
        obtain ⟨fn, tmps, assign, body, hy, hRd⟩ := hy1
        gi_wp2_with fail
        refine hRd.mono ?_
        rintro e W4 (⟨rfl, hJ4, hk4⟩ | ⟨rfl, hJx4, -⟩)
        · have hs4 : W.heap.size ≤ W4.heap.size := Nat.le_trans hs2 hk4.size
          have HJ4 : Hid (J (WK.list m (zs.take (k + 1))) X W4) := hJ4
          clear hJ4 hk4 hy hRd
          gi_wp2_with fail
          go_roundw
          case rel => exact ⟨k + 1, by omega, by go_num, HJ4.out, hs4⟩
          case measure => simp [intOf]; omega
        · have HJ4 : Hid (Jx (WK.list m (zs.take (k + 1))) X W4) := hJx4
          clear hJx4 hy hRd
          gi_wp2_with fail
          (try simp only [Exit.inBlock, Exit.then]); refine bodyPost_ret (results_none rfl _ _ _) rfl ?_
          exact ⟨⟨_, rfl⟩, .inr ⟨_, HP.out, HJ4.out⟩⟩
      | true =>
        rw [if_pos rfl] at hy1
        cases c with
        | true =>
          rw [if_pos rfl] at hy1
          obtain ⟨fn, tmps, assign, body, hy, hRd⟩ := hy1
          gi_wp2_with fail
          refine hRd.mono ?_
          rintro e W4 (⟨rfl, hJ4, hk4⟩ | ⟨rfl, hJx4, -⟩)
          · have hs4 : W.heap.size ≤ W4.heap.size := Nat.le_trans hs2 hk4.size
            have HJ4 : Hid (J (WK.list m (zs.take (k + 1))) X W4) := hJ4
            clear hJ4 hk4 hy hRd
            gi_wp2_with fail
            go_roundw
            case rel => exact ⟨k + 1, by omega, by go_num, HJ4.out, hs4⟩
            case measure => simp [intOf]; omega
          · have HJ4 : Hid (Jx (WK.list m (zs.take (k + 1))) X W4) := hJx4
            clear hJx4 hy hRd
            gi_wp2_with fail
            (try simp only [Exit.inBlock, Exit.then]); refine bodyPost_ret (results_none rfl _ _ _) rfl ?_
            exact ⟨⟨_, rfl⟩, .inr ⟨_, HP.out, HJ4.out⟩⟩
        | false =>
          rw [if_neg (by decide)] at hy1
          obtain ⟨fn, tmps, assign, body, hy, hRd⟩ := hy1
          gi_wp2_with fail
          refine hRd.mono ?_
          rintro e W4 (⟨rfl, hJ4, hk4⟩ | ⟨rfl, hJx4, -⟩)
          · have hs4 : W.heap.size ≤ W4.heap.size := Nat.le_trans hs2 hk4.size
            have HJ4 : Hid (J (WK.list m (zs.take (k + 1))) X W4) := hJ4
            clear hJ4 hk4 hy hRd
            gi_wp2_with fail
            go_roundw
            case rel => exact ⟨k + 1, by omega, by go_num, HJ4.out, hs4⟩
            case measure => simp [intOf]; omega
          · have HJ4 : Hid (Jx (WK.list m (zs.take (k + 1))) X W4) := hJx4
            clear hJx4 hy hRd
            gi_wp2_with fail
            (try simp only [Exit.inBlock, Exit.then]); refine bodyPost_ret (results_none rfl _ _ _) rfl ?_
            exact ⟨⟨_, rfl⟩, .inr ⟨_, HP.out, HJ4.out⟩⟩
    · obtain rfl : k = L := by omega
      have HJS : Hid (J (WK.list m zs) X wr) := by
        show J _ X wr
        have := hJs
        rw [List.take_of_length_le (by rw [← HL.out]; exact Nat.le_refl _)] at this
        exact this
      clear hJs hlt hk
      gi_wp2_with fail
      go_end0
      exact ⟨⟨_, rfl⟩, .inl ⟨_, rfl, HJS.out⟩⟩
end Go.Proofs.Ytjnihkfnnokmdaa
