/-
  GraphActs, GraphBoth, GraphMade, OrdRanksW.
-/
import Derived.Test.YtkcfepppnclniaaGreatDoorMmGraphOps
import Derived.Test.YtkcfepppnclniaaGreatDoorMmWitMath
import Derived.Test.YtkcfepppnclniaaGreatDoorMmGraphRef2
import Derived.Test.YtkcfepppnclniaaGreatDoorMmOrdFull
import Derived.Test.YtkcfepppnclniaaGreatDoorMmPermMath
import Derived.Test.YtkcfepppnclniaaGreatDoorMmOrdRank
import Derived.OpenShut
import Derived.WideShapes
section
/-
  A list of changes that came in: its cells; one change by value.
-/
namespace Go.Proofs.YtkcfepppnclniaaGreatDoor
set_option maxRecDepth 100000
open Go.RowKit

def chgAt (xs : List Chg) (i : Nat) : Chg := xs[i]?.getD noChg
/-- A change's six cells. -/
def ChgIn (w : World) (b o : Nat) (x : Chg) : Prop := w.cell? ⟨b, o, none⟩ = some (.int .i64 x.kind) ∧ w.cell? ⟨b, o + 1, none⟩ = some (.int .i64 x.id) ∧ w.cell? ⟨b, o + 2, none⟩ = some (.int .i64 x.arc.tail) ∧ w.cell? ⟨b, o + 3, none⟩ = some (.int .i64 x.arc.head) ∧ w.cell? ⟨b, o + 4, none⟩ = some (.int .i64 x.arc.weight) ∧ w.cell? ⟨b, o + 5, none⟩ = some (.bool x.arc.closed)
/-- The value is a slice under which the changes lie, each in six cells. -/
def Chgs (w : World) (v : Value) (xs : List Chg) : Prop := ∃ ao cap, v = .slice ao xs.length cap ∧ xs.length ≤ maxLen ∧
  (0 < xs.length → ∃ b o, ao = some ⟨b, o, none⟩ ∧ b < w.heap.size ∧ ∀ i, i < xs.length → ChgIn w b (o + i * 6) (chgAt xs i))

theorem Chgs.on {w W : World} {v : Value} {xs : List Chg} (h : Chgs w v xs) (hb : Below w.heap.size w W) : Chgs W v xs := by
  obtain ⟨ao, cap, rfl, h1, h2⟩ := h
  refine ⟨ao, cap, rfl, h1, fun hp => ?_⟩
  obtain ⟨b, o, rfl, hl, hc⟩ := h2 hp
  refine ⟨b, o, rfl, Nat.lt_of_lt_of_le hl hb.size, fun i hi => ?_⟩
  obtain ⟨x0, x1, x2, x3, x4, x5⟩ := hc i hi
  exact ⟨(hb.cell (p := ⟨b, _, none⟩) hl).trans x0, (hb.cell (p := ⟨b, _, none⟩) hl).trans x1, (hb.cell (p := ⟨b, _, none⟩) hl).trans x2, (hb.cell (p := ⟨b, _, none⟩) hl).trans x3, (hb.cell (p := ⟨b, _, none⟩) hl).trans x4, (hb.cell (p := ⟨b, _, none⟩) hl).trans x5⟩

section
variable {H : Type} {enc : TypeId × Value → H} {w : World} {base : Nat} {spare : Nat → Bool} {held : Bool}
theorem arc_cells {n : Nat} {cs : List Value} {y : DataW H × List MemPlace} (h : DataW.trod enc Tryz.prog w base spare held n 35 cs = some y) : ∃ a : Arc, cs = [.int .i64 a.tail, .int .i64 a.head, .int .i64 a.weight, .bool a.closed] := by
  obtain ⟨xs, m, _, _, hl, hxl, hf⟩ := DataW.trod_struct Tryz.underlying35 h
  have hc : Tryz.prog.cellsOf 35 = 4 := by kernel_rfl
  have hc3 : Tryz.prog.cellsOf 3 = 1 := by kernel_rfl
  have hc4 : Tryz.prog.cellsOf 4 = 1 := by kernel_rfl
  rw [hc] at hl
  have f0 : DataW.trod enc Tryz.prog w base spare held m 3 ((cs.drop 0).take (Tryz.prog.cellsOf 3)) = xs[0]? := hf 0 _ rfl
  have f1 : DataW.trod enc Tryz.prog w base spare held m 3 ((cs.drop 1).take (Tryz.prog.cellsOf 3)) = xs[1]? := hf 1 _ rfl
  have f2 : DataW.trod enc Tryz.prog w base spare held m 3 ((cs.drop 2).take (Tryz.prog.cellsOf 3)) = xs[2]? := hf 2 _ rfl
  have f3 : DataW.trod enc Tryz.prog w base spare held m 4 ((cs.drop 3).take (Tryz.prog.cellsOf 4)) = xs[3]? := hf 3 _ rfl
  rw [hc3] at f0 f1 f2
  rw [hc4] at f3
  have hx : xs.length = 4 := hxl
  rw [List.getElem?_eq_getElem (by omega)] at f0 f1 f2 f3
  obtain ⟨a, ha, _⟩ := DataW.trod_int Tryz.underlying3 f0
  obtain ⟨b, hb, _⟩ := DataW.trod_int Tryz.underlying3 f1
  obtain ⟨c, hcc, _⟩ := DataW.trod_int Tryz.underlying3 f2
  obtain ⟨d, hd, _⟩ := DataW.trod_bool Tryz.underlying4 f3
  match cs, hl with
  | [u, v, x, y], _ =>
    simp at ha hb hcc hd
    exact ⟨⟨a, b, c, d⟩, by rw [ha, hb, hcc, hd]⟩
theorem chg_cells {n : Nat} {cs : List Value} {y : DataW H × List MemPlace} (h : DataW.trod enc Tryz.prog w base spare held n 56 cs = some y) : ∃ x : Chg, cs = [.int .i64 x.kind, .int .i64 x.id, .int .i64 x.arc.tail, .int .i64 x.arc.head, .int .i64 x.arc.weight, .bool x.arc.closed] := by
  obtain ⟨xs, m, _, _, hl, hxl, hf⟩ := DataW.trod_struct Tryz.underlying56 h
  have hc : Tryz.prog.cellsOf 56 = 6 := by kernel_rfl
  have hc3 : Tryz.prog.cellsOf 3 = 1 := by kernel_rfl
  have hc4 : Tryz.prog.cellsOf 35 = 4 := by kernel_rfl
  rw [hc] at hl
  have f0 : DataW.trod enc Tryz.prog w base spare held m 3 ((cs.drop 0).take (Tryz.prog.cellsOf 3)) = xs[0]? := hf 0 _ rfl
  have f1 : DataW.trod enc Tryz.prog w base spare held m 3 ((cs.drop 1).take (Tryz.prog.cellsOf 3)) = xs[1]? := hf 1 _ rfl
  have f2 : DataW.trod enc Tryz.prog w base spare held m 35 ((cs.drop 2).take (Tryz.prog.cellsOf 35)) = xs[2]? := hf 2 _ rfl
  rw [hc3] at f0 f1
  rw [hc4] at f2
  have hx : xs.length = 3 := hxl
  rw [List.getElem?_eq_getElem (by omega)] at f0 f1 f2
  obtain ⟨a, ha, _⟩ := DataW.trod_int Tryz.underlying3 f0
  obtain ⟨b, hb, _⟩ := DataW.trod_int Tryz.underlying3 f1
  obtain ⟨c, hcc⟩ := arc_cells f2
  match cs, hl with
  | [u, v, x, y, z, t], _ =>
    simp at ha hb hcc
    exact ⟨⟨a, b, c⟩, by rw [ha, hb, hcc.1, hcc.2.1, hcc.2.2.1, hcc.2.2.2]⟩
/-- A change that came in by value. -/
theorem chg_of_open {r : Reach} {b0 : Nat} {v : Value} {d : DataW H} {p : List MemPlace} (hv : Value.okWide Tryz.prog w r b0 56 v) (h : DataW.Trod enc Tryz.prog w base spare held 56 v d p) : ∃ x : Chg, v = chgV x := by
  obtain ⟨cs, rfl, -⟩ := Go.WideShapes.okWide_struct Tryz.underlying56 hv
  obtain ⟨fuel, hf⟩ := h
  obtain ⟨x, hx⟩ := chg_cells hf
  refine ⟨x, ?_⟩
  unfold chgV
  have : cs.toList = [.int .i64 x.kind, .int .i64 x.id, .int .i64 x.arc.tail, .int .i64 x.arc.head, .int .i64 x.arc.weight, .bool x.arc.closed] := hx
  congr 1
  exact Array.toList_inj.1 this
theorem chgs_of_open {fuel len cap : Nat} {bo : Option Addr} {x : DataW H × List MemPlace} (h : DataW.trod enc Tryz.prog w base spare held fuel 22 [.slice bo len cap] = some x) : ∃ xs, Chgs w (.slice bo len cap) xs := by
  rcases DataW.trod_slice Tryz.underlying22 h with ⟨h0, _⟩ | ⟨a, len', cap', elems, rest, n, _, hcs, _, _, hl, hm, hlen, hel, _⟩
  · simp at h0
    obtain ⟨rfl, rfl, rfl⟩ := h0
    exact ⟨[], none, 0, rfl, by simp, fun h => by simp at h⟩
  · simp at hcs
    obtain ⟨rfl, rfl, rfl⟩ := hcs
    have hc : Tryz.prog.cellsOf 56 = 6 := by kernel_rfl
    rw [hc] at hel
    have each : ∀ i, i < len → ∃ x : Chg, w.cell? (a.add (i * 6)) = some (.int .i64 x.kind) ∧ w.cell? ((a.add (i * 6)).add 1) = some (.int .i64 x.id) ∧ w.cell? ((a.add (i * 6)).add 2) = some (.int .i64 x.arc.tail) ∧ w.cell? ((a.add (i * 6)).add 3) = some (.int .i64 x.arc.head) ∧ w.cell? ((a.add (i * 6)).add 4) = some (.int .i64 x.arc.weight) ∧ w.cell? ((a.add (i * 6)).add 5) = some (.bool x.arc.closed) := by
      intro i hi
      have h1 := hel i hi
      rw [List.getElem?_eq_getElem (by omega), Option.bind_eq_some_iff] at h1
      obtain ⟨cs, h2, h3⟩ := h1
      obtain ⟨x, rfl⟩ := chg_cells h3
      obtain ⟨_, _, h4⟩ := World.cells?_some h2
      have g0 := h4 0 (by omega)
      have g1 := h4 1 (by omega)
      have g2 := h4 2 (by omega)
      have g3 := h4 3 (by omega)
      have g4 := h4 4 (by omega)
      have g5 := h4 5 (by omega)
      refine ⟨x, ?_, by simpa using g1, by simpa using g2, by simpa using g3, by simpa using g4, by simpa using g5⟩
      have e : (a.add (i * 6)).add 0 = a.add (i * 6) := by simp [Addr.add]
      rw [e] at g0
      simpa using g0
    let f : Nat → Chg := fun i => if h : i < len then Classical.choose (each i h) else noChg
    have hf : ∀ i, i < len → w.cell? (a.add (i * 6)) = some (.int .i64 (f i).kind) ∧ w.cell? ((a.add (i * 6)).add 1) = some (.int .i64 (f i).id) ∧ w.cell? ((a.add (i * 6)).add 2) = some (.int .i64 (f i).arc.tail) ∧ w.cell? ((a.add (i * 6)).add 3) = some (.int .i64 (f i).arc.head) ∧ w.cell? ((a.add (i * 6)).add 4) = some (.int .i64 (f i).arc.weight) ∧ w.cell? ((a.add (i * 6)).add 5) = some (.bool (f i).arc.closed) := by
      intro i hi
      have e : f i = Classical.choose (each i hi) := by simp only [f, dif_pos hi]
      rw [e]
      exact Classical.choose_spec (each i hi)
    clear_value f
    refine ⟨(List.range len).map f, some a, cap, by simp, by simp; omega, fun hp => ?_⟩
    simp only [List.length_map, List.length_range] at hp ⊢
    obtain ⟨b, o, spot⟩ := a
    have h0 := (hf 0 hp).1
    have hspot : spot = none := by simpa [Addr.add] using World.cell?_spot h0
    subst hspot
    refine ⟨b, o, rfl, by have := cell_lt h0; simpa [Addr.add] using this, fun i hi => ?_⟩
    obtain ⟨g0, g1, g2, g3, g4, g5⟩ := hf i hi
    simp only [Addr.add_lit] at g0 g1 g2 g3 g4 g5
    have e : chgAt ((List.range len).map f) i = f i := by simp [chgAt, hi]
    rw [e]
    exact ⟨g0, g1, g2, g3, g4, g5⟩
end
end Go.Proofs.YtkcfepppnclniaaGreatDoor
end

section
/-
  The program's graph and the document's side by side.
-/
namespace Go.Proofs.YtkcfepppnclniaaGreatDoor
open Go.RowKit

theorem Keeps.rest {p B : Nat} {w w' : World} (h : Keeps (fun b => b = p) w w') (hB : B ≤ p) (hw : B ≤ w.heap.size) : Below B w w' := h.below (fun b hb => by omega) hw
/-- The program's graph and the document's, alike, each in a block of its own behind B. -/
structure Both (W : World) (B p q N most : Nat) (m : GM.M) : Prop where
  g : GMem W p N most m
  r : RMem W q N most m
  ok : GM.Good most m
  lp : B ≤ p
  lq : B ≤ q
  ne : p ≠ q
  sz : B ≤ W.heap.size
theorem Both.on {W W' : World} {B p q N most : Nat} {m : GM.M} (h : Both W B p q N most m) (hb : Below W.heap.size W W') : Both W' B p q N most m := ⟨h.g.on hb, h.r.on hb, h.ok, h.lp, h.lq, h.ne, Nat.le_trans h.sz hb.size⟩
/-- Both are changed, one behind the other. -/
theorem Both.step {W W1 W2 : World} {B p q N most : Nat} {m m' : GM.M} (h : Both W B p q N most m) (hk : Keeps (fun b => b = p) W W1) (hg : GMem W1 p N most m') (hk2 : Keeps (fun b => b = q) W1 W2) (hr : RMem W2 q N most m') (hm : GM.Good most m') : Both W2 B p q N most m' ∧ Below B W W2 :=
  ⟨⟨hg.kept hk2 h.ne, hr, hm, h.lp, h.lq, h.ne, Nat.le_trans (Nat.le_trans h.sz hk.size) hk2.size⟩, (hk.rest h.lp h.sz).trans (hk2.rest h.lq (Nat.le_trans h.sz hk.size))⟩
end Go.Proofs.YtkcfepppnclniaaGreatDoor
end

section
/-
  The walk of the law's Made: both graphs behind changes.
-/
namespace Go.Proofs.YtkcfepppnclniaaGreatDoor
open Go.RowKit

namespace GM
/-- What lies there behind the first k changes. -/
def made (N : Nat) (xs : List Chg) : Nat → M
  | 0 => none0
  | k + 1 => next N 64 (made N xs k) (chgAt xs k)
theorem good_made (N : Nat) (xs : List Chg) : ∀ k, Good 64 (made N xs k)
  | 0 => Good.zero 64
  | k + 1 => good_next (good_made N xs k) _
theorem is_next {N most : Nat} {m : M} {c : Chg} {i : Nat} (h : is (next N most m c) i = true) : is m i = true ∨ c.id = (i : Int) := by
  have hu : ∀ (id : Int) (x : Option Arc), place id = true → is (upd m id.toNat x) i = true → is m i = true ∨ id = (i : Int) := fun id x hp hi => by
    obtain ⟨j, rfl, _⟩ := place_nat hp
    rw [Int.toNat_natCast, is_upd] at hi
    split at hi
    · rename_i e
      exact .inr (by rw [e])
    · exact .inl hi
  have hp0 : ∀ {id : Int}, atCode m id = 0 → place id = true := fun {id} h0 => by
    obtain ⟨j, rfl, hj, _⟩ := atCode_zero h0
    exact decide_eq_true (by omega)
  unfold next at h
  split at h
  · unfold ins at h
    split at h
    · rename_i hc
      refine hu _ _ ?_ h
      unfold insCode at hc
      split at hc
      · rename_i hp
        simp only [Bool.and_eq_true] at hp
        exact hp.1.1.1
      · cases hc
    · exact .inl h
  split at h
  · unfold del at h
    split at h
    · rename_i hc
      exact hu _ _ (hp0 hc) h
    · exact .inl h
  split at h
  · unfold turn at h
    split at h
    · rename_i hc
      exact hu _ _ (hp0 (turnCode_zero hc).1) h
    · exact .inl h
  split at h
  · unfold turn at h
    split at h
    · rename_i hc
      exact hu _ _ (hp0 (turnCode_zero hc).1) h
    · exact .inl h
  · unfold weigh at h
    split at h
    · rename_i hc
      exact hu _ _ (hp0 (weighCode_zero hc).1) h
    · exact .inl h
theorem is_made (N : Nat) (xs : List Chg) (i : Nat) : ∀ k, is (made N xs k) i = true → ∃ j, j < k ∧ (chgAt xs j).id = (i : Int)
  | 0, h => by simp [made, is, none0] at h
  | k + 1, h => by
    rcases is_next h with h1 | h1
    · obtain ⟨j, hj, e⟩ := is_made N xs i k h1
      exact ⟨j, by omega, e⟩
    · exact ⟨k, by omega, h1⟩
end GM

set_option maxHeartbeats 4000000 in
set_option maxRecDepth 100000 in
theorem made_any (n : Int) (v : Value) (xs : List Chg) (w : World) (h0 : 0 ≤ n) (_h1 : n ≤ 255) (hch : Chgs w v xs) :
    Calls Tryz.prog 6 #[.int .u8 n, v] w fun e w' => ∃ p q, e = .returned (.tuple #[.pointer (some ⟨p, 0, none⟩), .pointer (some ⟨q, 0, none⟩)]) ∧ ∃ N, (1 ≤ N ∧ N ≤ 24) ∧ Both w' w.heap.size p q N 64 (GM.made N xs (min xs.length 150)) ∧ Below w.heap.size w w' := by
  obtain ⟨ao, cap, rfl, hml, hcells⟩ := hch
  have HC : Hid (0 < xs.length → ∃ b o, ao = some ⟨b, o, none⟩ ∧ b < w.heap.size ∧ ∀ i, i < xs.length → ChgIn w b (o + i * 6) (chgAt xs i)) := hcells
  have hml' : xs.length ≤ 9223372036854775807 := by unfold maxLen at hml; omega
  obtain ⟨a, rfl⟩ : ∃ a : Nat, n = a := ⟨n.toNat, by omega⟩
  obtain ⟨N, hN⟩ : ∃ N, N = 1 + a % 24 := ⟨_, rfl⟩
  have h1 : 1 ≤ N := by omega
  have h2 : N ≤ 24 := by omega
  have ek : (1 : Int) + (a : Int) % 24 = (N : Int) := by omega
  have ek2 : (a : Int).tmod 24 = (N : Int) - 1 := by rw [Int.tmod_eq_emod_of_nonneg (by omega)]; omega
  have HN : Hid (1 ≤ N ∧ N ≤ 24) := ⟨h1, h2⟩
  clear hcells hml hN
  obtain ⟨L, hL⟩ : ∃ L, L = xs.length := ⟨_, rfl⟩
  rw [← hL] at HC hml' ⊢
  clear hL
  have HNW : Hid (∀ W, Calls Tryz.prog 17 #[.int .i64 N, .int .i64 64] W fun e w' => ∃ p, e = .returned (.tuple #[.pointer (some ⟨p, 0, none⟩), .int .i64 0]) ∧ p = W.heap.size ∧ GMem w' p N 64 GM.none0 ∧ Below W.heap.size W w') := fun W => new_ok N 64 h1 h2 (by decide) (by decide) W
  have HRW : Hid (∀ W, Calls Tryz.prog 18 #[.int .i64 N, .int .i64 64] W fun e w' => ∃ q, e = .returned (.pointer (some ⟨q, 0, none⟩)) ∧ q = W.heap.size ∧ RMem w' q N 64 GM.none0 ∧ Below W.heap.size W w') := fun W => rnew_any N 64 W
  clear h1 h2
  go_enter Tryz.func6, Tryz.ntmps6
  go_wp2_with fail
  rw [show (1 : Int) + ((N : Int) - 1) = (N : Int) by omega]
  clear ek ek2
  refine (HNW.out w).mono ?_
  rintro e w2 ⟨p, rfl, hp, hg2, hb2⟩
  have hpw : w.heap.size ≤ p := by omega
  have hpl := hg2.lt
  have hs2 := hb2.size
  clear hp HNW
  go_wp2_with fail
  refine (HRW.out w2).mono ?_
  rintro e w3 ⟨q, rfl, hq, hr3, hb3⟩
  have ho3 : Both w3 w.heap.size p q N 64 (GM.made N xs 0) := ⟨hg2.on hb3, hr3, GM.Good.zero 64, hpw, by omega, by omega, by have := hb3.size; omega⟩
  have hb3' := below_on hb2 hb3
  clear hg2 hr3 hb3 hb2 hpl hpw hq hs2 HRW
  go_wp2_with fail
  go_loopw [10] (fun iv wr => ∃ k : Nat, k ≤ L ∧ k ≤ 150 ∧ iv = .int .i64 k ∧ Both wr w.heap.size p q N 64 (GM.made N xs k) ∧ Below w.heap.size w wr) (fun iv _ => L - (intOf iv).toNat)
  case atStart => exact ⟨0, Nat.zero_le _, by decide, rfl, ho3, hb3'⟩
  case round =>
    obtain ⟨k, hk, hk2, rfl, ho, hbr⟩ := hrel
    clear ho3 hb3'
    have HO : Hid (Both wr w.heap.size p q N 64 (GM.made N xs k)) := ho
    have HB : Hid (Below w.heap.size w wr) := hbr
    by_cases hlt : k < L ∧ k < 150
    · obtain ⟨b, o, rfl, hbl, hc⟩ := HC.out (by omega)
      have HCI : Hid (∀ W, Below w.heap.size w W → ChgIn W b (o + k * 6) (chgAt xs k)) := fun W hW => by
        obtain ⟨x0, x1, x2, x3, x4, x5⟩ := hc k hlt.1
        exact ⟨(hW.cell (p := ⟨b, _, none⟩) hbl).trans x0, (hW.cell (p := ⟨b, _, none⟩) hbl).trans x1, (hW.cell (p := ⟨b, _, none⟩) hbl).trans x2, (hW.cell (p := ⟨b, _, none⟩) hbl).trans x3, (hW.cell (p := ⟨b, _, none⟩) hbl).trans x4, (hW.cell (p := ⟨b, _, none⟩) hbl).trans x5⟩
      obtain ⟨c0, c1, c2, c3, c4, c5⟩ := HCI.out wr hbr
      have HGN : Hid (GM.Good 64 (GM.made N xs (k + 1))) := GM.good_made N xs (k + 1)
      have HST : Hid (GM.made N xs (k + 1) = GM.next N 64 (GM.made N xs k) (chgAt xs k)) := rfl
      have cd := do_any ho.g ho.ok (chgAt xs k)
      have CR : Hid (∀ W, RMem W q N 64 (GM.made N xs k) → Calls Tryz.prog 20 #[.pointer (some ⟨q, 0, none⟩), chgV (chgAt xs k)] W fun e w' => e = .returned (.int .i64 (GM.code N 64 (GM.made N xs k) (chgAt xs k))) ∧ RMem w' q N 64 (GM.made N xs (k + 1)) ∧ Keeps (fun b => b = q) W w') := fun W hW => doref_any hW _
      rw [← HST.out] at cd
      clear HST
      obtain ⟨m2, hm2⟩ : ∃ m2, GM.made N xs (k + 1) = m2 := ⟨_, rfl⟩
      have HM2 : Hid (GM.made N xs (k + 1) = m2) := hm2
      rw [hm2] at cd HGN CR
      clear hm2
      generalize GM.made N xs k = m at *
      generalize chgAt xs k = x at *
      generalize GM.code N 64 m x = cod at *
      obtain ⟨kd, id, t, h, y, cl⟩ := x
      unfold chgV at cd CR
      dsimp only at c0 c1 c2 c3 c4 c5 cd CR
      have CELL : Hid (∀ W, Below w.heap.size w W → W.cell? ⟨b, o + k * 6, none⟩ = some (.int .i64 kd) ∧ W.cell? ⟨b, o + k * 6 + 1, none⟩ = some (.int .i64 id) ∧ W.cell? ⟨b, o + k * 6 + 2, none⟩ = some (.int .i64 t) ∧ W.cell? ⟨b, o + k * 6 + 3, none⟩ = some (.int .i64 h) ∧ W.cell? ⟨b, o + k * 6 + 4, none⟩ = some (.int .i64 y) ∧ W.cell? ⟨b, o + k * 6 + 5, none⟩ = some (.bool cl)) := fun W hW => HCI.out W hW
      have k1 : (k : Int) < (L : Int) := by omega
      have k2 : (k : Int) < 150 := by omega
      clear hc ho hbr HCI HC
      go_wp2_with fail
      refine cd.mono ?_
      rintro e w5 ⟨rfl, hg5, hk5⟩
      have HG5 : Hid (GMem w5 p N 64 m2) := hg5
      have HK5 : Hid (Keeps (fun b => b = p) wr w5) := hk5
      have HR5 : Hid (RMem w5 q N 64 m) := HO.out.r.kept hk5 (fun e => HO.out.ne e.symm)
      have hb5 : Below w.heap.size w w5 := HB.out.trans (hk5.rest HO.out.lp HO.out.sz)
      obtain ⟨x0, x1, x2, x3, x4, x5⟩ := CELL.out _ hb5
      clear c0 c1 c2 c3 c4 c5 cd hg5 hk5 hb5
      go_wp2_with fail
      refine (CR.out _ HR5.out).mono ?_
      rintro e w6 ⟨rfl, hr6, hk6⟩
      have HO6 : Hid (Both w6 w.heap.size p q N 64 m2) := (HO.out.step HK5.out HG5.out hk6 hr6 HGN.out).1
      have HB6 : Hid (Below w.heap.size w w6) := HB.out.trans (HO.out.step HK5.out HG5.out hk6 hr6 HGN.out).2
      clear x0 x1 x2 x3 x4 x5 hr6 hk6
      go_wp2_with fail
      go_roundw
      case rel => exact ⟨k + 1, by omega, by omega, by go_num, by rw [HM2.out]; exact HO6.out, HB6.out⟩
      case measure => simp [intOf]; omega
    · have HMIN : Hid (min L 150 = k) := by show _ = _; omega
      clear ho hbr
      by_cases hl : k < L
      · have k1 : (k : Int) < (L : Int) := by omega
        have k2 : ¬ (k : Int) < 150 := by omega
        clear hlt
        go_wp2_with fail
        go_ret2
        exact ⟨p, q, rfl, N, HN.out, by rw [HMIN.out]; exact HO.out, HB.out⟩
      · obtain rfl : k = L := by omega
        clear hlt
        go_wp2_with fail
        go_ret2
        exact ⟨p, q, rfl, N, HN.out, by rw [HMIN.out]; exact HO.out, HB.out⟩
end Go.Proofs.YtkcfepppnclniaaGreatDoor
end

section
/-
  The walk of the law OrderRanks.
-/
namespace Go.Proofs.YtkcfepppnclniaaGreatDoor
open Go.RowKit
theorem right_of (N : Nat) (hN : N ≤ 24) (D : Nat → Nat → Int) (k : Nat) : PM.right ((List.range N).map (OM.run N D k N).rank) = true := by
  rw [← PM.rright_eq]
  unfold PM.rright
  rw [List.length_map, List.length_range, decide_eq_true hN, Bool.true_and, List.all_eq_true]
  intro r hr
  rw [OM.rank_one N D k r (List.mem_range.1 hr)]
  rfl
set_option maxHeartbeats 2000000 in
set_option maxRecDepth 100000 in
theorem ranks_walk (n : Int) (v : Value) (xs : List Chg) (k : Int) (w : World) (hT : Ready w) (hn0 : 0 ≤ n) (_hn1 : n ≤ 255) (hch : Chgs w v xs) :
    Calls Tryz.prog 3 #[.int .u8 n, v, .int .i64 k] w fun e w' => e = .returned (.bool true) ∧ Below w.heap.size w w' := by
  have haw := awake14_any w
  have ht : n.tmod 10 = n % 10 := Int.tmod_eq_emod_of_nonneg (by omega)
  have hw : IntKind.u8.wrap (n % 10) = n % 10 := by rw [IntKind.wrap_u8]; omega
  have HT : Hid (∀ W, Below w.heap.size w W → Ready W) := fun W hW => hT.below hT.1 hW
  have HMD : Hid (∀ W, Below w.heap.size w W → Calls Tryz.prog 6 #[.int .u8 (n % 10), v] W fun e w' => ∃ p q, e = .returned (.tuple #[.pointer (some ⟨p, 0, none⟩), .pointer (some ⟨q, 0, none⟩)]) ∧ ∃ N, (1 ≤ N ∧ N ≤ 24) ∧ Both w' W.heap.size p q N 64 (GM.made N xs (min xs.length 150)) ∧ Below W.heap.size W w') := fun W hW => made_any (n % 10) v xs W (by omega) (by omega) (hch.on hW)
  obtain ⟨ao, cap, rfl, -, -⟩ := hch
  generalize xs.length = L at *
  clear hT
  go_enter Tryz.func3, Tryz.ntmps3
  go_wp2_with fail
  refine haw.mono ?_
  rintro e w1 ⟨rfl, hb1⟩
  clear haw
  go_wp2_with fail
  refine (HMD.out w1 hb1).mono ?_
  rintro e w2 ⟨p, q, rfl, N, ⟨hN1, hN2⟩, hS2, hb2⟩
  generalize GM.made N xs (min L 150) = m at *
  have HW2 : Hid (Below w.heap.size w w2) := hb1.trans (hb2.mono hb1.size)
  have h1 := rank_ok (HT.out w2 HW2.out) hS2.g hS2.ok hN1 hN2 k
  have HRF : Hid (∀ W, Below w2.heap.size w2 W → Calls Tryz.prog 9 #[.pointer (some ⟨q, 0, none⟩), .int .i64 k] W fun e w' => ∃ r, e = .returned r ∧ Own .i64 3 w' W.heap.size r (rankOf N m k) ∧ Below W.heap.size W w') := fun W hW => rrank_any (hS2.on hW).r hN2 _ rfl (XM.ofD_mesh hS2.ok (s := N) (t := 0) (.inr ⟨rfl, rfl⟩)) k
  have HRT : Hid (PM.right (rankOf N m k) = true) := right_of N hN2 _ _
  clear HMD hb1 hb2 ht hw hn0 _hn1 hS2 HT
  generalize rankOf N m k = R at *
  go_wp2_with fail
  refine h1.mono ?_
  rintro e w3 ⟨r1, rfl, ho3, hb3⟩
  have HO3 : Hid (Own .i64 3 w3 w2.heap.size r1 R) := ho3
  have h2 := HRF.out w3 hb3
  have HB3 : Hid (Below w2.heap.size w2 w3) := hb3
  clear h1 ho3 hb3 HRF
  go_wp2_with fail
  refine h2.mono ?_
  rintro e w4 ⟨r2, rfl, ho4, hb4⟩
  have hr1 : Row .i64 w4 r1 R := Own.row (below_row HO3.out hb4)
  have hint := ints_any r1 r2 R R w4 hr1 ho4.row
  rw [decide_eq_true rfl] at hint
  have HB4 : Hid (Below w2.heap.size w2 w4) := below_on HB3.out hb4
  have HR1 : Hid (∀ W, Below w4.heap.size w4 W → Calls Tryz.prog 10 #[r1] W fun e w' => e = .returned (.bool true) ∧ w' = W) := fun W hW => by
    have := rright_any r1 R W (hr1.below hW)
    rwa [HRT.out] at this
  clear h2 ho4 hb4 HO3 HB3 hr1
  go_wp2_with fail
  refine hint.mono ?_
  rintro e w5 ⟨rfl, hb5⟩
  have hrr := HR1.out w5 hb5
  have HB5 : Hid (Below w2.heap.size w2 w5) := below_on HB4.out hb5
  clear hint hb5 HR1 HB4
  go_wp2_with fail
  refine hrr.mono ?_
  rintro e w6 ⟨rfl, hw6⟩
  rw [hw6]
  clear hw6 w6 hrr
  go_wp2_with fail
  go_ret
  exact ⟨rfl, below_on HW2.out HB5.out⟩
end Go.Proofs.YtkcfepppnclniaaGreatDoor
end
