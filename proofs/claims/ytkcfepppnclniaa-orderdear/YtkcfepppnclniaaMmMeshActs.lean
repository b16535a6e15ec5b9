/-
  MeshActs, MeshMade, OrdNeedsW.
-/
import Derived.Test.YtkcfepppnclniaaMmMeshPut
import Derived.Test.YtkcfepppnclniaaMmOrdDiffP
import Derived.Test.YtkcfepppnclniaaMmWitSpare
import Derived.OpenShut
import Derived.WideShapes
import Derived.Deep.RegionHeld3
section
/-
  A list of steps that came in: its cells.
-/
namespace Go.Proofs.Ytkcfepppnclniaa
set_option maxRecDepth 100000
open Go.RowKit

/-- A step that is put. -/
structure Stp where
  u : Int
  w : Int
  x : Int
def stpAt (xs : List Stp) (i : Nat) : Stp := xs[i]?.getD ⟨0, 0, 0⟩
/-- A step's three cells. -/
def StpIn (w : World) (b o : Nat) (s : Stp) : Prop := w.cell? ⟨b, o, none⟩ = some (.int .i64 s.u) ∧ w.cell? ⟨b, o + 1, none⟩ = some (.int .i64 s.w) ∧ w.cell? ⟨b, o + 2, none⟩ = some (.int .i64 s.x)
/-- The value is a slice under which the steps lie, each in three cells. -/
def Stps (w : World) (v : Value) (xs : List Stp) : Prop := ∃ ao cap, v = .slice ao xs.length cap ∧ (xs.length ≤ cap ∧ cap ≤ maxLen) ∧
  (0 < xs.length → ∃ b o, ao = some ⟨b, o, none⟩ ∧ b < w.heap.size ∧ ∀ i, i < xs.length → StpIn w b (o + i * 3) (stpAt xs i))
theorem StpIn.on {w W : World} {b o : Nat} {s : Stp} (h : StpIn w b o s) (hb : Below w.heap.size w W) : StpIn W b o s :=
  ⟨(hb.cell (p := ⟨b, _, none⟩) (cell_lt h.1)).trans h.1, (hb.cell (p := ⟨b, _, none⟩) (cell_lt h.2.1)).trans h.2.1, (hb.cell (p := ⟨b, _, none⟩) (cell_lt h.2.2)).trans h.2.2⟩
theorem Stps.on {w W : World} {v : Value} {xs : List Stp} (h : Stps w v xs) (hb : Below w.heap.size w W) : Stps W v xs := by
  obtain ⟨ao, cap, rfl, h1, h2⟩ := h
  refine ⟨ao, cap, rfl, h1, fun hp => ?_⟩
  obtain ⟨b, o, rfl, hl, hc⟩ := h2 hp
  exact ⟨b, o, rfl, Nat.lt_of_lt_of_le hl hb.size, fun i hi => (hc i hi).on hb⟩
section
variable {H : Type} {enc : TypeId × Value → H} {w : World} {base : Nat} {spare : Nat → Bool} {held : Bool}
theorem stp_cells {n : Nat} {cs : List Value} {y : DataW H × List MemPlace} (h : DataW.trod enc Try.prog w base spare held n 35 cs = some y) : ∃ s : Stp, cs = [.int .i64 s.u, .int .i64 s.w, .int .i64 s.x] := by
  obtain ⟨xs, m, _, _, hl, hxl, hf⟩ := DataW.trod_struct Try.underlying35 h
  have hc : Try.prog.cellsOf 35 = 3 := by kernel_rfl
  have hc3 : Try.prog.cellsOf 3 = 1 := by kernel_rfl
  rw [hc] at hl
  have f0 : DataW.trod enc Try.prog w base spare held m 3 ((cs.drop 0).take (Try.prog.cellsOf 3)) = xs[0]? := hf 0 _ rfl
  have f1 : DataW.trod enc Try.prog w base spare held m 3 ((cs.drop 1).take (Try.prog.cellsOf 3)) = xs[1]? := hf 1 _ rfl
  have f2 : DataW.trod enc Try.prog w base spare held m 3 ((cs.drop 2).take (Try.prog.cellsOf 3)) = xs[2]? := hf 2 _ rfl
  rw [hc3] at f0 f1 f2
  have hx : xs.length = 3 := hxl
  rw [List.getElem?_eq_getElem (by omega)] at f0 f1 f2
  obtain ⟨a, ha, _⟩ := DataW.trod_int Try.underlying3 f0
  obtain ⟨b, hb, _⟩ := DataW.trod_int Try.underlying3 f1
  obtain ⟨c, hcc, _⟩ := DataW.trod_int Try.underlying3 f2
  match cs, hl with
  | [u, v, x], _ =>
    simp at ha hb hcc
    exact ⟨⟨a, b, c⟩, by rw [ha, hb, hcc]⟩
theorem stps_of_open {fuel len cap : Nat} {bo : Option Addr} {x : DataW H × List MemPlace} (h : DataW.trod enc Try.prog w base spare held fuel 22 [.slice bo len cap] = some x) : ∃ xs, Stps w (.slice bo len cap) xs := by
  rcases DataW.trod_slice Try.underlying22 h with ⟨h0, _⟩ | ⟨a, len', cap', elems, rest, n, _, hcs, _, _, hl, hm, hlen, hel, _⟩
  · simp at h0
    obtain ⟨rfl, rfl, rfl⟩ := h0
    exact ⟨[], none, 0, rfl, by simp [maxLen], fun h => by simp at h⟩
  · simp at hcs
    obtain ⟨rfl, rfl, rfl⟩ := hcs
    have hc : Try.prog.cellsOf 35 = 3 := by kernel_rfl
    rw [hc] at hel
    have each : ∀ i, i < len → ∃ s : Stp, w.cell? (a.add (i * 3)) = some (.int .i64 s.u) ∧ w.cell? ((a.add (i * 3)).add 1) = some (.int .i64 s.w) ∧ w.cell? ((a.add (i * 3)).add 2) = some (.int .i64 s.x) := by
      intro i hi
      have h1 := hel i hi
      rw [List.getElem?_eq_getElem (by omega), Option.bind_eq_some_iff] at h1
      obtain ⟨cs, h2, h3⟩ := h1
      obtain ⟨s, rfl⟩ := stp_cells h3
      obtain ⟨_, _, h4⟩ := World.cells?_some h2
      have g0 := h4 0 (by omega)
      have g1 := h4 1 (by omega)
      have g2 := h4 2 (by omega)
      refine ⟨s, ?_, by simpa using g1, by simpa using g2⟩
      have e : (a.add (i * 3)).add 0 = a.add (i * 3) := by simp [Addr.add]
      rw [e] at g0
      simpa using g0
    let f : Nat → Stp := fun i => if h : i < len then Classical.choose (each i h) else ⟨0, 0, 0⟩
    have hf : ∀ i, i < len → w.cell? (a.add (i * 3)) = some (.int .i64 (f i).u) ∧ w.cell? ((a.add (i * 3)).add 1) = some (.int .i64 (f i).w) ∧ w.cell? ((a.add (i * 3)).add 2) = some (.int .i64 (f i).x) := by
      intro i hi
      have e : f i = Classical.choose (each i hi) := by simp only [f, dif_pos hi]
      rw [e]
      exact Classical.choose_spec (each i hi)
    clear_value f
    refine ⟨(List.range len).map f, some a, cap, by simp, by simp; omega, fun hp => ?_⟩
    simp only [List.length_map, List.length_range] at hp ⊢
    obtain ⟨b, o, spot⟩ := a
    have h0 := (hf 0 hp).1
    have hspot : spot = none := by simpa [Addr.add] using World.cell?_spot h0
    subst hspot
    refine ⟨b, o, rfl, by have := cell_lt h0; simpa [Addr.add] using this, fun i hi => ?_⟩
    obtain ⟨g0, g1, g2⟩ := hf i hi
    simp only [Addr.add_lit] at g0 g1 g2
    have e : stpAt ((List.range len).map f) i = f i := by simp [stpAt, hi]
    rw [e]
    exact ⟨g0, g1, g2⟩
end
end Go.Proofs.Ytkcfepppnclniaa
end

section
/-
  The walk of the law's Made: both meshes behind steps that are put.
-/
namespace Go.Proofs.Ytkcfepppnclniaa
open Go.RowKit

namespace XM
/-- What is there behind the first k steps. -/
def made (N : Nat) (xs : List Stp) : Nat → Nat → Nat → Int
  | 0 => empty
  | k + 1 => put N (made N xs k) (stpAt xs k).u (stpAt xs k).w (stpAt xs k).x
theorem made_mesh (N : Nat) (xs : List Stp) : ∀ k, Mesh N (made N xs k)
  | 0 => Mesh.empty N
  | k + 1 => put_mesh (made_mesh N xs k) _ _ _
end XM
/-- The program's mesh and the document's, side by side, each behind its own steps. -/
structure St (w : World) (B p q N : Nat) (D E : Nat → Nat → Int) (W : World) : Prop where
  xp : XMem W p N D
  xq : XMem W q N E
  lp : B ≤ p
  lq : B ≤ q
  ne : p ≠ q
  bel : Below B w W
  sz : B ≤ w.heap.size
section
variable {w W W' : World} {B p q N : Nat} {D E D' : Nat → Nat → Int}
theorem St.on (h : St w B p q N D E W) (hb : Below W.heap.size W W') : St w B p q N D E W' := ⟨h.xp.on hb, h.xq.on hb, h.lp, h.lq, h.ne, h.bel.trans (hb.mono (Nat.le_trans h.sz h.bel.size)), h.sz⟩
theorem St.left (h : St w B p q N D E W) (hk : Keeps (fun b => b = p) W W') (hX : XMem W' p N D') : St w B p q N D' E W' := ⟨hX, h.xq.kept hk (fun e => h.ne e.symm), h.lp, h.lq, h.ne, h.bel.trans (hk.below (fun b hb => by rw [hb]; exact h.lp) (Nat.le_trans h.sz h.bel.size)), h.sz⟩
theorem St.right (h : St w B p q N D E W) (hk : Keeps (fun b => b = q) W W') (hX : XMem W' q N D') : St w B p q N D D' W' := ⟨h.xp.kept hk (fun e => h.ne e), hX, h.lp, h.lq, h.ne, h.bel.trans (hk.below (fun b hb => by rw [hb]; exact h.lq) (Nat.le_trans h.sz h.bel.size)), h.sz⟩
end
theorem putP_any {w : World} {B p q N : Nat} {D E : Nat → Nat → Int} (hm : XM.Mesh N D) (hN : N ≤ 24) (u v x : Int) (W : World) (h : St w B p q N D E W) :
    Calls Try.prog 16 #[.pointer (some ⟨p, 0, none⟩), .int .i64 u, .int .i64 v, .int .i64 x] W fun e w' => e = .returned (.int .i64 (XM.putCode N u v x)) ∧ St w B p q N (XM.put N D u v x) E w' :=
  (xput_any h.xp hm hN u v x).mono (by
    rintro e w' ⟨rfl, h1, -, h2⟩
    exact ⟨rfl, h.left h2 h1⟩)
theorem putR_any {w : World} {B p q N : Nat} {D E : Nat → Nat → Int} (hm : XM.Mesh N E) (hN : N ≤ 24) (u v x : Int) (W : World) (h : St w B p q N D E W) :
    Calls Try.prog 18 #[.pointer (some ⟨q, 0, none⟩), .int .i64 u, .int .i64 v, .int .i64 x] W fun e w' => e = .returned (.int .i64 (XM.putCode N u v x)) ∧ St w B p q N D (XM.put N E u v x) w' :=
  (rput_any h.xq hm hN u v x).mono (by
    rintro e w' ⟨rfl, h1, -, h2⟩
    exact ⟨rfl, h.right h2 h1⟩)

set_option maxHeartbeats 4000000 in
set_option maxRecDepth 100000 in
theorem madeX_at (n : Int) (v : Value) (xs : List Stp) (w : World) (h0 : 0 ≤ n) (_h1 : n ≤ 255) (hch : Stps w v xs) :
    Calls Try.prog 7 #[.int .u8 n, v] w fun e w' => ∃ p q, e = .returned (.tuple #[.pointer (some ⟨p, 0, none⟩), .pointer (some ⟨q, 0, none⟩)]) ∧ ∃ N : Nat, (1 ≤ N ∧ N ≤ 24) ∧ (N : Int) = 1 + n % 24 ∧ St w w.heap.size p q N (XM.made N xs (min xs.length 400)) (XM.made N xs (min xs.length 400)) w' := by
  obtain ⟨ao, cap, rfl, ⟨hcp, hml⟩, hcells⟩ := hch
  have HC : Hid (0 < xs.length → ∃ b o, ao = some ⟨b, o, none⟩ ∧ b < w.heap.size ∧ ∀ i, i < xs.length → StpIn w b (o + i * 3) (stpAt xs i)) := hcells
  have hml' : xs.length ≤ 9223372036854775807 := by unfold maxLen at hml; omega
  have hcpI : (xs.length : Int) ≤ (cap : Int) := by omega
  obtain ⟨a, rfl⟩ : ∃ a : Nat, n = a := ⟨n.toNat, by omega⟩
  obtain ⟨N, hN⟩ : ∃ N, N = 1 + a % 24 := ⟨_, rfl⟩
  have h1 : 1 ≤ N := by omega
  have h2 : N ≤ 24 := by omega
  have ek : (1 : Int) + (a : Int) % 24 = (N : Int) := by omega
  have ek2 : (a : Int).tmod 24 = (N : Int) - 1 := by rw [Int.tmod_eq_emod_of_nonneg (by omega)]; omega
  have HN : Hid (1 ≤ N ∧ N ≤ 24) := ⟨h1, h2⟩
  have HNA : Hid ((N : Int) = 1 + (a : Int) % 24) := ek.symm
  clear hcells hml hN hcp
  obtain ⟨L, hL⟩ : ∃ L, L = xs.length := ⟨_, rfl⟩
  rw [← hL] at HC hml' hcpI ⊢
  clear hL
  have hnw := xnew_ok N h1 h2 w
  have HRW : Hid (∀ W, Calls Try.prog 17 #[.int .i64 N] W fun e w' => ∃ p, e = .returned (.pointer (some ⟨p, 0, none⟩)) ∧ p = W.heap.size ∧ XMem w' p N XM.empty ∧ Below W.heap.size W w') := fun W => xrnew_any N W
  clear h1 h2
  go_enter Try.func7, Try.ntmps7
  go_wp2_with fail
  rw [show (1 : Int) + ((N : Int) - 1) = (N : Int) by omega]
  clear ek ek2
  refine hnw.mono ?_
  rintro e w2 ⟨p, rfl, hp, hX2, hb2⟩
  have HP : Hid (w.heap.size ≤ p ∧ p < w2.heap.size ∧ w.heap.size ≤ w2.heap.size) := ⟨by omega, hX2.lt, hb2.size⟩
  clear hnw hp
  go_wp2_with fail
  refine (HRW.out w2).mono ?_
  rintro e w3 ⟨q, rfl, hq, hX3, hb3⟩
  have HS3 : Hid (St w w.heap.size p q N (XM.made N xs 0) (XM.made N xs 0) w3) := ⟨hX2.on hb3, hX3, HP.out.1, by have := HP.out; omega, by have := HP.out; omega, below_on hb2 hb3, Nat.le_refl _⟩
  clear hX2 hX3 hb2 hb3 hq HRW HP
  go_wp2_with fail
  go_loopw [10] (fun iv wr => ∃ k : Nat, k ≤ L ∧ k ≤ 400 ∧ iv = .int .i64 k ∧ St w w.heap.size p q N (XM.made N xs k) (XM.made N xs k) wr) (fun iv _ => L - (intOf iv).toNat)
  case atStart => exact ⟨0, Nat.zero_le _, by decide, rfl, HS3.out⟩
  case round =>
    clear HS3
    obtain ⟨k, hk, hk2, rfl, hS⟩ := hrel
    by_cases hlt : k < L ∧ k < 400
    · obtain ⟨b, o, rfl, hbl, hc⟩ := HC.out (by omega)
      have HCI : Hid (∀ W D E, St w w.heap.size p q N D E W → (W.cell? ⟨b, o + k * 3, none⟩ = some (.int .i64 (stpAt xs k).u) ∧ W.cell? ⟨b, o + k * 3 + 1, none⟩ = some (.int .i64 (stpAt xs k).w) ∧ W.cell? ⟨b, o + k * 3 + 2, none⟩ = some (.int .i64 (stpAt xs k).x))) := fun W D E h => (hc k hlt.1).on h.bel
      have HPP : Hid (∀ W E, St w w.heap.size p q N (XM.made N xs k) E W → Calls Try.prog 16 #[.pointer (some ⟨p, 0, none⟩), .int .i64 (stpAt xs k).u, .int .i64 (stpAt xs k).w, .int .i64 (stpAt xs k).x] W fun e w' => e = .returned (.int .i64 (XM.putCode N (stpAt xs k).u (stpAt xs k).w (stpAt xs k).x)) ∧ St w w.heap.size p q N (XM.made N xs (k + 1)) E w') := fun W E h => putP_any (XM.made_mesh N xs k) HN.out.2 _ _ _ W h
      have HPR : Hid (∀ W D, St w w.heap.size p q N D (XM.made N xs k) W → Calls Try.prog 18 #[.pointer (some ⟨q, 0, none⟩), .int .i64 (stpAt xs k).u, .int .i64 (stpAt xs k).w, .int .i64 (stpAt xs k).x] W fun e w' => e = .returned (.int .i64 (XM.putCode N (stpAt xs k).u (stpAt xs k).w (stpAt xs k).x)) ∧ St w w.heap.size p q N D (XM.made N xs (k + 1)) w') := fun W D h => putR_any (XM.made_mesh N xs k) HN.out.2 _ _ _ W h
      have k1 : (k : Int) < (L : Int) := by omega
      have k4 : (k : Int) < 400 := by omega
      obtain ⟨x0, x1, x2⟩ := HCI.out wr _ _ hS
      obtain ⟨D2, hD2⟩ : ∃ D2, D2 = XM.made N xs (k + 1) := ⟨_, rfl⟩
      have HD2 : Hid (XM.made N xs (k + 1) = D2) := hD2.symm
      rw [← hD2] at HPP HPR
      clear hD2 hc hbl hlt
      generalize XM.made N xs k = D1 at *
      generalize XM.putCode N (stpAt xs k).u (stpAt xs k).w (stpAt xs k).x = cd at *
      generalize stpAt xs k = s at *
      obtain ⟨su, sw, sx⟩ := s
      dsimp only at x0 x1 x2 HCI HPP HPR
      have hS0 : St w w.heap.size p q N D1 D1 wr.drew := hS.on (Below.refl _ _).drew
      clear hS
      go_upto_region 9 with fail
      go_region_held3 (fun W => W.cell? ⟨b, o + k * 3, none⟩ = some (.int .i64 su) ∧ W.cell? ⟨b, o + k * 3 + 1, none⟩ = some (.int .i64 sw) ∧ W.cell? ⟨b, o + k * 3 + 2, none⟩ = some (.int .i64 sx)) (first | exact HCI.out _ _ _ (by assumption) | go_keep) (first | (go_at_call 16; refine (HPP.out _ _ (by assumption)).mono ?_; rintro e w4 ⟨rfl, hS4⟩))
      have hS5 : St w w.heap.size p q N D2 D1 w4.drew := hS4.on (Below.refl _ _).drew
      obtain ⟨y0, y1, y2⟩ := HCI.out w4 _ _ hS4
      clear hS4 hS0 x0 x1 x2 HPP
      go_upto_region 10 with fail
      go_region_held3 (fun W => W.cell? ⟨b, o + k * 3, none⟩ = some (.int .i64 su) ∧ W.cell? ⟨b, o + k * 3 + 1, none⟩ = some (.int .i64 sw) ∧ W.cell? ⟨b, o + k * 3 + 2, none⟩ = some (.int .i64 sx)) (first | exact HCI.out _ _ _ (by assumption) | go_keep) (first | (go_at_call 18; refine (HPR.out _ _ (by assumption)).mono ?_; rintro e w6 ⟨rfl, hS6⟩))
      have HS6 : Hid (St w w.heap.size p q N (XM.made N xs (k + 1)) (XM.made N xs (k + 1)) w6) := by
        show St _ _ _ _ _ _ _ _
        rw [HD2.out]
        exact hS6
      clear hS5 hS6 y0 y1 y2 HPR HCI
      go_wp2_with fail
      exact ⟨⟨k + 1, by omega, by omega, by go_num, HS6.out⟩, by simp [intOf]; omega⟩
    · have hkk : k = min L 400 := by omega
      rw [hkk] at hS
      have HS : Hid (St w w.heap.size p q N (XM.made N xs (min L 400)) (XM.made N xs (min L 400)) wr) := hS
      have hkn : ¬ ((k : Int) < (L : Int) ∧ (k : Int) < 400) := by omega
      clear hS hkk
      by_cases hkl : (k : Int) < (L : Int)
      · have h4 : ¬ (k : Int) < 400 := fun h => hkn ⟨hkl, h⟩
        clear hkn
        go_wp2_with fail
        go_ret2
        exact ⟨p, q, rfl, N, HN.out, HNA.out, HS.out⟩
      · clear hkn
        go_wp2_with fail
        go_ret2
        exact ⟨p, q, rfl, N, HN.out, HNA.out, HS.out⟩
theorem madeX_any (n : Int) (v : Value) (xs : List Stp) (w : World) (h0 : 0 ≤ n) (h1 : n ≤ 255) (hch : Stps w v xs) :
    Calls Try.prog 7 #[.int .u8 n, v] w fun e w' => ∃ p q, e = .returned (.tuple #[.pointer (some ⟨p, 0, none⟩), .pointer (some ⟨q, 0, none⟩)]) ∧ ∃ N, (1 ≤ N ∧ N ≤ 24) ∧ St w w.heap.size p q N (XM.made N xs (min xs.length 400)) (XM.made N xs (min xs.length 400)) w' := by
  refine (madeX_at n v xs w h0 h1 hch).mono ?_
  rintro e w' ⟨p, q, he, N, hN, -, hS⟩
  exact ⟨p, q, he, N, hN, hS⟩
end Go.Proofs.Ytkcfepppnclniaa
end

section
/-
  The walk of the law OrderNeeds.
-/
namespace Go.Proofs.Ytkcfepppnclniaa
open Go.RowKit
set_option maxHeartbeats 2000000 in
set_option maxRecDepth 100000 in
theorem needs_walk (HAW : AwakeIs) (HND : NeedIs) (HNN : NeedNo) (HDI : DiffIs) (HDN : DiffNo) (n : Int) (v : Value) (xs : List Stp) (vv k : Int) (w : World) (hn0 : 0 ≤ n) (_hn1 : n ≤ 255) (hch : Stps w v xs) :
    Calls Try.prog 3 #[.int .u8 n, v, .int .i64 vv, .int .i64 k] w fun e w' => e = .returned (.bool true) ∧ Below w.heap.size w w' := by
  have haw := HAW w
  have ht : n.tmod 10 = n % 10 := Int.tmod_eq_emod_of_nonneg (by omega)
  have hw : IntKind.u8.wrap (n % 10) = n % 10 := by rw [IntKind.wrap_u8]; omega
  have HMD : Hid (∀ W, Below w.heap.size w W → Calls Try.prog 7 #[.int .u8 (n % 10), v] W fun e w' => ∃ p q, e = .returned (.tuple #[.pointer (some ⟨p, 0, none⟩), .pointer (some ⟨q, 0, none⟩)]) ∧ ∃ N, (1 ≤ N ∧ N ≤ 24) ∧ St W W.heap.size p q N (XM.made N xs (min xs.length 400)) (XM.made N xs (min xs.length 400)) w') := fun W hW => madeX_any (n % 10) v xs W (by omega) (by omega) (hch.on hW)
  have HMM : Hid (∀ N, XM.Mesh N (XM.made N xs (min xs.length 400))) := fun N => XM.made_mesh N xs _
  obtain ⟨ao, cap, rfl, -, -⟩ := hch
  generalize xs.length = L at *
  go_enter Try.func3, Try.ntmps3
  go_wp2_with fail
  refine haw.mono ?_
  rintro e w1 ⟨rfl, hb1⟩
  clear haw
  go_wp2_with fail
  refine (HMD.out w1 hb1).mono ?_
  rintro e w2 ⟨p, q, rfl, N, ⟨hN1, hN2⟩, hS2⟩
  have hMD := HMM.out N
  generalize XM.made N xs (min L 400) = D at *
  have HW2 : Hid (Below w.heap.size w w2) := hb1.trans (hS2.bel.mono hb1.size)
  clear HMD HMM hb1 ht hw hn0 _hn1
  cases hth : GM.vert N vv with
  | false =>
    have h1 := HNN hS2.xp hN2 vv hth k
    have H2 : Hid (∀ W, Below w2.heap.size w2 W → Calls Try.prog 9 #[.pointer (some ⟨p, 0, none⟩), .int .i64 vv, .int .i64 k] W fun e w' => e = .returned (.tuple #[.int .i64 0, .int .i64 1]) ∧ Below W.heap.size W w') := fun W hW => HDN (hS2.on hW).xp hN2 vv hth k
    have H3 : Hid (∀ W, Below w2.heap.size w2 W → Calls Try.prog 10 #[.pointer (some ⟨q, 0, none⟩), .int .i64 vv] W fun e w' => e = .returned (.bool false) ∧ w' = W) := fun W hW => by
      have := xvertex_any (hS2.on hW).xq vv
      rwa [hth] at this
    clear hth hS2 hMD
    go_wp2_with fail
    refine h1.mono ?_
    rintro e w3 ⟨rfl, hb3⟩
    have HB3 : Hid (Below w2.heap.size w2 w3) := hb3
    clear h1 hb3
    go_wp2_with fail
    refine (H2.out w3 HB3.out).mono ?_
    rintro e w4 ⟨rfl, hb4⟩
    have HB4 : Hid (Below w2.heap.size w2 w4) := below_on HB3.out hb4
    clear hb4 H2 HB3
    go_wp2_with fail
    refine (H3.out w4 HB4.out).mono ?_
    rintro e w5 ⟨rfl, hw5⟩
    rw [hw5]
    clear hw5 w5 H3
    go_wp2_with fail
    go_ret
    exact ⟨rfl, below_on HW2.out HB4.out⟩
  | true =>
    obtain ⟨x, rfl, hx⟩ : ∃ x : Nat, vv = x ∧ x < N := by
      have := of_decide_eq_true hth
      exact ⟨vv.toNat, by omega, by omega⟩
    have h1 := HND hS2.xp hMD hN2 x hx k
    have H2 : Hid (∀ W, Below w2.heap.size w2 W → Calls Try.prog 9 #[.pointer (some ⟨p, 0, none⟩), .int .i64 (x : Nat), .int .i64 k] W fun e w' => e = .returned (.tuple #[.int .i64 (OM.diff N D x k.toNat), .int .i64 0]) ∧ Below W.heap.size W w') := fun W hW => HDI (hS2.on hW).xp hMD hN2 x hx k
    have H3 : Hid (∀ W, Below w2.heap.size w2 W → Calls Try.prog 10 #[.pointer (some ⟨q, 0, none⟩), .int .i64 (x : Nat)] W fun e w' => e = .returned (.bool true) ∧ w' = W) := fun W hW => by
      have := xvertex_any (hS2.on hW).xq (x : Int)
      rwa [hth] at this
    have H4 : Hid (∀ W, Below w2.heap.size w2 W → Calls Try.prog 11 #[.pointer (some ⟨q, 0, none⟩), .int .i64 (x : Nat), .int .i64 k] W fun e w' => e = .returned (.int .i64 (OM.need N D x k.toNat : Nat)) ∧ Below W.heap.size W w') := fun W hW => rneed_any (hS2.on hW).xq hMD hN2 x hx k
    have H5 : Hid (∀ W, Below w2.heap.size w2 W → Calls Try.prog 12 #[.pointer (some ⟨q, 0, none⟩), .int .i64 (x : Nat), .int .i64 k] W fun e w' => e = .returned (.int .i64 (OM.diff N D x k.toNat)) ∧ Below W.heap.size W w') := fun W hW => rdiff_any (hS2.on hW).xq hMD hN2 x hx k
    clear hth hS2 hMD hx hN1 hN2
    generalize OM.need N D x k.toNat = nd at *
    generalize OM.diff N D x k.toNat = df at *
    go_wp2_with fail
    refine h1.mono ?_
    rintro e w3 ⟨rfl, hb3⟩
    have HB3 : Hid (Below w2.heap.size w2 w3) := hb3
    clear h1 hb3
    go_wp2_with fail
    refine (H2.out w3 HB3.out).mono ?_
    rintro e w4 ⟨rfl, hb4⟩
    have HB4 : Hid (Below w2.heap.size w2 w4) := below_on HB3.out hb4
    clear hb4 H2 HB3
    go_wp2_with fail
    refine (H3.out w4 HB4.out).mono ?_
    rintro e w5 ⟨rfl, hw5⟩
    rw [hw5]
    clear hw5 w5 H3
    go_wp2_with fail
    refine (H4.out w4 HB4.out).mono ?_
    rintro e w6 ⟨rfl, hb6⟩
    have HB6 : Hid (Below w2.heap.size w2 w6) := below_on HB4.out hb6
    clear hb6 H4
    go_wp2_with fail
    refine (H5.out w6 HB6.out).mono ?_
    rintro e w7 ⟨rfl, hb7⟩
    have HB7 : Hid (Below w2.heap.size w2 w7) := below_on HB6.out hb7
    clear hb7 H5
    go_wp2_with fail
    go_ret
    exact ⟨by simp, below_on HW2.out HB7.out⟩
end Go.Proofs.Ytkcfepppnclniaa
end
