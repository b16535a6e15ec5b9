/-
  The walk of the law's Made: both meshes behind steps that are put.
-/
import Derived.Test.YtmkpcidgiobpeaaMmMeshActs
import Derived.Test.YtmkpcidgiobpeaaMmMeshLeave
import Derived.Test.YtmkpcidgiobpeaaMmInts
import Derived.Deep.RegionHeld3
namespace Go.Proofs.Ytmkpcidgiobpeaa
open Go.RowKit

namespace XM
/-- What is there behind the first k steps. -/
def made (N : Nat) (xs : List Stp) : Nat → Nat → Nat → Int
  | 0 => empty
  | k + 1 => put N (made N xs k) (stpAt xs k).u (stpAt xs k).w (stpAt xs k).x
theorem made_mesh (N : Nat) (xs : List Stp) : ∀ k, Mesh N (made N xs k)
  | 0 => Mesh.empty N
  | k + 1 => put_mesh (made_mesh N xs k) _ _ _
end XM
/-- The program's mesh and the document's, side by side, each behind its own steps. -/
structure St (w : World) (B p q N : Nat) (D E : Nat → Nat → Int) (W : World) : Prop where
  xp : XMem W p N D
  xq : XMem W q N E
  lp : B ≤ p
  lq : B ≤ q
  ne : p ≠ q
  bel : Below B w W
  sz : B ≤ w.heap.size
section
variable {w W W' : World} {B p q N : Nat} {D E D' : Nat → Nat → Int}
theorem St.on (h : St w B p q N D E W) (hb : Below W.heap.size W W') : St w B p q N D E W' := ⟨h.xp.on hb, h.xq.on hb, h.lp, h.lq, h.ne, h.bel.trans (hb.mono (Nat.le_trans h.sz h.bel.size)), h.sz⟩
theorem St.left (h : St w B p q N D E W) (hk : Keeps (fun b => b = p) W W') (hX : XMem W' p N D') : St w B p q N D' E W' := ⟨hX, h.xq.kept hk (fun e => h.ne e.symm), h.lp, h.lq, h.ne, h.bel.trans (hk.below (fun b hb => by rw [hb]; exact h.lp) (Nat.le_trans h.sz h.bel.size)), h.sz⟩
theorem St.right (h : St w B p q N D E W) (hk : Keeps (fun b => b = q) W W') (hX : XMem W' q N D') : St w B p q N D D' W' := ⟨h.xp.kept hk (fun e => h.ne e), hX, h.lp, h.lq, h.ne, h.bel.trans (hk.below (fun b hb => by rw [hb]; exact h.lq) (Nat.le_trans h.sz h.bel.size)), h.sz⟩
end
theorem putP_any {w : World} {B p q N : Nat} {D E : Nat → Nat → Int} (hm : XM.Mesh N D) (hN : N ≤ 24) (u v x : Int) (W : World) (h : St w B p q N D E W) :
    Calls Try.prog 23 #[.pointer (some ⟨p, 0, none⟩), .int .i64 u, .int .i64 v, .int .i64 x] W fun e w' => e = .returned (.int .i64 (XM.putCode N u v x)) ∧ St w B p q N (XM.put N D u v x) E w' :=
  (xput_any h.xp hm hN u v x).mono (by
    rintro e w' ⟨rfl, h1, -, h2⟩
    exact ⟨rfl, h.left h2 h1⟩)
theorem putR_any {w : World} {B p q N : Nat} {D E : Nat → Nat → Int} (hm : XM.Mesh N E) (hN : N ≤ 24) (u v x : Int) (W : World) (h : St w B p q N D E W) :
    Calls Try.prog 26 #[.pointer (some ⟨q, 0, none⟩), .int .i64 u, .int .i64 v, .int .i64 x] W fun e w' => e = .returned (.int .i64 (XM.putCode N u v x)) ∧ St w B p q N D (XM.put N E u v x) w' :=
  (rput_any h.xq hm hN u v x).mono (by
    rintro e w' ⟨rfl, h1, -, h2⟩
    exact ⟨rfl, h.right h2 h1⟩)

set_option maxHeartbeats 4000000 in
set_option maxRecDepth 100000 in
theorem madeX_any (n : Int) (v : Value) (xs : List Stp) (w : World) (h0 : 0 ≤ n) (_h1 : n ≤ 255) (hch : Stps w v xs) :
    Calls Try.prog 9 #[.int .u8 n, v] w fun e w' => ∃ p q, e = .returned (.tuple #[.pointer (some ⟨p, 0, none⟩), .pointer (some ⟨q, 0, none⟩)]) ∧ ∃ N, (1 ≤ N ∧ N ≤ 24) ∧ St w w.heap.size p q N (XM.made N xs (min xs.length 400)) (XM.made N xs (min xs.length 400)) w' := by
  obtain ⟨ao, cap, rfl, ⟨hcp, hml⟩, hcells⟩ := hch
  have HC : Hid (0 < xs.length → ∃ b o, ao = some ⟨b, o, none⟩ ∧ b < w.heap.size ∧ ∀ i, i < xs.length → StpIn w b (o + i * 3) (stpAt xs i)) := hcells
  have hml' : xs.length ≤ 9223372036854775807 := by unfold maxLen at hml; omega
  have hcpI : (xs.length : Int) ≤ (cap : Int) := by omega
  obtain ⟨a, rfl⟩ : ∃ a : Nat, n = a := ⟨n.toNat, by omega⟩
  obtain ⟨N, hN⟩ : ∃ N, N = 1 + a % 24 := ⟨_, rfl⟩
  have h1 : 1 ≤ N := by omega
  have h2 : N ≤ 24 := by omega
  have ek : (1 : Int) + (a : Int) % 24 = (N : Int) := by omega
  have ek2 : (a : Int).tmod 24 = (N : Int) - 1 := by rw [Int.tmod_eq_emod_of_nonneg (by omega)]; omega
  have HN : Hid (1 ≤ N ∧ N ≤ 24) := ⟨h1, h2⟩
  clear hcells hml hN hcp
  obtain ⟨L, hL⟩ : ∃ L, L = xs.length := ⟨_, rfl⟩
  rw [← hL] at HC hml' hcpI ⊢
  clear hL
  have hnw := xnew_ok N h1 h2 w
  have HRW : Hid (∀ W, Calls Try.prog 25 #[.int .i64 N] W fun e w' => ∃ p, e = .returned (.pointer (some ⟨p, 0, none⟩)) ∧ p = W.heap.size ∧ XMem w' p N XM.empty ∧ Below W.heap.size W w') := fun W => xrnew_any N W
  clear h1 h2
  go_enter Try.func9, Try.ntmps9
  go_wp2_with fail
  rw [show (1 : Int) + ((N : Int) - 1) = (N : Int) by omega]
  clear ek ek2
  refine hnw.mono ?_
  rintro e w2 ⟨p, rfl, hp, hX2, hb2⟩
  have HP : Hid (w.heap.size ≤ p ∧ p < w2.heap.size ∧ w.heap.size ≤ w2.heap.size) := ⟨by omega, hX2.lt, hb2.size⟩
  clear hnw hp
  go_wp2_with fail
  refine (HRW.out w2).mono ?_
  rintro e w3 ⟨q, rfl, hq, hX3, hb3⟩
  have HS3 : Hid (St w w.heap.size p q N (XM.made N xs 0) (XM.made N xs 0) w3) := ⟨hX2.on hb3, hX3, HP.out.1, by have := HP.out; omega, by have := HP.out; omega, below_on hb2 hb3, Nat.le_refl _⟩
  clear hX2 hX3 hb2 hb3 hq HRW HP
  go_wp2_with fail
  go_loopw [10] (fun iv wr => ∃ k : Nat, k ≤ L ∧ k ≤ 400 ∧ iv = .int .i64 k ∧ St w w.heap.size p q N (XM.made N xs k) (XM.made N xs k) wr) (fun iv _ => L - (intOf iv).toNat)
  case atStart => exact ⟨0, Nat.zero_le _, by decide, rfl, HS3.out⟩
  case round =>
    clear HS3
    obtain ⟨k, hk, hk2, rfl, hS⟩ := hrel
    by_cases hlt : k < L ∧ k < 400
    · obtain ⟨b, o, rfl, hbl, hc⟩ := HC.out (by omega)
      have HCI : Hid (∀ W D E, St w w.heap.size p q N D E W → (W.cell? ⟨b, o + k * 3, none⟩ = some (.int .i64 (stpAt xs k).u) ∧ W.cell? ⟨b, o + k * 3 + 1, none⟩ = some (.int .i64 (stpAt xs k).w) ∧ W.cell? ⟨b, o + k * 3 + 2, none⟩ = some (.int .i64 (stpAt xs k).x))) := fun W D E h => (hc k hlt.1).on h.bel
      have HPP : Hid (∀ W E, St w w.heap.size p q N (XM.made N xs k) E W → Calls Try.prog 23 #[.pointer (some ⟨p, 0, none⟩), .int .i64 (stpAt xs k).u, .int .i64 (stpAt xs k).w, .int .i64 (stpAt xs k).x] W fun e w' => e = .returned (.int .i64 (XM.putCode N (stpAt xs k).u (stpAt xs k).w (stpAt xs k).x)) ∧ St w w.heap.size p q N (XM.made N xs (k + 1)) E w') := fun W E h => putP_any (XM.made_mesh N xs k) HN.out.2 _ _ _ W h
      have HPR : Hid (∀ W D, St w w.heap.size p q N D (XM.made N xs k) W → Calls Try.prog 26 #[.pointer (some ⟨q, 0, none⟩), .int .i64 (stpAt xs k).u, .int .i64 (stpAt xs k).w, .int .i64 (stpAt xs k).x] W fun e w' => e = .returned (.int .i64 (XM.putCode N (stpAt xs k).u (stpAt xs k).w (stpAt xs k).x)) ∧ St w w.heap.size p q N D (XM.made N xs (k + 1)) w') := fun W D h => putR_any (XM.made_mesh N xs k) HN.out.2 _ _ _ W h
      have k1 : (k : Int) < (L : Int) := by omega
      have k4 : (k : Int) < 400 := by omega
      obtain ⟨x0, x1, x2⟩ := HCI.out wr _ _ hS
      obtain ⟨D2, hD2⟩ : ∃ D2, D2 = XM.made N xs (k + 1) := ⟨_, rfl⟩
      have HD2 : Hid (XM.made N xs (k + 1) = D2) := hD2.symm
      rw [← hD2] at HPP HPR
      clear hD2 hc hbl hlt
      generalize XM.made N xs k = D1 at *
      generalize XM.putCode N (stpAt xs k).u (stpAt xs k).w (stpAt xs k).x = cd at *
      generalize stpAt xs k = s at *
      obtain ⟨su, sw, sx⟩ := s
      dsimp only at x0 x1 x2 HCI HPP HPR
      have hS0 : St w w.heap.size p q N D1 D1 wr.drew := hS.on (Below.refl _ _).drew
      clear hS
      go_upto_region 9 with fail
      go_region_held3 (fun W => W.cell? ⟨b, o + k * 3, none⟩ = some (.int .i64 su) ∧ W.cell? ⟨b, o + k * 3 + 1, none⟩ = some (.int .i64 sw) ∧ W.cell? ⟨b, o + k * 3 + 2, none⟩ = some (.int .i64 sx)) (first | exact HCI.out _ _ _ (by assumption) | go_keep) (first | (go_at_call 23; refine (HPP.out _ _ (by assumption)).mono ?_; rintro e w4 ⟨rfl, hS4⟩))
      have hS5 : St w w.heap.size p q N D2 D1 w4.drew := hS4.on (Below.refl _ _).drew
      obtain ⟨y0, y1, y2⟩ := HCI.out w4 _ _ hS4
      clear hS4 hS0 x0 x1 x2 HPP
      go_upto_region 10 with fail
      go_region_held3 (fun W => W.cell? ⟨b, o + k * 3, none⟩ = some (.int .i64 su) ∧ W.cell? ⟨b, o + k * 3 + 1, none⟩ = some (.int .i64 sw) ∧ W.cell? ⟨b, o + k * 3 + 2, none⟩ = some (.int .i64 sx)) (first | exact HCI.out _ _ _ (by assumption) | go_keep) (first | (go_at_call 26; refine (HPR.out _ _ (by assumption)).mono ?_; rintro e w6 ⟨rfl, hS6⟩))
      have HS6 : Hid (St w w.heap.size p q N (XM.made N xs (k + 1)) (XM.made N xs (k + 1)) w6) := by
        show St _ _ _ _ _ _ _ _
        rw [HD2.out]
        exact hS6
      clear hS5 hS6 y0 y1 y2 HPR HCI
      go_wp2_with fail
      exact ⟨⟨k + 1, by omega, by omega, by go_num, HS6.out⟩, by simp [intOf]; omega⟩
    · have hkk : k = min L 400 := by omega
      rw [hkk] at hS
      have HS : Hid (St w w.heap.size p q N (XM.made N xs (min L 400)) (XM.made N xs (min L 400)) wr) := hS
      have hkn : ¬ ((k : Int) < (L : Int) ∧ (k : Int) < 400) := by omega
      clear hS hkk
      by_cases hkl : (k : Int) < (L : Int)
      · have h4 : ¬ (k : Int) < 400 := fun h => hkn ⟨hkl, h⟩
        clear hkn
        go_wp2_with fail
        go_ret2
        exact ⟨p, q, rfl, N, HN.out, HS.out⟩
      · clear hkn
        go_wp2_with fail
        go_ret2
        exact ⟨p, q, rfl, N, HN.out, HS.out⟩
end Go.Proofs.Ytmkpcidgiobpeaa
