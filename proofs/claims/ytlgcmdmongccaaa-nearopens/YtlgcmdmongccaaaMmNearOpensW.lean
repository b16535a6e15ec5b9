/-
  The walk of the law NearOpens.
-/
import Derived.Test.YtlgcmdmongccaaaMmPaths
import Derived.Deep.DeepCutAuto
import Derived.BigQuiet
namespace Go.Proofs.Ytlgcmdmongccaaa
open Go.RowKit

namespace NM
/-- An arc closed, and opened again. -/
theorem shut_open {m : GM.M} {k : Nat} {a : Arc} (hk : k < 64) (ha : m k = some a) (hc : a.closed = false) :
    GM.turnCode m k true = 0 ∧ GM.turn m k true = GM.upd m k (some { a with closed := true }) ∧ GM.turnCode (GM.upd m k (some { a with closed := true })) k false = 0 ∧ GM.turn (GM.upd m k (some { a with closed := true })) k false = m := by
  have hp : GM.place (k : Int) = true := decide_eq_true (by omega)
  have h1 : GM.arc m k = a := GM.arc_some ha
  have hi : GM.is m k = true := by unfold GM.is; rw [ha]; rfl
  have c1 : GM.turnCode m k true = 0 := by
    unfold GM.turnCode GM.atCode
    rw [Int.toNat_natCast, hp, hi, h1, hc]
    rfl
  have e2 : GM.arc (GM.upd m k (some { a with closed := true })) k = { a with closed := true } := by rw [GM.arc_upd, if_pos rfl]; rfl
  have i2 : GM.is (GM.upd m k (some { a with closed := true })) k = true := by rw [GM.is_upd, if_pos rfl]; rfl
  have c2 : GM.turnCode (GM.upd m k (some { a with closed := true })) k false = 0 := by
    unfold GM.turnCode GM.atCode
    rw [Int.toNat_natCast, hp, i2, e2]
    rfl
  refine ⟨c1, ?_, c2, ?_⟩
  · unfold GM.turn
    rw [if_pos c1, Int.toNat_natCast, h1]
  · unfold GM.turn
    rw [if_pos c2, Int.toNat_natCast, e2]
    funext j
    unfold GM.upd
    by_cases e : j = k
    · subst e
      rw [if_pos rfl, ha]
      obtain ⟨t, h, x, c⟩ := a
      dsimp only at hc
      subst hc
      rfl
    · rw [if_neg e, if_neg e]
/-- Nothing but an open arc can be closed. -/
theorem shut_no {m : GM.M} {k : Nat} (hk : k < 64) (h : ¬ (GM.is m k = true ∧ (GM.arc m k).closed = false)) : GM.turnCode m k true = 3 ∨ GM.turnCode m k true = 5 := by
  have hp : GM.place (k : Int) = true := decide_eq_true (by omega)
  unfold GM.turnCode GM.atCode
  rw [Int.toNat_natCast, hp]
  cases hi : GM.is m k with
  | false => exact .inl rfl
  | true =>
    cases hc : (GM.arc m k).closed with
    | true => exact .inr rfl
    | false => exact absurd ⟨hi, hc⟩ h
theorem shut_far {m : GM.M} {k : Nat} {a : Arc} (hk : k < 64) (ha : m k = some a) (u b : Int) : dist m u b ≤ dist (GM.upd m k (some { a with closed := true })) u b := Dst.sub (shut_sub m k a ha hk) (dist_dst m u b) (dist_dst _ u b)
theorem arc_far {m : GM.M} {most k : Nat} {a : Arc} (hm : GM.Good most m) (hk : k < 64) (ha : m k = some a) (hc : a.closed = false) : dist m a.tail a.head ≤ a.weight := by
  have h1 : GM.arc m k = a := GM.arc_some ha
  have hi : GM.is m k = true := by unfold GM.is; rw [ha]; rfl
  have hw := of_decide_eq_true (hm.ok k hi)
  rw [h1] at hw
  have ho : opn m a.tail k := (opn_at hk).2 ⟨hi, by rw [h1], by rw [h1, hc]⟩
  have hd1 : hd m k = a.head := by rw [hd_at m hk, h1]
  have hd2 : wt m k = a.weight := by rw [wt_at m hk, h1]
  have := Dst.one (m := m) (u := a.tail) (z := (k : Int)) (by rw [hd1]; exact dist_dst m a.tail a.head) ho
  rw [hd2] at this
  unfold DM.norm at this
  split at this
  · omega
  · split at this <;> omega
end NM
theorem keeps_p {p : Nat} {a b c : World} (h : Keeps (fun x => x = p) a b) (k : Keeps (fun x => x = p) b c) : Keeps (fun x => x = p) a c := h.trans k (fun _ hx => .inl hx)
set_option maxHeartbeats 1000000 in
set_option maxRecDepth 100000 in
theorem opens_walk (n : Int) (v : Value) (xs : List Chg) (f g : Int) (w : World) (hn0 : 0 ≤ n) (hn1 : n ≤ 255) (hch : Chgs w v xs) (hf0 : 0 ≤ f) (hf1 : f ≤ 255) (hg0 : 0 ≤ g) (hg1 : g ≤ 255) :
    Calls Try.prog 6 #[.int .u8 n, v, .int .u8 f, .int .u8 g] w fun e w' => e = .returned (.bool true) ∧ Below w.heap.size w w' := by
  have haw := awake_any w
  have HMD : Hid (∀ W, Below w.heap.size w W → Calls Try.prog 8 #[.int .u8 n, v] W fun e w' => ∃ p q, e = .returned (.tuple #[.pointer (some ⟨p, 0, none⟩), .pointer (some ⟨q, 0, none⟩)]) ∧ ∃ N, (1 ≤ N ∧ N ≤ 24) ∧ Both w' W.heap.size p q N 64 (GM.made N xs (min xs.length 150)) ∧ Below W.heap.size W w') := fun W hW => made_any n v xs W hn0 hn1 (hch.on hW)
  have HIN : Hid (∀ N, WK.Inn N (GM.made N xs (min xs.length 150))) := fun N => WK.Inn.made N xs _
  obtain ⟨c, rfl⟩ : ∃ c : Nat, f = c := ⟨f.toNat, by omega⟩
  obtain ⟨d, rfl⟩ : ∃ d : Nat, g = d := ⟨g.toNat, by omega⟩
  have hc255 : c < 256 := by omega
  have hd255 : d < 256 := by omega
  clear hn0 hn1 hf0 hf1 hg0 hg1
  obtain ⟨ao, cap, rfl, -, -⟩ := hch
  generalize xs.length = L at *
  go_enter Try.func6, Try.ntmps6
  go_wp2_with fail
  refine haw.mono ?_
  rintro e w1 ⟨rfl, hb1⟩
  clear haw
  go_wp2_with fail
  refine (HMD.out w1 hb1).mono ?_
  rintro e w2 ⟨p, q, rfl, N, hN, ho2, hb2⟩
  have B2 : Hid (Below w.heap.size w w2) := below_on hb1 hb2
  have HPL : Hid (w.heap.size ≤ p ∧ p < w2.heap.size) := ⟨Nat.le_trans hb1.size ho2.lp, ho2.g.lt⟩
  have HIN2 : Hid (WK.Inn N (GM.made N xs (min L 150))) := HIN.out N
  generalize GM.made N xs (min L 150) = m at *
  clear HMD hb1 hb2 HIN
  have HO2 : Hid (Both w2 w1.heap.size p q N 64 m) := ho2
  have hok := ho2.ok
  have HOK : Hid (GM.Good 64 m) := hok
  have HC : Hid (∀ W, Keeps (fun b => b = p) w2 W → W.cell? ⟨q, 0, none⟩ = some (.int .i64 (N : Nat))) := fun W hW => by
    have := ho2.r.c0
    exact hW.cell this (fun h => ho2.ne h.symm)
  have cN := ho2.r.c0
  have hrem : (d : Int).tmod (N : Int) = ((d % N : Nat) : Int) := rfl
  have hrem2 : (c : Int).tmod 64 = ((c % 64 : Nat) : Int) := rfl
  have hne : ¬ (N : Int) = 0 := by omega
  have hs : d % N < N := Nat.mod_lt _ (by omega)
  have hk : c % 64 < 64 := Nat.mod_lt _ (by omega)
  have hrem3 : (d : Int) % (N : Int) = ((d % N : Nat) : Int) := rfl
  have hrem4 : (c : Int) % 64 = ((c % 64 : Nat) : Int) := rfl
  clear ho2 hok
  generalize d % N = u at *
  generalize c % 64 = k at *
  go_upto_region 6 with fail
  go_quiet (fail)
  have HK : Hid (k < 64) := hk
  have hrar := rarc_any (HO2.out.r.on (below_drewN (Below.refl _ _) nq : Below w2.heap.size w2 (w2.drewN nq))) (k : Int)
  rw [NM.look_at m hk] at hrar
  have HB3 : Hid (Below w2.heap.size w2 (w2.drewN nq)) := below_drewN (Below.refl _ _) nq
  generalize w2.drewN nq = w3 at *
  have HVT : Hid (GM.is m k = true → ∃ t e : Nat, (GM.arc m k).tail = t ∧ (GM.arc m k).head = e ∧ t < N ∧ e < N) := fun hi' => by
    obtain ⟨v1, v2⟩ := HIN2.out.at hi'
    have v1 := of_decide_eq_true v1
    have v2 := of_decide_eq_true v2
    exact ⟨(GM.arc m k).tail.toNat, (GM.arc m k).head.toNat, by omega, by omega, by omega, by omega⟩
  have HSO : Hid (∀ a, m k = some a → a.closed = false → (GM.turnCode m k true = 0 ∧ GM.turn m k true = GM.upd m k (some { a with closed := true }) ∧ GM.turnCode (GM.upd m k (some { a with closed := true })) k false = 0 ∧ GM.turn (GM.upd m k (some { a with closed := true })) k false = m) ∧ (∀ x y : Int, NM.dist m x y ≤ NM.dist (GM.upd m k (some { a with closed := true })) x y) ∧ NM.dist m a.tail a.head ≤ a.weight) := fun a ha hc => ⟨NM.shut_open hk ha hc, NM.shut_far hk ha, NM.arc_far HOK.out hk ha hc⟩
  have HNO : Hid (¬ (GM.is m k = true ∧ (GM.arc m k).closed = false) → GM.turnCode m k true = 3 ∨ GM.turnCode m k true = 5) := NM.shut_no hk
  have HIS : Hid (GM.is m k = true → m k = some (GM.arc m k)) := fun h => by
    unfold GM.is at h
    unfold GM.arc
    cases e : m k with
    | none => rw [e] at h; cases h
    | some a => rfl
  have HF : Hid (∀ m', GM.Good 64 m' → WK.Inn N m' → ∀ W, GMem W p N 64 m' → ∀ a : Nat, a < N → Calls Try.prog 9 #[.pointer (some ⟨p, 0, none⟩), .int .i64 a] W fun e w' => ∃ fb, e = .returned (.tuple #[.slice (some ⟨fb, 0, none⟩) N N, .int .i64 0]) ∧ Own .i64 3 w' W.heap.size (.slice (some ⟨fb, 0, none⟩) N N) (NM.rowFrom m' N a) ∧ Below W.heap.size W w') := fun m' h1 h2 W hW a ha => from_any hW h1 hN.2 h2 a ha
  clear hrem hrem2 hrem3 hrem4 hne cN
  generalize hA : GM.arc m k = a at *
  generalize hI : GM.is m k = b at *
  obtain ⟨t', h', x, cl⟩ := a
  unfold arcV at hrar
  dsimp only at hrar
  go_wp2_with fail
  refine hrar.mono ?_
  rintro e w4 ⟨rfl, hb4⟩
  obtain ⟨a0, a1, a2, a3⟩ := arcIn_block (rfl : (w4.alloc (.cells #[.int .i64 t', .int .i64 h', .int .i64 x, .bool cl] 45)).heap[w4.heap.size]? = _)
  simp only [Nat.zero_add] at a1 a2 a3
  dsimp only at a0 a1 a2 a3
  have hb5 : Below w2.heap.size w2 (w4.alloc (.cells #[.int .i64 t', .int .i64 h', .int .i64 x, .bool cl] 45)) := (below_on HB3.out hb4).alloc (below_on HB3.out hb4).size _
  have HAB : Hid (p ≠ w4.heap.size) := by have := (below_on HB3.out hb4).size; have := HPL.out.2; show _ ≠ _; omega
  clear hrar hb4
  go_upto_region 8 with fail
  generalize w4.alloc (.cells #[.int .i64 t', .int .i64 h', .int .i64 x, .bool cl] 45) = w5 at *
  generalize w4.heap.size = aB at *
  have HARC : Hid (∀ W, Keeps (fun b => b = p) w5 W → W.cell? ⟨aB, 0, none⟩ = some (.int .i64 t') ∧ W.cell? ⟨aB, 1, none⟩ = some (.int .i64 h') ∧ W.cell? ⟨aB, 2, none⟩ = some (.int .i64 x) ∧ W.cell? ⟨aB, 3, none⟩ = some (.bool cl)) := fun W hW => ⟨hW.cell a0 (fun h => HAB.out h.symm), hW.cell a1 (fun h => HAB.out h.symm), hW.cell a2 (fun h => HAB.out h.symm), hW.cell a3 (fun h => HAB.out h.symm)⟩
  have HB5 : Hid (Below w2.heap.size w2 w5) := hb5
  have hf5 := HF.out m HOK.out HIN2.out w5 (HO2.out.g.on hb5) u hs
  clear a0 a1 a2 a3 hb5 HB3
  go_wp2_with fail
  refine hf5.mono ?_
  rintro e w6 ⟨f1, rfl, o6, b6⟩
  have HB6 : Hid (Below w2.heap.size w2 w6) := below_on HB5.out b6
  have HK6 : Hid (Keeps (fun b => b = p) w5 w6) := Below.keeps b6 _
  have HF1 : Hid (f1 ≠ p) := by
    have := HPL.out.2
    have := HB5.out.size
    have := (World.ownsRow.lt o6 f1 rfl).1
    show _ ≠ _
    omega
  have HR1 : Hid (∀ W, Keeps (fun b => b = p) w6 W → Own .i64 3 W w5.heap.size (.slice (some ⟨f1, 0, none⟩) N N) (NM.rowFrom m N u)) := fun W hW => hW.row o6 (fun g hg h => by cases hg; exact HF1.out h)
  obtain ⟨c0, c1, c2, c3⟩ := HARC.out w6 HK6.out
  clear hf5 o6 b6
  by_cases hop : b = true ∧ cl = false
  case neg =>
    have hcl := close_any (HO2.out.g.on HB6.out) HOK.out (k : Int)
    have hcode := HNO.out hop
    have HPP : Hid (∀ W, Keeps (fun b => b = p) w6 W → Below w.heap.size w W) := fun W hW => B2.out.trans ((HB6.out.mono B2.out.size).trans (hW.below (fun y hy => by rw [hy]; exact HPL.out.1) (Nat.le_trans B2.out.size HB6.out.size)))
    clear HF HR1 HARC HNO HSO HVT HIS HC
    generalize GM.turnCode m k true = cd at *
    generalize GM.turn m k true = m2 at *
    rcases Bool.eq_false_or_eq_true b with rfl | rfl
    · rcases Bool.eq_false_or_eq_true cl with rfl | rfl
      · rcases hcode with rfl | rfl
        all_goals
          go_wp2_with fail
          refine hcl.mono ?_
          rintro e w7 ⟨rfl, -, k7⟩
          have BZ : Hid (Below w.heap.size w w7) := HPP.out w7 k7
          clear hcl k7
          go_wp2_with fail
          go_ret
          exact ⟨rfl, BZ.out⟩
      · exact absurd ⟨rfl, rfl⟩ hop
    · rcases hcode with rfl | rfl
      all_goals
        go_wp2_with fail
        refine hcl.mono ?_
        rintro e w7 ⟨rfl, -, k7⟩
        have BZ : Hid (Below w.heap.size w w7) := HPP.out w7 k7
        clear hcl k7
        go_wp2_with fail
        go_ret
        exact ⟨rfl, BZ.out⟩
  obtain ⟨rfl, rfl⟩ := hop
  obtain ⟨t, h, ht, hh, htN, hhN⟩ := HVT.out rfl
  try dsimp only at ht hh
  subst ht hh
  obtain ⟨⟨q1, q2, q3, q4⟩, HFAR, hone⟩ := HSO.out _ (HIS.out rfl) rfl
  try dsimp only at hone
  have HIN3 : Hid (WK.Inn N (GM.turn m k true)) := HIN2.out.turn _ _
  have HOK3 : Hid (GM.Good 64 (GM.turn m k true)) := GM.good_turn HOK.out _ _
  rw [← q2] at q3 q4 HFAR
  have HQ : Hid (GM.turnCode m k true = 0 ∧ GM.turnCode (GM.turn m k true) k false = 0 ∧ GM.turn (GM.turn m k true) k false = m) := ⟨q1, q3, q4⟩
  have HFA : Hid (∀ x y : Int, NM.dist m x y ≤ NM.dist (GM.turn m k true) x y) := HFAR
  clear q1 q2 q3 q4 HFAR HSO HIS HVT HNO hA hI
  have hf6 := HF.out m HOK.out HIN2.out w6 (HO2.out.g.on HB6.out) t htN
  go_wp2_with fail
  refine hf6.mono ?_
  rintro e w7 ⟨f2, rfl, o7, b7⟩
  have HB7 : Hid (Below w2.heap.size w2 w7) := below_on HB6.out b7
  have HK7 : Hid (Keeps (fun b => b = p) w6 w7) := Below.keeps b7 _
  have HF2 : Hid (f2 ≠ p) := by
    have := HPL.out.2
    have := HB6.out.size
    have := (World.ownsRow.lt o7 f2 rfl).1
    show _ ≠ _
    omega
  have c2h := (o7.cell (NM.rowFrom_len m N t).symm h hhN).1
  rw [NM.rowFrom_at m t hhN] at c2h
  have HC2 : Hid (∀ W, Keeps (fun b => b = p) w7 W → W.cell? ⟨f2, h, none⟩ = some (.int .i64 (NM.dist m t h))) := fun W hW => hW.cell c2h (fun h => HF2.out h)
  have hcl := close_any ((HO2.out.g.on HB7.out).drew) HOK.out (k : Int)
  rw [HQ.out.1] at hcl
  have HCL : Hid (Calls Try.prog 24 #[.pointer (some ⟨p, 0, none⟩), .int .i64 k] w7.drew fun e w' => e = .returned (.int .i64 0) ∧ GMem w' p N 64 (GM.turn m k true) ∧ Keeps (fun b => b = p) w7.drew w') := hcl
  have hS7 : (w7.drew.cell? ⟨q, 0, none⟩ = some (.int .i64 (N : Nat)) ∧ w7.drew.cell? ⟨f2, h, none⟩ = some (.int .i64 (NM.dist m t h))) ∧ w7.drew.cell? ⟨aB, 0, none⟩ = some (.int .i64 t) ∧ w7.drew.cell? ⟨aB, 1, none⟩ = some (.int .i64 h) ∧ w7.drew.cell? ⟨aB, 2, none⟩ = some (.int .i64 x) ∧ w7.drew.cell? ⟨aB, 3, none⟩ = some (.bool false) := ⟨⟨HC.out w7 (Below.keeps HB7.out _), c2h⟩, HARC.out w7 (keeps_p HK6.out HK7.out)⟩
  have HS8 : Hid (∀ W, Keeps (fun b => b = p) w7.drew W → (W.cell? ⟨q, 0, none⟩ = some (.int .i64 (N : Nat)) ∧ W.cell? ⟨f2, h, none⟩ = some (.int .i64 (NM.dist m t h))) ∧ W.cell? ⟨aB, 0, none⟩ = some (.int .i64 t) ∧ W.cell? ⟨aB, 1, none⟩ = some (.int .i64 h) ∧ W.cell? ⟨aB, 2, none⟩ = some (.int .i64 x) ∧ W.cell? ⟨aB, 3, none⟩ = some (.bool false)) := fun W hW => by
    have hk7 : Keeps (fun b => b = p) w7 W := keeps_p (Keeps.refl _ w7).drew hW
    exact ⟨⟨HC.out W (keeps_p (Below.keeps HB7.out _) hk7), HC2.out W hk7⟩, HARC.out W (keeps_p (keeps_p HK6.out HK7.out) hk7)⟩
  have HR7 : Hid (∀ W, Keeps (fun b => b = p) w7 W → Own .i64 3 W w5.heap.size (.slice (some ⟨f1, 0, none⟩) N N) (NM.rowFrom m N u)) := fun W hW => HR1.out W (keeps_p HK7.out hW)
  obtain ⟨⟨d0, d1⟩, d2, d3, d4, d5⟩ := hS7
  have hnlt : ¬ x < NM.dist m t h := by omega
  have h1N : (h : Int) < (N : Int) := by omega
  generalize NM.dist m t h = dth at *
  clear hf6 o7 b7 c2h hcl c0 c1 c2 c3 hone HC2 HR1 HK6
  go_upto_region 12 with fail
  go_region_held3 (fun W => (W.cell? ⟨q, 0, none⟩ = some (.int .i64 (N : Nat)) ∧ W.cell? ⟨f2, h, none⟩ = some (.int .i64 dth)) ∧ W.cell? ⟨aB, 0, none⟩ = some (.int .i64 t) ∧ W.cell? ⟨aB, 1, none⟩ = some (.int .i64 h) ∧ W.cell? ⟨aB, 2, none⟩ = some (.int .i64 x) ∧ W.cell? ⟨aB, 3, none⟩ = some (.bool false)) (go_keep) (first
    | (go_at_call 24; refine HCL.out.mono ?_; rintro e w8 ⟨rfl, g8, k8⟩; have HG8 : Hid (GMem w8 p N 64 (GM.turn m k true)) := g8; have HK8 : Hid (Keeps (fun b => b = p) w7 w8) := keeps_p (Keeps.refl _ w7).drew k8; obtain ⟨⟨e0, e1⟩, e2, e3, e4, e5⟩ := HS8.out w8 k8; clear g8 k8))
  have hf8 := HF.out (GM.turn m k true) HOK3.out HIN3.out w8 HG8.out u hs
  clear d0 d1 d2 d3 d4 d5 e0 e1 e2 e3 e4 e5 HS8 HCL
  go_wp2_with fail
  refine hf8.mono ?_
  rintro e w9 ⟨f3, rfl, o9, b9⟩
  have HK9 : Hid (Keeps (fun b => b = p) w7 w9) := keeps_p HK8.out (Below.keeps b9 _)
  have HK29 : Hid (Keeps (fun b => b = p) w2 w9) := keeps_p (Below.keeps HB7.out _) HK9.out
  have HG9 : Hid (GMem w9 p N 64 (GM.turn m k true)) := HG8.out.on b9
  have c9 := HC.out w9 HK29.out
  have HSH : Hid (∀ W, Below w9.heap.size w9 W → ∀ b : Nat, b < N → W.cell? ⟨f3, b, none⟩ = some (.int .i64 (NM.dist (GM.turn m k true) u b))) := fun W hW b hb => by
    have := ((o9.below hW).cell (NM.rowFrom_len _ N u).symm b hb).1
    rwa [NM.rowFrom_at _ u hb] at this
  have HBF : Hid (∀ W, Below w9.heap.size w9 W → ∀ b : Nat, b < N → W.cell? ⟨f1, b, none⟩ = some (.int .i64 (NM.dist m u b))) := fun W hW b hb => by
    have := ((HR7.out W (keeps_p HK9.out (Below.keeps hW _))).cell (NM.rowFrom_len _ N u).symm b hb).1
    rwa [NM.rowFrom_at _ u hb] at this
  clear hf8 o9 b9 HG8 HK8
  go_wp2_with fail
  go_loopw [21] (fun iv wr => ∃ j : Nat, j ≤ N ∧ iv = .int .i64 j ∧ Below w9.heap.size w9 wr) (fun iv _ => N - (intOf iv).toNat)
  case atStart => exact ⟨0, Nat.zero_le _, rfl, Below.refl _ _⟩
  case round =>
    obtain ⟨j, hj, rfl, hbr⟩ := hrel
    have HBR : Hid (Below w9.heap.size w9 wr) := hbr
    have cr := HC.out wr (keeps_p HK29.out (Below.keeps hbr _))
    clear c9 hbr
    by_cases hlt : j < N
    · have j1 : (j : Int) < (N : Int) := by omega
      have a1 := HSH.out wr HBR.out j hlt
      have a2 := HBF.out wr HBR.out j hlt
      have hle := HFA.out u j
      generalize NM.dist (GM.turn m k true) u j = y at *
      generalize NM.dist m u j = z at *
      have hnl : ¬ y < z := by omega
      go_upto_region 20 with fail
      go_quiet (fail)
      have HBQ : Hid (Below w9.heap.size w9 (wr.drewN nq)) := below_drewN HBR.out nq
      clear a1 a2 cr
      go_wp2_with fail
      go_roundw
      case rel => exact ⟨j + 1, by omega, by go_num, HBQ.out⟩
      case measure => simp [intOf]; omega
    · have hro := reopen_any (HG9.out.on HBR.out) HOK3.out (k : Int)
      rw [HQ.out.2.1, HQ.out.2.2] at hro
      have HKR : Hid (Keeps (fun b => b = p) w7 wr) := keeps_p HK9.out (Below.keeps HBR.out _)
      clear HSH HBF HFA
      go_wp2_with fail
      refine hro.mono ?_
      rintro e w10 ⟨rfl, g10, k10⟩
      have HKT : Hid (Keeps (fun b => b = p) w7 w10) := keeps_p HKR.out k10
      have hf10 := HF.out m HOK.out HIN2.out w10 g10 u hs
      clear hro g10 k10 cr
      go_wp2_with fail
      refine hf10.mono ?_
      rintro e w11 ⟨f4, rfl, o11, b11⟩
      have HKU : Hid (Keeps (fun b => b = p) w7 w11) := keeps_p HKT.out (Below.keeps b11 _)
      have i11 := ints_any _ _ _ _ w11 o11.row (HR7.out w11 HKU.out).row
      rw [decide_eq_true rfl] at i11
      clear hf10 o11 b11
      go_wp2_with fail
      refine i11.mono ?_
      rintro e w12 ⟨rfl, b12⟩
      have BZ : Hid (Below w.heap.size w w12) := B2.out.trans ((keeps_p (Below.keeps HB7.out _) (keeps_p HKU.out (Below.keeps b12 _)) : Keeps (fun b => b = p) w2 w12).below (fun y hy => by rw [hy]; exact HPL.out.1) B2.out.size)
      clear i11 b12
      go_wp2_with fail
      go_ret
      exact ⟨rfl, BZ.out⟩
end Go.Proofs.Ytlgcmdmongccaaa
