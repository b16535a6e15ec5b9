/-
  The walk of the law NearPaths.
-/
import Derived.Test.YtlgcmdmongccaaaMmPaths
import Derived.Test.YtlgcmdmongccaaaMmRefN
import Derived.Test.YtlgcmdmongccaaaMmWRefs
namespace Go.Proofs.Ytlgcmdmongccaaa
open Go.RowKit

namespace NM
theorem ends_gone : ∀ {xs : List (Arc × Int)} {u b : Int}, WK.ends u xs = some b → WK.gone xs = false
  | [], _, _, _ => rfl
  | x :: xs, u, b, h => by
    rw [WK.ends] at h
    split at h
    · rename_i h0
      have h1 := ends_gone h
      have h2 := (WK.codeAt_zero.1 h0).1
      unfold WK.gone at h1 ⊢
      rw [List.any_cons, h1, h2]
      rfl
    · cases h
/-- What is told of the path. -/
theorem path_facts {m : GM.M} {N most s t : Nat} (hm : GM.Good most m) (hN : N ≤ 24) (hin : WK.Inn N m) (hs : s < N) (ht : t < N) (hF : dist m s t ≤ 4611686018427387904) :
    WK.ccode N s t (WK.list m (path m s t)) = 0 ∧ WK.wsum (WK.list m (path m s t)) = dist m s t ∧ WK.simple N s (WK.list m (path m s t)) = true ∧ (path m s t).length ≤ 1000 := by
  have hM := mapD hm hN hin hs
  have hv : GM.vert N (t : Int) = true := decide_eq_true (by omega)
  have hu : GM.vert N (s : Int) = true := decide_eq_true (by omega)
  obtain ⟨h1, h2, h3, h4⟩ := hM.path hv hF
  obtain ⟨e1, e2⟩ := WK.ends_last h1
  have h0 : WK.vcode N s (WK.list m (path m s t)) = 0 := by unfold WK.vcode; rw [hu, if_pos rfl]; exact e2
  refine ⟨?_, ?_, decide_eq_true ⟨h0, h3⟩, Nat.le_trans h4 (by decide)⟩
  · unfold WK.ccode
    rw [hv, if_pos rfl, if_pos h0]
    exact if_pos e1
  · exact (WK.wsum_all (ends_gone h1)).trans h2
end NM
set_option maxHeartbeats 4000000 in
set_option maxRecDepth 100000 in
theorem paths_walk (n : Int) (v : Value) (xs : List Chg) (s t : Int) (w : World) (hn0 : 0 ≤ n) (hn1 : n ≤ 255) (hch : Chgs w v xs) :
    Calls Try.prog 4 #[.int .u8 n, v, .int .i64 s, .int .i64 t] w fun e w' => e = .returned (.bool true) ∧ Below w.heap.size w w' := by
  have haw := awake_any w
  have HMD : Hid (∀ W, Below w.heap.size w W → Calls Try.prog 8 #[.int .u8 n, v] W fun e w' => ∃ p q, e = .returned (.tuple #[.pointer (some ⟨p, 0, none⟩), .pointer (some ⟨q, 0, none⟩)]) ∧ ∃ N, (1 ≤ N ∧ N ≤ 24) ∧ Both w' W.heap.size p q N 64 (GM.made N xs (min xs.length 150)) ∧ Below W.heap.size W w') := fun W hW => made_any n v xs W hn0 hn1 (hch.on hW)
  have HIN : Hid (∀ N, WK.Inn N (GM.made N xs (min xs.length 150))) := fun N => WK.Inn.made N xs _
  clear hn0 hn1
  obtain ⟨ao, cap, rfl, -, -⟩ := hch
  generalize xs.length = L at *
  go_enter Try.func4, Try.ntmps4
  go_wp2_with fail
  refine haw.mono ?_
  rintro e w1 ⟨rfl, hb1⟩
  clear haw
  go_wp2_with fail
  refine (HMD.out w1 hb1).mono ?_
  rintro e w2 ⟨p, q, rfl, N, hN, ho2, hb2⟩
  have hb2' := below_on hb1 hb2
  have HIN2 : Hid (WK.Inn N (GM.made N xs (min L 150))) := HIN.out N
  generalize GM.made N xs (min L 150) = m at *
  clear HMD hb1 hb2 HIN
  have hok := ho2.ok
  have HV : Hid (∀ W, Below w2.heap.size w2 W → ∀ u : Int, Calls Try.prog 12 #[.pointer (some ⟨q, 0, none⟩), .int .i64 u] W fun e w' => e = .returned (.bool (GM.vert N u)) ∧ w' = W) := fun W hW u => vertex_any (ho2.on hW).r u
  by_cases hs : GM.vert N s = true
  case neg =>
    have hs' : GM.vert N s = false := by simpa using hs
    have h3 := path_noS ho2.g s t hs'
    have h4 := HV.out w2 (Below.refl _ _) s
    rw [hs'] at h4
    clear ho2 hok HIN2 hs hs' HV
    go_wp2_with fail
    refine h3.mono ?_
    rintro e w3 ⟨rfl, rfl⟩
    clear h3
    go_wp2_with fail
    refine h4.mono ?_
    rintro e w4 ⟨rfl, rfl⟩
    clear h4
    go_wp2_with fail
    go_ret
    exact ⟨rfl, hb2'⟩
  have hsb := of_decide_eq_true hs
  obtain ⟨a, rfl⟩ : ∃ a : Nat, s = a := ⟨s.toNat, by omega⟩
  have haN : a < N := by omega
  by_cases ht : GM.vert N t = true
  case neg =>
    have ht' : GM.vert N t = false := by simpa using ht
    have h3 := path_noT ho2.g hok hN.2 HIN2.out a haN t ht'
    have HV1 : Hid (∀ W, Below w2.heap.size w2 W → Calls Try.prog 12 #[.pointer (some ⟨q, 0, none⟩), .int .i64 a] W fun e w' => e = .returned (.bool true) ∧ w' = W) := fun W hW => by
      have := HV.out W hW (a : Int)
      rwa [hs] at this
    have HV2 : Hid (∀ W, Below w2.heap.size w2 W → Calls Try.prog 12 #[.pointer (some ⟨q, 0, none⟩), .int .i64 t] W fun e w' => e = .returned (.bool false) ∧ w' = W) := fun W hW => by
      have := HV.out W hW t
      rwa [ht'] at this
    clear ho2 hok HIN2 hs ht ht' HV hsb haN
    go_wp2_with fail
    refine h3.mono ?_
    rintro e w3 ⟨rfl, b3⟩
    have h4 := HV1.out w3 b3
    have h5 := HV2.out w3 b3
    have B3 : Hid (Below w.heap.size w w3) := below_on hb2' b3
    clear h3 b3 hb2' HV1 HV2
    go_wp2_with fail
    refine h4.mono ?_
    rintro e w4 ⟨rfl, rfl⟩
    clear h4
    go_wp2_with fail
    refine h5.mono ?_
    rintro e w5 ⟨rfl, rfl⟩
    clear h5
    go_wp2_with fail
    go_ret
    exact ⟨rfl, B3.out⟩
  have htb := of_decide_eq_true ht
  obtain ⟨b, rfl⟩ : ∃ b : Nat, t = b := ⟨t.toNat, by omega⟩
  have hbN : b < N := by omega
  have hb1 : (b : Int) < (N : Int) := by omega
  have HV1 : Hid (∀ W, Below w2.heap.size w2 W → Calls Try.prog 12 #[.pointer (some ⟨q, 0, none⟩), .int .i64 a] W fun e w' => e = .returned (.bool true) ∧ w' = W) := fun W hW => by
    have := HV.out W hW (a : Int)
    rwa [hs] at this
  have HV2 : Hid (∀ W, Below w2.heap.size w2 W → Calls Try.prog 12 #[.pointer (some ⟨q, 0, none⟩), .int .i64 b] W fun e w' => e = .returned (.bool true) ∧ w' = W) := fun W hW => by
    have := HV.out W hW (b : Int)
    rwa [ht] at this
  have HP : Hid (∀ W, Below w2.heap.size w2 W → Calls Try.prog 17 #[.pointer (some ⟨p, 0, none⟩), .int .i64 a, .int .i64 b] W fun e w' => ∃ r d c, e = .returned (.tuple #[r, .int .i64 d, .int .i64 c]) ∧ Below W.heap.size W w' ∧
      ((NM.dist m a b = 4611686018427387906 ∧ r = .slice none 0 0 ∧ d = 0 ∧ c = 3) ∨ (NM.dist m a b = 4611686018427387905 ∧ r = .slice none 0 0 ∧ d = 0 ∧ c = 9) ∨
        (NM.dist m a b ≤ 4611686018427387904 ∧ Own .i64 3 w' W.heap.size r (NM.path m a b) ∧ d = NM.dist m a b ∧ c = 0))) := fun W hW => path_any (ho2.on hW).g hok hN.2 HIN2.out a b haN hbN
  have HRF : Hid (∀ W, Below w2.heap.size w2 W → Calls Try.prog 14 #[.pointer (some ⟨q, 0, none⟩), .int .i64 a] W fun e w' => ∃ ga go gc, e = .returned (.slice (some ⟨ga, go, none⟩) N gc) ∧ N ≤ gc ∧ w'.cell? ⟨ga, go + b, none⟩ = some (.int .i64 (NM.dist m a b)) ∧ Below W.heap.size W w') := fun W hW => by
    refine (rfrom_any (ho2.on hW).r hok hN.2 HIN2.out a haN).mono ?_
    rintro e w' ⟨r, rfl, ho, hb⟩
    obtain ⟨ga, gc, rfl, hat⟩ := ho.at
    rw [NM.rowFrom_len]
    obtain ⟨g1, g2, rfl, hc⟩ := hat.2.2.2 (by rw [NM.rowFrom_len]; omega)
    have := hc b (by rw [NM.rowFrom_len]; exact hbN)
    rw [NM.rowFrom_at m a hbN] at this
    have hcap := hat.1
    rw [NM.rowFrom_len] at hcap
    exact ⟨_, _, _, rfl, hcap, this, hb⟩
  have HRR : Hid (∀ W, Below w2.heap.size w2 W → RMem W q N 64 m) := fun W hW => (ho2.on hW).r
  have HRP : Hid (NM.dist m a b ≤ 4611686018427387904 → ∀ W, Below w2.heap.size w2 W → Calls Try.prog 18 #[.pointer (some ⟨q, 0, none⟩), .int .i64 a, .int .i64 b] W fun e w' => ∃ r, e = .returned r ∧ Own .i64 3 w' W.heap.size r (NM.path m a b) ∧ Below W.heap.size W w') := fun hF W hW => rpath_any (ho2.on hW).r hok hN.2 HIN2.out a b haN hbN hF
  have HPF : Hid (NM.dist m a b ≤ 4611686018427387904 → WK.ccode N a b (WK.list m (NM.path m a b)) = 0 ∧ WK.wsum (WK.list m (NM.path m a b)) = NM.dist m a b ∧ WK.simple N a (WK.list m (NM.path m a b)) = true ∧ (NM.path m a b).length ≤ 1000) := fun hF => NM.path_facts hok hN.2 HIN2.out haN hbN hF
  clear ho2 hok HIN2 hs ht hsb htb haN hbN HV
  have h3 := HP.out w2 (Below.refl _ _)
  have B2 : Hid (Below w.heap.size w w2) := hb2'
  clear HP hb2'
  go_wp2_with fail
  refine h3.mono ?_
  rintro e w3 ⟨r, d, c, rfl, b3, hcase⟩
  have B3 : Hid (Below w2.heap.size w2 w3) := b3
  have HCASE : Hid ((NM.dist m a b = 4611686018427387906 ∧ r = .slice none 0 0 ∧ d = 0 ∧ c = 3) ∨ (NM.dist m a b = 4611686018427387905 ∧ r = .slice none 0 0 ∧ d = 0 ∧ c = 9) ∨
        (NM.dist m a b ≤ 4611686018427387904 ∧ Own .i64 3 w3 w2.heap.size r (NM.path m a b) ∧ d = NM.dist m a b ∧ c = 0)) := hcase
  have h4 := HV1.out w3 b3
  have h5 := HV2.out w3 b3
  have h6 := HRF.out w3 b3
  clear h3 b3 hcase HV1 HV2 HRF
  go_wp2_with fail
  refine h4.mono ?_
  rintro e w4 ⟨rfl, rfl⟩
  clear h4
  go_wp2_with fail
  refine h5.mono ?_
  rintro e w5 ⟨rfl, rfl⟩
  clear h5
  go_wp2_with fail
  refine h6.mono ?_
  rintro e w6 ⟨ga, go, gc, rfl, hgc, cg, b6⟩
  have B6 : Hid (Below w5.heap.size w5 w6) := b6
  clear h6 b6
  rcases HCASE.out with ⟨hd, rfl, rfl, rfl⟩ | ⟨hd, rfl, rfl, rfl⟩ | ⟨hd, hown, rfl, rfl⟩
  · rw [hd] at cg
    have BZ : Hid (Below w.heap.size w w6) := below_on B2.out (below_on B3.out B6.out)
    clear HCASE HPF HRP HRR hd B2 B3 B6
    go_wp2_with fail
    go_ret
    exact ⟨rfl, BZ.out⟩
  · rw [hd] at cg
    have BZ : Hid (Below w.heap.size w w6) := below_on B2.out (below_on B3.out B6.out)
    clear HCASE HPF HRP HRR hd B2 B3 B6
    go_wp2_with fail
    go_ret
    exact ⟨rfl, BZ.out⟩
  · obtain ⟨f1, f2, f3, f4⟩ := HPF.out hd
    have hp6 := HRP.out hd w6 (below_on B3.out B6.out)
    have HO : Hid (∀ W, Below w5.heap.size w5 W → Row .i64 W r (NM.path m a b)) := fun W hW => hown.row.below hW
    obtain ⟨ra, rc, rfl, -⟩ := hown.row
    have n1 : NM.dist m a b ≠ 4611686018427387906 := by omega
    have n2 : NM.dist m a b ≠ 4611686018427387905 := by omega
    clear HCASE HPF HRP hown hd
    generalize NM.dist m a b = d at *
    generalize NM.path m a b = P at *
    go_wp2_with fail
    refine hp6.mono ?_
    rintro e w7 ⟨r7, rfl, o7, b7⟩
    have B7 : Hid (Below w5.heap.size w5 w7) := below_on B6.out b7
    have i7 := ints_any _ r7 P P w7 (HO.out w7 B7.out) o7.row
    rw [decide_eq_true (rfl : P = P)] at i7
    clear hp6 o7 b7 B6
    go_wp2_with fail
    refine i7.mono ?_
    rintro e w8 ⟨rfl, b8⟩
    have B8 : Hid (Below w5.heap.size w5 w8) := below_on B7.out b8
    have k8 := rcheck_any (HRR.out w8 (below_on B3.out B8.out)) (a : Int) (b : Int) (HO.out w8 B8.out) f4
    rw [f1] at k8
    clear i7 b8 B7
    go_wp2_with fail
    refine k8.mono ?_
    rintro e w9 ⟨rfl, b9⟩
    have B9 : Hid (Below w5.heap.size w5 w9) := below_on B8.out b9
    have k9 := rsum_any (HRR.out w9 (below_on B3.out B9.out)) (HO.out w9 B9.out)
    rw [f2] at k9
    clear k8 b9 B8
    go_wp2_with fail
    refine k9.mono ?_
    rintro e w10 ⟨rfl, b10⟩
    have B10 : Hid (Below w5.heap.size w5 w10) := below_on B9.out b10
    have k10 := rsimple_any (HRR.out w10 (below_on B3.out B10.out)) (a : Int) (HO.out w10 B10.out) f4
    rw [f3] at k10
    clear k9 b10 B9
    go_wp2_with fail
    refine k10.mono ?_
    rintro e w11 ⟨rfl, b11⟩
    have BZ : Hid (Below w.heap.size w w11) := below_on B2.out (below_on B3.out (below_on B10.out b11))
    clear k10 b11 B10 B2 B3
    go_wp2_with fail
    go_ret
    exact ⟨rfl, BZ.out⟩
end Go.Proofs.Ytlgcmdmongccaaa
