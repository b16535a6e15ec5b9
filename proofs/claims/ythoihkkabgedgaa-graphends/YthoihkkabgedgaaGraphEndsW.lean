/-
  The walk of the law GraphEnds.
-/
import Derived.Test.YthoihkkabgedgaaGraphMade
import Derived.Test.YthoihkkabgedgaaGraphRef4
import Derived.Test.YthoihkkabgedgaaGraphGoO
import Derived.Test.YthoihkkabgedgaaGraphGoI
namespace Go.Proofs.Ythoihkkabgedgaa
open Go.RowKit

set_option maxHeartbeats 4000000 in
set_option maxRecDepth 100000 in
theorem ends_walk (n : Int) (v : Value) (xs : List Chg) (u h mo : Int) (w : World) (hn0 : 0 ≤ n) (hn1 : n ≤ 255) (hch : Chgs w v xs) (hm0 : 0 ≤ mo) (hm1 : mo ≤ 255) :
    Calls Try.prog 4 #[.int .u8 n, v, .int .i64 u, .int .i64 h, .int .u8 mo] w fun e w' => e = .returned (.bool true) ∧ Below w.heap.size w w' := by
  have haw := awake_any w
  have HMD : Hid (∀ W, Below w.heap.size w W → Calls Try.prog 15 #[.int .u8 n, v] W fun e w' => ∃ p q, e = .returned (.tuple #[.pointer (some ⟨p, 0, none⟩), .pointer (some ⟨q, 0, none⟩)]) ∧ ∃ N, (1 ≤ N ∧ N ≤ 24) ∧ Both w' W.heap.size p q N 64 (GM.made N xs (min xs.length 150)) ∧ Below W.heap.size W w') := fun W hW => made_any n v xs W hn0 hn1 (hch.on hW)
  clear hn0 hn1
  obtain ⟨ao, cap, rfl, -, -⟩ := hch
  generalize xs.length = L at *
  go_enter Try.func4, Try.ntmps4
  go_wp2_with fail
  refine haw.mono ?_
  rintro e w1 ⟨rfl, hb1⟩
  clear haw
  go_wp2_with fail
  refine (HMD.out w1 hb1).mono ?_
  rintro e w2 ⟨p, q, rfl, N, -, ho2, hb2⟩
  have hb2' := below_on hb1 hb2
  generalize GM.made N xs (min L 150) = m at *
  have HO : Hid (∀ W, Below w2.heap.size w2 W → Both W w1.heap.size p q N 64 m) := fun W hW => ho2.on hW
  have hbe := best_any ho2.g ho2.ok u h
  have HRB : Hid (∀ W, Below w2.heap.size w2 W → Calls Try.prog 17 #[.pointer (some ⟨q, 0, none⟩), .int .i64 u, .int .i64 h] W fun e w' => e = .returned (.tuple #[.int .i64 (GM.best m u h 64).1, .int .i64 (GM.best m u h 64).2]) ∧ Below W.heap.size W w') := fun W hW => rbest_any (HO.out W hW).r u h
  generalize GM.best m u h 64 = B at *
  obtain ⟨bw, bi⟩ := B
  dsimp only at hbe HRB
  clear ho2 hb1 hb2 HMD
  go_wp2_with fail
  refine hbe.mono ?_
  rintro e w3 ⟨rfl, hb3⟩
  have hrb := HRB.out w3 hb3
  clear hbe HRB
  go_wp2_with fail
  refine hrb.mono ?_
  rintro e w4 ⟨rfl, hb4'⟩
  have hb4 := below_on hb3 hb4'
  have he4 := rends_any (HO.out w4 hb4).r u false
  clear hrb hb3 hb4'
  go_wp2_with fail
  refine he4.mono ?_
  rintro e w5 ⟨r5, rfl, ho5, hb5'⟩
  have hb5 := below_on hb4 hb5'
  have hg5 := goO_any (HO.out w5 hb5).g (HO.out w5 hb5).ok u mo r5 ho5.row
  obtain ⟨a5, c5, rfl, -⟩ := ho5.at
  clear he4 hb4 hb5' ho5
  rw [List.length_map] at *
  go_wp2_with fail
  refine hg5.mono ?_
  rintro e w6 ⟨rfl, hb6'⟩
  have hb6 := below_on hb5 hb6'
  have he6 := rends_any (HO.out w6 hb6).r u true
  clear hg5 hb5 hb6'
  go_wp2_with fail
  refine he6.mono ?_
  rintro e w7 ⟨r7, rfl, ho7, hb7'⟩
  have hb7 := below_on hb6 hb7'
  have hg7 := goI_any (HO.out w7 hb7).g (HO.out w7 hb7).ok u mo r7 ho7.row
  obtain ⟨a7, c7, rfl, -⟩ := ho7.at
  clear he6 hb6 hb7' ho7
  rw [List.length_map] at *
  go_wp2_with fail
  refine hg7.mono ?_
  rintro e w8 ⟨rfl, hb8'⟩
  have hb8 := below_on hb7 hb8'
  clear hg7 hb7 hb8'
  go_wp2_with fail
  go_ret
  exact ⟨rfl, below_on hb2' hb8⟩
end Go.Proofs.Ythoihkkabgedgaa
