/-
  The walk of the law HeapLessens.
-/
import Derived.Test.YtmmokmgljacddaaHeapAwake
namespace Go.Proofs.Ytmmokmgljacddaa
open Go.RowKit

/-- The first k numbers of a list, each the priority of the thing at whose place it stands. -/
def mkm (zs : List Int) (k t : Nat) : Option Int := if t < k then some (HM.pat zs t) else none
theorem mkm_zero (zs : List Int) : mkm zs 0 = fun _ => none := by funext t; simp [mkm]
theorem mkm_succ (zs : List Int) (k : Nat) : HM.upd (mkm zs k) k (some (HM.pat zs k)) = mkm zs (k + 1) := by
  funext t
  unfold HM.upd mkm
  by_cases h : t = k
  · subst h; simp
  · rw [if_neg h]
    by_cases h2 : t < k
    · rw [if_pos h2, if_pos (by omega)]
    · rw [if_neg h2, if_neg (by omega)]
theorem mkm_code (zs : List Int) (n k : Nat) (h : k < n) : HM.code HM.TI n (mkm zs k) (k : Int) (HM.pat zs k) = 0 := by
  unfold HM.code
  rw [if_pos (by omega), Int.toNat_natCast]
  simp [mkm]
theorem cnt_full {n : Nat} {m : Nat → Option Int} (h : ∀ t, t < n → (m t).isSome = true) : HM.cnt n m = n := by
  unfold HM.cnt
  rw [List.filter_eq_self.2]
  · simp
  · intro t ht
    exact h t (by simpa using ht)

set_option maxHeartbeats 4000000 in
set_option maxRecDepth 100000 in
theorem lessens_walk (v : Value) (zs : List Int) (a : Int) (w : World) (hrow : Row .i64 w v zs) (ha0 : 0 ≤ a) (ha1 : a ≤ 255) :
    Calls Try.prog 7 #[v, .int .u8 a] w fun e w' => e = .returned (.bool true) ∧ Below w.heap.size w w' := by
  obtain ⟨ao, cap, rfl, hat⟩ := hrow
  obtain ⟨hlc, hcm, _, hcells⟩ := hat
  have hml : zs.length ≤ 9223372036854775807 := by unfold maxLen at hcm; omega
  have HC : Hid (0 < zs.length → ∃ b o, ao = some ⟨b, o, none⟩ ∧ ∀ i, i < zs.length → w.cell? ⟨b, o + i, none⟩ = some (.int .i64 (HM.pat zs i))) := hcells
  clear hcells hcm hlc
  obtain ⟨x, rfl⟩ : ∃ x : Nat, a = x := ⟨a.toNat, by omega⟩
  have haw := awake_any w
  by_cases hlen : zs.length < 1 ∨ 64 < zs.length
  · rcases Nat.lt_or_ge 64 zs.length with h64 | h64
    · have h1 : ¬ (zs.length : Int) < 1 := by omega
      have h2 : (64 : Int) < (zs.length : Int) := by omega
      clear hlen
      go_enter Try.func7, Try.ntmps7
      go_wp2_with fail
      refine haw.mono ?_
      rintro e w1 ⟨rfl, hb1⟩
      go_wp2_with fail
      go_ret
      exact ⟨rfl, hb1⟩
    · have h1 : (zs.length : Int) < 1 := by omega
      clear hlen
      go_enter Try.func7, Try.ntmps7
      go_wp2_with fail
      refine haw.mono ?_
      rintro e w1 ⟨rfl, hb1⟩
      go_wp2_with fail
      go_ret
      exact ⟨rfl, hb1⟩
  · obtain ⟨n, hn⟩ : ∃ n, n = zs.length := ⟨_, rfl⟩
    rw [← hn] at hlen HC hml ⊢
    have h1 : 1 ≤ n := by omega
    have h64 : n ≤ 64 := by omega
    have h1' : ¬ (n : Int) < 1 := by omega
    have h2' : ¬ (64 : Int) < (n : Int) := by omega
    obtain ⟨b, o, rfl, hc⟩ := HC.out (by omega)
    have HCC : Hid (∀ i, i < n → w.cell? ⟨b, o + i, none⟩ = some (.int .i64 (HM.pat zs i))) := hc
    have hbl : b < w.heap.size := cell_lt (hc 0 (by omega))
    clear hc HC hlen hn hml
    go_enter Try.func7, Try.ntmps7
    go_wp2_with fail
    refine haw.mono ?_
    rintro e w1 ⟨rfl, hb1⟩
    have hnew := one_new n h64 w1
    clear haw
    go_wp2_with fail
    refine hnew.mono ?_
    rintro e w2 ⟨p, rfl, ho2, hb2⟩
    have hs1 := hb1.size
    have hb2' : Below w.heap.size w w2 := hb1.trans (hb2.mono hs1)
    clear hnew hb2
    go_wp2_with fail
    go_loopw [7] (fun iv wr => ∃ k : Nat, k ≤ n ∧ iv = .int .i64 k ∧ One wr w1.heap.size p n (mkm zs k) ∧ (∀ t, t < k → -4611686018427387904 ≤ HM.pat zs t) ∧ Below w.heap.size w wr) (fun iv _ => n - (intOf iv).toNat)
    case atStart => exact ⟨0, Nat.zero_le _, rfl, by rw [mkm_zero]; exact ho2, fun t ht => by omega, hb2'⟩
    case round =>
      obtain ⟨k, hk, rfl, ho, hge, hbr⟩ := hrel
      clear ho2 hb2'
      have HO : Hid (One wr w1.heap.size p n (mkm zs k)) := ho
      have HG : Hid (∀ t, t < k → -4611686018427387904 ≤ HM.pat zs t) := hge
      have HB : Hid (Below w.heap.size w wr) := hbr
      clear ho hge hbr
      by_cases hlt : k < n
      · have ck : wr.cell? ⟨b, o + k, none⟩ = some (.int .i64 (HM.pat zs k)) := by rw [HB.out.cell (by exact hbl)]; exact HCC.out k hlt
        have hput := one_put HO.out h64 k (HM.pat zs k)
        rw [mkm_code zs n k hlt, HA.put_ok (mkm_code zs n k hlt), Int.toNat_natCast, mkm_succ] at hput
        have HZ : Hid (∀ t, t < k + 1 → -4611686018427387904 ≤ HM.pat zs t ∨ t = k) := fun t ht => by
          by_cases e : t = k
          · exact .inr e
          · exact .inl (HG.out t (by omega))
        have kn : (k : Int) < (n : Int) := by omega
        obtain ⟨z, hz⟩ : ∃ z, z = HM.pat zs k := ⟨_, rfl⟩
        have HZZ : Hid (z = HM.pat zs k) := hz
        rw [← hz] at ck hput
        clear hz
        by_cases hlow : z < -4611686018427387904
        · clear hput
          go_wp2_with fail
          go_ret
          exact ⟨rfl, HB.out⟩
        · go_wp2_with fail
          refine hput.mono ?_
          rintro e w3 ⟨rfl, ho3, hb3⟩
          have HO3 : Hid (One w3 w1.heap.size p n (mkm zs (k + 1))) := ho3
          have HB3 : Hid (Below w.heap.size w w3) := HB.out.trans (hb3.mono hs1)
          clear ho3 hb3 hput
          go_wp2_with fail
          go_roundw
          case rel =>
            refine ⟨k + 1, by omega, by go_num, HO3.out, fun t ht => ?_, HB3.out⟩
            rcases HZ.out t ht with h' | rfl
            · exact h'
            · rw [← HZZ.out]; omega
          case measure => simp [intOf]; omega
      · obtain rfl : k = n := by omega
        obtain ⟨j, hj⟩ : ∃ j, j = x % k := ⟨_, rfl⟩
        have hjk : j < k := by rw [hj]; exact Nat.mod_lt _ (by omega)
        have hjx : (x : Int) % (k : Int) = (j : Int) := by rw [hj]; omega
        clear hlt hj
        have ck : ∀ w', Below w.heap.size w w' → w'.cell? ⟨b, o + j, none⟩ = some (.int .i64 (HM.pat zs j)) := fun w' hb' => by rw [hb'.cell (by exact hbl)]; exact HCC.out j hjk
        have HCK : Hid (∀ w', Below w.heap.size w w' → w'.cell? ⟨b, o + j, none⟩ = some (.int .i64 (HM.pat zs j))) := ck
        have hpk := one_peek HO.out
        clear ck
        have jk : (j : Int) < (k : Int) := by omega
        have hmj : mkm zs k j = some (HM.pat zs j) := by unfold mkm; rw [if_pos hjk]
        have hk5 : HM.code HM.TI k (mkm zs k) (j : Int) (HM.pat zs j) = 5 := by
          unfold HM.code
          rw [if_pos (by omega), Int.toNat_natCast, hmj]
          simp [HM.TI]
        have hge := HG.out j hjk
        have hk0 : HM.code HM.TI k (mkm zs k) (j : Int) (-4611686018427387905) = 0 := by
          unfold HM.code
          rw [if_pos (by omega), Int.toNat_natCast, hmj]
          have : (-4611686018427387905 : Int) < HM.pat zs j := by omega
          simp [HM.TI, this]
        have hff : HM.firstOf HM.TI (HM.upd (mkm zs k) j (some (-4611686018427387905))) = some (j, -4611686018427387905) := by
          refine HM.firstOf_eq ⟨by simp [HM.upd], fun u r hu hr => ?_⟩
          simp only [HM.TI, decide_eq_true_eq] at hr
          simp only [HM.upd] at hu
          split at hu
          · injection hu with hu
            omega
          · simp only [mkm] at hu
            split at hu
            · rename_i hlt
              injection hu with hu
              have := HG.out u hlt
              omega
            · cases hu
        have hcnt : HM.cnt k (HM.upd (mkm zs k) j (some (-4611686018427387905))) = k := cnt_full (fun t ht => by
          unfold HM.upd mkm
          by_cases e : t = j
          · rw [if_pos e]; rfl
          · rw [if_neg e, if_pos ht]; rfl)
        have hp1 : ∀ w', One w' w1.heap.size p k (mkm zs k) → _ := fun w' h => one_put h h64 (j : Int) (HM.pat zs j)
        have HP1 : Hid (∀ w', One w' w1.heap.size p k (mkm zs k) → Calls Try.prog 11 #[.pointer (some ⟨p, 0, none⟩), .int .i64 j, .int .i64 (HM.pat zs j)] w' fun e w'' => e = .returned (.int .i64 5) ∧ One w'' w1.heap.size p k (mkm zs k) ∧ Below w1.heap.size w' w'') := fun w' h => by
          have := one_put h h64 (j : Int) (HM.pat zs j)
          rw [hk5, HA.put_no (by rw [hk5]; decide)] at this
          exact this
        have HP2 : Hid (∀ w', One w' w1.heap.size p k (mkm zs k) → Calls Try.prog 11 #[.pointer (some ⟨p, 0, none⟩), .int .i64 j, .int .i64 (-4611686018427387905)] w' fun e w'' => e = .returned (.int .i64 0) ∧ One w'' w1.heap.size p k (HM.upd (mkm zs k) j (some (-4611686018427387905))) ∧ Below w1.heap.size w' w'') := fun w' h => by
          have := one_put h h64 (j : Int) (-4611686018427387905)
          rw [hk0, HA.put_ok hk0, Int.toNat_natCast] at this
          exact this
        have HF : Hid (HM.firstOf HM.TI (HM.upd (mkm zs k) j (some (-4611686018427387905))) = some (j, -4611686018427387905)) := hff
        have HN : Hid (HM.cnt k (HM.upd (mkm zs k) j (some (-4611686018427387905))) = k) := hcnt
        clear hmj hk5 hge hk0 hff hcnt hp1
        obtain ⟨z, hz⟩ : ∃ z, z = HM.pat zs j := ⟨_, rfl⟩
        rw [← hz] at HCK HP1
        clear hz
        obtain ⟨f, q, c, hfq⟩ : ∃ f q c, peekT (Value.int .i64) 0 (HM.firstOf HM.TI (mkm zs k)) = .tuple #[.int .i64 f, .int .i64 q, .bool c] := by
          cases HM.firstOf HM.TI (mkm zs k) with
          | none => exact ⟨_, _, _, rfl⟩
          | some x => exact ⟨_, _, _, rfl⟩
        have HPK : Hid (∀ w', One w' w1.heap.size p k (mkm zs k) → Calls Try.prog 15 #[.pointer (some ⟨p, 0, none⟩)] w' fun e w'' => e = .returned (.tuple #[.int .i64 f, .int .i64 q, .bool c]) ∧ One w'' w1.heap.size p k (mkm zs k) ∧ Below w1.heap.size w' w'') := fun w' h => by
          rw [← hfq]; exact one_peek h
        clear hpk hfq
        go_wp2_with fail
        rw [hjx]
        refine (HPK.out wr HO.out).mono ?_
        rintro e w3 ⟨rfl, ho3, hb3⟩
        have HO3 : Hid (One w3 w1.heap.size p k (mkm zs k)) := ho3
        have hbb3 : Below w.heap.size w w3 := HB.out.trans (hb3.mono hs1)
        have HB3 : Hid (Below w.heap.size w w3) := hbb3
        have ck3 := HCK.out w3 hbb3
        clear ho3 hb3 hbb3
        go_wp2_with fail
        refine (HP1.out w3 HO3.out).mono ?_
        rintro e w4 ⟨rfl, ho4, hb4⟩
        have HO4 : Hid (One w4 w1.heap.size p k (mkm zs k)) := ho4
        have HB4 : Hid (Below w.heap.size w w4) := HB3.out.trans (hb4.mono hs1)
        clear ho4 hb4 ck3
        go_wp2_with fail
        refine (HPK.out w4 HO4.out).mono ?_
        rintro e w5 ⟨rfl, ho5, hb5⟩
        have HO5 : Hid (One w5 w1.heap.size p k (mkm zs k)) := ho5
        have HB5 : Hid (Below w.heap.size w w5) := HB4.out.trans (hb5.mono hs1)
        clear ho5 hb5
        go_wp2_with fail
        refine (HP2.out w5 HO5.out).mono ?_
        rintro e w6 ⟨rfl, ho6, hb6⟩
        have HB6 : Hid (Below w.heap.size w w6) := HB5.out.trans (hb6.mono hs1)
        have hpk6 := one_peek ho6
        rw [HF.out] at hpk6
        simp only [peekT] at hpk6
        clear ho6 hb6
        go_wp2_with fail
        refine hpk6.mono ?_
        rintro e w7 ⟨rfl, ho7, hb7⟩
        have HB7 : Hid (Below w.heap.size w w7) := HB6.out.trans (hb7.mono hs1)
        have hln := one_len ho7
        rw [HN.out] at hln
        clear ho7 hb7 hpk6
        go_wp2_with fail
        refine hln.mono ?_
        rintro e w8 ⟨rfl, rfl⟩
        go_wp2_with fail
        go_ret
        exact ⟨by simp, HB7.out⟩
end Go.Proofs.Ytmmokmgljacddaa
