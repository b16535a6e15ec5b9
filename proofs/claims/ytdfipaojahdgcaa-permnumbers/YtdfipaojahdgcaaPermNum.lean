/-
  The walks of perm's Number.
-/
import Derived.Test.YtdfipaojahdgcaaPermInv
import Derived.Test.YtdfipaojahdgcaaPermRow
namespace Go.Proofs.Ytdfipaojahdgcaa
open Go.RowKit

theorem rise_up (n : Nat) : PM.rise n = PM.up (List.range n) := rfl
theorem wrap_nat {a : Nat} (h : a < 18446744073709551616) : IntKind.u64.wrap (a : Int) = (a : Int) := by rw [IntKind.wrap_u64]; omega

set_option maxHeartbeats 400000 in
theorem number_no (v : Value) (zs : List Int) (w : World) (hrow : Row .i64 w v zs) (h : ¬ PM.Ord zs) :
    Calls Try.prog 20 #[v] w fun e w' => e = .returned (.tuple #[.int .u64 0, .int .i64 1]) ∧ w' = w := by
  have hi := inverse_no v zs w hrow h
  obtain ⟨a, cap, rfl, -⟩ := hrow
  clear h
  go_enter Try.func20, Try.ntmps20
  go_wp2_with fail
  refine hi.mono ?_
  rintro e w' ⟨rfl, rfl⟩
  go_wp2_with fail
  go_ret2
  exact ⟨rfl, rfl⟩
set_option maxHeartbeats 400000 in
theorem number_long (v : Value) (zs : List Int) (w : World) (hrow : Row .i64 w v zs) (h : PM.Ord zs) (h20 : 20 < zs.length) :
    Calls Try.prog 20 #[v] w fun e w' => e = .returned (.tuple #[.int .u64 0, .int .i64 9]) ∧ Below w.heap.size w w' := by
  have hi := inverse_ok v zs w hrow h
  obtain ⟨a, cap, rfl, -⟩ := hrow
  clear h
  go_enter Try.func20, Try.ntmps20
  go_wp2_with fail
  refine hi.mono ?_
  rintro e w' ⟨r, rfl, -, hb⟩
  go_wp2_with fail
  go_ret2
  exact ⟨rfl, hb⟩

set_option maxHeartbeats 4000000 in
set_option maxRecDepth 100000 in
theorem number_ok (v : Value) (zs : List Int) (w : World) (hrow : Row .i64 w v zs) (h : PM.Ord zs) (h20 : zs.length ≤ 20) :
    Calls Try.prog 20 #[v] w fun e w' => e = .returned (.tuple #[.int .u64 (PM.num zs.length (PM.down (PM.inv zs)) : Nat), .int .i64 0]) ∧ Below w.heap.size w w' := by
  have hi := inverse_ok v zs w hrow h
  obtain ⟨vs, hvs⟩ : ∃ vs, vs = PM.down (PM.inv zs) := ⟨_, rfl⟩
  have hup : PM.inv zs = PM.up vs := by rw [hvs, (PM.ord_inv h).up_down]
  have hpm : vs.Perm (List.range zs.length) := by rw [hvs]; have := (PM.ord_inv h).down_perm; rwa [PM.inv_len] at this
  rw [← hvs]
  rw [hup] at hi
  obtain ⟨a, cap, rfl, -⟩ := hrow
  obtain ⟨n, hn⟩ : ∃ n, n = zs.length := ⟨_, rfl⟩
  rw [← hn] at hi h20 hpm ⊢
  have hlen : vs.length = n := by rw [hpm.length_eq]; simp
  have HP : Hid (vs.Perm (List.range n)) := hpm
  have hT : PM.num n vs < PM.fac n := by have := PM.enc_lt vs _ hpm; rw [List.length_range] at this; exact this
  have hF := PM.fac20 h20
  have HT : Hid (0 + 1 * PM.enc (List.range n) vs = PM.num n vs) := by show _ = _; rw [Nat.zero_add, Nat.one_mul]; rfl
  have HL : Hid (vs.length = n) := hlen
  have hrw := fun W => row_any n (by omega) W
  clear h hvs hup hn hpm hlen
  generalize PM.num n vs = T at *
  go_enter Try.func20, Try.ntmps20
  go_wp2_with fail
  refine hi.mono ?_
  rintro e w1 ⟨r, rfl, ho, hb⟩
  have HI : Hid (Row .i64 w1 r (PM.up vs)) := ho.row
  obtain ⟨ar, cr, hr, -⟩ := ho.row
  rw [PM.up_len, HL.out] at hr
  subst hr
  have HB1 : Hid (Below w.heap.size w w1) := hb
  clear hi ho hb
  go_wp2_with fail
  refine (hrw w1).mono ?_
  rintro e w2 ⟨lc, g, cp, rfl, hlr, hla, hl1, hl2, hb2⟩
  rw [rise_up] at hlr
  have HLR : Hid (LRow w2 w1.heap.size lc g cp (PM.up (List.range n))) := hlr
  clear hlr hrw
  go_wp2_with fail
  go_loopw [6, 7, 31] (fun nv uv i wr => ∃ (k A U : Nat) (left : List Nat), k ≤ n ∧ i = .int .i64 k ∧ nv = .int .u64 A ∧ uv = .int .u64 U ∧ left.length = n - k ∧ Hid (A + U * PM.enc left (vs.drop k) = T) ∧ Hid (U * PM.fac left.length = PM.fac n) ∧ Hid ((vs.drop k).Perm left) ∧ Hid (LRow wr w1.heap.size lc g cp (PM.up left)) ∧ wr.cell? ⟨w1.heap.size, 0, none⟩ = some (.func (.func 32) #[] #[.pointer (some ⟨lc, 0, none⟩)]) ∧ Below w1.heap.size w1 wr) (fun _ _ i _ => n - (intOf i).toNat)
  case atStart => exact ⟨0, 0, 1, List.range n, Nat.zero_le _, rfl, rfl, rfl, by simp, HT, by show 1 * PM.fac (List.range n).length = PM.fac n; rw [Nat.one_mul, List.length_range], HP, HLR, hla, hb2⟩
  case round =>
    obtain ⟨k, A, U, left, hk, rfl, rfl, rfl, hll, HA, HU, HPm, HR, hla', hb3⟩ := hrel
    clear hla
    by_cases hlt : k < n
    · have hkv : k < vs.length := by rw [HL.out]; exact hlt
      obtain ⟨z, hz⟩ : ∃ z, z = vs[k] := ⟨_, rfl⟩
      have hdr : vs.drop k = z :: vs.drop (k + 1) := by rw [hz]; exact List.drop_eq_getElem_cons hkv
      rw [hdr] at HA HPm
      obtain ⟨hix, hT2, hU2, hP2⟩ := PM.enc_step HA.out HU.out HPm.out
      have hmem : z ∈ left := HPm.out.mem_iff.1 (by simp)
      obtain ⟨ar', cr', er, hat⟩ := HI.out.below hb3
      injection er with er1 er2 er3
      subst er1 er3
      clear er2
      obtain ⟨b, o, rfl, hc⟩ := hat.2.2.2 (by rw [PM.up_len, HL.out]; omega)
      have hck := hc k (by rw [PM.up_len]; exact hkv)
      rw [PM.up_get vs k hkv, Option.getD_some, ← hz] at hck
      have hlv := leave_any HR.out hla' (z : Nat) (PM.mem_up.2 ⟨_, hmem, rfl⟩) (by rw [PM.up_len]; omega)
      rw [PM.up_idx, PM.up_erase] at hlv
      have hel : (left.eraseIdx (left.idxOf z)).length = n - (k + 1) := by rw [List.length_eraseIdx_of_lt hix, hll]; omega
      have HT2 : Hid (A + U * left.idxOf z + U * left.length * PM.enc (left.eraseIdx (left.idxOf z)) (vs.drop (k + 1)) = T) := hT2
      have hfp := PM.fac_pos (left.length - 1)
      have hU3 : U * left.length ≤ PM.fac n := by rw [← hU2]; exact Nat.le_mul_of_pos_right _ hfp
      have hA3 : A + U * left.idxOf z ≤ T := by rw [← hT2]; exact Nat.le_add_right _ _
      have HU2 : Hid (U * left.length * PM.fac (left.eraseIdx (left.idxOf z)).length = PM.fac n) := by
        show _ = _
        rw [hel, ← hU2, hll]
        rfl
      have HP2 : Hid ((vs.drop (k + 1)).Perm (left.eraseIdx (left.idxOf z))) := hP2
      have HB : Hid (Below w1.heap.size w1 wr) := hb3
      have HLL : Hid (left.length = n - k) := hll
      rw [hll] at hU3 HU2 HT2 hix
      clear hdr HA HPm HU hT2 hU2 hP2 hmem hc hat hz hkv hll HR hfp
      generalize left.idxOf z = p at *
      generalize left.eraseIdx p = rest at *
      go_wp2_with fail
      refine hlv.mono ?_
      rintro e w4 ⟨rfl, hr4, hk4⟩
      have hla4 := hk4.cell hla' (fun e => by rcases e with e | e <;> (dsimp only at e; omega))
      have HR4 : Hid (LRow w4 w1.heap.size lc g cp (PM.up rest)) := hr4
      have hb4 : Below w1.heap.size w1 w4 := HB.out.trans (hk4.below (fun b hb => by rcases hb with e | e <;> omega) HB.out.size)
      clear hlv hr4 hk4 hla'
      have HW : Hid (IntKind.u64.wrap ((U : Int) * ((n : Int) - (k : Int))) = ((U * (n - k) : Nat) : Int)) := by
        show _ = _
        rw [show (n : Int) - (k : Int) = ((n - k : Nat) : Int) by omega, ← Int.natCast_mul]
        exact wrap_nat (by omega)
      go_wp2_with fail
      go_roundw
      case rel => exact ⟨k + 1, A + U * p, U * (n - k), rest, by omega, by simp, by simp, by rw [HW.out], hel, HT2, HU2, HP2, HR4, hla4, hb4⟩
      case measure => simp [intOf]; omega
    · obtain rfl : k = n := by omega
      have hAT : A = T := by
        have := HA.out
        rw [List.drop_eq_nil_of_le (by rw [HL.out]; omega), PM.enc, Nat.mul_zero, Nat.add_zero] at this
        exact this
      subst hAT
      clear HA HU HPm HR
      go_wp2_with fail
      go_ret2
      exact ⟨rfl, HB1.out.trans (hb3.mono HB1.out.size)⟩
end Go.Proofs.Ytdfipaojahdgcaa
