/-
  The ranks that are handed out, one behind the other: perm's handedOut, gone through.
-/
import Derived.Test.YtdfipaojahdgcaaRange
import Derived.Test.YtdfipaojahdgcaaPermRow
namespace Go.Proofs.Ytdfipaojahdgcaa
open Go.RowKit Go.Shelf
attribute [local go_sem] Oper.semAt_some

/-- A rank, and the vertex that has it. -/
abbrev Pick (n : Nat) := Nat × Fin n
def encP {n : Nat} (x : Pick n) : Array Value := #[.int .i64 x.1, .int .i64 x.2.1]
/-- They are the first ones of an order's. -/
def Pre (n a : Nat) (xs : List (Pick n)) : Prop := ∀ (i : Nat) (x : Pick n), xs[i]? = some x → x.1 = i ∧ (PM.who n a)[i]? = some x.2.1
theorem Pre.nil (n a : Nat) : Pre n a [] := fun i x h => by simp at h
theorem Pre.snoc {n a : Nat} {xs : List (Pick n)} (h : Pre n a xs) {k v : Nat} (hk : xs.length = k) (hv : v < n) (hw : (PM.who n a)[k]? = some v) : Pre n a (xs ++ [(k, ⟨v, hv⟩)]) := by
  intro i x hx
  rw [List.getElem?_append] at hx
  split at hx
  · exact h i x hx
  · rename_i hi
    have h0 : i - xs.length = 0 := by
      have := (List.getElem?_eq_some_iff.1 hx).1
      simp at this
      omega
    rw [h0] at hx
    simp at hx
    subst hx
    obtain rfl : i = k := by omega
    exact ⟨rfl, hw⟩
/-- What they make of a list. -/
def filP (n : Nat) (xs : List (Pick n)) : List Int := xs.foldl (fun o x => o.set x.2.1 (x.1 : Int)) (List.replicate n 0)
theorem filP_snoc (n : Nat) (xs : List (Pick n)) (x : Pick n) : filP n (xs ++ [x]) = (filP n xs).set x.2.1 (x.1 : Int) := by simp [filP]
theorem filP_pre {n a : Nat} : ∀ (m : Nat) (xs : List (Pick n)), xs.length = m → Pre n a xs → filP n xs = PM.fil (PM.whose n a) m
  | 0, xs, h, _ => by
    obtain rfl := List.eq_nil_of_length_eq_zero h
    simp [filP, PM.fil, PM.whose_len]
  | m + 1, xs, h, hp => by
    have hm : m < xs.length := by omega
    have e : xs = xs.take m ++ [xs[m]] := by
      have h1 := List.take_add_one (l := xs) (i := m)
      rw [List.getElem?_eq_getElem hm, List.take_of_length_le (by omega)] at h1
      exact h1
    have hx := hp m _ (List.getElem?_eq_getElem hm)
    have ih := filP_pre m (xs.take m) (by rw [List.length_take]; omega) (fun i x h => by
      rw [List.getElem?_take] at h
      split at h
      · exact hp i x h
      · cases h)
    rw [e, filP_snoc, ih, PM.fil, PM.who_rk hx.2, hx.1]
theorem filP_len (n : Nat) (xs : List (Pick n)) : (filP n xs).length = n := by
  have : ∀ (xs : List (Pick n)) (o : List Int), (xs.foldl (fun o x => o.set x.2.1 (x.1 : Int)) o).length = o.length := by
    intro xs
    induction xs with
    | nil => intro o; rfl
    | cons x xs ih => intro o; rw [List.foldl_cons, ih, List.length_set]
  unfold filP
  rw [this]
  simp

set_option maxHeartbeats 400000 in
theorem handedOut_any (n a : Nat) (w : World) :
    Calls Try.prog 24 #[.int .i64 n, .int .u64 a] w fun e w' => e = .returned (.func (.func 31) #[] #[.pointer (some ⟨w.heap.size, 0, none⟩), .pointer (some ⟨w.heap.size + 1, 0, none⟩)]) ∧ w' = (w.alloc (.cells #[.int .i64 n] 3)).alloc (.cells #[.int .u64 a] 30) := by
  go_enter Try.func24, Try.ntmps24
  go_wp2_with fail
  go_ret
  exact ⟨rfl, rfl⟩

set_option maxRecDepth 100000 in
set_option maxHeartbeats 4000000 in
theorem handed_goes (d : Nat) (hd : 1 ≤ d) (bn ba n a : Nat) (hn : n ≤ 24) (ha : a < 18446744073709551616) (w : World) :
    Goes d Try.prog 31 #[.pointer (some ⟨bn, 0, none⟩), .pointer (some ⟨ba, 0, none⟩)] (encP (n := n)) (fun xs => xs.length = n ∧ Pre n a xs) (fun pre => Pre n a pre) n
      (fun A => A.cell? ⟨bn, 0, none⟩ = some (.int .i64 n) ∧ A.cell? ⟨ba, 0, none⟩ = some (.int .u64 a)) w := by
  intro l J Jx W hW hs hR hJ hJx hY h0
  obtain ⟨hcn, hca⟩ := hR _ _ h0
  have HJ : Hid (∀ s A A', J s A → Below (w.heap.size + 2) A A' → J s A') := hJ
  have HR : Hid (∀ s A, J s A → A.cell? ⟨bn, 0, none⟩ = some (.int .i64 n) ∧ A.cell? ⟨ba, 0, none⟩ = some (.int .u64 a)) := hR
  have HY : Hid (∀ pre x W1, J pre W1 → pre.length < n → YieldAt Fence.wide (d - 1) Try.prog l (encP x) W1 fun e W' => (e = .returned (.bool true) ∧ J (pre ++ [x]) W' ∧ Above (w.heap.size + 2) W1 W') ∨ (e = .returned (.bool false) ∧ Jx (pre ++ [x]) W' ∧ Above (w.heap.size + 2) W1 W')) := hY
  have H0 : Hid (J [] W) := h0
  have hrow := row_any n hn W
  clear hJ hJx hR hY h0
  refine callsIn_of_wp Try.func31 rfl trivial ?_ rfl
  simp only [Try.ntmps31, List.size_toArray, List.length_cons, List.length_nil, Nat.reduceAdd, Nat.reduceSub, Array.replicate_succ, Array.replicate_zero, List.push_toArray, List.append_toArray, List.nil_append, List.cons_append]
  gi_wp2_with fail
  refine ⟨trivial, (callsIn_wide.2 hrow).mono ?_⟩
  rintro e w2 ⟨lc, g, cp, rfl, hlr, -, hl1, hl2, hb2⟩
  rw [show PM.rise n = PM.up (List.range n) from rfl] at hlr
  have HLR : Hid (LRow w2 W.heap.size lc g cp (PM.up (List.range n))) := hlr
  have HJ2 : Hid (J [] w2) := HJ.out _ _ _ H0.out (hb2.mono hs)
  obtain ⟨hcn2, hca2⟩ := HR.out _ _ HJ2.out
  have hs2 : w.heap.size + 2 ≤ w2.heap.size := Nat.le_trans hs hb2.size
  clear hrow hlr hcn hca H0 hb2
  gi_wp2_with fail
  gi_loopw [6, 16] (fun rv iv wr => ∃ (pre : List (Pick n)) (dr left : List Nat) (k rest : Nat), k ≤ n ∧ iv = .int .i64 k ∧ rv = .int .u64 rest ∧ rest < 18446744073709551616 ∧ Hid (pre.length = k) ∧ Hid (dr.length = k) ∧ Hid (left.length = n - k) ∧ Hid (dr ++ PM.draw (n - k) left rest = PM.who n a) ∧ Hid (Pre n a pre) ∧ Hid (LRow wr W.heap.size lc g cp (PM.up left)) ∧ Hid (J pre wr) ∧ w.heap.size + 2 ≤ wr.heap.size) (fun _ iv _ => n - (intOf iv).toNat)
  case atStart => exact ⟨[], [], List.range n, 0, a, Nat.zero_le _, rfl, rfl, ha, rfl, rfl, by show _ = _; simp, rfl, Pre.nil n a, HLR, HJ2, hs2⟩
  case round =>
    clear hcn2 hca2 HJ2 HLR
    obtain ⟨pre, dr, left, k, rest, hk, rfl, rfl, hrest, HPL, HDL, HLL, HD, HPr, HRw, HJs, hsr⟩ := hrel
    by_cases hlt : k < n
    · obtain ⟨hcn, hca⟩ := HR.out _ _ HJs.out
      obtain ⟨v0, hat, hpm, hwk, hnx⟩ := PM.draw_step hlt HDL.out HLL.out HD.out
      have hv0 := PM.who_lt hwk
      have HP2 : Hid (Pre n a (pre ++ [(k, ⟨v0, hv0⟩)])) := HPr.out.snoc HPL.out hv0 hwk
      obtain ⟨p, hp⟩ : ∃ p, p = rest % (n - k) := ⟨_, rfl⟩
      rw [← hp] at hat hpm hnx
      have e1 : (n : Int) - (k : Int) = ((n - k : Nat) : Int) := by omega
      have e2 : (rest : Int) % ((n - k : Nat) : Int) = (p : Int) := by rw [hp]; exact (Int.natCast_emod _ _).symm
      have e3 : (rest : Int) / ((n - k : Nat) : Int) = ((rest / (n - k) : Nat) : Int) := (Int.natCast_ediv _ _).symm
      have hm0 : ¬ ((n - k : Nat) : Int) = 0 := by omega
      have hml : n - k ≤ 24 := by omega
      have hq : rest / (n - k) < 18446744073709551616 := Nat.lt_of_le_of_lt (Nat.div_le_self _ _) hrest
      have HN : Hid ((dr ++ [v0]) ++ PM.draw (n - (k + 1)) (left.eraseIdx p) (rest / (n - k)) = PM.who n a) := hnx
      have hlv := leaveAt_any HRw.out p (by rw [PM.up_len, HLL.out]; exact hpm) (by rw [PM.up_len, HLL.out]; exact hml)
      rw [PM.up_erase] at hlv
      have hpv : ((PM.up left)[p]?.getD 0) = (v0 : Int) := by
        unfold PM.up
        rw [List.getElem?_map, hat]
        rfl
      rw [hpv] at hlv
      have HL2 : Hid ((left.eraseIdx p).length = n - (k + 1)) := by
        show _ = _
        rw [List.length_eraseIdx_of_lt (by rw [HLL.out]; exact hpm), HLL.out]
        omega
      have hlen : pre.length < n := by rw [HPL.out]; exact hlt
      have HYX : Hid (∀ W1, J pre W1 → YieldAt Fence.wide (d - 1) Try.prog l #[.int .i64 k, .int .i64 v0] W1 fun e W' => (e = .returned (.bool true) ∧ J (pre ++ [(k, ⟨v0, hv0⟩)]) W' ∧ Above (w.heap.size + 2) W1 W') ∨ (e = .returned (.bool false) ∧ Jx (pre ++ [(k, ⟨v0, hv0⟩)]) W' ∧ Above (w.heap.size + 2) W1 W')) := fun W1 h => HY.out pre (k, ⟨v0, hv0⟩) W1 h hlen
      clear hp hat hwk hnx HD HPr hpv hlen HRw
      generalize rest / (n - k) = q at *
      generalize n - k = m at *
      generalize left.eraseIdx p = left2 at *
      gi_wp2_with fail
      refine ⟨trivial, (callsIn_wide.2 hlv).mono ?_⟩
      rintro e w3 ⟨rfl, hr3, hk3⟩
      have hb3 : Below (w.heap.size + 2) wr w3 := hk3.below (fun b hb => by rcases hb with e | e <;> omega) hsr
      have hJ3 : J pre w3 := HJ.out _ _ _ HJs.out hb3
      obtain ⟨fn, tmps, assign, body, hy, hRd⟩ := HYX.out w3 hJ3
      have HR3 : Hid (LRow w3 W.heap.size lc g cp (PM.up left2)) := hr3
      have hs3 : w.heap.size + 2 ≤ w3.heap.size := Nat.le_trans hsr hb3.size
      clear hlv hr3 hk3 hb3 hJ3 hcn hca HJs
      gi_wp2_with fail
      refine hRd.mono ?_
      rintro e W4 (⟨rfl, hJ4, hk4⟩ | ⟨rfl, hJx4, -⟩)
      · have hs4 : w.heap.size + 2 ≤ W4.heap.size := Nat.le_trans hs3 hk4.size
        have HR4 : Hid (LRow W4 W.heap.size lc g cp (PM.up left2)) := HR3.out.keeps hk4 (by omega) (by omega)
        have HJ4 : Hid (J (pre ++ [(k, ⟨v0, hv0⟩)]) W4) := hJ4
        clear hJ4 hk4 hy hRd HR3
        gi_wp2_with fail
        go_roundw
        case rel => exact ⟨pre ++ [(k, ⟨v0, hv0⟩)], dr ++ [v0], left2, k + 1, q, by omega, by simp, rfl, hq, by show _ = _; simp [HPL.out], by show _ = _; simp [HDL.out], HL2, HN, HP2, HR4, HJ4, hs4⟩
        case measure => simp [intOf]; omega
      · have HJ4 : Hid (Jx (pre ++ [(k, ⟨v0, hv0⟩)]) W4) := hJx4
        clear hJx4 hy hRd
        gi_wp2_with fail
        (try simp only [Exit.inBlock, Exit.then]); refine bodyPost_ret (results_none rfl _ _ _) rfl ?_
        exact ⟨⟨_, rfl⟩, .inr ⟨_, HP2.out, HJ4.out⟩⟩
    · obtain rfl : k = n := by omega
      clear HD HRw HLL HDL
      gi_wp2_with fail
      go_end0
      exact ⟨⟨_, rfl⟩, .inl ⟨pre, ⟨HPL.out, HPr.out⟩, HJs.out⟩⟩
end Go.Proofs.Ytdfipaojahdgcaa
