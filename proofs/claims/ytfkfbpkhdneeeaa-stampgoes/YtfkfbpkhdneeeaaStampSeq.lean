/-
  A row of texts as one thing; what it tells when it is gone through; the program's All, gone through.
-/
import Derived.Test.YtfkfbpkhdneeeaaRange
import Derived.Test.YtfkfbpkhdneeeaaStampAS
import Derived.Test.YtfkfbpkhdneeeaaStampObj
import Derived.Test.YtfkfbpkhdneeeaaStampTexts
namespace Go.Proofs.Ytfkfbpkhdneeeaa
open Go.RowKit Go.Shelf
attribute [local go_sem] Oper.semAt_some

/-- A row of texts. -/
abbrev ObjS := Obj RS.At 9 1
section
variable {w : World} {B p n : Nat} {m : Nat → Option ByteArray} {F : Nat → Prop}
theorem os_new (n : Nat) (hn : n ≤ 64) (w : World) :
    Calls Try.prog 15 #[.int .i64 n] w fun e w' => ∃ p F, e = .returned (.tuple #[.pointer (some ⟨p, 0, none⟩), .int .i64 0]) ∧ ObjS w' w.heap.size p n (fun _ => none) F ∧ Below w.heap.size w w' := by
  refine (RS.new_any n hn w).mono ?_
  rintro e w' ⟨p, bt, bs, xs, st, now, rfl, h1, h2, h3⟩
  exact ⟨p, _, rfl, ⟨bt, bs, xs, st, now, h1, h2, rfl⟩, h3⟩
theorem os_set (h : ObjS w B p n m F) (hn : n ≤ 64) (k : Nat) (hk : k < n) (v : ByteArray) :
    Calls Try.prog 16 #[.pointer (some ⟨p, 0, none⟩), .int .i64 k, .string v] w fun e w' => e = .returned (.int .i64 0) ∧ ObjS w' B p n (SM.upd m k (some v)) F ∧ Keeps F w w' := by
  obtain ⟨bt, bs, xs, st, now, h1, h2, rfl⟩ := h
  have hs := RS.set_any h1 h2 hn k v
  unfold SM.code SM.put at hs
  rw [if_pos (by omega), if_pos (by omega), Int.toNat_natCast] at hs
  refine hs.mono ?_
  rintro e w' ⟨rfl, xs', st', a1, a2, a3⟩
  exact ⟨rfl, ⟨bt, bs, xs', st', now, a1, a2, rfl⟩, a3⟩
theorem os_get (h : ObjS w B p n m F) (k : Nat) :
    Calls Try.prog 29 #[.pointer (some ⟨p, 0, none⟩), .int .i64 k] w fun e w' => e = .returned (getT Value.string (⟨#[]⟩ : ByteArray) (m k)) ∧ Below w.heap.size w w' := by
  obtain ⟨bt, bs, xs, st, now, h1, h2, rfl⟩ := h
  have hg := RS.get_any h1 h2 k
  unfold SM.look at hg
  rw [if_pos (by omega), Int.toNat_natCast] at hg
  exact hg
theorem Obj.stamps {α : Type} {At : List Value → Nat → α → Prop} {e : TypeId} {sz : Nat} {m : Nat → Option α} (h : Obj At e sz w B p n m F) : ∃ bs, w.cell? ⟨p, 1, none⟩ = some (.slice (some ⟨bs, 0, none⟩) n n) := by
  obtain ⟨bt, bs, xs, st, now, h1, _, _⟩ := h
  exact ⟨bs, h1.c1⟩
end
set_option maxHeartbeats 400000 in
theorem all_any (p : Nat) (w : World) :
    Calls Try.prog 17 #[.pointer (some ⟨p, 0, none⟩)] w fun e w' => e = .returned (.func (.func 28) #[] #[.pointer (some ⟨w.heap.size, 0, none⟩)]) ∧ w' = w.alloc (.cells #[.pointer (some ⟨p, 0, none⟩)] 40) := by
  go_enter Try.func17, Try.ntmps17
  go_wp2_with fail
  go_ret
  exact ⟨rfl, rfl⟩

/-! What is told, place by place. -/
/-- Of c places from k on. -/
def outs (m : Nat → Option ByteArray) : Nat → Nat → List (Nat × ByteArray)
  | 0, _ => []
  | c + 1, k => match m k with | some v => (k, v) :: outs m c (k + 1) | none => outs m c (k + 1)
theorem outs_some {m : Nat → Option ByteArray} {c k : Nat} {v : ByteArray} (h : m k = some v) : outs m (c + 1) k = (k, v) :: outs m c (k + 1) := by simp [outs, h]
theorem outs_none {m : Nat → Option ByteArray} {c k : Nat} (h : m k = none) : outs m (c + 1) k = outs m c (k + 1) := by simp [outs, h]
/-- Which of the first k places are chosen. -/
def ats (bs : List Bool) : Nat → List Nat
  | 0 => []
  | k + 1 => if bat bs k = true then ats bs k ++ [k] else ats bs k
theorem ats_lt (bs : List Bool) : ∀ k, ∀ i ∈ ats bs k, i < k
  | 0, i, h => by simp [ats] at h
  | k + 1, i, h => by
    unfold ats at h
    split at h
    · simp only [List.mem_append, List.mem_singleton] at h
      rcases h with h | h
      · have := ats_lt bs k i h; omega
      · omega
    · have := ats_lt bs k i h; omega
theorem ats_len (bs : List Bool) : ∀ k, (ats bs k).length ≤ k
  | 0 => by simp [ats]
  | k + 1 => by
    have := ats_len bs k
    unfold ats
    split
    · simp; omega
    · omega
/-- The texts at the chosen ones of the first k places. -/
def mks (ss : List ByteArray) (bs : List Bool) (k t : Nat) : Option ByteArray := if t < k ∧ bat bs t = true then some (tx ss t) else none
theorem mks_zero (ss : List ByteArray) (bs : List Bool) : mks ss bs 0 = fun _ => none := by funext t; simp [mks]
theorem mks_set (ss : List ByteArray) (bs : List Bool) (k : Nat) (h : bat bs k = true) : SM.upd (mks ss bs k) k (some (tx ss k)) = mks ss bs (k + 1) := by
  funext t
  unfold SM.upd mks
  by_cases e : t = k
  · subst e; simp [h]
  · rw [if_neg e]
    by_cases h2 : t < k
    · simp [h2, show t < k + 1 by omega]
    · simp [h2, show ¬ t < k + 1 by omega]
theorem mks_skip (ss : List ByteArray) (bs : List Bool) (k : Nat) (h : bat bs k = false) : mks ss bs k = mks ss bs (k + 1) := by
  funext t
  unfold mks
  by_cases e : t = k
  · subst e; simp [h]
  · by_cases h2 : t < k
    · simp [h2, show t < k + 1 by omega]
    · simp [h2, show ¬ t < k + 1 by omega]
theorem outs_mks (ss : List ByteArray) (bs : List Bool) (n : Nat) : ∀ c k, k + c = n → (ats bs k).map (fun i => (i, tx ss i)) ++ outs (mks ss bs n) c k = (ats bs n).map (fun i => (i, tx ss i))
  | 0, k, h => by
    obtain rfl : k = n := by omega
    simp [outs]
  | c + 1, k, h => by
    rw [← outs_mks ss bs n c (k + 1) (by omega)]
    cases hb : bat bs k with
    | true =>
      rw [outs_some (v := tx ss k) (by simp [mks, hb]; omega)]
      simp [ats, hb]
    | false =>
      rw [outs_none (by simp [mks, hb])]
      simp [ats, hb]
theorem outs_all (ss : List ByteArray) (bs : List Bool) (n : Nat) : outs (mks ss bs n) n 0 = (ats bs n).map (fun i => (i, tx ss i)) := by
  have := outs_mks ss bs n n 0 (by omega)
  simpa [ats] using this
theorem pre_snoc {α : Type} {pre zs : List α} {x : α} (h : pre <+: zs) (hlt : pre.length < zs.length) : pre ++ [x] <+: zs ↔ zs[pre.length] = x := by
  obtain ⟨r, rfl⟩ := h
  cases r with
  | nil => simp at hlt
  | cons y r =>
    constructor
    · rintro ⟨q, hq⟩
      simp at hq
      simp [hq.1]
    · intro e
      simp at e
      subst e
      exact ⟨r, by simp⟩

/-- A place and its text, as the loop's two variables. -/
def two (x : Nat × ByteArray) : Array Value := #[.int .i64 (x.1 : Nat), .string x.2]

set_option maxRecDepth 100000 in
set_option maxHeartbeats 2000000 in
theorem all_goes (n : Nat) (hn : 1 ≤ n) (Bn p B k : Nat) (m : Nat → Option ByteArray) (F : Nat → Prop) (w : World) (hk : k ≤ 64) :
    Goes n Try.prog 28 #[.pointer (some ⟨Bn, 0, none⟩)] two (fun ys => ys = outs m k 0) (fun pre => pre <+: outs m k 0) (outs m k 0).length
      (fun A => A.cell? ⟨Bn, 0, none⟩ = some (.pointer (some ⟨p, 0, none⟩)) ∧ ObjS A B p k m F) w := by
  intro l J Jx W hW hs hR hJ hJx hY h0
  obtain ⟨hc, ho0⟩ := hR _ _ h0
  obtain ⟨bs, cs⟩ := ho0.stamps
  obtain ⟨L, hL⟩ : ∃ L, L = outs m k 0 := ⟨_, rfl⟩
  rw [← hL] at hY ⊢
  have HL : Hid (L = outs m k 0) := hL
  have HJ : Hid (∀ s A A', J s A → Below (w.heap.size + 2) A A' → J s A') := hJ
  have HR : Hid (∀ s A, J s A → A.cell? ⟨Bn, 0, none⟩ = some (.pointer (some ⟨p, 0, none⟩)) ∧ ObjS A B p k m F) := hR
  have HY : Hid (∀ pre x W1, J pre W1 → pre.length < L.length → YieldAt Fence.wide (n - 1) Try.prog l (two x) W1 fun e W' => (e = .returned (.bool true) ∧ J (pre ++ [x]) W' ∧ Above (w.heap.size + 2) W1 W') ∨ (e = .returned (.bool false) ∧ Jx (pre ++ [x]) W')) := hY
  have H0 : Hid (J [] W) := h0
  clear hL hJ hJx hR hY h0 ho0
  refine callsIn_of_wp Try.func28 rfl trivial ?_ rfl
  simp only [Try.ntmps28, List.size_toArray, List.length_cons, List.length_nil, Nat.reduceAdd, Nat.reduceSub, Array.replicate_succ, Array.replicate_zero, List.push_toArray, List.append_toArray, List.nil_append, List.cons_append]
  gi_wp2_with fail
  gi_loopw [11] (fun iv wr => ∃ (pre : List (Nat × ByteArray)) (j : Nat), j ≤ k ∧ iv = .int .i64 j ∧ L = pre ++ outs m (k - j) j ∧ J pre wr ∧ w.heap.size + 2 ≤ wr.heap.size) (fun iv _ => k - (intOf iv).toNat)
  case atStart => exact ⟨[], 0, Nat.zero_le _, rfl, HL.out, H0.out, hs⟩
  case round =>
    clear hc cs
    obtain ⟨pre, j, hj, rfl, hx, hJs, hsr⟩ := hrel
    by_cases hlt : j < k
    · obtain ⟨hc, ho⟩ := HR.out _ _ hJs
      have hg := os_get ho j
      have jk : (j : Int) < (k : Int) := by omega
      have HX : Hid (L = pre ++ outs m (k - j) j) := hx
      have HJS : Hid (J pre wr) := hJs
      clear ho hx hJs
      cases hm : m j with
      | none =>
        have HX2 : Hid (L = pre ++ outs m (k - (j + 1)) (j + 1)) := by
          show _ = _
          rw [HX.out, show k - j = (k - (j + 1)) + 1 by omega, outs_none hm]
        rw [hm] at hg
        simp only [getT] at hg
        clear hm
        gi_wp2_with fail
        refine ⟨trivial, (callsIn_wide.2 hg).mono ?_⟩
        rintro e w2 ⟨rfl, hb2⟩
        have HJ2 : Hid (J pre w2) := HJ.out _ _ _ HJS.out (hb2.mono hsr)
        have hs2 : w.heap.size + 2 ≤ w2.heap.size := Nat.le_trans hsr hb2.size
        clear hg hb2 hc
        gi_wp2_with fail
        refine ⟨fun _ h => (by cases h), ?_⟩
        gi_wp2_with fail
        go_roundw
        case rel => exact ⟨pre, j + 1, by omega, by go_num, HX2.out, HJ2.out, hs2⟩
        case measure => simp [intOf]; omega
      | some v =>
        have hx2 : L = (pre ++ [(j, v)]) ++ outs m (k - (j + 1)) (j + 1) := by
          rw [HX.out, show k - j = (k - (j + 1)) + 1 by omega, outs_some hm]
          simp
        have HX2 : Hid (L = (pre ++ [(j, v)]) ++ outs m (k - (j + 1)) (j + 1)) := hx2
        have hlen : pre.length < L.length := by rw [hx2]; simp
        rw [hm] at hg
        simp only [getT] at hg
        clear hm hx2
        gi_wp2_with fail
        refine ⟨trivial, (callsIn_wide.2 hg).mono ?_⟩
        rintro e w2 ⟨rfl, hb2⟩
        have hJ2 : J pre w2 := HJ.out _ _ _ HJS.out (hb2.mono hsr)
        have hs2 : w.heap.size + 2 ≤ w2.heap.size := Nat.le_trans hsr hb2.size
        obtain ⟨fn, tmps, assign, body, hy, hRd⟩ := HY.out pre (j, v) w2 hJ2 hlen
        dsimp only [two] at hy
        clear hg hb2 hc hJ2
        gi_wp2_with fail
        refine hRd.mono ?_
        rintro e W4 (⟨rfl, hJ4, hk4⟩ | ⟨rfl, hJx4⟩)
        · have hs4 : w.heap.size + 2 ≤ W4.heap.size := Nat.le_trans hs2 hk4.size
          have HJ4 : Hid (J (pre ++ [(j, v)]) W4) := hJ4
          clear hJ4 hk4 hy hRd
          gi_wp2_with fail
          go_roundw
          case rel => exact ⟨pre ++ [(j, v)], j + 1, by omega, by go_num, HX2.out, HJ4.out, hs4⟩
          case measure => simp [intOf]; omega
        · have HJ4 : Hid (Jx (pre ++ [(j, v)]) W4) := hJx4
          clear hJx4 hy hRd
          gi_wp2_with fail
          (try simp only [Exit.inBlock, Exit.then]); refine bodyPost_ret (results_none rfl _ _ _) rfl ?_
          exact ⟨⟨_, rfl⟩, .inr ⟨pre ++ [(j, v)], ⟨_, HX2.out.symm⟩, HJ4.out⟩⟩
    · obtain rfl : j = k := by omega
      have HX : Hid (L = pre) := by
        show _ = _
        rw [hx]
        simp [outs]
      have HJS : Hid (J pre wr) := hJs
      clear hx hJs
      gi_wp2_with fail
      go_end0
      exact ⟨⟨_, rfl⟩, .inl ⟨pre, HX.out.symm, HJS.out⟩⟩
end Go.Proofs.Ytfkfbpkhdneeeaa
