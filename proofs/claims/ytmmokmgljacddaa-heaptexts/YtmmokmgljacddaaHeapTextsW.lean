/-
  The walk of the law HeapTexts.
-/
import Derived.Test.YtmmokmgljacddaaHeapES
import Derived.Test.YtmmokmgljacddaaHeapAwake
import Derived.SliceStrings
namespace Go.Proofs.Ytmmokmgljacddaa
open Go.RowKit

/-- The text at a place. -/
def tx (ss : List ByteArray) (i : Nat) : ByteArray := HM.cat (⟨#[]⟩ : ByteArray) ss i
/-- The value is a slice under which the texts lie. -/
def Texts (w : World) (v : Value) (ss : List ByteArray) : Prop := ∃ ao cap, v = .slice ao ss.length cap ∧ ss.length ≤ maxLen ∧
  (0 < ss.length → ∃ b o, ao = some ⟨b, o, none⟩ ∧ b < w.heap.size ∧ ∀ i, i < ss.length → w.cell? ⟨b, o + i, none⟩ = some (.string (tx ss i)))
theorem texts_of_open {H : Type} {enc : TypeId × Value → H} {w : World} {base : Nat} {spare : Nat → Bool} {held : Bool} {fuel len cap : Nat} {bo : Option Addr} {x : DataW H × List MemPlace}
    (h : DataW.trod enc Try.prog w base spare held fuel 48 [.slice bo len cap] = some x) : ∃ ss, Texts w (.slice bo len cap) ss := by
  rcases Go.ChangeShapes.open_strings Try.underlying48 Try.underlying9 (by kernel_rfl) h with ⟨hcs, _⟩ | ⟨a, len', cap', ss, hcs, _, hl, hm, hz, _, hcell, _⟩
  · simp at hcs
    obtain ⟨rfl, rfl, rfl⟩ := hcs
    exact ⟨[], none, 0, rfl, by simp, fun h => by simp at h⟩
  · simp at hcs
    obtain ⟨rfl, rfl, rfl⟩ := hcs
    have hle : len ≤ ss.length := by
      rw [hz]
      split <;> omega
    have hlt : (ss.take len).length = len := by rw [List.length_take]; omega
    refine ⟨ss.take len, some a, cap, by rw [hlt], by rw [hlt]; omega, fun hp => ?_⟩
    rw [hlt] at hp ⊢
    obtain ⟨b, o, spot⟩ := a
    have h0 := hcell 0 (by omega)
    have hspot : spot = none := by simpa [Addr.add] using World.cell?_spot h0
    subst hspot
    refine ⟨b, o, rfl, by have := cell_lt h0; simpa [Addr.add] using this, fun i hi => ?_⟩
    have := hcell i (by omega)
    rw [Addr.add_lit] at this
    rw [this]
    unfold tx HM.cat
    rw [List.getElem?_take_of_lt hi, List.getD_eq_getElem?_getD]
    rfl

/-- A heap of texts. -/
def OneS (w : World) (B p n : Nat) (m : Nat → Option ByteArray) : Prop := ∃ bp bc lv line place come, HMem Value.string 9 w B p bp bc lv line place come ∧ HM.Rep HM.TS (⟨#[]⟩ : ByteArray) n m line place come
theorem OneS.base {w : World} {B p n : Nat} {m : Nat → Option ByteArray} (h : OneS w B p n m) : B ≤ w.heap.size := by
  obtain ⟨bp, bc, lv, line, place, come, h1, _⟩ := h
  have := h1.lt p (.inl rfl)
  omega
theorem OneS.drewN {w : World} {B p n : Nat} {m : Nat → Option ByteArray} (h : OneS w B p n m) (q : Nat) : OneS (w.drewN q) B p n m := by
  obtain ⟨bp, bc, lv, line, place, come, h1, h2⟩ := h
  exact ⟨bp, bc, lv, line, place, come, h1.drewN q, h2⟩
theorem s_new (n : Nat) (hn : n ≤ 64) (w : World) :
    Calls Try.prog 22 #[.int .i64 n] w fun e w' => ∃ p, e = .returned (.tuple #[.pointer (some ⟨p, 0, none⟩), .int .i64 0]) ∧ OneS w' w.heap.size p n (fun _ => none) ∧ Below w.heap.size w w' := by
  refine (HS.new_any n hn w).mono ?_
  rintro e w' ⟨p, bp, bc, rfl, h1, h2⟩
  exact ⟨p, rfl, ⟨bp, bc, _, _, _, _, h1, HS.rep_new n⟩, h2⟩
theorem s_put {w : World} {B p n : Nat} {m : Nat → Option ByteArray} (h : OneS w B p n m) (hn : n ≤ 64) (t : Int) (v : ByteArray) :
    Calls Try.prog 23 #[.pointer (some ⟨p, 0, none⟩), .int .i64 t, .string v] w fun e w' => e = .returned (.int .i64 (HM.code HM.TS n m t v)) ∧ OneS w' B p n (HM.put HM.TS n m t v) ∧ Below B w w' := by
  have hB := h.base
  obtain ⟨bp, bc, lv, line, place, come, h1, h2⟩ := h
  refine (HS.put_any h1 h2 hn t v).mono ?_
  rintro e w' ⟨rfl, lv', line', place', come', a1, a2, a3, a4⟩
  exact ⟨rfl, ⟨bp, bc, lv', line', place', come', a1, a2⟩, a3.below (fun b hb => (h1.lt b hb).1) hB⟩
theorem s_peek {w : World} {B p n : Nat} {m : Nat → Option ByteArray} (h : OneS w B p n m) :
    Calls Try.prog 24 #[.pointer (some ⟨p, 0, none⟩)] w fun e w' => e = .returned (peekT Value.string (⟨#[]⟩ : ByteArray) (HM.firstOf HM.TS m)) ∧ OneS w' B p n m ∧ Below B w w' := by
  have hB := h.base
  obtain ⟨bp, bc, lv, line, place, come, h1, h2⟩ := h
  refine (HS.peek_first h1 h2).mono ?_
  rintro e w' ⟨rfl, a1⟩
  exact ⟨rfl, ⟨bp, bc, lv, line, place, come, h1.below a1, h2⟩, a1.mono hB⟩
theorem s_len {w : World} {B p n : Nat} {m : Nat → Option ByteArray} (h : OneS w B p n m) :
    Calls Try.prog 25 #[.pointer (some ⟨p, 0, none⟩)] w fun e w' => e = .returned (.int .i64 (HM.cnt n m : Nat)) ∧ w' = w := by
  obtain ⟨bp, bc, lv, line, place, come, h1, h2⟩ := h
  rw [← h2.len]
  exact HS.len_any h1

/-- The first k texts, each the priority of the thing at whose place it stands. -/
def mks (ss : List ByteArray) (k t : Nat) : Option ByteArray := if t < k then some (tx ss t) else none
theorem mks_zero (ss : List ByteArray) : mks ss 0 = fun _ => none := by funext t; simp [mks]
theorem mks_succ (ss : List ByteArray) (k : Nat) : HM.upd (mks ss k) k (some (tx ss k)) = mks ss (k + 1) := by
  funext t
  unfold HM.upd mks
  by_cases h : t = k
  · subst h; simp
  · rw [if_neg h]
    by_cases h2 : t < k
    · rw [if_pos h2, if_pos (by omega)]
    · rw [if_neg h2, if_neg (by omega)]
theorem mks_code (ss : List ByteArray) (n k : Nat) (h : k < n) : HM.code HM.TS n (mks ss k) (k : Int) (tx ss k) = 0 := by
  unfold HM.code
  rw [if_pos (by omega), Int.toNat_natCast]
  simp [mks]
theorem mks_put (ss : List ByteArray) (n k : Nat) (h : k < n) : HM.put HM.TS n (mks ss k) (k : Int) (tx ss k) = mks ss (k + 1) := by
  unfold HM.put
  rw [mks_code ss n k h, if_pos rfl, Int.toNat_natCast, mks_succ]
theorem mks_code5 (ss : List ByteArray) (n k : Nat) (h : k < n) : HM.code HM.TS n (mks ss (k + 1)) (k : Int) (tx ss k) = 5 := by
  unfold HM.code
  rw [if_pos (by omega), Int.toNat_natCast]
  simp [mks, HM.TS.irr]
theorem mks_put5 (ss : List ByteArray) (n k : Nat) (h : k < n) : HM.put HM.TS n (mks ss (k + 1)) (k : Int) (tx ss k) = mks ss (k + 1) := by
  unfold HM.put
  rw [mks_code5 ss n k h, if_neg (by decide)]
/-- Among the first k texts none comes ahead of that at j. -/
def Lst (ss : List ByteArray) (k j : Nat) : Prop := j ≤ k ∧ (k ≠ 0 → j < k) ∧ ∀ t, t < k → ¬ HM.R HM.TS (tx ss) t j
theorem Lst.zero (ss : List ByteArray) : Lst ss 0 0 := ⟨Nat.le_refl _, fun h => absurd rfl h, fun t ht => by omega⟩
theorem Lst.take {ss : List ByteArray} {k j : Nat} (h : Lst ss k j) (hl : Op.bytesLess (tx ss k).toList (tx ss j).toList = true) : Lst ss (k + 1) k := by
  refine ⟨by omega, fun _ => by omega, fun t ht hr => ?_⟩
  by_cases e : t = k
  · subst e; exact HM.R.irr hr
  · refine h.2.2 t (by omega) (.inl ?_)
    rcases hr with hr | ⟨e1, _⟩
    · exact HM.TS.tr _ _ _ hr hl
    · rw [e1]; exact hl
theorem Lst.stay {ss : List ByteArray} {k j : Nat} (h : Lst ss k j) (hl : Op.bytesLess (tx ss k).toList (tx ss j).toList = false) : Lst ss (k + 1) j := by
  refine ⟨by have := h.1; omega, fun _ => by have := h.1; omega, fun t ht hr => ?_⟩
  by_cases e : t = k
  · subst e
    rcases hr with hr | ⟨_, hlt⟩
    · rw [show HM.TS.lt (tx ss t) (tx ss j) = Op.bytesLess (tx ss t).toList (tx ss j).toList from rfl, hl] at hr
      cases hr
    · have := h.1
      omega
  · exact h.2.2 t (by omega) hr
theorem Lst.first {ss : List ByteArray} {n j : Nat} (h : Lst ss n j) (hn : n ≠ 0) : HM.firstOf HM.TS (mks ss n) = some (j, tx ss j) := by
  refine HM.firstOf_eq ⟨?_, fun u r hu hr => ?_⟩
  · show mks ss n j = _
    unfold mks
    rw [if_pos (h.2.1 hn)]
  · unfold mks at hu
    split at hu
    · rename_i hlt
      injection hu with hu
      subst hu
      exact h.2.2 u hlt hr
    · cases hu
theorem cnt_fullS {n : Nat} {m : Nat → Option ByteArray} (h : ∀ t, t < n → (m t).isSome = true) : HM.cnt n m = n := by
  unfold HM.cnt
  rw [List.filter_eq_self.2]
  · simp
  · intro t ht
    exact h t (by simpa using ht)

set_option maxHeartbeats 4000000 in
set_option maxRecDepth 100000 in
theorem texts_walk (v : Value) (ss : List ByteArray) (w : World) (hrow : Texts w v ss) :
    Calls Try.prog 6 #[v] w fun e w' => e = .returned (.bool true) ∧ Below w.heap.size w w' := by
  obtain ⟨ao, cap, rfl, hml, hcells⟩ := hrow
  have HC : Hid (0 < ss.length → ∃ b o, ao = some ⟨b, o, none⟩ ∧ b < w.heap.size ∧ ∀ i, i < ss.length → w.cell? ⟨b, o + i, none⟩ = some (.string (tx ss i))) := hcells
  clear hcells
  have hml' : ss.length ≤ 9223372036854775807 := by unfold maxLen at hml; omega
  have haw := awake_any w
  clear hml
  by_cases hlen : 40 < ss.length
  · have h2 : (40 : Int) < (ss.length : Int) := by omega
    clear hlen
    go_enter Try.func6, Try.ntmps6
    go_wp2_with fail
    refine haw.mono ?_
    rintro e w1 ⟨rfl, hb1⟩
    go_wp2_with fail
    go_ret
    exact ⟨rfl, hb1⟩
  · obtain ⟨n, hn⟩ : ∃ n, n = ss.length := ⟨_, rfl⟩
    rw [← hn] at hlen HC hml' ⊢
    have h40 : n ≤ 40 := by omega
    have h2' : ¬ (40 : Int) < (n : Int) := by omega
    clear hlen hn hml'
    go_enter Try.func6, Try.ntmps6
    go_wp2_with fail
    refine haw.mono ?_
    rintro e w1 ⟨rfl, hb1⟩
    have hnew := s_new n (by omega) w1
    clear haw
    go_wp2_with fail
    refine hnew.mono ?_
    rintro e w2 ⟨p, rfl, ho2, hb2⟩
    have hs1 := hb1.size
    have hb2' : Below w.heap.size w w2 := hb1.trans (hb2.mono hs1)
    clear hnew hb2
    go_wp2_with fail
    go_loopw [5, 6] (fun bv iv wr => ∃ k j : Nat, k ≤ n ∧ iv = .int .i64 k ∧ bv = .int .i64 j ∧ Lst ss k j ∧ OneS wr w1.heap.size p n (mks ss k) ∧ Below w.heap.size w wr) (fun _ iv _ => n - (intOf iv).toNat)
    case atStart => exact ⟨0, 0, Nat.zero_le _, rfl, rfl, Lst.zero ss, by rw [mks_zero]; exact ho2, hb2'⟩
    case round =>
      obtain ⟨k, j, hk, rfl, rfl, hls, ho, hbr⟩ := hrel
      clear ho2 hb2'
      have HO : Hid (OneS wr w1.heap.size p n (mks ss k)) := ho
      have HB : Hid (Below w.heap.size w wr) := hbr
      have HLS : Hid (Lst ss k j) := hls
      have hjk : j ≤ k := hls.1
      clear ho hbr hls
      by_cases hlt : k < n
      · obtain ⟨b, o, rfl, hbl, hc⟩ := HC.out (by omega)
        have HCC : Hid (∀ w', Below w.heap.size w w' → ∀ i, i < n → w'.cell? ⟨b, o + i, none⟩ = some (.string (tx ss i))) := fun w' h' i hi => by rw [h'.cell (by exact hbl)]; exact hc i hi
        clear hc
        have ck := HCC.out wr HB.out k hlt
        have kn : (k : Int) < (n : Int) := by omega
        have jn : (j : Int) < (n : Int) := by omega
        have HP1 : Hid (Calls Try.prog 23 #[.pointer (some ⟨p, 0, none⟩), .int .i64 k, .string (tx ss k)] wr fun e w' => e = .returned (.int .i64 0) ∧ OneS w' w1.heap.size p n (mks ss (k + 1)) ∧ Below w1.heap.size wr w') := by
          have := s_put HO.out (by omega) (k : Int) (tx ss k)
          rw [mks_code ss n k hlt, mks_put ss n k hlt] at this
          exact this
        have HP2 : Hid (∀ w'', OneS w'' w1.heap.size p n (mks ss (k + 1)) → Calls Try.prog 23 #[.pointer (some ⟨p, 0, none⟩), .int .i64 k, .string (tx ss k)] w'' fun e w' => e = .returned (.int .i64 5) ∧ OneS w' w1.heap.size p n (mks ss (k + 1)) ∧ Below w1.heap.size w'' w') := fun w'' h => by
          have := s_put h (by omega) (k : Int) (tx ss k)
          rw [mks_code5 ss n k hlt, mks_put5 ss n k hlt] at this
          exact this
        by_cases hlong : 60 < (tx ss k).size
        · have hlong' : (60 : Int) < ((tx ss k).size : Int) := by omega
          clear hlong HP1 HP2
          generalize tx ss k = s at *
          go_wp2_with fail
          go_ret
          exact ⟨rfl, HB.out⟩
        · have hlong' : ¬ (60 : Int) < ((tx ss k).size : Int) := by omega
          clear hlong
          have HT : Hid (Op.bytesLess (tx ss k).toList (tx ss j).toList = true → Lst ss (k + 1) k) := HLS.out.take
          have HS' : Hid (Op.bytesLess (tx ss k).toList (tx ss j).toList = false → Lst ss (k + 1) j) := HLS.out.stay
          have HCJ : Hid (∀ w', Below w.heap.size w w' → w'.cell? ⟨b, o + j, none⟩ = some (.string (tx ss j))) := fun w' h' => HCC.out w' h' j (by omega)
          have HCK : Hid (∀ w', Below w.heap.size w w' → w'.cell? ⟨b, o + k, none⟩ = some (.string (tx ss k))) := fun w' h' => HCC.out w' h' k hlt
          clear HCC
          generalize tx ss k = s at *
          generalize tx ss j = u at *
          go_wp2_with fail
          refine HP1.out.mono ?_
          rintro e w3 ⟨rfl, ho3, hb3⟩
          have HO3 : Hid (OneS w3 w1.heap.size p n (mks ss (k + 1))) := ho3
          have hb3' : Below w.heap.size w w3 := HB.out.trans (hb3.mono hs1)
          have HB3 : Hid (Below w.heap.size w w3) := hb3'
          have ck3 := HCK.out w3 hb3'
          clear ho3 hb3 hb3' ck
          go_wp2_with fail
          refine (HP2.out w3 HO3.out).mono ?_
          rintro e w4 ⟨rfl, ho4, hb4⟩
          have HO4 : Hid (OneS w4 w1.heap.size p n (mks ss (k + 1))) := ho4
          have hb4' : Below w.heap.size w w4 := HB3.out.trans (hb4.mono hs1)
          have HB4 : Hid (Below w.heap.size w w4) := hb4'
          have ck4 := HCK.out w4 hb4'
          have cj4 := HCJ.out w4 hb4'
          clear ho4 hb4 hb4' ck3
          cases hcmp : Op.bytesLess s.toList u.toList with
          | true =>
            have HL' : Hid (Lst ss (k + 1) k) := HT.out hcmp
            go_wp2_with fail
            go_quiet (fail)
            go_wp2_with fail
            go_roundw
            case rel => exact ⟨k + 1, k, by omega, by go_num, rfl, HL'.out, HO4.out.drewN _, below_drewN HB4.out _⟩
            case measure => simp [intOf]; omega
          | false =>
            have HL' : Hid (Lst ss (k + 1) j) := HS'.out hcmp
            go_wp2_with fail
            go_quiet (fail)
            go_wp2_with fail
            go_roundw
            case rel => exact ⟨k + 1, j, by omega, by go_num, rfl, HL'.out, HO4.out.drewN _, below_drewN HB4.out _⟩
            case measure => simp [intOf]; omega
      · obtain rfl : k = n := by omega
        have hpk := s_peek HO.out
        by_cases h0 : k = 0
        · subst h0
          rw [mks_zero, HM.firstOf_none (fun _ => rfl)] at hpk
          simp only [peekT] at hpk
          go_wp2_with fail
          refine hpk.mono ?_
          rintro e w3 ⟨rfl, ho3, hb3⟩
          go_wp2_with fail
          go_ret
          exact ⟨by simp, HB.out.trans (hb3.mono hs1)⟩
        · obtain ⟨b, o, rfl, hbl, hc⟩ := HC.out (by omega)
          have hj := HLS.out.2.1 h0
          have HCJ : Hid (∀ w', Below w.heap.size w w' → w'.cell? ⟨b, o + j, none⟩ = some (.string (tx ss j))) := fun w' h' => by rw [h'.cell (by exact hbl)]; exact hc j hj
          rw [HLS.out.first h0] at hpk
          simp only [peekT] at hpk
          have HCN : Hid (HM.cnt k (mks ss k) = k) := cnt_fullS (fun t ht => by unfold mks; rw [if_pos ht]; rfl)
          have jn : (j : Int) < (k : Int) := by omega
          have k0 : ((k : Int) == 0) = false := beq_eq_false_iff_ne.2 (by omega)
          generalize tx ss j = u at *
          clear hc
          go_wp2_with fail
          refine hpk.mono ?_
          rintro e w3 ⟨rfl, ho3, hb3⟩
          have hb3' : Below w.heap.size w w3 := HB.out.trans (hb3.mono hs1)
          have cj := HCJ.out w3 hb3'
          have hln := s_len ho3
          rw [HCN.out] at hln
          clear ho3 hb3 hpk
          go_wp2_with fail
          refine hln.mono ?_
          rintro e w4 ⟨rfl, rfl⟩
          go_wp2_with fail
          go_ret
          exact ⟨by simp, hb3'⟩
end Go.Proofs.Ytmmokmgljacddaa
