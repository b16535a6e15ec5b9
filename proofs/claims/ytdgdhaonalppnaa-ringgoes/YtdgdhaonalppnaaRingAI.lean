/-
  The walks of package ring's place, taken, Len, Room, Top, where things are of type int.
-/
import Derived.Test.YtdgdhaonalppnaaRingMem
import Derived.BigRegion
import Derived.BigQuiet
import Derived.BigFrame
import Derived.Deep.QuietTactic
import Derived.Deep.DeepCutAuto
import Derived.Deep.OwnRows
namespace Go.Proofs.Ytdgdhaonalppnaa
namespace RI
open Go.RowKit

section
variable {w : World} {B p bt n : Nat} {xs : List Value} {o c : Nat}
set_option maxHeartbeats 400000 in
theorem len_any (h : KMem 3 w B p bt n xs o c) :
    Calls Try.prog 15 #[.pointer (some ⟨p, 0, none⟩)] w fun e w' => e = .returned (.int .i64 (c : Nat)) ∧ w' = w := by
  have c2 := h.c2
  clear h
  go_enter Try.func15, Try.ntmps15
  go_wp2_with fail
  go_ret
  exact ⟨rfl, rfl⟩
set_option maxHeartbeats 400000 in
theorem room_any (h : KMem 3 w B p bt n xs o c) :
    Calls Try.prog 16 #[.pointer (some ⟨p, 0, none⟩)] w fun e w' => e = .returned (.int .i64 (n : Nat)) ∧ w' = w := by
  have c0 := h.c0
  clear h
  go_enter Try.func16, Try.ntmps16
  go_wp2_with fail
  go_ret
  exact ⟨rfl, rfl⟩
set_option maxHeartbeats 400000 in
theorem place_any (h : KMem 3 w B p bt n xs o c) (h1 : 1 ≤ n) (hn : n ≤ 32) (ho : o < n) (k : Nat) (hk : k ≤ 32) :
    Calls Try.prog 24 #[.pointer (some ⟨p, 0, none⟩), .int .i64 (k : Nat)] w fun e w' => e = .returned (.int .i64 ((o + k) % n : Nat)) ∧ ∃ m, w' = w.drewN m := by
  have c0 := h.c0
  have c1 := h.c1
  clear h
  obtain ⟨r, hr⟩ : ∃ r : Nat, r = (o + k) % n := ⟨_, rfl⟩
  have e4 : ((o : Int) + (k : Int)) % (n : Int) = (r : Int) := by rw [hr]; simp
  have hK0 : ((n : Int) == 0) = false := beq_eq_false_iff_ne.2 (by omega)
  have hK0' : ¬ (n : Int) = 0 := by omega
  rw [← hr]
  clear hr
  go_enter Try.func24, Try.ntmps24
  go_wp2_with fail
  go_quiet (fail)
  go_wp2_with fail
  go_ret
  exact ⟨ret_int e4, _, rfl⟩
/-- What lay at a place is wiped. -/
theorem wipe_any (h : KMem 3 w B p bt n xs o c) (k : Nat) (hk : k < n) (hxl : xs.length = n) (bs ba : Nat) (cs : w.cell? ⟨bs, 0, none⟩ = some (.pointer (some ⟨p, 0, none⟩))) (ca : w.cell? ⟨ba, 0, none⟩ = some (.int .i64 (k : Nat))) :
    Calls Try.prog 29 #[.pointer (some ⟨bs, 0, none⟩), .pointer (some ⟨ba, 0, none⟩)] w fun e w' => e = .returned (.tuple #[]) ∧ KMem 3 w' B p bt n (xs.set k ((Value.int .i64) (0 : Int))) o c ∧ Keeps (fun b => b = bt) w w' := by
  have c0 := h.c0
  obtain ⟨t1, g1⟩ := h.thing hk
  obtain ⟨x0, hx0⟩ : ∃ x0, xs[k]? = some x0 := ⟨_, List.getElem?_eq_getElem (by omega)⟩
  rw [hx0] at t1
  have lt1 : bt < w.heap.size := (h.lt bt (.inr rfl)).2
  have hb1 : Below w.heap.size w (w.alloc (.cells #[(Value.int .i64) (0 : Int)] 3)) := (Below.refl _ _).alloc (Nat.le_refl _) _
  have h2 := h.setThing k ((Value.int .i64) (0 : Int))
  have HM : Hid (KMem 3 ((w.setCell ⟨bt, k, none⟩ ((Value.int .i64) (0 : Int))).alloc (.cells #[(Value.int .i64) (0 : Int)] 3)) B p bt n (xs.set k ((Value.int .i64) (0 : Int))) o c) := h2.below ((Below.refl _ _).alloc (Nat.le_refl _) _)
  have HK : Hid (Keeps (fun b => b = bt) w ((w.setCell ⟨bt, k, none⟩ ((Value.int .i64) (0 : Int))).alloc (.cells #[(Value.int .i64) (0 : Int)] 3))) := (keeps_set w bt k _).alloc _
  have kn : (k : Int) < (n : Int) := by omega
  have hk1 := Below.keeps hb1 (fun _ => False)
  have cs1 := hk1.cell cs (fun h => h)
  have ca1 := hk1.cell ca (fun h => h)
  have c01 := hk1.cell c0 (fun h => h)
  have t11 := hk1.cell t1 (fun h => h)
  have g11 := (hk1.frozen (p := ⟨bt, k, none⟩) lt1 (fun h => h)).trans g1
  clear h h2 hx0 hb1 hk1
  go_enter Try.func29, Try.ntmps29
  go_wp2_with fail
  go_region
  all_goals (go_wp2_with fail)
  all_goals go_end0
  all_goals exact ⟨rfl, HM.out.drew, HK.out.drew⟩
set_option maxHeartbeats 1000000 in
theorem taken_any (h : KMem 3 w B p bt n xs o (c + 1)) (k : Nat) (hk : k < n) (_hn : n ≤ 32) (_hc : c ≤ 32) (hxl : xs.length = n) (v : Int) (hv : xs[k]? = some ((Value.int .i64) v)) :
    Calls Try.prog 23 #[.pointer (some ⟨p, 0, none⟩), .int .i64 (k : Nat)] w fun e w' => e = .returned ((Value.int .i64) v) ∧ KMem 3 w' B p bt n (xs.set k ((Value.int .i64) (0 : Int))) o c ∧ Keeps (kfoot p bt) w w' := by
  have hb1 : Below w.heap.size w ((w.alloc (.cells #[.pointer (some ⟨p, 0, none⟩)] 25)).alloc (.cells #[.int .i64 (k : Nat)] 3)) := ((Below.refl _ _).alloc (Nat.le_refl _) _).alloc (by simp) _
  have h1 := h.below hb1
  have HK1 : Hid (Keeps (kfoot p bt) w ((w.alloc (.cells #[.pointer (some ⟨p, 0, none⟩)] 25)).alloc (.cells #[.int .i64 (k : Nat)] 3))) := Below.keeps hb1 _
  have hp := (h.lt p (.inl rfl)).2
  have hbt := (h.lt bt (.inr rfl)).2
  have cs : ((w.alloc (.cells #[.pointer (some ⟨p, 0, none⟩)] 25)).alloc (.cells #[.int .i64 (k : Nat)] 3)).cell? ⟨w.heap.size, 0, none⟩ = some (.pointer (some ⟨p, 0, none⟩)) := by
    have hb : Below (w.alloc (.cells #[.pointer (some ⟨p, 0, none⟩)] 25)).heap.size (w.alloc (.cells #[.pointer (some ⟨p, 0, none⟩)] 25)) ((w.alloc (.cells #[.pointer (some ⟨p, 0, none⟩)] 25)).alloc (.cells #[.int .i64 (k : Nat)] 3)) := (Below.refl _ _).alloc (Nat.le_refl _) _
    exact (hb.cell (p := ⟨w.heap.size, 0, none⟩) (by simp)).trans (by simp)
  have ca : ((w.alloc (.cells #[.pointer (some ⟨p, 0, none⟩)] 25)).alloc (.cells #[.int .i64 (k : Nat)] 3)).cell? ⟨w.heap.size + 1, 0, none⟩ = some (.int .i64 (k : Nat)) := by
    simp
  have kn : (k : Int) < (n : Int) := by omega
  clear h hb1
  go_enter Try.func23, Try.ntmps23
  go_wp2_with fail
  generalize (w.alloc (.cells #[.pointer (some ⟨p, 0, none⟩)] 25)).alloc (.cells #[.int .i64 (k : Nat)] 3) = w1 at *
  have c0 := h1.c0
  obtain ⟨t1, -⟩ := h1.thing hk
  rw [hv] at t1
  have H1 : Hid (KMem 3 w1 B p bt n xs o (c + 1)) := h1
  clear h1
  go_quiet (fail)
  have h2 := H1.out.drewN nq
  have HK2 : Hid (Keeps (kfoot p bt) w (w1.drewN nq)) := HK1.out.drewN
  have cs2 : (w1.drewN nq).cell? ⟨w.heap.size, 0, none⟩ = some (.pointer (some ⟨p, 0, none⟩)) := cs
  have ca2 : (w1.drewN nq).cell? ⟨w.heap.size + 1, 0, none⟩ = some (.int .i64 (k : Nat)) := ca
  clear cs ca c0 t1 H1 HK1
  generalize w1.drewN nq = w2 at *
  have hwp := wipe_any h2 k hk hxl _ _ cs2 ca2
  clear h2
  go_wp2_with fail
  refine hwp.mono ?_
  rintro e w3 ⟨rfl, h3, k3⟩
  have c2 := h3.c2
  have f2 := h3.f2
  have cs3 := k3.cell cs2 (by simp; omega)
  have H4 : Hid (KMem 3 (w3.setCell ⟨p, 2, none⟩ (.int .i64 (c : Nat))) B p bt n (xs.set k ((Value.int .i64) (0 : Int))) o c) := h3.setCount c
  have HK4 : Hid (Keeps (kfoot p bt) w (w3.setCell ⟨p, 2, none⟩ (.int .i64 (c : Nat)))) := (HK2.out.trans k3 (fun b hb => .inl (.inr hb))).setCell (p := ⟨p, 2, none⟩) (.inl (.inl rfl)) _
  clear hwp cs2 ca2 h3 k3 HK2
  go_wp2_with fail
  go_ret
  exact ⟨rfl, H4.out, HK4.out⟩
variable {L : List Int}
set_option maxHeartbeats 1000000 in
theorem top_any (h : KMem 3 w B p bt n xs o L.length) (hr : RK.Rep (Value.int .i64) n o xs L) (hn : n ≤ 32) :
    Calls Try.prog 13 #[.pointer (some ⟨p, 0, none⟩)] w fun e w' => e = .returned (getT (Value.int .i64) (0 : Int) L.getLast?) ∧ Below w.heap.size w w' := by
  have c2 := h.c2
  rcases RK.last_cases L with rfl | ⟨l, v, rfl⟩
  · simp only [List.length_nil, List.getLast?_nil, getT] at c2 ⊢
    clear h hr
    go_enter Try.func13, Try.ntmps13
    go_wp2_with fail
    go_ret2
    exact ⟨rfl, (Below.refl _ _).alloc (Nat.le_refl _) _⟩
  · rw [List.getLast?_concat]
    simp only [List.length_append, List.length_cons, List.length_nil, getT] at c2 ⊢
    have hl := hr.len
    simp at hl
    have HP : Hid (∀ q, Calls Try.prog 24 #[.pointer (some ⟨p, 0, none⟩), .int .i64 (l.length : Nat)] (w.drewN q) fun e w' => e = .returned (.int .i64 ((o + l.length) % n : Nat)) ∧ ∃ m, w' = (w.drewN q).drewN m) := fun q => place_any (h.drewN q) hr.lo hn hr.ho l.length (by omega)
    have c0 := h.c0
    have ht := hr.top
    have hlt : (o + l.length) % n < n := RK.md_lt hr.lo _
    generalize (o + l.length) % n = k at *
    obtain ⟨t1, -⟩ := h.thing hlt
    rw [ht] at t1
    have kn : (k : Int) < (n : Int) := by omega
    clear h hr ht
    generalize l.length = c at *
    go_enter Try.func13, Try.ntmps13
    go_wp2_with fail
    go_quiet ((go_at_call 24; exact Calls.quiet_of (HP.out _)))
    go_wp2_with fail
    go_ret2
    exact ⟨rfl, below_drewN (Below.refl _ _) _⟩
set_option maxHeartbeats 1000000 in
theorem pop_any (h : KMem 3 w B p bt n xs o L.length) (hr : RK.Rep (Value.int .i64) n o xs L) (hn : n ≤ 32) :
    Calls Try.prog 9 #[.pointer (some ⟨p, 0, none⟩)] w fun e w' => e = .returned (getT (Value.int .i64) (0 : Int) L.getLast?) ∧
      ∃ xs', KMem 3 w' B p bt n xs' o L.dropLast.length ∧ RK.Rep (Value.int .i64) n o xs' L.dropLast ∧ Keeps (kfoot p bt) w w' := by
  have c2 := h.c2
  rcases RK.last_cases L with rfl | ⟨l, v, rfl⟩
  · have HM : Hid (KMem 3 (w.alloc (.cells #[(Value.int .i64) (0 : Int)] 3)) B p bt n xs o 0) := h.below ((Below.refl _ _).alloc (Nat.le_refl _) _)
    have HR : Hid (RK.Rep (Value.int .i64) n o xs ([] : List Int)) := hr
    simp only [List.length_nil, List.getLast?_nil, getT] at c2 ⊢
    clear h hr
    go_enter Try.func9, Try.ntmps9
    go_wp2_with fail
    go_ret2
    exact ⟨rfl, xs, HM.out, HR.out, (Keeps.refl _ _).alloc _⟩
  · rw [List.getLast?_concat, List.dropLast_concat]
    simp only [List.length_append, List.length_cons, List.length_nil, getT] at c2 ⊢
    have hl := hr.len
    simp at hl
    have hpl := place_any h hr.lo hn hr.ho l.length (by omega)
    have H1 : Hid (KMem 3 w B p bt n xs o (l.length + 1)) := by
      show KMem _ _ _ _ _ _ _ _ _
      simpa using h
    have ht := hr.top
    have hlt : (o + l.length) % n < n := RK.md_lt hr.lo _
    have HR : Hid (RK.Rep (Value.int .i64) n o (xs.set ((o + l.length) % n) ((Value.int .i64) (0 : Int))) l) := hr.last _
    have hxl := hr.xl
    clear h hr
    generalize (o + l.length) % n = k at *
    have HRl : Hid (l.length ≤ 32) := by show _ ≤ _; omega
    generalize l.length = c at *
    go_enter Try.func9, Try.ntmps9
    go_wp2_with fail
    refine hpl.mono ?_
    rintro e w1 ⟨rfl, m, rfl⟩
    have htk := taken_any (H1.out.drewN m) k hlt hn HRl.out hxl v ht
    clear hpl
    go_wp2_with fail
    refine htk.mono ?_
    rintro e w2 ⟨rfl, h2, k2⟩
    clear htk
    go_wp2_with fail
    go_ret2
    exact ⟨rfl, _, h2, HR.out, (Keeps.refl _ _).drewN.trans k2 (fun _ h => .inl h)⟩
end
end RI
end Go.Proofs.Ytdgdhaonalppnaa
