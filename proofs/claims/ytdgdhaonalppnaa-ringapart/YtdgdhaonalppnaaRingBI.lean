/-
  The walks of package ring's New and Push, where things are of type int.
-/
import Derived.Test.YtdgdhaonalppnaaRingAI
import Derived.Deep.RegionHeld3
namespace Go.Proofs.Ytdgdhaonalppnaa
namespace RI
open Go.RowKit

theorem infoT : (Try.prog.info? 3).map (fun i => (i.zero, i.size, i.bytes)) = some (some ((Value.int .i64) (0 : Int)), 1, 8) := by kernel_rfl
theorem made_things (w : World) (B n : Nat) (hB : B ≤ w.heap.size) (hn : n ≤ 32) : (w.alloc (.cells (madeCells #[(Value.int .i64) (0 : Int)] n) 3)).ownsRow B 3 1 (.slice (some ⟨w.heap.size, 0, none⟩) n n) n (List.replicate n ((Value.int .i64) (0 : Int))) := by
  have h := World.ownsRow_lit (base := B) (e := 3) (size := 1) w (madeCells #[(Value.int .i64) (0 : Int)] n) n hB (by unfold maxLen; omega) (by rw [size_madeCells]; omega)
  rw [toList_madeCells_one] at h
  simpa using h
set_option maxHeartbeats 2000000 in
theorem new_any (n : Nat) (h1 : 1 ≤ n) (hn : n ≤ 32) (w : World) :
    Calls Try.prog 8 #[.int .i64 n] w fun e w' => ∃ p bt xs, e = .returned (.tuple #[.pointer (some ⟨p, 0, none⟩), .int .i64 0]) ∧
      KMem 3 w' w.heap.size p bt n xs 0 0 ∧ RK.Rep (Value.int .i64) n 0 xs [] ∧ Below w.heap.size w w' := by
  have hmk := run_make_row' (P := Try.prog) 22 3 ((Value.int .i64) (0 : Int)) 8 Try.underlying22 infoT rfl .i64 .i64 n (by omega) (by omega)
  have HR : Hid (RK.Rep (Value.int .i64) n 0 (List.replicate n ((Value.int .i64) (0 : Int))) []) := RK.rep_new h1 (by simp)
  go_enter Try.func8, Try.ntmps8
  go_wp2_with fail
  go_ret2
  exact ⟨_, _, _, rfl, kmem_new (made_things w w.heap.size n (Nat.le_refl _) hn) (by simp) (by simp), HR.out, (((Below.refl _ w).alloc (Nat.le_refl _) _).alloc (by simp) _)⟩
set_option maxHeartbeats 2000000 in
theorem new_bad (n : Int) (hn : n < 1 ∨ 32 < n) (w : World) :
    Calls Try.prog 8 #[.int .i64 n] w fun e w' => e = .returned (.tuple #[.pointer none, .int .i64 1]) ∧ w' = w := by
  by_cases h0 : n < 1
  · go_enter Try.func8, Try.ntmps8
    go_wp2_with fail
    go_ret2
    exact ⟨rfl, rfl⟩
  · have h1 : 32 < n := by omega
    clear hn
    go_enter Try.func8, Try.ntmps8
    go_wp2_with fail
    go_ret2
    exact ⟨rfl, rfl⟩
section
variable {w : World} {B p bt n : Nat} {xs : List Value} {o c : Nat} {L : List Int}
set_option maxHeartbeats 2000000 in
theorem push_room (h : KMem 3 w B p bt n xs o L.length) (hr : RK.Rep (Value.int .i64) n o xs L) (hn : n ≤ 32) (hl : L.length < n) (v : Int) :
    Calls Try.prog 11 #[.pointer (some ⟨p, 0, none⟩), (Value.int .i64) v] w fun e w' => e = .returned (.tuple #[(Value.int .i64) (0 : Int), .bool false]) ∧
      ∃ xs', KMem 3 w' B p bt n xs' o (L.length + 1) ∧ RK.Rep (Value.int .i64) n o xs' (L ++ [v]) ∧ Keeps (kfoot p bt) w w' := by
  have HR : Hid (RK.Rep (Value.int .i64) n o (xs.set ((o + L.length) % n) ((Value.int .i64) v)) (L ++ [v])) := hr.push hl v
  have HRM : Hid (∀ w', Below w.heap.size w w' → Calls Try.prog 16 #[.pointer (some ⟨p, 0, none⟩)] w' fun e w'' => e = .returned (.int .i64 (n : Nat)) ∧ w'' = w') := fun w' hb => room_any (h.below hb)
  have HPL : Hid (∀ w', KMem 3 w' B p bt n xs o L.length → Calls Try.prog 24 #[.pointer (some ⟨p, 0, none⟩), .int .i64 (L.length : Nat)] w' fun e w'' => e = .returned (.int .i64 ((o + L.length) % n : Nat)) ∧ ∃ m, w'' = w'.drewN m) := fun w' h' => place_any h' hr.lo hn hr.ho L.length (by omega)
  have hlt : (o + L.length) % n < n := RK.md_lt hr.lo _
  have hxl := hr.xl
  have hb1 : Below w.heap.size w (w.alloc (.cells #[(Value.int .i64) (0 : Int)] 3)) := (Below.refl _ _).alloc (Nat.le_refl _) _
  have c2 := h.c2
  have c21 := (h.below hb1).c2
  clear hr hb1
  generalize (o + L.length) % n = k at *
  generalize L.length = c at *
  have e1 : ((c : Int) == (n : Int)) = false := beq_eq_false_iff_ne.2 (by omega)
  go_enter Try.func11, Try.ntmps11
  go_upto_region 1 with fail
  go_cut [6, 7] (fun g f wx => g = (Value.int .i64) (0 : Int) ∧ f = .bool false ∧ KMem 3 wx B p bt n xs o c ∧ Keeps (kfoot p bt) w wx)
  case first =>
    have HM : Hid (∀ w', Below w.heap.size w w' → KMem 3 w' B p bt n xs o c ∧ Keeps (kfoot p bt) w w') := fun w' hb => ⟨h.below hb, Below.keeps hb _⟩
    clear h
    go_region_with (go_at_call 16; refine (HRM.out _ ?_).mono ?_; (first | exact (Below.refl _ _).drew | exact ((Below.refl _ _).alloc (Nat.le_refl _) _).drew); rintro e w1 ⟨rfl, rfl⟩)
    all_goals (go_wp2_with fail)
    all_goals go_meet
    all_goals first
      | exact ⟨rfl, rfl, HM.out _ ((Below.refl _ _).alloc (Nat.le_refl _) _).drew⟩
      | trace_state
  case rest =>
    obtain ⟨rfl, rfl, hm, hk⟩ := hcut
    clear c2 c21 HRM
    have c0 := hm.c0
    have c2 := hm.c2
    have f2 := hm.f2
    have n1 := hm.n1
    obtain ⟨t1, g1⟩ := hm.thing hlt
    obtain ⟨x0, hx0⟩ : ∃ x0, xs[k]? = some x0 := ⟨_, List.getElem?_eq_getElem (by omega)⟩
    rw [hx0] at t1
    have kn : (k : Int) < (n : Int) := by omega
    have HM : Hid (KMem 3 wc B p bt n xs o c) := hm
    have HK : Hid (Keeps (kfoot p bt) w wc) := hk
    clear hm hk hx0
    go_wp2_with fail
    go_region_with (go_at_call 24; refine (HPL.out _ HM.out.drew).mono ?_; rintro e w1 ⟨rfl, m, rfl⟩)
    all_goals (go_wp2_with fail; go_ret2)
    all_goals exact ⟨rfl, _, ((HM.out.drewN _).setThing k _).setCount (c + 1), HR.out, (HK.out.drewN.setCell (p := ⟨bt, k, none⟩) (.inl (.inr rfl)) _).setCell (p := ⟨p, 2, none⟩) (.inl (.inl rfl)) _⟩
set_option maxHeartbeats 2000000 in
theorem push_full {u : Int} (h : KMem 3 w B p bt n xs o (L.length + 1)) (hr : RK.Rep (Value.int .i64) n o xs (u :: L)) (hn : n ≤ 32) (hl : L.length + 1 = n) (v : Int) :
    Calls Try.prog 11 #[.pointer (some ⟨p, 0, none⟩), (Value.int .i64) v] w fun e w' => e = .returned (.tuple #[(Value.int .i64) u, .bool true]) ∧
      ∃ o' xs', KMem 3 w' B p bt n xs' o' (L.length + 1) ∧ RK.Rep (Value.int .i64) n o' xs' (L ++ [v]) ∧ Keeps (kfoot p bt) w w' := by
  have hr1 := hr.first ((Value.int .i64) (0 : Int))
  have HR : Hid (RK.Rep (Value.int .i64) n ((o + 1) % n) ((xs.set o ((Value.int .i64) (0 : Int))).set (((o + 1) % n + L.length) % n) ((Value.int .i64) v)) (L ++ [v])) := hr1.push (by omega) v
  have HRM : Hid (∀ w', Below w.heap.size w w' → Calls Try.prog 16 #[.pointer (some ⟨p, 0, none⟩)] w' fun e w'' => e = .returned (.int .i64 (n : Nat)) ∧ w'' = w') := fun w' hb => room_any (h.below hb)
  have HTK : Hid (∀ w', KMem 3 w' B p bt n xs o (L.length + 1) → Calls Try.prog 23 #[.pointer (some ⟨p, 0, none⟩), .int .i64 (o : Nat)] w' fun e w'' => e = .returned ((Value.int .i64) u) ∧ KMem 3 w'' B p bt n (xs.set o ((Value.int .i64) (0 : Int))) o L.length ∧ Keeps (kfoot p bt) w' w'') := fun w' h' => taken_any h' o hr.ho hn (by omega) hr.xl u hr.old
  have HP1 : Hid (∀ w', KMem 3 w' B p bt n (xs.set o ((Value.int .i64) (0 : Int))) o L.length → Calls Try.prog 24 #[.pointer (some ⟨p, 0, none⟩), .int .i64 ((1 : Nat) : Int)] w' fun e w'' => e = .returned (.int .i64 ((o + 1) % n : Nat)) ∧ ∃ m, w'' = w'.drewN m) := fun w' h' => place_any h' hr.lo hn hr.ho 1 (by decide)
  have HPL : Hid (∀ w', KMem 3 w' B p bt n (xs.set o ((Value.int .i64) (0 : Int))) ((o + 1) % n) L.length → Calls Try.prog 24 #[.pointer (some ⟨p, 0, none⟩), .int .i64 (L.length : Nat)] w' fun e w'' => e = .returned (.int .i64 (((o + 1) % n + L.length) % n : Nat)) ∧ ∃ m, w'' = w'.drewN m) := fun w' h' => place_any h' hr.lo hn hr1.ho L.length (by omega)
  have hlt : ((o + 1) % n + L.length) % n < n := RK.md_lt hr.lo _
  have hxl := hr1.xl
  have hb1 : Below w.heap.size w (w.alloc (.cells #[(Value.int .i64) (0 : Int)] 3)) := (Below.refl _ _).alloc (Nat.le_refl _) _
  have c2 := h.c2
  have c21 := (h.below hb1).c2
  clear hr hr1 hb1
  generalize ((o + 1) % n + L.length) % n = k at *
  generalize (o + 1) % n = o1 at *
  generalize L.length = c at *
  subst hl
  go_enter Try.func11, Try.ntmps11
  go_upto_region 1 with fail
  go_cut [6, 7] (fun g f wx => g = (Value.int .i64) (0 : Int) ∧ f = .bool true ∧ KMem 3 wx B p bt (c + 1) xs o (c + 1) ∧ Keeps (kfoot p bt) w wx)
  case first =>
    have HM : Hid (∀ w', Below w.heap.size w w' → KMem 3 w' B p bt (c + 1) xs o (c + 1) ∧ Keeps (kfoot p bt) w w') := fun w' hb => ⟨h.below hb, Below.keeps hb _⟩
    clear h
    go_region_with (go_at_call 16; refine (HRM.out _ ?_).mono ?_; (first | exact (Below.refl _ _).drew | exact ((Below.refl _ _).alloc (Nat.le_refl _) _).drew); rintro e w1 ⟨rfl, rfl⟩)
    all_goals (go_wp2_with fail)
    all_goals go_meet
    all_goals exact ⟨rfl, rfl, HM.out _ ((Below.refl _ _).alloc (Nat.le_refl _) _).drew⟩
  case rest =>
    obtain ⟨rfl, rfl, hm, hk⟩ := hcut
    clear c2 c21 HRM h
    have c1 := hm.c1
    have htk := HTK.out _ hm
    have HK : Hid (Keeps (kfoot p bt) w wc) := hk
    clear hm hk HTK
    go_wp2_with fail
    refine htk.mono ?_
    rintro e w2 ⟨rfl, h2, k2⟩
    have hp1 := HP1.out _ h2
    have HM2 : Hid (KMem 3 w2 B p bt (c + 1) (xs.set o ((Value.int .i64) (0 : Int))) o c) := h2
    have HK2 : Hid (Keeps (kfoot p bt) w w2) := HK.out.trans k2 (fun _ h => .inl h)
    have d1 := h2.c1
    have g1 := h2.f1
    clear htk h2 k2 c1 HK HP1
    go_wp2_with fail
    refine hp1.mono ?_
    rintro e w3 ⟨rfl, m3, rfl⟩
    have hm := (HM2.out.drewN m3).setOld o1
    have hk := (Keeps.drewN (q := m3) HK2.out).setCell (p := ⟨p, 1, none⟩) (.inl (.inl rfl)) (.int .i64 (o1 : Nat))
    clear hp1 HM2 HK2
    go_upto_region 5 with fail
    generalize (w2.drewN m3).setCell ⟨p, 1, none⟩ (.int .i64 (o1 : Nat)) = wd at *
    clear d1 g1
    have c0 := hm.c0
    have c2 := hm.c2
    have f2 := hm.f2
    have n1 := hm.n1
    obtain ⟨t1, g1⟩ := hm.thing hlt
    obtain ⟨x0, hx0⟩ : ∃ x0, (xs.set o ((Value.int .i64) (0 : Int)))[k]? = some x0 := ⟨_, List.getElem?_eq_getElem (by omega)⟩
    rw [hx0] at t1
    have kn : (k : Int) < ((c + 1 : Nat) : Int) := by omega
    have HM : Hid (KMem 3 wd B p bt (c + 1) (xs.set o ((Value.int .i64) (0 : Int))) o1 c) := hm
    have HK : Hid (Keeps (kfoot p bt) w wd) := hk
    clear hm hk hx0
    go_region_with (go_at_call 24; refine (HPL.out _ HM.out.drew).mono ?_; rintro e w1 ⟨rfl, m, rfl⟩)
    all_goals (go_wp2_with fail; go_ret2)
    all_goals exact ⟨rfl, _, _, ((HM.out.drewN _).setThing k _).setCount (c + 1), HR.out, (HK.out.drewN.setCell (p := ⟨bt, k, none⟩) (.inl (.inr rfl)) _).setCell (p := ⟨p, 2, none⟩) (.inl (.inl rfl)) _⟩
end
end RI
end Go.Proofs.Ytdgdhaonalppnaa
