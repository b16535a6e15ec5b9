/-
  GraphOps, GraphRef.
-/
import Derived.Test.YtkcfepppnclniaaGreatDoorMmGraphIns
import Derived.Test.YtkcfepppnclniaaGreatDoorMmGraphChgS
import Derived.Test.YtkcfepppnclniaaGreatDoorMmGraphIds
section
/-
  The walks of graph's Delete, Close, Reopen and Weigh, and of the law's Do.
-/
namespace Go.Proofs.YtkcfepppnclniaaGreatDoor
open Go.RowKit

/-- The ways out of the three closures. -/
theorem del1_out {B : Nat} {w W : World} {t : Array Value} {g : Nat} {a : Arc} {k : Int} (ht : t[2]?.getD undef = .pointer (some ⟨g, 0, none⟩)) (h5 : t[3]?.getD undef = .int .i64 k) (hin : ArcIn W g 0 a) (hB : Below B w W) :
    bodyPost Tryz.prog Tryz.f81 (fun e w' => e = .returned (.tuple #[arcV a, .int .i64 k]) ∧ Below B w w') Exit.ret { tmps := t, defers := [] } W := by
  obtain ⟨r0, r1, r2, r3⟩ := hin
  simp only [Nat.zero_add] at r1 r2 r3
  refine bodyPost_ret (v := .tuple #[arcV a, .int .i64 k]) ?_ rfl ⟨rfl, hB⟩
  unfold arcV
  simp [results, Tryz.f81, go_sem, ht, h5, r0, r1, r2, r3]
theorem shut1_out {B : Nat} {w W : World} {t : Array Value} {g : Nat} {a : Arc} {k : Int} (ht : t[3]?.getD undef = .pointer (some ⟨g, 0, none⟩)) (h5 : t[4]?.getD undef = .int .i64 k) (hin : ArcIn W g 0 a) (hB : Below B w W) :
    bodyPost Tryz.prog Tryz.f104 (fun e w' => e = .returned (.tuple #[arcV a, .int .i64 k]) ∧ Below B w w') Exit.ret { tmps := t, defers := [] } W := by
  obtain ⟨r0, r1, r2, r3⟩ := hin
  simp only [Nat.zero_add] at r1 r2 r3
  refine bodyPost_ret (v := .tuple #[arcV a, .int .i64 k]) ?_ rfl ⟨rfl, hB⟩
  unfold arcV
  simp [results, Tryz.f104, go_sem, ht, h5, r0, r1, r2, r3]
theorem weigh1_out {B : Nat} {w W : World} {t : Array Value} {g : Nat} {a : Arc} {k : Int} (ht : t[3]?.getD undef = .pointer (some ⟨g, 0, none⟩)) (h5 : t[4]?.getD undef = .int .i64 k) (hin : ArcIn W g 0 a) (hB : Below B w W) :
    bodyPost Tryz.prog Tryz.f83 (fun e w' => e = .returned (.tuple #[arcV a, .int .i64 k]) ∧ Below B w w') Exit.ret { tmps := t, defers := [] } W := by
  obtain ⟨r0, r1, r2, r3⟩ := hin
  simp only [Nat.zero_add] at r1 r2 r3
  refine bodyPost_ret (v := .tuple #[arcV a, .int .i64 k]) ?_ rfl ⟨rfl, hB⟩
  unfold arcV
  simp [results, Tryz.f83, go_sem, ht, h5, r0, r1, r2, r3]
/-- Two arcs in blocks just laid, the second one's. -/
theorem second_new (w : World) (cs : Array Value) (t h x : Int) (c : Bool) : ArcIn ((w.alloc (.cells cs 35)).alloc (.cells #[.int .i64 t, .int .i64 h, .int .i64 x, .bool c] 35)) (w.heap.size + 1) 0 ⟨t, h, x, c⟩ := by
  have := arcIn_new (w.alloc (.cells cs 35)) t h x c
  rwa [World.size_alloc] at this
theorem below_two (w : World) (o o' : Obj) : Below w.heap.size w ((w.alloc o).alloc o') := ((Below.refl _ _).alloc (Nat.le_refl _) _).alloc (by simp) _
set_option maxHeartbeats 1000000 in
theorem del1_any (a : Arc) (w : World) :
    Calls Tryz.prog 81 #[arcV a] w fun e w' => e = .returned (.tuple #[arcV noArc, .int .i64 0]) ∧ Below w.heap.size w w' := by
  obtain ⟨t, h, x, c⟩ := a
  have HN : Hid (ArcIn ((w.alloc (.cells #[.int .i64 t, .int .i64 h, .int .i64 x, .bool c] 35)).alloc (.cells #[.int .i64 0, .int .i64 0, .int .i64 0, .bool false] 35)) (w.heap.size + 1) 0 noArc) := second_new _ _ _ _ _ _
  have e : arcV ⟨t, h, x, c⟩ = .agg #[.int .i64 t, .int .i64 h, .int .i64 x, .bool c] := rfl
  rw [e]
  clear e
  go_enter Tryz.func81, Tryz.ntmps81
  go_wp2_with fail
  exact del1_out rfl rfl HN.out (below_two _ _ _)
def weighed (y : Int) (a : Arc) : Arc := { a with weight := y }
def shutBy (b : Bool) (a : Arc) : Arc := { a with closed := b }
set_option maxHeartbeats 1000000 in
theorem weigh1_any (a : Arc) (B : Nat) (y : Int) (w : World) (hc : w.cell? ⟨B, 0, none⟩ = some (.int .i64 y)) :
    Calls Tryz.prog 83 #[arcV a, .pointer (some ⟨B, 0, none⟩)] w fun e w' => e = .returned (.tuple #[arcV (weighed y a), .int .i64 0]) ∧ Below w.heap.size w w' := by
  obtain ⟨t, h, x, c⟩ := a
  have hBl := cell_lt hc
  have hB : (⟨B, 0, none⟩ : Addr).block < w.heap.size := hBl
  have HN : Hid (ArcIn ((w.alloc (.cells #[.int .i64 t, .int .i64 h, .int .i64 y, .bool c] 35)).alloc (.cells #[.int .i64 t, .int .i64 h, .int .i64 y, .bool c] 35)) (w.heap.size + 1) 0 ⟨t, h, y, c⟩) := second_new _ _ _ _ _ _
  have e : arcV ⟨t, h, x, c⟩ = .agg #[.int .i64 t, .int .i64 h, .int .i64 x, .bool c] := rfl
  have e' : weighed y ⟨t, h, x, c⟩ = ⟨t, h, y, c⟩ := rfl
  rw [e, e']
  clear e e'
  dsimp only at hBl
  go_enter Tryz.func83, Tryz.ntmps83
  go_wp2_with fail
  exact weigh1_out rfl rfl HN.out (below_two _ _ _)
set_option maxHeartbeats 1000000 in
theorem shut1_any (a : Arc) (B : Nat) (b : Bool) (w : World) (hc : w.cell? ⟨B, 0, none⟩ = some (.bool b)) :
    Calls Tryz.prog 104 #[arcV a, .pointer (some ⟨B, 0, none⟩)] w fun e w' => e = .returned (.tuple #[arcV (shutBy b a), .int .i64 (if a.closed = b then 5 else 0)]) ∧ Below w.heap.size w w' := by
  obtain ⟨t, h, x, c⟩ := a
  have hBl := cell_lt hc
  have hB : (⟨B, 0, none⟩ : Addr).block < w.heap.size := hBl
  have e : arcV ⟨t, h, x, c⟩ = .agg #[.int .i64 t, .int .i64 h, .int .i64 x, .bool c] := rfl
  have e' : shutBy b ⟨t, h, x, c⟩ = ⟨t, h, x, b⟩ := rfl
  rw [e, e']
  clear e e'
  dsimp only at hBl ⊢
  have HN : Hid (ArcIn ((w.alloc (.cells #[.int .i64 t, .int .i64 h, .int .i64 x, .bool b] 35)).alloc (.cells #[.int .i64 t, .int .i64 h, .int .i64 x, .bool b] 35)) (w.heap.size + 1) 0 ⟨t, h, x, b⟩) := second_new _ _ _ _ _ _
  by_cases hcb : c = b
  · subst hcb
    rw [if_pos rfl]
    go_enter Tryz.func104, Tryz.ntmps104
    go_wp2_with fail
    exact shut1_out rfl rfl HN.out (below_two _ _ _)
  · rw [if_neg hcb]
    have hcb' : (c == b) = false := beq_eq_false_iff_ne.2 hcb
    go_enter Tryz.func104, Tryz.ntmps104
    go_wp2_with fail
    exact shut1_out rfl rfl HN.out (below_two _ _ _)

set_option maxHeartbeats 1000000 in
theorem delete_any {w : World} {p N most : Nat} {m : GM.M} (hg : GMem w p N most m) (hm : GM.Good most m) (id : Int) :
    Calls Tryz.prog 49 #[.pointer (some ⟨p, 0, none⟩), .int .i64 id] w fun e w' => e = .returned (.int .i64 (GM.atCode m id)) ∧ GMem w' p N most (GM.del m id) ∧ Keeps (fun b => b = p) w w' := by
  have hch := change_d hg hm id (fun _ => (noArc, 0)) none rfl (fun W a _ => del1_any a W)
  have HE : Hid ((if GM.atCode m id = 0 then (0 : Int) else GM.atCode m id) = GM.atCode m id) := by
    show _ = _
    split
    · rename_i h; exact h.symm
    · rfl
  have HM : Hid ((if GM.atCode m id = 0 ∧ (0 : Int) = 0 then GM.upd m id.toNat none else m) = GM.del m id) := by
    show _ = _
    unfold GM.del
    simp
  dsimp only at hch
  rw [HE.out, HM.out] at hch
  clear HE HM hg hm
  generalize GM.atCode m id = k at *
  go_enter Tryz.func49, Tryz.ntmps49
  go_wp2_with fail
  refine hch.mono ?_
  rintro e w2 ⟨rfl, h2, h3⟩
  have HR : Hid (GMem w2 p N most (GM.del m id) ∧ Keeps (fun b => b = p) w w2) := ⟨h2, h3⟩
  clear hch h2 h3
  go_wp2_with fail
  go_ret
  exact ⟨rfl, HR.out⟩
set_option maxHeartbeats 1000000 in
theorem shut_any {w : World} {p N most : Nat} {m : GM.M} (hg : GMem w p N most m) (hm : GM.Good most m) (id : Int) (b : Bool) :
    Calls Tryz.prog 82 #[.pointer (some ⟨p, 0, none⟩), .int .i64 id, .bool b] w fun e w' => e = .returned (.int .i64 (GM.turnCode m id b)) ∧ GMem w' p N most (GM.turn m id b) ∧ Keeps (fun b => b = p) w w' := by
  have hb1 : Below w.heap.size w (w.alloc (.cells #[.bool b] 4)) := (Below.refl _ _).alloc (Nat.le_refl _) _
  have hbx := Boxed.new w 4 (.bool b)
  have hch := change_s (hg.on hb1) hm id w.heap.size (fun a => (shutBy b a, if a.closed = b then 5 else 0)) (some (shutBy b (GM.arc m id.toNat))) rfl
    (fun W a hW => shut1_any a w.heap.size b W (Boxed.cell (t := 4) ((hW.block w.heap.size (by simp)).trans hbx)))
  have HE : Hid ((if GM.atCode m id = 0 then (if (GM.arc m id.toNat).closed = b then (5 : Int) else 0) else GM.atCode m id) = GM.turnCode m id b) := rfl
  have HM : Hid ((if GM.atCode m id = 0 ∧ (if (GM.arc m id.toNat).closed = b then (5 : Int) else 0) = 0 then GM.upd m id.toNat (some (shutBy b (GM.arc m id.toNat))) else m) = GM.turn m id b) := by
    show _ = _
    unfold GM.turn GM.turnCode
    by_cases h0 : GM.atCode m id = 0
    · simp only [h0, if_true, true_and]
      rfl
    · simp only [h0, if_false, false_and]
  dsimp only at hch
  rw [HE.out, HM.out] at hch
  have HK : Hid (Keeps (fun b => b = p) w (w.alloc (.cells #[.bool b] 4))) := Below.keeps hb1 _
  clear HE HM hg hm hb1 hbx
  generalize GM.turnCode m id b = k at *
  go_enter Tryz.func82, Tryz.ntmps82
  go_wp2_with fail
  refine hch.mono ?_
  rintro e w2 ⟨rfl, h2, h3⟩
  have HR : Hid (GMem w2 p N most (GM.turn m id b) ∧ Keeps (fun b => b = p) w w2) := ⟨h2, HK.out.trans h3 (fun _ h => .inl h)⟩
  clear hch h2 h3
  go_wp2_with fail
  go_ret
  exact ⟨rfl, HR.out⟩
set_option maxHeartbeats 1000000 in
theorem close_any {w : World} {p N most : Nat} {m : GM.M} (hg : GMem w p N most m) (hm : GM.Good most m) (id : Int) :
    Calls Tryz.prog 50 #[.pointer (some ⟨p, 0, none⟩), .int .i64 id] w fun e w' => e = .returned (.int .i64 (GM.turnCode m id true)) ∧ GMem w' p N most (GM.turn m id true) ∧ Keeps (fun b => b = p) w w' := by
  have hch := shut_any hg hm id true
  clear hg hm
  generalize GM.turnCode m id true = k at *
  go_enter Tryz.func50, Tryz.ntmps50
  go_wp2_with fail
  refine hch.mono ?_
  rintro e w2 ⟨rfl, h2, h3⟩
  have HR : Hid (GMem w2 p N most (GM.turn m id true) ∧ Keeps (fun b => b = p) w w2) := ⟨h2, h3⟩
  clear hch h2 h3
  go_wp2_with fail
  go_ret
  exact ⟨rfl, HR.out⟩
set_option maxHeartbeats 1000000 in
theorem reopen_any {w : World} {p N most : Nat} {m : GM.M} (hg : GMem w p N most m) (hm : GM.Good most m) (id : Int) :
    Calls Tryz.prog 51 #[.pointer (some ⟨p, 0, none⟩), .int .i64 id] w fun e w' => e = .returned (.int .i64 (GM.turnCode m id false)) ∧ GMem w' p N most (GM.turn m id false) ∧ Keeps (fun b => b = p) w w' := by
  have hch := shut_any hg hm id false
  clear hg hm
  generalize GM.turnCode m id false = k at *
  go_enter Tryz.func51, Tryz.ntmps51
  go_wp2_with fail
  refine hch.mono ?_
  rintro e w2 ⟨rfl, h2, h3⟩
  have HR : Hid (GMem w2 p N most (GM.turn m id false) ∧ Keeps (fun b => b = p) w w2) := ⟨h2, h3⟩
  clear hch h2 h3
  go_wp2_with fail
  go_ret
  exact ⟨rfl, HR.out⟩
set_option maxHeartbeats 1000000 in
theorem weigh_any {w : World} {p N most : Nat} {m : GM.M} (hg : GMem w p N most m) (hm : GM.Good most m) (id y : Int) :
    Calls Tryz.prog 52 #[.pointer (some ⟨p, 0, none⟩), .int .i64 id, .int .i64 y] w fun e w' => e = .returned (.int .i64 (GM.weighCode m id y)) ∧ GMem w' p N most (GM.weigh m id y) ∧ Keeps (fun b => b = p) w w' := by
  have hb1 : Below w.heap.size w (w.alloc (.cells #[.int .i64 y] 3)) := (Below.refl _ _).alloc (Nat.le_refl _) _
  have hbx := Boxed.new w 3 (.int .i64 y)
  have hw := weight_any y (w.alloc (.cells #[.int .i64 y] 3))
  have HK : Hid (Keeps (fun b => b = p) w (w.alloc (.cells #[.int .i64 y] 3))) := Below.keeps hb1 _
  have HG1 : Hid (GMem (w.alloc (.cells #[.int .i64 y] 3)) p N most m) := hg.on hb1
  have hch := change_w (hg.on hb1) hm id w.heap.size (fun a => (weighed y a, 0)) (some (weighed y (GM.arc m id.toNat))) rfl
    (fun W a hW => weigh1_any a w.heap.size y W (Boxed.cell (t := 3) ((hW.block w.heap.size (by simp)).trans hbx)))
  cases ho : GM.okW y with
  | false =>
    have HE : Hid (GM.weighCode m id y = 1) := by
      show _ = _
      unfold GM.weighCode
      rw [ho]
      rfl
    have HM : Hid (GM.weigh m id y = m) := by
      show _ = _
      unfold GM.weigh
      rw [HE.out, if_neg (by decide)]
    rw [HE.out, HM.out]
    rw [ho] at hw
    clear hch ho hg hm hb1 hbx HE HM
    go_enter Tryz.func52, Tryz.ntmps52
    go_wp2_with fail
    refine hw.mono ?_
    rintro e w9 ⟨rfl, hw9⟩
    rw [hw9]
    clear hw9 w9 hw
    go_wp2_with fail
    go_ret
    exact ⟨rfl, HG1.out, HK.out⟩
  | true =>
    have HE0 : Hid (GM.weighCode m id y = GM.atCode m id) := by
      show _ = _
      unfold GM.weighCode
      rw [ho, if_pos rfl]
    have HE : Hid ((if GM.atCode m id = 0 then (0 : Int) else GM.atCode m id) = GM.weighCode m id y) := by
      show _ = _
      rw [HE0.out]
      split
      · rename_i h; exact h.symm
      · rfl
    have HM : Hid ((if GM.atCode m id = 0 ∧ (0 : Int) = 0 then GM.upd m id.toNat (some (weighed y (GM.arc m id.toNat))) else m) = GM.weigh m id y) := by
      show _ = _
      unfold GM.weigh
      rw [HE0.out]
      simp only [and_true]
      rfl
    dsimp only at hch
    rw [HE.out, HM.out] at hch
    rw [ho] at hw
    clear ho hg hm hb1 hbx HE HM HE0
    generalize GM.weighCode m id y = k at *
    go_enter Tryz.func52, Tryz.ntmps52
    go_wp2_with fail
    refine hw.mono ?_
    rintro e w9 ⟨rfl, hw9⟩
    rw [hw9]
    clear hw9 w9 hw
    go_wp2_with fail
    refine hch.mono ?_
    rintro e w2 ⟨rfl, h2, h3⟩
    have HR : Hid (GMem w2 p N most (GM.weigh m id y) ∧ Keeps (fun b => b = p) w w2) := ⟨h2, HK.out.trans h3 (fun _ h => .inl h)⟩
    clear hch h2 h3
    go_wp2_with fail
    go_ret
    exact ⟨rfl, HR.out⟩

/-- A change, as a value. -/
def chgV (c : Chg) : Value := .agg #[.int .i64 c.kind, .int .i64 c.id, .int .i64 c.arc.tail, .int .i64 c.arc.head, .int .i64 c.arc.weight, .bool c.arc.closed]
set_option maxHeartbeats 1000000 in
theorem do_any {w : World} {p N most : Nat} {m : GM.M} (hg : GMem w p N most m) (hm : GM.Good most m) (c : Chg) :
    Calls Tryz.prog 19 #[.pointer (some ⟨p, 0, none⟩), chgV c] w fun e w' => e = .returned (.int .i64 (GM.code N most m c)) ∧ GMem w' p N most (GM.next N most m c) ∧ Keeps (fun b => b = p) w w' := by
  obtain ⟨k, id, t, h, x, cl⟩ := c
  have hb1 : Below w.heap.size w (w.alloc (.cells #[.int .i64 k, .int .i64 id, .int .i64 t, .int .i64 h, .int .i64 x, .bool cl] 56)) := (Below.refl _ _).alloc (Nat.le_refl _) _
  have HK : Hid (Keeps (fun b => b = p) w (w.alloc (.cells #[.int .i64 k, .int .i64 id, .int .i64 t, .int .i64 h, .int .i64 x, .bool cl] 56))) := Below.keeps hb1 _
  have hg1 := hg.on hb1
  have e : chgV ⟨k, id, ⟨t, h, x, cl⟩⟩ = .agg #[.int .i64 k, .int .i64 id, .int .i64 t, .int .i64 h, .int .i64 x, .bool cl] := rfl
  rw [e]
  unfold GM.code GM.next
  dsimp only
  by_cases k0 : k = 0
  · subst k0
    simp only [if_true]
    have hc := insert_any hg1 hm id ⟨t, h, x, cl⟩
    have e2 : arcV ⟨t, h, x, cl⟩ = .agg #[.int .i64 t, .int .i64 h, .int .i64 x, .bool cl] := rfl
    rw [e2] at hc
    clear hg1 hb1 e e2 hg hm
    generalize GM.insCode N most m id ⟨t, h, x, cl⟩ = q at *
    generalize GM.ins N most m id ⟨t, h, x, cl⟩ = m2 at *
    go_enter Tryz.func19, Tryz.ntmps19
    go_wp2_with fail
    refine hc.mono ?_
    rintro e w2 ⟨rfl, h2, h3⟩
    have HR : Hid (GMem w2 p N most m2 ∧ Keeps (fun b => b = p) w w2) := ⟨h2, HK.out.trans h3 (fun _ h => .inl h)⟩
    clear hc h2 h3
    go_wp2_with fail
    go_ret
    exact ⟨rfl, HR.out⟩
  have k0' : (k == 0) = false := beq_eq_false_iff_ne.2 k0
  simp only [if_neg k0]
  by_cases k1 : k = 1
  · subst k1
    simp only [if_true]
    have hc := delete_any hg1 hm id
    clear hg1 hb1 e hg hm
    generalize GM.atCode m id = q at *
    generalize GM.del m id = m2 at *
    go_enter Tryz.func19, Tryz.ntmps19
    go_wp2_with fail
    refine hc.mono ?_
    rintro e w2 ⟨rfl, h2, h3⟩
    have HR : Hid (GMem w2 p N most m2 ∧ Keeps (fun b => b = p) w w2) := ⟨h2, HK.out.trans h3 (fun _ h => .inl h)⟩
    clear hc h2 h3
    go_wp2_with fail
    go_ret
    exact ⟨rfl, HR.out⟩
  have k1' : (k == 1) = false := beq_eq_false_iff_ne.2 k1
  simp only [if_neg k1]
  by_cases k2 : k = 2
  · subst k2
    simp only [if_true]
    have hc := close_any hg1 hm id
    clear hg1 hb1 e hg hm
    generalize GM.turnCode m id true = q at *
    generalize GM.turn m id true = m2 at *
    go_enter Tryz.func19, Tryz.ntmps19
    go_wp2_with fail
    refine hc.mono ?_
    rintro e w2 ⟨rfl, h2, h3⟩
    have HR : Hid (GMem w2 p N most m2 ∧ Keeps (fun b => b = p) w w2) := ⟨h2, HK.out.trans h3 (fun _ h => .inl h)⟩
    clear hc h2 h3
    go_wp2_with fail
    go_ret
    exact ⟨rfl, HR.out⟩
  have k2' : (k == 2) = false := beq_eq_false_iff_ne.2 k2
  simp only [if_neg k2]
  by_cases k3 : k = 3
  · subst k3
    simp only [if_true]
    have hc := reopen_any hg1 hm id
    clear hg1 hb1 e hg hm
    generalize GM.turnCode m id false = q at *
    generalize GM.turn m id false = m2 at *
    go_enter Tryz.func19, Tryz.ntmps19
    go_wp2_with fail
    refine hc.mono ?_
    rintro e w2 ⟨rfl, h2, h3⟩
    have HR : Hid (GMem w2 p N most m2 ∧ Keeps (fun b => b = p) w w2) := ⟨h2, HK.out.trans h3 (fun _ h => .inl h)⟩
    clear hc h2 h3
    go_wp2_with fail
    go_ret
    exact ⟨rfl, HR.out⟩
  have k3' : (k == 3) = false := beq_eq_false_iff_ne.2 k3
  simp only [if_neg k3]
  have hc := weigh_any hg1 hm id x
  clear hg1 hb1 e hg hm k0 k1 k2 k3
  generalize GM.weighCode m id x = q at *
  generalize GM.weigh m id x = m2 at *
  go_enter Tryz.func19, Tryz.ntmps19
  go_wp2_with fail
  refine hc.mono ?_
  rintro e w2 ⟨rfl, h2, h3⟩
  have HR : Hid (GMem w2 p N most m2 ∧ Keeps (fun b => b = p) w w2) := ⟨h2, HK.out.trans h3 (fun _ h => .inl h)⟩
  clear hc h2 h3
  go_wp2_with fail
  go_ret
  exact ⟨rfl, HR.out⟩
end Go.Proofs.YtkcfepppnclniaaGreatDoor
end

section
/-
  The walks of the reference's graph: Ids, Len, its changes, and the law's DoRef.
-/
namespace Go.Proofs.YtkcfepppnclniaaGreatDoor
open Go.RowKit

set_option maxHeartbeats 1000000 in
set_option maxRecDepth 100000 in
theorem rids_any {w : World} {q N most : Nat} {m : GM.M} (hg : RMem w q N most m) :
    Calls Tryz.prog 90 #[.pointer (some ⟨q, 0, none⟩)] w fun e w' => ∃ r, e = .returned r ∧ Own .i64 3 w' w.heap.size r (GM.iids m 64) ∧ Below w.heap.size w w' := by
  obtain ⟨i0, hi, hz0, hz1, hz2⟩ := info_parts info3
  have HG : Hid (∀ W, Below w.heap.size w W → RMem W q N most m) := fun W hW => hg.on hW
  clear hg
  go_enter Tryz.func90, Tryz.ntmps90
  go_wp2_with fail
  go_loopw [3, 4] (fun sv iv wr => ∃ k : Nat, k ≤ 64 ∧ iv = .int .i64 k ∧ Own .i64 3 wr w.heap.size sv (GM.iids m k) ∧ Below w.heap.size w wr) (fun _ iv _ => 64 - (intOf iv).toNat)
  case atStart => exact ⟨0, Nat.zero_le _, rfl, Own.nil _ _ _ _, Below.refl _ _⟩
  case round =>
    obtain ⟨k, hk, rfl, ho, hb⟩ := hrel
    have HO : Hid (Own .i64 3 wr w.heap.size u3 (GM.iids m k)) := ho
    have HB : Hid (Below w.heap.size w wr) := hb
    by_cases hlt : k < 64
    · have ct := (HG.out wr hb).tk k hlt
      have k64 : (k : Int) < 64 := by omega
      have HL : Hid ((GM.iids m k).length ≤ k) := by
        show _ ≤ _
        rw [GM.iids_len]
        exact GM.ids_le m k
      clear ho hb
      cases hs : GM.is m k with
      | false =>
        rw [hs] at ct
        have HI : Hid (GM.iids m (k + 1) = GM.iids m k) := GM.iids_skip hs
        clear hs
        go_wp2_with fail
        go_roundw
        case rel => exact ⟨k + 1, by omega, by go_num, by rw [HI.out]; exact HO.out, HB.out⟩
        case measure => simp [intOf]; omega
      | true =>
        rw [hs] at ct
        have HI : Hid (GM.iids m (k + 1) = GM.iids m k ++ [(k : Int)]) := GM.iids_take hs
        clear hs
        go_wp2_with (at_builtin; refine wpList_append_row _ rfl _ _ 28 rfl .i64 w.heap.size 3 i0 8 Tryz.underlying28 hi hz0 hz1 hz2 _ (GM.iids m k) rfl (HO.out.alloc _) (some ⟨wr.heap.size, 0, none⟩) 1 1 [(k : Int)] rfl rfl (rowAt_lit1 _ _ _ _) (by have := HL.out; unfold maxLen; simp; omega) (by have := HL.out; simp; omega) (by have := HB.out.size; simp; omega) ?_)
        intro v2 w2 hown2 hgrow2 _
        have hb2 : Below w.heap.size w w2 := (HB.out.alloc HB.out.size _).grown hgrow2 (by have := HB.out.size; simp; omega) (fun g hg => HO.out.block g hg)
        have HO2 : Hid (Own .i64 3 w2 w.heap.size v2 (GM.iids m (k + 1))) := by
          show Own _ _ _ _ _ _
          rw [HI.out]
          exact hown2
        have HB2 : Hid (Below w.heap.size w w2) := hb2
        clear hown2 hgrow2 hb2 ct
        go_wp2_with fail
        go_roundw
        case rel => exact ⟨k + 1, by omega, by go_num, HO2.out, HB2.out⟩
        case measure => simp [intOf]; omega
    · obtain rfl : k = 64 := by omega
      clear ho hb
      go_wp2_with fail
      go_ret
      exact ⟨_, rfl, HO.out, HB.out⟩
end Go.Proofs.YtkcfepppnclniaaGreatDoor
end
