/-
  The program's All, gone through: it goes through the places, and hands on what lies there.
-/
import Derived.Test.YtdgdhaonalppnaaRingSeq
namespace Go.Proofs.Ytdgdhaonalppnaa
open Go.RowKit Go.Shelf
attribute [local go_sem] Oper.semAt_some

theorem above_of_drew {N : Nat} {W W' : World} (h : Above N W.drew W') : Above N W W' := ⟨h.os, h.tape, h.output, h.size, h.block⟩
/-- A text, as the loop's variable. -/
def one (x : ByteArray) : Array Value := #[.string x]
/-- Where no depth is asked, and whichever round it stands in. -/
theorem roundIn_in {m m' : Nat} {P : Program} {l l' : Nat} {f : FuncId} {tmps : Array Value} {assign body : Code} {w : World} {R : Ending → World → Prop} (h : RoundIn Fence.wide m P l f tmps assign body w R) : RoundIn (Fence.wide.inRound l') m' P l f tmps assign body w R := ⟨h.1, fun c cs _ => h.2 c cs (room_wide _)⟩

set_option maxRecDepth 100000 in
set_option maxHeartbeats 4000000 in
theorem all_goes (n : Nat) (hn : 4 ≤ n) (Bn p B bt k : Nat) (xs : List Value) (o : Nat) (L : List ByteArray) (w : World) (hr : RK.Rep Value.string k o xs L) (hk : k ≤ 32) :
    Goes n Try.prog 27 #[.pointer (some ⟨Bn, 0, none⟩)] one (fun ys => ys = L.reverse) (fun pre => pre <+: L.reverse) L.length
      (fun A => A.cell? ⟨Bn, 0, none⟩ = some (.pointer (some ⟨p, 0, none⟩)) ∧ KMem 9 A B p bt k xs o L.length) w := by
  intro l J Jx W hW hs hR hJ hJx hY h0
  obtain ⟨hcb, hm0⟩ := hR _ _ h0
  have HJ : Hid (∀ s A A', J s A → Below (w.heap.size + 2) A A' → J s A') := hJ
  have HJX : Hid (∀ s A A', Jx s A → Below (w.heap.size + 2) A A' → Jx s A') := hJx
  have HR : Hid (∀ s A, J s A → A.cell? ⟨Bn, 0, none⟩ = some (.pointer (some ⟨p, 0, none⟩)) ∧ KMem 9 A B p bt k xs o L.length) := hR
  have HY : Hid (∀ pre x W1, J pre W1 → pre.length < L.length → YieldAt Fence.wide (n - 1) Try.prog l (one x) W1 fun e W' => (e = .returned (.bool true) ∧ J (pre ++ [x]) W' ∧ Above (w.heap.size + 2) W1 W') ∨ (e = .returned (.bool false) ∧ Jx (pre ++ [x]) W' ∧ Above (w.heap.size + 2) W1 W')) := hY
  have H0 : Hid (J [] W) := h0
  have hpa := places_any p (W.alloc (.cells #[.func (.yield l) #[] #[]] 58))
  have hmx : Try.prog.follows .mixedOrders = true := by kernel_rfl
  have h1n : 1 ≤ n := by omega
  have h3n : 1 ≤ n - 1 - 1 := by omega
  have hb1 : Below W.heap.size W (W.alloc (.cells #[.func (.yield l) #[] #[]] 58)) := (Below.refl _ _).alloc (Nat.le_refl _) _
  have hcb1 := (hb1.cell (p := ⟨Bn, 0, none⟩) (cell_lt hcb)).trans hcb
  clear hJ hJx hR hY h0 hm0
  refine callsIn_of_wp_marks Try.func27 rfl trivial ?_ rfl
  simp only [Try.ntmps27, List.size_toArray, List.length_cons, List.length_nil, Nat.reduceAdd, Nat.reduceSub, Array.replicate_succ, Array.replicate_zero, List.push_toArray, List.append_toArray, List.nil_append, List.cons_append]
  gi_wp2_with fail
  refine ⟨trivial, (callsIn_wide.2 hpa).mono ?_⟩
  rintro e w2 ⟨rfl, rfl⟩
  clear hpa
  gi_wp2_with fail
  have bY : Boxed ((W.alloc (.cells #[.func (.yield l) #[] #[]] 58)).alloc (.cells #[.pointer (some ⟨p, 0, none⟩)] 38)) W.heap.size 58 (.func (.yield l) #[] #[]) := (Boxed.new W 58 (.func (.yield l) #[] #[])).alloc _
  have bP : Boxed ((W.alloc (.cells #[.func (.yield l) #[] #[]] 58)).alloc (.cells #[.pointer (some ⟨p, 0, none⟩)] 38)) (W.heap.size + 1) 38 (.pointer (some ⟨p, 0, none⟩)) := by
    have := Boxed.new (W.alloc (.cells #[.func (.yield l) #[] #[]] 58)) 38 (.pointer (some ⟨p, 0, none⟩))
    rwa [World.size_alloc] at this
  have hS2 : ((W.alloc (.cells #[.func (.yield l) #[] #[]] 58)).alloc (.cells #[.pointer (some ⟨p, 0, none⟩)] 38)).heap.size = W.heap.size + 1 + 1 := by simp
  have hB2 : Below W.heap.size W ((W.alloc (.cells #[.func (.yield l) #[] #[]] 58)).alloc (.cells #[.pointer (some ⟨p, 0, none⟩)] 38)) := ((Below.refl _ _).alloc (Nat.le_refl _) _).alloc (by simp) _
  have HJ2 : Hid (J [] ((W.alloc (.cells #[.func (.yield l) #[] #[]] 58)).alloc (.cells #[.pointer (some ⟨p, 0, none⟩)] 38))) := HJ.out _ _ _ H0.out (hB2.mono hs)
  have hgo := places_goes (n - 1) (by omega) (W.heap.size + 1) p B bt k xs o L.length ((W.alloc (.cells #[.func (.yield l) #[] #[]] 58)).alloc (.cells #[.pointer (some ⟨p, 0, none⟩)] 38)) hr.lo hk hr.ho (Nat.le_trans hr.len hk)
  generalize (W.alloc (.cells #[.func (.yield l) #[] #[]] 58)).alloc (.cells #[.pointer (some ⟨p, 0, none⟩)] 38) = W2 at *
  clear hcb hcb1 hb1 hB2 H0
  refine range_goes (by omega) (gf := 31) (lb := #[.pointer (some ⟨W.heap.size + 1, 0, none⟩)]) rfl (enters_of Try.func31 (by kernel_rfl) rfl) hgo (fun _ => rfl)
    (fun pre A => J (pre.map (txt L)) A ∧ Boxed A W.heap.size 58 (.func (.yield l) #[] #[]) ∧ Boxed A (W.heap.size + 1) 38 (.pointer (some ⟨p, 0, none⟩)))
    (fun c pre A => c = .ret ∧ Jx (pre.map (txt L)) A)
    (fun pre A A' h hb => ⟨HJ.out _ _ _ h.1 (hb.mono (by omega)), (hb.block _ (by omega)).trans h.2.1, (hb.block _ (by omega)).trans h.2.2⟩)
    (fun c pre A A' h hb => ⟨h.1, HJX.out _ _ _ h.2 (hb.mono (by omega))⟩)
    (fun pre A h => ⟨h.2.2.cell, (HR.out _ _ h.1).2⟩)
    ⟨HJ2.out, bY, bP⟩
    (fun y => { tmps := #[.func (.yield l) #[] #[], .pointer (some ⟨Bn, 0, none⟩), .pointer (some ⟨W.heap.size, 0, none⟩), .int .i64 ((o + y.1) % k : Nat), .pointer (some ⟨p, 0, none⟩), .func (.func 31) #[] #[.pointer (some ⟨W.heap.size + 1, 0, none⟩)], .int .i64 ((o + y.1) % k : Nat), undef, undef, undef, undef, undef, undef, undef, undef, undef, undef], defers := [] }) ?assign ?body ?done ?stop
  case assign =>
    intro l' y A K hK
    simp only [spot]
    gi_wp2
    exact hK
  case body =>
    rintro l' pre ⟨j, hj⟩ A ⟨hJA, hbY, hbP⟩ hlt
    obtain ⟨hcb, hkm⟩ := HR.out _ _ hJA
    have c0 := hkm.c0
    have hjl : L[j]? = some (txt L ⟨j, hj⟩) := by rw [List.getElem?_eq_getElem hj, txt, RK.el_eq hj]
    have hxj := hr.is j _ hjl
    have hkk : (o + j) % k < k := RK.md_lt hr.lo _
    obtain ⟨t1, -⟩ := hkm.thing hkk
    rw [hxj] at t1
    have hJd : J (pre.map (txt L)) A.drew := HJ.out _ _ _ hJA (Below.refl _ _).drew
    obtain ⟨fn, tmps, assign, body, hy, hRd⟩ := HY.out (pre.map (txt L)) (txt L ⟨j, hj⟩) A.drew hJd (by simpa using hlt)
    dsimp only [one] at hy
    have hRd2 := fun m' => (roundIn_in (m' := m') (l' := l') hRd).mono (R' := fun e W' => ∃ b, e = .returned (.bool b) ∧ ((b = true ∧ J (pre.map (txt L) ++ [txt L ⟨j, hj⟩]) W' ∧ Above (w.heap.size + 2) A.drew W') ∨ (b = false ∧ Jx (pre.map (txt L) ++ [txt L ⟨j, hj⟩]) W' ∧ Above (w.heap.size + 2) A.drew W'))) (by
      rintro e W' (⟨rfl, h⟩ | ⟨rfl, h⟩)
      · exact ⟨true, rfl, .inl ⟨rfl, h⟩⟩
      · exact ⟨false, rfl, .inr ⟨rfl, h⟩⟩)
    have cY := hbY.cell
    have HBY : Hid (Boxed A W.heap.size 58 (.func (.yield l) #[] #[])) := hbY
    have HBP : Hid (Boxed A (W.heap.size + 1) 38 (.pointer (some ⟨p, 0, none⟩))) := hbP
    have kn : (((o + j) % k : Nat) : Int) < (k : Int) := by omega
    clear hjl hxj hkm hJd hJA hRd hbY hbP hgo bY bP
    generalize (o + j) % k = r at *
    generalize ht : txt L ⟨j, hj⟩ = t at *
    have HT : Hid ((pre ++ [(⟨j, hj⟩ : Spot L.length)]).map (txt L) = pre.map (txt L) ++ [t]) := by
      show _ = _
      rw [List.map_append, ← ht]
      rfl
    clear ht
    gi_wp2_with fail
    refine wpIn_mono (Q := fun e a' W' => e = .normal ∧ ∃ b, a' = { tmps := #[.func (.yield l) #[] #[], .pointer (some ⟨Bn, 0, none⟩), .pointer (some ⟨W.heap.size, 0, none⟩), .int .i64 (r : Nat), .pointer (some ⟨p, 0, none⟩), .func (.func 31) #[] #[.pointer (some ⟨W.heap.size + 1, 0, none⟩)], .int .i64 (r : Nat), .func (.yield l) #[] #[], .pointer (some ⟨p, 0, none⟩), .pointer (some ⟨p, 0, none⟩), .pointer (some ⟨p, 0, none⟩), .slice (some ⟨bt, 0, none⟩) k k, .int .i64 (r : Nat), .pointer (some ⟨bt, r, none⟩), .string t, .bool b, .bool !b], defers := [] } ∧ ((b = true ∧ J (pre.map (txt L) ++ [t]) W' ∧ Above (w.heap.size + 2) A.drew W') ∨ (b = false ∧ Jx (pre.map (txt L) ++ [t]) W' ∧ Above (w.heap.size + 2) A.drew W'))) ?region ?rest
    case region =>
      clear HJ HJX HR HY HJ2 HBY HBP hlt h1n hn hS2 hs hW hr hk
      gi_region_with_o (refine (hRd2 _).mono ?_; rintro e W4 ⟨b, rfl, hb⟩)
      all_goals exact ⟨rfl, b, rfl, hb⟩
    case rest =>
      rintro e a' W4 ⟨rfl, b, rfl, hb⟩
      clear hRd2 hy cY c0 hcb t1
      rcases hb with ⟨rfl, hJ4, hk4⟩ | ⟨rfl, hJx4, hk4⟩
      · gi_wp2
        have hy1 := HBY.out.lt
        have hy2 := HBP.out.lt
        exact ⟨(above_of_drew hk4).mono (by omega), by rw [HT.out]; exact hJ4, (hk4.block _ hy1 (by omega)).trans HBY.out, (hk4.block _ hy2 (by omega)).trans HBP.out⟩
      · gi_wp2
        exact ⟨(above_of_drew hk4).mono (by omega), rfl, by rw [HT.out]; exact hJx4⟩
  case done =>
    rintro ys A rfl ⟨hJA, hbY, hbP⟩ hK
    gi_wp2
    refine ⟨by simp, .inl ⟨_, _, rfl, run_takeDeferred hK, ?_⟩⟩
    refine ⟨_, results_none rfl _ _ _, ⟨_, rfl⟩, .inl ⟨_, ?_, HJ.out _ _ _ hJA ?_⟩⟩
    · rw [downs_txt, List.take_length]
    · exact belowK_b (w := W2) (by omega) A W2.heap.size _ _ (Nat.le_refl _) hK rfl rfl
  case stop =>
    rintro c pre A hpre ⟨rfl, hJA⟩ hK
    gi_wp2
    refine ⟨by simp, .inl ⟨_, _, rfl, run_takeDeferred hK, ?_⟩⟩
    refine ⟨_, results_none rfl _ _ _, ⟨_, rfl⟩, .inr ⟨_, ?_, HJX.out _ _ _ hJA ?_⟩⟩
    · have := downs_txt L L.length (Nat.le_refl _)
      rw [List.take_length] at this
      rw [← this]
      exact hpre.map _
    · exact belowK_b (w := W2) (by omega) A W2.heap.size _ _ (Nat.le_refl _) hK rfl rfl
end Go.Proofs.Ytdgdhaonalppnaa
