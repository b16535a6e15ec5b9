/-
  Part way through settle: what holds between the steps of the vertex that is settled (layer 13).
-/
import Derived.Test.YtkcfepppnclniaaGreatDoorMmWitSide
import Derived.Test.YtkcfepppnclniaaGreatDoorMmWitPick
import Derived.Test.YtkcfepppnclniaaGreatDoorMmMeshMem
import Derived.Deep.RegionHeld3
namespace Go.Proofs.YtkcfepppnclniaaGreatDoor
open Go.RowKit Go.Shelf

/-- The beginning of a region that draws, whose end alone is told: no panic. -/
theorem wp_region_heldR {P : Program} {id : Nat} {ops : Array Oper} {Q : Exit → Act → World → Prop} {R : Act → World → Prop} {S : World → Prop} {a : Act} {w : World} (hm : P.follows .mixedOrders = true) (hN : ∀ a w, R a w → Q .normal a w) (hS : S w.drew)
    (h : S w.drew → wpAnyH P .any ops (fun e a' w' => e = .normal ∧ R a' w') S ops.size (Array.replicate ops.size false) a w.drew) : (Code.region id ops true).wp P Q a w :=
  Code.wp_mono (Q := fun e a' w' => e = .normal ∧ R a' w') (fun e a' w' h => by obtain ⟨rfl, h⟩ := h; exact hN _ _ h) (wp_region_held_drew hm hS h)

/-- What settle's loop leans on beside the search: two variables of its own, and what the mesh's iterator has. -/
structure WB (w : World) (z : Wid) (mp N : Nat) (D : Nat → Nat → Int) (v : Nat) (d : Int) (F : Nat → Prop) (T4 : Nat) (A : World) : Prop where
  kp : Keeps F w A
  ks : Boxed A w.heap.size 113 (.pointer (some ⟨z.q, 0, none⟩))
  kd : Boxed A (w.heap.size + 1) 3 (.int .i64 d)
  rd : Reads 63 mp N D (v : Int) T4 A
/-- Which blocks the search has by now: none of those. -/
structure WF (w : World) (F : Nat → Prop) (mp T4 : Nat) (F' : Nat → Prop) : Prop where
  from' : ∀ b, F' b → F b ∨ w.heap.size ≤ b
  out : ∀ b, F' b → ¬ (w.heap.size ≤ b ∧ b < w.heap.size + 2) ∧ ¬ (T4 ≤ b ∧ b < T4 + 6) ∧ b ≠ mp
section
variable {w A A' : World} {B : Nat} {z : Wid} {mp N O : Nat} {D : Nat → Nat → Int} {v : Nat} {d : Int} {F F' F'' : Nat → Prop} {T4 : Nat}
theorem WB.turn (h : WB w z mp N D v d F T4 A) (hF : WF w F mp T4 F') (hk : Keeps F' A A') : WB w z mp N D v d F T4 A' := by
  obtain ⟨kp, ks, kd, rd⟩ := h
  refine ⟨kp.trans hk hF.from', (hk.block _ ks.lt (fun c => (hF.out _ c).1 ⟨by omega, by omega⟩)).trans ks, (hk.block _ kd.lt (fun c => (hF.out _ c).1 ⟨by omega, by omega⟩)).trans kd, rd.kept hk (fun c => (hF.out _ c).2.2 rfl) (fun b b1 b2 c => (hF.out _ c).2.1 ⟨b1, by omega⟩)⟩
theorem WB.on (h : WB w z mp N D v d F T4 A) (hb : Below A.heap.size A A') : WB w z mp N D v d F T4 A' :=
  h.turn (F' := fun _ => False) ⟨fun _ h => h.elim, fun _ h => h.elim⟩ (Below.keeps hb _)
theorem WF.wide (h : WF w F mp T4 F') (hF : ∀ b, F'' b → F' b ∨ A.heap.size ≤ b) (hs : T4 + 6 ≤ A.heap.size) (hw : w.heap.size + 2 ≤ T4) (hmp : mp < w.heap.size) : WF w F mp T4 F'' := by
  refine ⟨fun b hb => ?_, fun b hb => ?_⟩
  · rcases hF b hb with h1 | h1
    · exact h.from' b h1
    · exact .inr (by omega)
  · rcases hF b hb with h1 | h1
    · exact h.out b h1
    · omega
/-- Between steps: those in pm have come to the heap, those in pt to what is touched. -/
def WS (w : World) (B : Nat) (z : Wid) (mp N O : Nat) (D : Nat → Nat → Int) (v : Nat) (d : Int) (L : List (Nat × Int)) (k : Nat → Option Int) (F : Nat → Prop) (T4 : Nat) (pm pt : List (Nat × Int)) (A : World) : Prop :=
  WB w z mp N D v d F T4 A ∧ ∃ hm T F', WD A B z mp N O k hm T F' ∧ WM.MidL N D (WM.outOf O) L (v, d) pm hm ∧ WM.TP N D (WM.outOf O) L v pt T ∧ WF w F mp T4 F'
variable {L pm pt : List (Nat × Int)} {k : Nat → Option Int} {u : Nat} {x : Int}
theorem WS.on (h : WS w B z mp N O D v d L k F T4 pm pt A) (hb : Below A.heap.size A A') : WS w B z mp N O D v d L k F T4 pm pt A' := by
  obtain ⟨h1, hm, T, F', h2, h3, h4, h5⟩ := h
  exact ⟨h1.on hb, hm, T, F', h2.on hb, h3, h4, h5⟩
theorem WS.loop (h : WS w B z mp N O D v d L k F T4 pm pt A) (hw : w.heap.size + 2 ≤ T4) (hmp : mp < w.heap.size) (hk : Keeps (fun b => T4 + 4 ≤ b ∧ b < T4 + 6) A A') : WS w B z mp N O D v d L k F T4 pm pt A' := by
  obtain ⟨⟨kp, ks, kd, rd⟩, hm, T, F', h2, h3, h4, h5⟩ := h
  refine ⟨⟨kp.trans hk (fun b hb => .inr (by omega)), (hk.block _ ks.lt (fun c => by omega)).trans ks, (hk.block _ kd.lt (fun c => by omega)).trans kd, rd.kept hk (fun c => by omega) (fun b b1 b2 c => by omega)⟩, hm, T, F', h2.kept hk (fun b hb c => ?_), h3, h4, h5⟩
  exact (h5.out b hb).2.1 ⟨by omega, by omega⟩
/-- A step to one that is left out. -/
theorem WS.skip (h : WS w B z mp N O D v d L k F T4 pm pt A) (hO : WM.outOf O u = true) : WS w B z mp N O D v d L k F T4 (pm ++ [(u, x)]) (pt ++ [(u, x)]) A := by
  obtain ⟨h1, hm, T, F', h2, h3, h4, h5⟩ := h
  exact ⟨h1, hm, T, F', h2, h3.skip (fun c => by rw [c.2.1] at hO; cases hO), h4.skip hO, h5⟩
/-- A step to one that may be there: it is touched. -/
theorem WS.touch {hm : Nat → Option Int} {T : Nat} (h1 : WB w z mp N D v d F T4 A) (h2 : WD A B z mp N O k hm T F') (h3 : WM.MidL N D (WM.outOf O) L (v, d) pm hm) (h4 : WM.TP N D (WM.outOf O) L v pt T) (h5 : WF w F mp T4 F') (hu : u < 24) (hO : WM.outOf O u = false) :
    WS w B z mp N O D v d L k F T4 pm (pt ++ [(u, x)]) (A.setCell ⟨z.q, 4, none⟩ (.int .u64 ((T ||| BM.only (u : Int) : Nat) : Int))) ∧ Keeps F' A (A.setCell ⟨z.q, 4, none⟩ (.int .u64 ((T ||| BM.only (u : Int) : Nat) : Int))) := by
  obtain ⟨h6, h7⟩ := h2.touch (T ||| BM.only (u : Int))
  exact ⟨⟨h1.turn h5 h7, hm, _, F', h6, h3, h4.step hu hO, h5⟩, h7⟩
/-- The vertex that a step leads to is settled: nothing comes to the heap. -/
theorem WS.old (h : WS w B z mp N O D v d L k F T4 pm pt A) (hu : WM.has (L ++ [(v, d)]) u = true) : WS w B z mp N O D v d L k F T4 (pm ++ [(u, x)]) pt A := by
  obtain ⟨h1, hm, T, F', h2, h3, h4, h5⟩ := h
  exact ⟨h1, hm, T, F', h2, h3.skip (fun c => by rw [c.2.2] at hu; cases hu), h4, h5⟩
/-- It isn't: it comes to the heap. -/
theorem WS.new (h : WS w B z mp N O D v d L k F T4 pm pt A) (hB : B ≤ A.heap.size) (hs : T4 + 6 ≤ A.heap.size) (hw : w.heap.size + 2 ≤ T4) (hmp : mp < w.heap.size) (hp : WM.has pm u = false) (hf : WM.Free N (WM.outOf O) (L ++ [(v, d)]) u) (hd : 0 ≤ d ∧ d < 4611686018427387906) (hD : 0 ≤ D v u ∧ D v u < 4611686018427387906) :
    Calls Tryz.prog 101 #[.pointer (some ⟨z.p, 0, none⟩), .int .i64 (u : Nat), .int .i64 (DM.two d (D v u))] A fun e A' => (∃ c, e = .returned (.int .i64 c)) ∧ WS w B z mp N O D v d L k F T4 (pm ++ [(u, x)]) pt A' ∧ (∀ b, T4 + 4 ≤ b → b < T4 + 6 → A'.heap[b]? = A.heap[b]?) := by
  obtain ⟨h1, hm, T, F', h2, h3, h4, h5⟩ := h
  refine (h2.put hB u (DM.two d (D v u))).mono ?_
  rintro e A' ⟨rfl, hk, hwd⟩
  have hsz := hk.size
  refine ⟨⟨_, rfl⟩, ⟨h1.turn h5 hk, _, T, _, hwd, h3.come hp hf hd hD, h4, h5.wide (fun b hb => hb.imp id (·.1)) hs hw hmp⟩, fun b b1 b2 => hk.block b (by omega) (fun c => (h5.out b c).2.1 ⟨by omega, by omega⟩)⟩
end
/-- Ahead of settle's loop. -/
structure SP (w : World) (B : Nat) (z : Wid) (mp N O : Nat) (D : Nat → Nat → Int) (d : Int) (k : Nat → Option Int) (hm : Nat → Option Int) (T : Nat) (F : Nat → Prop) (A : World) : Prop where
  wd : WD A B z mp N O k hm T F
  kp : Keeps F w A
  ks : Boxed A w.heap.size 113 (.pointer (some ⟨z.q, 0, none⟩))
  kd : Boxed A (w.heap.size + 1) 3 (.int .i64 d)
  x : XMem A mp N D
  lt : ∀ b, F b → b < w.heap.size
  mf : ¬ F mp
  sz : w.heap.size + 2 ≤ A.heap.size
section
variable {w A A' : World} {B : Nat} {z : Wid} {mp N O T T' : Nat} {D : Nat → Nat → Int} {d : Int} {k k' : Nat → Option Int} {hm hm' : Nat → Option Int} {F : Nat → Prop}
theorem SP.turn (h : SP w B z mp N O D d k hm T F A) (hk : Keeps F A A') (hn : WD A' B z mp N O k' hm' T' F) : SP w B z mp N O D d k' hm' T' F A' := by
  obtain ⟨wd, kp, ks, kd, x, lt, mf, sz⟩ := h
  exact ⟨hn, kp.trans hk (fun _ h => .inl h), (hk.block _ ks.lt (fun c => by have := lt _ c; omega)).trans ks, (hk.block _ kd.lt (fun c => by have := lt _ c; omega)).trans kd, x.kept hk mf, lt, mf, Nat.le_trans sz hk.size⟩
theorem SP.on (h : SP w B z mp N O D d k hm T F A) (hb : Below A.heap.size A A') : SP w B z mp N O D d k hm T F A' := h.turn (Below.keeps hb _) (h.wd.on hb)
theorem SP.new (h : WD w B z mp N O k hm T F) (hx : XMem w mp N D) (hmp : mp < B) : ∃ W1, W1 = (w.alloc (.cells #[.pointer (some ⟨z.q, 0, none⟩)] 113)).alloc (.cells #[.int .i64 d] 3) ∧ SP w B z mp N O D d k hm T F W1 := by
  refine ⟨_, rfl, ?_⟩
  have hb1 : Below w.heap.size w ((w.alloc (.cells #[.pointer (some ⟨z.q, 0, none⟩)] 113)).alloc (.cells #[.int .i64 d] 3)) := ((Below.refl _ _).alloc (Nat.le_refl _) _).alloc (by simp) _
  have k1 := Boxed.new (w.alloc (.cells #[.pointer (some ⟨z.q, 0, none⟩)] 113)) 3 (.int .i64 d)
  rw [World.size_alloc] at k1
  exact ⟨h.on hb1, Below.keeps hb1 _, (Boxed.new w _ _).alloc _, k1, hx.on hb1, fun b hb => (h.lt b hb).2, fun c => by have := (h.lt _ c).1; omega, by simp⟩
end
namespace WM
/-- The steps at a vertex rise. -/
theorem steps_rise {N : Nat} {D : Nat → Nat → Int} {v : Int} : ∀ {j : Nat} {pre : List (Nat × Int)} {x : Nat × Int}, pre ++ [x] <+: XM.steps N D v false j → ∀ y ∈ pre, y.1 < x.1
  | 0, pre, x, h => by
    have := h.length_le
    simp [XM.steps] at this
  | j + 1, pre, x, h => by
    by_cases hk : XM.dirE N D v false (j : Nat) = 4611686018427387906
    · rw [XM.steps_skip hk] at h
      exact steps_rise h
    · rw [XM.steps_take hk] at h
      rcases List.prefix_concat_iff.1 h with e | e
      · obtain ⟨e1, e2⟩ := List.append_inj' e rfl
        have e3 : x = (j, XM.dirE N D v false (j : Nat)) := by simpa using e2
        rw [e1, e3]
        exact fun y hy => (XM.steps_mem hy).1
      · exact steps_rise e
theorem steps_once {N : Nat} {D : Nat → Nat → Int} {v : Int} {j : Nat} {pre : List (Nat × Int)} {x : Nat × Int} (h : pre ++ [x] <+: XM.steps N D v false j) : has pre x.1 = false := by
  cases hc : has pre x.1 with
  | false => rfl
  | true =>
    obtain ⟨y, hy, e⟩ := has_iff.1 hc
    have := steps_rise h y hy
    omega
end WM
end Go.Proofs.YtkcfepppnclniaaGreatDoor
