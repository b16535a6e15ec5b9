/-
  BothMath, BothMem, BothA, BothStage, BothRound, BothMeetM.
-/
import Derived.Test.YtmamligiopbefaaMmNearMeet
import Derived.Test.YtmamligiopbefaaMmNearWays
import Derived.Test.YtmamligiopbefaaMmStamps
import Derived.Test.YtmamligiopbefaaMmNHeapEI
import Derived.Test.YtmamligiopbefaaMmNHeapD
import Derived.Test.YtmamligiopbefaaMmGraphA
import Derived.Test.YtmamligiopbefaaMmThose
import Derived.Test.YtmamligiopbefaaMmNHeapCI
import Derived.Test.YtmamligiopbefaaMmMems
import Derived.Test.YtmamligiopbefaaMmWalkDist
import Derived.Test.YtmamligiopbefaaMmSufs
import Derived.Deep.RegionHeld3
import Derived.BigQuiet
import Derived.Deep.QuietTactic
section
/-
  Two sides: by which arcs each vertex was come to, and where they have met. Nothing of the program.
-/
namespace Go.Proofs.Ytmamligiopbefaa
namespace NM
/-- How far a vertex is told to be, and by which arc it was come to, out of its mark. -/
def farOf (k : Nat → Option (Int × Int)) (v : Nat) : Int := match k v with | some x => x.1 | none => 4611686018427387906
def byOf (k : Nat → Option (Int × Int)) (v : Nat) : Int := match k v with | some x => x.2 | none => 0
theorem farOf_some {k : Nat → Option (Int × Int)} {v : Nat} {x : Int × Int} (h : k v = some x) : farOf k v = x.1 := by unfold farOf; rw [h]
theorem farOf_none {k : Nat → Option (Int × Int)} {v : Nat} (h : k v = none) : farOf k v = 4611686018427387906 := by unfold farOf; rw [h]
theorem byOf_some {k : Nat → Option (Int × Int)} {v : Nat} {x : Int × Int} (h : k v = some x) : byOf k v = x.2 := by unfold byOf; rw [h]
theorem farOf_upd (k : Nat → Option (Int × Int)) (v : Nat) (d b : Int) : farOf (SM.upd k v (some (d, b))) = updF (farOf k) v d := by
  funext j
  unfold farOf SM.upd updF
  by_cases e : j = v
  · rw [if_pos e, if_pos e]
  · rw [if_neg e, if_neg e]
theorem farOf_empty : farOf (fun _ => none) = fun _ => 4611686018427387906 := rfl
/-- By which arcs the marked vertices were come to. -/
structure BY (m : GM.M) (N s : Nat) (k : Nat → Option (Int × Int)) (dn : Nat → Bool) : Prop where
  src : k s = some (0, -1)
  told : ∀ v x, k v = some x → 0 ≤ x.1 ∧ x.1 ≤ 4611686018427387905
  arc : ∀ v x, v < N → v ≠ s → k v = some x → ∃ i u : Nat, x.2 = i ∧ i < 64 ∧ opn m u i ∧ hd m i = v ∧ u < N ∧ dn u = true ∧ x.1 = DM.two (farOf k u) (wt m i)
theorem BY.begin {m : GM.M} {N s : Nat} : BY m N s (SM.upd (fun _ => none) s (some (0, -1))) (fun _ => false) := by
  refine ⟨if_pos rfl, fun v x h => ?_, fun v x _ hs h => ?_⟩
  · unfold SM.upd at h
    split at h
    · cases h
      exact ⟨Int.le_refl _, by decide⟩
    · cases h
  · unfold SM.upd at h
    rw [if_neg hs] at h
    cases h
/-- The first one comes out. -/
theorem BY.pop {m : GM.M} {N s u : Nat} {k : Nat → Option (Int × Int)} {dn : Nat → Bool} (h : BY m N s k dn) : BY m N s k (updB dn u) := by
  refine ⟨h.src, h.told, fun v x hv hs hk => ?_⟩
  obtain ⟨i, u', h1, h2, h3, h4, h5, h6, h7⟩ := h.arc v x hv hs hk
  refine ⟨i, u', h1, h2, h3, h4, h5, ?_, h7⟩
  unfold updB
  split
  · rfl
  · exact h6
/-- One that a settled vertex betters isn't settled. -/
theorem DJ.unset {m : GM.M} {L : Nat → List (Int × Int)} {N s u : Nat} {far : Nat → Int} {hm : Nat → Option Int} {dn : Nat → Bool} (_hW : Ways m N L) (hu : u < N) {pre : List (Int × Int)} (h : DJ m L N s u pre far hm dn) (hfu : far u ≠ 4611686018427387906) {z : Int} (hz : opn m u z) {k : Nat} (hk : hd m z = k) (hkN : k < N) (hlt : DM.two (far u) (wt m z) < far k) : dn k = false := by
  cases e : dn k with
  | false => rfl
  | true =>
    have h1 := h.dst k hkN e
    rcases h.is u hu with e1 | ⟨ids, w1, w2⟩
    · exact absurd e1 hfu
    · have h2 := wk_one hz
      rw [hk] at h2
      have h3 := h1.le _ (wk_append w1 h2)
      rw [csum_append, csum_one, w2, two_comm, norm_two, two_comm] at h3
      omega
/-- A vertex is come to by an arc from a settled one. -/
theorem BY.reach {m : GM.M} {N s u v i : Nat} {k : Nat → Option (Int × Int)} {dn : Nat → Bool} (h : BY m N s k dn) (hu : u < N) (hd1 : dn u = true) (hi : i < 64) (hz : opn m u i) (hv : hd m i = v) (hfu : 0 ≤ farOf k u ∧ farOf k u ≤ 4611686018427387905) (hw : 0 ≤ wt m i ∧ wt m i ≤ 4611686018427387904) (hdv : dn v = false) (hlt : DM.two (farOf k u) (wt m i) < farOf k v) : BY m N s (SM.upd k v (some (DM.two (farOf k u) (wt m i), (i : Int)))) dn := by
  have hvs : v ≠ s := fun e => by
    rw [e, farOf_some h.src] at hlt
    have := (DM.two_bd (farOf k u) (wt m i)).1
    have : (0 : Int) ≤ (0, (-1 : Int)).1 := Int.le_refl _
    omega
  have hbd : 0 ≤ DM.two (farOf k u) (wt m i) ∧ DM.two (farOf k u) (wt m i) ≤ 4611686018427387905 := by
    rcases two_cases hfu.1 (show farOf k u ≤ 4611686018427387906 by omega) hw.1 (show wt m i ≤ 4611686018427387906 by omega) with c | c | c <;> omega
  have hkeep : ∀ x, dn x = true → farOf (SM.upd k v (some (DM.two (farOf k u) (wt m i), (i : Int)))) x = farOf k x := fun x hx => by
    rw [farOf_upd]
    unfold updF
    rw [if_neg]
    rintro rfl
    rw [hdv] at hx
    cases hx
  refine ⟨?_, fun w x hk => ?_, fun w x hw hs hk => ?_⟩
  · unfold SM.upd
    rw [if_neg (fun e => hvs e.symm)]
    exact h.src
  · unfold SM.upd at hk
    split at hk
    · cases hk
      exact hbd
    · exact h.told w x hk
  · by_cases e : w = v
    · subst e
      unfold SM.upd at hk
      rw [if_pos rfl] at hk
      cases hk
      refine ⟨i, u, rfl, hi, hz, hv, hu, hd1, ?_⟩
      rw [hkeep u hd1]
    · unfold SM.upd at hk
      rw [if_neg e] at hk
      obtain ⟨i', u', h1, h2, h3, h4, h5, h6, h7⟩ := h.arc w x hw hs hk
      exact ⟨i', u', h1, h2, h3, h4, h5, h6, by rw [hkeep u' h6]; exact h7⟩
/-! Back along the marks. -/
theorem BY.zero {m : GM.M} {N s : Nat} {k : Nat → Option (Int × Int)} {dn : Nat → Bool} (h : BY m N s k dn) : farOf k s = 0 := farOf_some h.src
theorem BY.bd {m : GM.M} {N s : Nat} {k : Nat → Option (Int × Int)} {dn : Nat → Bool} (h : BY m N s k dn) (v : Nat) : 0 ≤ farOf k v ∧ farOf k v ≤ 4611686018427387906 := by
  cases e : k v with
  | none => rw [farOf_none e]; decide
  | some x =>
    rw [farOf_some e]
    have := h.told v x e
    omega
def farI (k : Nat → Option (Int × Int)) (v : Int) : Int := farOf k v.toNat
theorem BY.step {m : GM.M} {N s v : Nat} {k : Nat → Option (Int × Int)} {dn : Nat → Bool} (h : BY m N s k dn) (hok : ∀ i, GM.is m i = true → GM.okW (GM.arc m i).weight = true) (hs0 : s < N) {t : Int} {out : List Int} (hb : Bk m N (farI k) t v out) (hs : v ≠ s) :
    ∃ i u : Nat, ∃ d, k v = some (d, (i : Int)) ∧ i < 64 ∧ GM.is m i = true ∧ (GM.arc m i).tail = u ∧ u < N ∧ Bk m N (farI k) t u ((i : Int) :: out) ∧ out.length + 2 ≤ N := by
  have hv := of_decide_eq_true (hb.vert v (by simp))
  have hle := hb.le
  have htold := hb.told
  have hfv : farI k (v : Int) = farOf k v := by unfold farI; rw [Int.toNat_natCast]
  rw [hfv] at hle
  obtain ⟨x, hx⟩ : ∃ x, k v = some x := by
    cases e : k v with
    | none => rw [farOf_none e] at hle; omega
    | some x => exact ⟨x, rfl⟩
  obtain ⟨i, u, h1, h2, h3, h4, h5, h6, h7⟩ := h.arc v x (by omega) hs hx
  obtain ⟨k1, k3, k4⟩ := (opn_at h2).1 h3
  have hw := of_decide_eq_true (hok i k1)
  rw [← wt_at m h2] at hw
  have bu := h.bd u
  have hfu : farI k (u : Int) = farOf k u := by unfold farI; rw [Int.toNat_natCast]
  have hx1 := farOf_some hx
  have hadd : farOf k v = farOf k u + wt m i ∧ farOf k u < farOf k v := by
    rw [hx1, h7]
    rw [hx1, h7] at hle
    rcases two_cases bu.1 bu.2 (show 0 ≤ wt m i by omega) (show wt m i ≤ 4611686018427387906 by omega) with c | c | c <;> omega
  have hrise : ((u : Int) :: (v : Int) :: out.map (hd m)).map (farI k) |>.Pairwise (· < ·) := by
    rw [List.map_cons, List.pairwise_cons]
    refine ⟨fun y hy => ?_, hb.rise⟩
    have hr := hb.rise
    rw [List.map_cons] at hy hr
    rw [hfu]
    rcases List.mem_cons.1 hy with e | e
    · rw [e, hfv]; exact hadd.2
    · have := (List.pairwise_cons.1 hr).1 y e
      omega
  refine ⟨i, u, x.1, by rw [hx, ← h1], h2, k1, k3, h5, ⟨wk_cons.2 ⟨h3, by rw [h4]; exact hb.walk⟩, ?_, htold, ?_, ?_⟩, ?_⟩
  · rw [csum_cons, hfu]
    have b := csum_bd m out
    have := hb.sum
    rcases two_cases (show 0 ≤ wt m i by omega) (show wt m i ≤ 4611686018427387906 by omega) b.1 b.2 with c | c | c <;> omega
  · intro y hy
    rw [List.map_cons, h4] at hy
    rcases List.mem_cons.1 hy with e | e
    · rw [e]; exact decide_eq_true (by omega)
    · exact hb.vert y e
  · show (((u : Int) :: hd m (i : Int) :: out.map (hd m)).map (farI k)).Pairwise (· < ·)
    rw [h4]
    exact hrise
  · have hr := hb.rise
    have h0 := h.zero
    have hfs : farI k (s : Int) = 0 := by unfold farI; rw [Int.toNat_natCast]; exact h0
    have hn : ((s : Int) :: (v : Int) :: out.map (hd m)).Nodup := by
      refine nodup_of_rise (F := farI k) ?_
      rw [List.map_cons, List.pairwise_cons]
      refine ⟨fun y hy => ?_, hr⟩
      rw [List.map_cons] at hy hr
      rw [hfs]
      rcases List.mem_cons.1 hy with e | e
      · rw [e, hfv]; omega
      · have := (List.pairwise_cons.1 hr).1 y e
        omega
    have := nodup_len N _ hn (fun y hy => by
      rcases List.mem_cons.1 hy with e | e
      · rw [e]; exact decide_eq_true (by omega)
      · exact hb.vert y e)
    simpa using this
theorem BY.src_by {m : GM.M} {N s : Nat} {k : Nat → Option (Int × Int)} {dn : Nat → Bool} (h : BY m N s k dn) : k s = some (0, -1) := h.src
/-! Where both have met. -/
/-- The best vertex so far, and how far it is by way of it. -/
structure MT (N : Nat) (F B : Nat → Int) (at_ : Nat) (x : Int) : Prop where
  le : ∀ v, v < N → x ≤ DM.two (F v) (B v)
  is : x = 4611686018427387906 ∨ (at_ < N ∧ x = DM.two (F at_) (B at_))
/-- One side has come to v. -/
theorem MT.reach {N : Nat} {F B : Nat → Int} {at_ v : Nat} {x d : Int} (h : MT N F B at_ x) (hF : ∀ v, 0 ≤ F v ∧ F v ≤ 4611686018427387906) (hB : ∀ v, 0 ≤ B v ∧ B v ≤ 4611686018427387906) (hv : v < N) (hd0 : 0 ≤ d) (hlt : d < F v) :
    (DM.two d (B v) < x → MT N (updF F v d) B v (DM.two d (B v))) ∧ (¬ DM.two d (B v) < x → MT N (updF F v d) B at_ x) := by
  have hle : ∀ w, updF F v d w ≤ F w ∧ 0 ≤ updF F v d w := fun w => by
    unfold updF
    split
    · rename_i e; rw [e]; omega
    · exact ⟨Int.le_refl _, (hF w).1⟩
  have hat : updF F v d v = d := if_pos rfl
  have hoth : ∀ w, w ≠ v → updF F v d w = F w := fun w hw => if_neg hw
  refine ⟨fun h1 => ⟨fun w hw => ?_, .inr ⟨hv, by rw [hat]⟩⟩, fun h1 => ⟨fun w hw => ?_, ?_⟩⟩
  · by_cases e : w = v
    · rw [e, hat]; exact Int.le_refl _
    · rw [hoth w e]
      have := h.le w hw
      omega
  · by_cases e : w = v
    · rw [e, hat]; omega
    · rw [hoth w e]
      exact h.le w hw
  · rcases h.is with e | ⟨h2, h3⟩
    · exact .inl e
    · refine .inr ⟨h2, ?_⟩
      by_cases e : at_ = v
      · subst e
        rw [hat]
        have h4 := two_mono hd0 (Int.le_of_lt hlt) (hF at_).2 (hB at_).1 (Int.le_refl _) (hB at_).2
        omega
      · rw [hoth _ e]; exact h3
theorem MT.swap {N : Nat} {F B : Nat → Int} {at_ : Nat} {x : Int} (h : MT N F B at_ x) : MT N B F at_ x := by
  refine ⟨fun v hv => ?_, ?_⟩
  · rw [two_comm]; exact h.le v hv
  · rcases h.is with e | ⟨h1, h2⟩
    · exact .inl e
    · exact .inr ⟨h1, by rw [two_comm]; exact h2⟩
end NM
end Go.Proofs.Ytmamligiopbefaa
end

section
/-
  Two sides in memory: a side's struct, its heap, its marks; the meeting's struct.
-/
namespace Go.Proofs.Ytmamligiopbefaa
open Go.RowKit Go.Shelf

/-- A side's blocks that never change: its struct, its heap's, its marks' three. -/
structure Sid where
  q : Nat
  p : Nat
  r : Nat
  t : Nat
  s : Nat
/-- A side in memory, of which F has all blocks. -/
structure SD (A : World) (B : Nat) (z : Sid) (gp j N : Nat) (k : Nat → Option (Int × Int)) (hm : Nat → Option Int) (F : Nat → Prop) : Prop where
  c0 : A.cell? ⟨z.q, 0, none⟩ = some (.pointer (some ⟨z.p, 0, none⟩))
  c1 : A.cell? ⟨z.q, 1, none⟩ = some (.pointer (some ⟨z.r, 0, none⟩))
  c2 : A.cell? ⟨z.q, 2, none⟩ = some (.pointer (some ⟨gp, 0, none⟩))
  c3 : A.cell? ⟨z.q, 3, none⟩ = some (.int .i64 (j : Nat))
  h : ∃ bp bc lv line place come, HMem (Value.int .i64) 3 A B z.p bp bc lv line place come ∧ HM.Rep HM.TI 0 N hm line place come ∧ (∀ b, foot z.p bp bc lv b → F b ∧ b ≠ z.q ∧ ¬ sfoot z.r z.t z.s b)
  r : ∃ xs st now, SMem 89 2 A B z.r z.t z.s N xs st now ∧ SM.Rep RK.At N k xs st now
  f : ∀ b, b = z.q ∨ sfoot z.r z.t z.s b → F b
  n : ¬ sfoot z.r z.t z.s z.q
  lt : ∀ b, F b → B ≤ b ∧ b < A.heap.size
  few : N ≤ 24
section
variable {A A' : World} {B : Nat} {z : Sid} {gp j N : Nat} {k : Nat → Option (Int × Int)} {hm : Nat → Option Int} {F F' G : Nat → Prop}
theorem SD.kept (h : SD A B z gp j N k hm F) (hk : Keeps G A A') (hG : ∀ b, F b → ¬ G b) : SD A' B z gp j N k hm F := by
  obtain ⟨c0, c1, c2, c3, ⟨bp, bc, lv, line, place, come, h1, h2, h3⟩, ⟨xs, st, now, r1, r2⟩, f, n, lt, few⟩ := h
  have hq : ¬ G z.q := hG _ (f _ (.inl rfl))
  exact ⟨hk.cell c0 hq, hk.cell c1 hq, hk.cell c2 hq, hk.cell c3 hq, ⟨bp, bc, lv, line, place, come, h1.kept hk (fun b hb => hG b (h3 b hb).1), h2, h3⟩, ⟨xs, st, now, r1.kept hk (fun b hb => hG b (f b (.inr hb))), r2⟩, f, n, fun b hb => ⟨(lt b hb).1, Nat.lt_of_lt_of_le (lt b hb).2 hk.size⟩, few⟩
theorem SD.on (h : SD A B z gp j N k hm F) (hb : Below A.heap.size A A') : SD A' B z gp j N k hm F := h.kept (Below.keeps hb (fun _ => False)) (fun _ _ h => h)
theorem SD.wide (h : SD A B z gp j N k hm F) (hF : ∀ b, F b → F' b) (lt : ∀ b, F' b → B ≤ b ∧ b < A.heap.size) : SD A B z gp j N k hm F' := by
  obtain ⟨c0, c1, c2, c3, ⟨bp, bc, lv, line, place, come, h1, h2, h3⟩, r, f, n, -, few⟩ := h
  exact ⟨c0, c1, c2, c3, ⟨bp, bc, lv, line, place, come, h1, h2, fun b hb => ⟨hF b (h3 b hb).1, (h3 b hb).2⟩⟩, r, fun b hb => hF b (f b hb), n, lt, few⟩
theorem SD.out (h : SD A B z gp j N k hm F) {v : Nat} (hv : N ≤ v) : hm v = none := by
  obtain ⟨-, -, -, -, ⟨bp, bc, lv, line, place, come, h1, h2, -⟩, -, -, -, -, -⟩ := h
  exact h2.out.2 (.inl hv)
/-- F with what was laid meanwhile. -/
def grow (F : Nat → Prop) (A A' : World) (b : Nat) : Prop := F b ∨ (A.heap.size ≤ b ∧ b < A'.heap.size)
theorem SD.lt_grow (h : SD A B z gp j N k hm F) (hs : A.heap.size ≤ A'.heap.size) (hB : B ≤ A.heap.size) : ∀ b, grow F A A' b → B ≤ b ∧ b < A'.heap.size := fun b hb => by
  rcases hb with hb | hb
  · have := h.lt b hb
    omega
  · omega
/-- What waits first. -/
theorem SD.peek (h : SD A B z gp j N k hm F) : Calls Try.prog 83 #[.pointer (some ⟨z.p, 0, none⟩)] A fun e A' => e = .returned (peekT (Value.int .i64) (0 : Int) (HM.firstOf HM.TI hm)) ∧ Below A.heap.size A A' := by
  obtain ⟨-, -, -, -, ⟨bp, bc, lv, line, place, come, h1, h2, -⟩, -, -, -, -, -⟩ := h
  exact HI.peek_first h1 h2
/-- The first one comes out. -/
theorem SD.pop (h : SD A B z gp j N k hm F) (_hB : B ≤ A.heap.size) {u : Nat} {r : Int} (hf : HM.IsFirst HM.TI hm (u, r)) :
    Calls Try.prog 68 #[.pointer (some ⟨z.p, 0, none⟩)] A fun e A' => e = .returned (.tuple #[.int .i64 (u : Nat), .int .i64 r, .bool true]) ∧ Keeps F A A' ∧ SD A' B z gp j N k (HM.upd hm u none) F := by
  obtain ⟨c0, c1, c2, c3, ⟨bp, bc, lv, line, place, come, h1, h2, h3⟩, ⟨xs, st, now, r1, r2⟩, f, n, lt, few⟩ := h
  have e1 := HM.firstOf_eq hf
  have hp := HI.pop_any h1 h2 (by omega)
  unfold HM.popped at hp
  rw [e1] at hp
  refine hp.mono ?_
  rintro e A' ⟨rfl, lv', line', place', come', m1, m2, m3, m4⟩
  have hq : ¬ foot z.p bp bc lv z.q := fun hb => (h3 _ hb).2.1 rfl
  refine ⟨rfl, m3.mono (fun b hb => (h3 b hb).1), m3.cell c0 hq, m3.cell c1 hq, m3.cell c2 hq, m3.cell c3 hq, ⟨bp, bc, lv', line', place', come', m1, m2, fun b hb => h3 b (m4 b hb)⟩, ⟨xs, st, now, r1.kept m3 (fun b hb hc => (h3 b hc).2.2 hb), r2⟩, f, n, fun b hb => ⟨(lt b hb).1, Nat.lt_of_lt_of_le (lt b hb).2 m3.size⟩, few⟩
/-- A vertex is put into the heap that isn't there, or waits farther off. -/
theorem SD.put (h : SD A B z gp j N k hm F) (hB : B ≤ A.heap.size) (v : Nat) (hv : v < N) (d : Int) (hc : hm v = none ∨ ∃ y, hm v = some y ∧ d < y) :
    Calls Try.prog 66 #[.pointer (some ⟨z.p, 0, none⟩), .int .i64 (v : Nat), .int .i64 d] A fun e A' => e = .returned (.int .i64 0) ∧ Keeps F A A' ∧ SD A' B z gp j N k (HM.upd hm v (some d)) (grow F A A') := by
  have hlt := fun A' hs => SD.lt_grow (A' := A') h hs hB
  obtain ⟨c0, c1, c2, c3, ⟨bp, bc, lv, line, place, come, h1, h2, h3⟩, ⟨xs, st, now, r1, r2⟩, f, n, lt, few⟩ := h
  have hp := HI.put_any h1 h2 (by omega) v d
  have hcode : HM.code HM.TI N hm v d = 0 := by
    unfold HM.code
    rw [if_pos (by omega), Int.toNat_natCast]
    rcases hc with e | ⟨y, e, hy⟩
    · rw [e]
    · rw [e]
      show (if decide (d < y) = true then (0 : Int) else 5) = 0
      rw [if_pos (by simpa using hy)]
  have hput : HM.put HM.TI N hm v d = HM.upd hm v (some d) := by
    unfold HM.put
    rw [hcode, if_pos rfl, Int.toNat_natCast]
  rw [hcode, hput] at hp
  refine hp.mono ?_
  rintro e A' ⟨rfl, lv', line', place', come', m1, m2, m3, m4⟩
  have hq : ¬ foot z.p bp bc lv z.q := fun hb => (h3 _ hb).2.1 rfl
  have hs := m3.size
  refine ⟨rfl, m3.mono (fun b hb => (h3 b hb).1), m3.cell c0 hq, m3.cell c1 hq, m3.cell c2 hq, m3.cell c3 hq, ⟨bp, bc, lv', line', place', come', m1, m2, fun b hb => ?_⟩, ⟨xs, st, now, r1.kept m3 (fun b hb hc => (h3 b hc).2.2 hb), r2⟩, fun b hb => .inl (f b hb), n, hlt A' hs, few⟩
  rcases m4 b hb with h5 | h5
  · exact ⟨.inl (h3 b h5).1, (h3 b h5).2⟩
  · have l1 := (m1.lt b hb).2
    have l2 := (lt _ (f _ (.inl rfl))).2
    refine ⟨.inr ⟨h5, l1⟩, by omega, fun hx => ?_⟩
    have := (r1.lt b hx).2
    omega
/-- A vertex is marked. -/
theorem SD.mark (h : SD A B z gp j N k hm F) (v : Nat) (hv : v < N) (a b : Int) :
    Calls Try.prog 82 #[.pointer (some ⟨z.r, 0, none⟩), .int .i64 (v : Nat), .agg #[.int .i64 a, .int .i64 b]] A fun e A' => e = .returned (.int .i64 0) ∧ Keeps F A A' ∧ SD A' B z gp j N (SM.upd k v (some (a, b))) hm F := by
  obtain ⟨c0, c1, c2, c3, ⟨bp, bc, lv, line, place, come, h1, h2, h3⟩, ⟨xs, st, now, r1, r2⟩, f, n, lt, few⟩ := h
  refine (RK.set_in r1 r2 (by omega) v hv a b).mono ?_
  rintro e A' ⟨rfl, xs', st', m1, m2, m3⟩
  refine ⟨rfl, m3.mono (fun b hb => f b (.inr hb)), m3.cell c0 n, m3.cell c1 n, m3.cell c2 n, m3.cell c3 n, ⟨bp, bc, lv, line, place, come, h1.kept m3 (fun b hb => (h3 b hb).2.2), h2, h3⟩, ⟨xs', st', now, m1, m2⟩, f, n, fun b hb => ⟨(lt b hb).1, Nat.lt_of_lt_of_le (lt b hb).2 m3.size⟩, few⟩
/-- What Get answers of a mark. -/
def markV (x : Option (Int × Int)) : Value := match x with
  | some y => .tuple #[.agg #[.int .i64 y.1, .int .i64 y.2], .bool true]
  | none => .tuple #[.agg #[.int .i64 0, .int .i64 0], .bool false]
theorem SD.get (h : SD A B z gp j N k hm F) (v : Nat) (hv : v < N) :
    Calls Try.prog 86 #[.pointer (some ⟨z.r, 0, none⟩), .int .i64 (v : Nat)] A fun e A' => e = .returned (markV (k v)) ∧ Below A.heap.size A A' := by
  obtain ⟨-, -, -, -, -, ⟨xs, st, now, r1, r2⟩, -, -, -, -⟩ := h
  cases e : k v with
  | none => exact RK.get_no r1 r2 v hv e
  | some x => exact RK.get_in r1 r2 v hv x.1 x.2 e
end

/-- What has come of both sides so far, seen from side j: its struct in block mq. -/
structure ME (A : World) (B mq gp N j at_ : Nat) (x : Int) (zs zo : Sid) (ks ko : Nat → Option (Int × Int)) (hs ho : Nat → Option Int) (Fs Fo : Nat → Prop) : Prop where
  cs : A.cell? ⟨mq, j, none⟩ = some (.pointer (some ⟨zs.q, 0, none⟩))
  co : A.cell? ⟨mq, 1 - j, none⟩ = some (.pointer (some ⟨zo.q, 0, none⟩))
  ca : A.cell? ⟨mq, 2, none⟩ = some (.int .i64 (at_ : Nat))
  cx : A.cell? ⟨mq, 3, none⟩ = some (.int .i64 x)
  fa : A.frozen? ⟨mq, 2, none⟩ = false
  fx : A.frozen? ⟨mq, 3, none⟩ = false
  s : SD A B zs gp j N ks hs Fs
  o : SD A B zo gp (1 - j) N ko ho Fo
  d : ∀ b, Fs b → ¬ Fo b
  ms : ¬ Fs mq
  mo : ¬ Fo mq
  lo : B ≤ mq
  j1 : j ≤ 1
section
variable {A A' : World} {B mq gp N j at_ : Nat} {x : Int} {zs zo : Sid} {ks ko ks' : Nat → Option (Int × Int)} {hs ho hs' : Nat → Option Int} {Fs Fo Fs' G : Nat → Prop}
theorem ME.ml (h : ME A B mq gp N j at_ x zs zo ks ko hs ho Fs Fo) : mq < A.heap.size := cell_lt h.ca
theorem ME.kept (h : ME A B mq gp N j at_ x zs zo ks ko hs ho Fs Fo) (hk : Keeps G A A') (hG : ∀ b, b = mq ∨ Fs b ∨ Fo b → ¬ G b) : ME A' B mq gp N j at_ x zs zo ks ko hs ho Fs Fo := by
  have hq := hG mq (.inl rfl)
  exact ⟨hk.cell h.cs hq, hk.cell h.co hq, hk.cell h.ca hq, hk.cell h.cx hq, (hk.frozen (p := ⟨mq, 2, none⟩) h.ml hq).trans h.fa, (hk.frozen (p := ⟨mq, 3, none⟩) h.ml hq).trans h.fx, h.s.kept hk (fun b hb => hG b (.inr (.inl hb))), h.o.kept hk (fun b hb => hG b (.inr (.inr hb))), h.d, h.ms, h.mo, h.lo, h.j1⟩
theorem ME.on (h : ME A B mq gp N j at_ x zs zo ks ko hs ho Fs Fo) (hb : Below A.heap.size A A') : ME A' B mq gp N j at_ x zs zo ks ko hs ho Fs Fo := h.kept (Below.keeps hb (fun _ => False)) (fun _ _ h => h)
theorem ME.swap (h : ME A B mq gp N j at_ x zs zo ks ko hs ho Fs Fo) : ME A B mq gp N (1 - j) at_ x zo zs ko ks ho hs Fo Fs := by
  have e : 1 - (1 - j) = j := by have := h.j1; omega
  exact ⟨h.co, by rw [e]; exact h.cs, h.ca, h.cx, h.fa, h.fx, h.o, by rw [e]; exact h.s, fun b hb hc => h.d b hc hb, h.mo, h.ms, h.lo, by omega⟩
/-- One side has turned its own blocks. -/
theorem ME.side (h : ME A B mq gp N j at_ x zs zo ks ko hs ho Fs Fo) (hk : Keeps Fs A A') (hn : SD A' B zs gp j N ks' hs' Fs') (hF : ∀ b, Fs' b → Fs b ∨ A.heap.size ≤ b) : ME A' B mq gp N j at_ x zs zo ks' ko hs' ho Fs' Fo := by
  have hl := h.ml
  exact ⟨hk.cell h.cs h.ms, hk.cell h.co h.ms, hk.cell h.ca h.ms, hk.cell h.cx h.ms, (hk.frozen (p := ⟨mq, 2, none⟩) hl h.ms).trans h.fa, (hk.frozen (p := ⟨mq, 3, none⟩) hl h.ms).trans h.fx, hn, h.o.kept hk (fun b hb hc => h.d b hc hb), fun b hb hc => by
    rcases hF b hb with h1 | h1
    · exact h.d b h1 hc
    · have := (h.o.lt b hc).2
      omega, fun hb => by
    rcases hF _ hb with h1 | h1
    · exact h.ms h1
    · omega, h.mo, h.lo, h.j1⟩
theorem ME.wide (h : ME A B mq gp N j at_ x zs zo ks ko hs ho Fs Fo) {A0 : World} (hB : B ≤ A0.heap.size) (_hs0 : A0.heap.size ≤ A.heap.size) (hl : mq < A0.heap.size) (hFo : ∀ b, Fo b → b < A0.heap.size) : ME A B mq gp N j at_ x zs zo ks ko hs ho (grow Fs A0 A) Fo := by
  refine ⟨h.cs, h.co, h.ca, h.cx, h.fa, h.fx, h.s.wide (fun b hb => .inl hb) (fun b hb => ?_), h.o, fun b hb hc => ?_, fun hb => ?_, h.mo, h.lo, h.j1⟩
  · rcases hb with hb | hb
    · exact h.s.lt b hb
    · omega
  · rcases hb with hb | hb
    · exact h.d b hb hc
    · have := hFo b hc
      omega
  · rcases hb with hb | hb
    · exact h.ms hb
    · omega
/-- The best vertex is turned, and how far it is by way of it. -/
theorem ME.set (h : ME A B mq gp N j at_ x zs zo ks ko hs ho Fs Fo) (v : Nat) (y : Int) : ME ((A.setCell ⟨mq, 2, none⟩ (.int .i64 (v : Nat))).setCell ⟨mq, 3, none⟩ (.int .i64 y)) B mq gp N j v y zs zo ks ko hs ho Fs Fo ∧ Keeps (fun b => b = mq) A ((A.setCell ⟨mq, 2, none⟩ (.int .i64 (v : Nat))).setCell ⟨mq, 3, none⟩ (.int .i64 y)) := by
  have hk : Keeps (fun b => b = mq) A ((A.setCell ⟨mq, 2, none⟩ (.int .i64 (v : Nat))).setCell ⟨mq, 3, none⟩ (.int .i64 y)) := (keeps_set A mq 2 (.int .i64 (v : Nat))).setCell (p := ⟨mq, 3, none⟩) (.inl rfl) _
  have hj := h.j1
  have oth : ∀ i, i ≤ 1 → ((A.setCell ⟨mq, 2, none⟩ (.int .i64 (v : Nat))).setCell ⟨mq, 3, none⟩ (.int .i64 y)).cell? ⟨mq, i, none⟩ = A.cell? ⟨mq, i, none⟩ := fun i hi => by
    rw [World.cell?_setCell_other _ _ _ _ (by intro e; injection e with _ e; omega), World.cell?_setCell_other _ _ _ _ (by intro e; injection e with _ e; omega)]
  refine ⟨⟨(oth j hj).trans h.cs, (oth (1 - j) (by omega)).trans h.co, ?_, ?_, ?_, ?_, h.s.kept hk (fun b hb e => h.ms (e ▸ hb)), h.o.kept hk (fun b hb e => h.mo (e ▸ hb)), h.d, h.ms, h.mo, h.lo, hj⟩, hk⟩
  · rw [World.cell?_setCell_other _ _ _ _ (by simp)]
    exact World.cell?_setCell_same _ _ _ h.ca
  · refine World.cell?_setCell_same' _ _ _ ?_
    rw [World.cell?_setCell_other _ _ _ _ (by simp)]
    exact Option.isSome_iff_exists.2 ⟨_, h.cx⟩
  · simp [h.fa]
  · simp [h.fx]
end
end Go.Proofs.Ytmamligiopbefaa
end

section
/-
  The walks of both's hasVertex, newSide, far and canBeBetter.
-/
namespace Go.Proofs.Ytmamligiopbefaa
open Go.RowKit Go.Shelf

set_option maxHeartbeats 400000 in
theorem bvertex_any {w : World} {p n most : Nat} {m : GM.M} (hg : GMem w p n most m) (v : Int) :
    Calls Try.prog 24 #[.pointer (some ⟨p, 0, none⟩), .int .i64 v] w fun e w' => e = .returned (.bool (GM.vert n v)) ∧ w' = w := by
  have HV : Hid (∀ W, Below w.heap.size w W → Calls Try.prog 49 #[.pointer (some ⟨p, 0, none⟩)] W fun e w' => e = .returned (.int .i64 (n : Nat)) ∧ w' = W) := fun W hW => vertices_any (hg.on hW)
  clear hg
  by_cases h : 0 ≤ v
  · go_enter Try.func24, Try.ntmps24
    go_wp2_with fail
    refine (HV.out _ (Below.refl _ _)).mono ?_
    rintro e w' ⟨rfl, rfl⟩
    go_wp2
    all_goals go_ret
    all_goals refine ⟨ret_bool ?_, rfl⟩
    all_goals unfold GM.vert
    all_goals simp
    all_goals omega
  · go_enter Try.func24, Try.ntmps24
    go_wp2_with fail
    all_goals go_ret
    all_goals refine ⟨ret_bool ?_, rfl⟩
    all_goals unfold GM.vert
    all_goals simp
    all_goals omega
theorem smem_base {e : TypeId} {sz : Nat} {w : World} {B B' p bt bs n : Nat} {xs : List Value} {st : List Nat} {now : Nat} (h : SMem e sz w B p bt bs n xs st now) (hb : B' ≤ B) : SMem e sz w B' p bt bs n xs st now :=
  ⟨h.c0, h.c1, h.c2, h.fz, row_base h.th hb, row_base h.sp hb, Nat.le_trans hb h.lo, h.n1, h.n2, h.n3⟩
set_option maxHeartbeats 1000000 in
theorem newSide_any {w : World} {gp N most : Nat} {m : GM.M} (hg : GMem w gp N most m) (hN : N ≤ 24) (j : Nat) :
    Calls Try.prog 50 #[.pointer (some ⟨gp, 0, none⟩), .int .i64 (j : Nat)] w fun e w' => ∃ z : Sid, e = .returned (.pointer (some ⟨z.q, 0, none⟩)) ∧
      SD w' w.heap.size z gp j N (fun _ => none) (fun _ => none) (fun b => w.heap.size ≤ b ∧ b < w'.heap.size) ∧ Below w.heap.size w w' := by
  have HG : Hid (∀ W, Below w.heap.size w W → GMem W gp N most m) := fun W hW => hg.on hW
  have hv := vertices_any hg
  have hnew := HI.new_any N (by omega) w
  clear hg
  go_enter Try.func50, Try.ntmps50
  go_wp2_with fail
  refine hv.mono ?_
  rintro e w2 ⟨rfl, hw2⟩
  rw [hw2]
  clear hv hw2 w2
  go_wp2_with fail
  refine hnew.mono ?_
  rintro e w1 ⟨p, bp, bc, rfl, hM, hb1⟩
  have hv1 := vertices_any (HG.out _ hb1)
  have hst := RK.new_any N (by omega) w1
  have HM1 : Hid (HMem (Value.int .i64) 3 w1 w.heap.size p bp bc (.slice none 0 0) [] (List.replicate N (-1)) (List.replicate N (0 : Int)) ∧ Below w.heap.size w w1) := ⟨hM, hb1⟩
  clear hnew hM hb1
  go_wp2_with fail
  refine hv1.mono ?_
  rintro e w2 ⟨rfl, hw2⟩
  rw [hw2]
  clear hv1 hw2 w2
  go_wp2_with fail
  refine hst.mono ?_
  rintro e w3 ⟨r, t, s, xs, st, now, rfl, hS, hR, hb3⟩
  have HS : Hid (SMem 89 2 w3 w1.heap.size r t s N xs st now ∧ SM.Rep RK.At N (fun _ => none) xs st now ∧ Below w1.heap.size w1 w3) := ⟨hS, hR, hb3⟩
  clear hst hS hR hb3
  go_wp2_with fail
  go_ret
  obtain ⟨hM, hb1⟩ := HM1.out
  obtain ⟨hS, hR, hb3⟩ := HS.out
  have ha : Below w3.heap.size w3 (w3.alloc (.cells #[.pointer (some ⟨p, 0, none⟩), .pointer (some ⟨r, 0, none⟩), .pointer (some ⟨gp, 0, none⟩), .int .i64 (j : Nat)] 121)) := (Below.refl _ _).alloc (Nat.le_refl _) _
  have e1 := hb1.size
  have e3 := hb3.size
  have lM := hM.lt
  have lS := hS.lt
  have hsz : (w3.alloc (.cells #[.pointer (some ⟨p, 0, none⟩), .pointer (some ⟨r, 0, none⟩), .pointer (some ⟨gp, 0, none⟩), .int .i64 (j : Nat)] 121)).heap.size = w3.heap.size + 1 := by simp
  refine ⟨⟨w3.heap.size, p, r, t, s⟩, rfl, ⟨by simp, by simp, by simp, by simp, ⟨bp, bc, _, _, _, _, hM.below (below_on hb3 ha), HI.rep_new N, fun b hb => ?_⟩, ⟨xs, st, now, (smem_base hS e1).below ha, hR⟩, fun b hb => ?_, fun hb => ?_, fun b hb => ⟨hb.1, hb.2⟩, hN⟩, below_on hb1 (below_on hb3 ha)⟩
  · have := lM b hb
    dsimp only
    refine ⟨⟨by omega, by omega⟩, by omega, fun hx => ?_⟩
    have := lS b hx
    omega
  · dsimp only at hb
    rcases hb with hb | hb
    · rw [hb, hsz]
      exact ⟨by omega, by omega⟩
    · have := lS b hb
      exact ⟨by omega, by omega⟩
  · have := (lS w3.heap.size hb).2
    omega
set_option maxHeartbeats 1000000 in
theorem far_any {A : World} {B : Nat} {z : Sid} {gp j N : Nat} {k : Nat → Option (Int × Int)} {hm : Nat → Option Int} {F : Nat → Prop} (h : SD A B z gp j N k hm F) (v : Nat) (hv : v < N) :
    Calls Try.prog 81 #[.pointer (some ⟨z.q, 0, none⟩), .int .i64 (v : Nat)] A fun e A' => e = .returned (.int .i64 (NM.farOf k v)) ∧ Below A.heap.size A A' := by
  have hg := h.get v hv
  have c1 := h.c1
  clear h hv
  obtain ⟨q, p, r, t, s⟩ := z
  dsimp only at hg c1 ⊢
  unfold NM.farOf
  cases e : k v with
  | none =>
    rw [e] at hg
    clear e
    simp only [markV] at hg
    go_enter Try.func81, Try.ntmps81
    go_wp2_with fail
    refine hg.mono ?_
    rintro e w1 ⟨rfl, hb1⟩
    have HB : Hid (Below A.heap.size A w1) := hb1
    clear hg hb1 c1
    go_wp2_with fail
    go_ret
    exact ⟨rfl, HB.out.alloc HB.out.size _⟩
  | some x =>
    obtain ⟨a, b⟩ := x
    rw [e] at hg
    clear e
    simp only [markV] at hg
    go_enter Try.func81, Try.ntmps81
    go_wp2_with fail
    refine hg.mono ?_
    rintro e w1 ⟨rfl, hb1⟩
    have HB : Hid (Below A.heap.size A w1) := hb1
    clear hg hb1 c1
    go_wp2_with fail
    go_ret
    exact ⟨rfl, HB.out.alloc HB.out.size _⟩

theorem add_cells {W : World} {n : Nat} {a b : Int} (h0 : W.cell? ⟨n, 0, none⟩ = some (.int .i64 a)) (h1 : W.cell? ⟨n, 1, none⟩ = some (.int .i64 b)) :
    Calls Try.prog 62 #[.slice (some ⟨n, 0, none⟩) 2 2] W fun e w' => e = .returned (.int .i64 (DM.two a b)) ∧ w' = W := by
  have := add_row (.slice (some ⟨n, 0, none⟩) 2 2) [a, b] W ⟨some ⟨n, 0, none⟩, 2, rfl, Nat.le_refl _, by unfold maxLen; decide, fun h => (by cases h), fun _ => ⟨n, 0, rfl, fun i hi => by
    match i, hi with
    | 0, _ => simpa using h0
    | 1, _ => simpa using h1⟩⟩
  rwa [WK.two_norm] at this
theorem less_bd {a b : Int} (ha : 0 ≤ a ∧ a ≤ 4611686018427387906) (hb : 0 ≤ b ∧ b ≤ 4611686018427387906) (W : World) :
    Calls Try.prog 65 #[.int .i64 a, .int .i64 b] W fun e w' => e = .returned (.bool (decide (a < b))) ∧ w' = W := by
  have := less_any a b W
  rwa [show GM.norm a = a from DM.norm_of ha.1 ha.2, show GM.norm b = b from DM.norm_of hb.1 hb.2] at this
/-- May there be a shorter way? -/
noncomputable def better (h1 h2 : Nat → Option Int) (x : Int) : Bool := match HM.firstOf HM.TI h1, HM.firstOf HM.TI h2 with
  | some f, some g => decide (DM.two f.2 g.2 < x)
  | _, _ => false
theorem peekT_pair (o : Option (Nat × Int)) : ∃ (u : Nat) (r : Int), peekT (Value.int .i64) (0 : Int) o = .tuple #[.int .i64 (u : Nat), .int .i64 r, .bool o.isSome] ∧ (∀ f, o = some f → f.2 = r) := by
  cases o with
  | none => exact ⟨0, 0, rfl, fun f h => by cases h⟩
  | some f => exact ⟨f.1, f.2, rfl, fun g h => by cases h; rfl⟩
set_option maxHeartbeats 4000000 in
theorem canBeBetter_any {A : World} {B mq gp N at_ : Nat} {x : Int} {zs zo : Sid} {ks ko : Nat → Option (Int × Int)} {hs ho : Nat → Option Int} {Fs Fo : Nat → Prop} (h : ME A B mq gp N 0 at_ x zs zo ks ko hs ho Fs Fo) (hx : 0 ≤ x ∧ x ≤ 4611686018427387906) :
    Calls Try.prog 52 #[.pointer (some ⟨mq, 0, none⟩)] A fun e A' => e = .returned (.bool (better hs ho x)) ∧ Below A.heap.size A A' := by
  have cs := h.cs
  have cs0 := h.s.c0
  have hp1 := h.s.peek
  have HCX : Hid (∀ W, Below A.heap.size A W → W.cell? ⟨mq, 3, none⟩ = some (.int .i64 x)) := fun W hW => (h.on hW).cx
  have HO : Hid (∀ W, Below A.heap.size A W → W.cell? ⟨mq, 1, none⟩ = some (.pointer (some ⟨zo.q, 0, none⟩)) ∧ W.cell? ⟨zo.q, 0, none⟩ = some (.pointer (some ⟨zo.p, 0, none⟩)) ∧ Calls Try.prog 83 #[.pointer (some ⟨zo.p, 0, none⟩)] W fun e A' => e = .returned (peekT (Value.int .i64) (0 : Int) (HM.firstOf HM.TI ho)) ∧ Below W.heap.size W A') := fun W hW => ⟨(h.on hW).co, (h.on hW).o.c0, (h.on hW).o.peek⟩
  clear h
  unfold better
  generalize HM.firstOf HM.TI hs = o1 at *
  generalize HM.firstOf HM.TI ho = o2 at *
  obtain ⟨u1, r1, e1, g1⟩ := peekT_pair o1
  obtain ⟨u2, r2, e2, g2⟩ := peekT_pair o2
  rw [e1] at hp1
  rw [e2] at HO
  clear e1 e2
  obtain ⟨q1, p1, a1, a2, a3⟩ := zs
  obtain ⟨q2, p2, a4, a5, a6⟩ := zo
  simp only at cs cs0 hp1 HO
  go_enter Try.func52, Try.ntmps52
  go_wp2_with fail
  refine hp1.mono ?_
  rintro e w1 ⟨rfl, hb1⟩
  have HB1 : Hid (Below A.heap.size A w1) := hb1
  obtain ⟨co, co0, hp2⟩ := HO.out w1 hb1
  clear hp1 hb1 cs cs0 HO
  go_wp2_with fail
  refine hp2.mono ?_
  rintro e w2 ⟨rfl, hb2⟩
  have HB2 : Hid (Below A.heap.size A w2) := below_on HB1.out hb2
  have cx := HCX.out w2 HB2.out
  clear hp2 hb2 co co0 HB1
  cases o1 with
  | none =>
    rw [Option.isSome_none]
    clear g1 g2 cx HCX hx
    go_wp2_with fail
    go_quiet (fail)
    go_wp2_with fail
    go_ret
    exact ⟨rfl, below_drewN HB2.out _⟩
  | some f =>
    rw [Option.isSome_some]
    have hr1 := g1 f rfl
    cases o2 with
    | none =>
      rw [Option.isSome_none]
      clear g1 g2 cx HCX hx hr1
      go_wp2_with fail
      go_quiet (fail)
      go_wp2_with fail
      go_ret
      exact ⟨rfl, below_drewN HB2.out _⟩
    | some g =>
      rw [Option.isSome_some]
      have hr2 := g2 g rfl
      have HCC : Hid (decide (DM.two f.2 g.2 < x) = decide (DM.two r1 r2 < x)) := by show _ = _; rw [hr1, hr2]
      have HL : Hid (∀ W, Calls Try.prog 65 #[.int .i64 (DM.two r1 r2), .int .i64 x] W fun e w' => e = .returned (.bool (decide (DM.two r1 r2 < x))) ∧ w' = W) := fun W => less_bd (DM.two_bd r1 r2) hx W
      have HADD : Hid (∀ W n, W.cell? ⟨n, 0, none⟩ = some (.int .i64 r1) → W.cell? ⟨n, 1, none⟩ = some (.int .i64 r2) → Calls Try.prog 62 #[.slice (some ⟨n, 0, none⟩) 2 2] W fun e w' => e = .returned (.int .i64 (DM.two r1 r2)) ∧ w' = W) := fun W n h0 h1 => add_cells h0 h1
      have HC2 : Hid (∀ W, Below w2.heap.size w2 W → W.cell? ⟨mq, 3, none⟩ = some (.int .i64 x)) := fun W hW => HCX.out W (below_on HB2.out hW)
      clear g1 g2 hr1 hr2 HCX
      generalize DM.two r1 r2 = y at *
      generalize hc : decide (y < x) = c at *
      clear hc hx
      go_wp2_with fail
      have cxd : w2.drew.cell? ⟨mq, 3, none⟩ = some (.int .i64 x) := cx
      have cxa : (w2.drew.alloc (.cells #[.int .i64 r1, .int .i64 r2] 3)).cell? ⟨mq, 3, none⟩ = some (.int .i64 x) := HC2.out _ ((Below.refl _ _).drew.alloc (Nat.le_refl _) _)
      go_region_held3 (fun w' => w'.cell? ⟨mq, 3, none⟩ = some (.int .i64 x)) (go_keep) (first
        | (go_at_call 65; refine (HL.out _).mono ?_; rintro e w4 ⟨rfl, rfl⟩)
        | (go_at_call 62; refine (HADD.out _ _ (by simp) (by simp)).mono ?_; rintro e w4 ⟨rfl, rfl⟩))
      go_wp2_with fail
      go_ret
      exact ⟨ret_bool HCC.out.symm, (HB2.out.alloc HB2.out.size _).drew⟩
end Go.Proofs.Ytmamligiopbefaa
end

section
/-
  What holds from operation to operation while a side comes to a vertex.
-/
namespace Go.Proofs.Ytmamligiopbefaa
open Go.RowKit Go.Shelf

/-- The best vertex, and how far it is by way of it, behind one more. -/
def lessAt (y x : Int) (v a : Nat) : Nat := if y < x then v else a
def lessOf (y x : Int) : Int := if y < x then y else x
theorem lessAt_pos {y x : Int} {v a : Nat} (h : y < x) : lessAt y x v a = v := if_pos h
theorem lessAt_neg {y x : Int} {v a : Nat} (h : x ≤ y) : lessAt y x v a = a := if_neg (by omega)
theorem lessOf_pos {y x : Int} (h : y < x) : lessOf y x = y := if_pos h
theorem lessOf_neg {y x : Int} (h : x ≤ y) : lessOf y x = x := if_neg (by omega)
/-- In block y lies the mark; of A's blocks only Fs' and the meeting's were turned. -/
structure RS (A : World) (y : Nat) (d b : Int) (B mq gp N j at_ : Nat) (x : Int) (zs zo : Sid) (ks ko : Nat → Option (Int × Int)) (hs ho : Nat → Option Int) (Fs Fo : Nat → Prop) (W : World) : Prop where
  m : ∃ F, ME W B mq gp N j at_ x zs zo ks ko hs ho F Fo ∧ (∀ b, F b → Fs b ∨ A.heap.size ≤ b) ∧ ¬ F y
  y0 : W.cell? ⟨y, 0, none⟩ = some (.int .i64 d)
  y1 : W.cell? ⟨y, 1, none⟩ = some (.int .i64 b)
  k : Keeps (fun b => Fs b ∨ b = mq) A W
  ny : y ≠ mq
section
variable {A W W' : World} {y : Nat} {d b : Int} {B mq gp N j at_ : Nat} {x : Int} {zs zo : Sid} {ks ko : Nat → Option (Int × Int)} {hs ho : Nat → Option Int} {Fs Fo : Nat → Prop}
theorem RS.begin (h : ME A B mq gp N j at_ x zs zo ks ko hs ho Fs Fo) : RS A A.heap.size d b B mq gp N j at_ x zs zo ks ko hs ho Fs Fo (A.alloc (.cells #[.int .i64 d, .int .i64 b] 89)) := by
  have hb1 : Below A.heap.size A (A.alloc (.cells #[.int .i64 d, .int .i64 b] 89)) := (Below.refl _ _).alloc (Nat.le_refl _) _
  have := h.ml
  exact ⟨⟨Fs, h.on hb1, fun b hb => .inl hb, fun hb => by have := (h.s.lt _ hb).2; omega⟩, by simp, by simp, Below.keeps hb1 _, by omega⟩
theorem RS.on (h : RS A y d b B mq gp N j at_ x zs zo ks ko hs ho Fs Fo W) (hb : Below W.heap.size W W') : RS A y d b B mq gp N j at_ x zs zo ks ko hs ho Fs Fo W' := by
  obtain ⟨⟨F, m, f, n⟩, y0, y1, k, ny⟩ := h
  exact ⟨⟨F, m.on hb, f, n⟩, (hb.cell (p := ⟨y, 0, none⟩) (cell_lt y0)).trans y0, (hb.cell (p := ⟨y, 1, none⟩) (cell_lt y1)).trans y1, k.trans (Below.keeps hb (fun _ => False)) (fun _ h => h.elim), ny⟩
theorem RS.set (h : RS A y d b B mq gp N j at_ x zs zo ks ko hs ho Fs Fo W) (v : Nat) (hv : v < N) :
    Calls Try.prog 82 #[.pointer (some ⟨zs.r, 0, none⟩), .int .i64 (v : Nat), .agg #[.int .i64 d, .int .i64 b]] W fun e W' => e = .returned (.int .i64 0) ∧
      RS A y d b B mq gp N j at_ x zs zo (SM.upd ks v (some (d, b))) ko hs ho Fs Fo W' := by
  obtain ⟨⟨F, m, f, n⟩, y0, y1, k, ny⟩ := h
  refine (m.s.mark v hv d b).mono ?_
  rintro e W' ⟨rfl, h1, h2⟩
  exact ⟨rfl, ⟨F, m.side h1 h2 (fun b hb => .inl hb), f, n⟩, h1.cell y0 n, h1.cell y1 n, k.trans h1 (fun b hb => by
    rcases f b hb with h | h
    · exact .inl (.inl h)
    · exact .inr h), ny⟩
theorem RS.put (h : RS A y d b B mq gp N j at_ x zs zo ks ko hs ho Fs Fo W) (hB : B ≤ A.heap.size) (v : Nat) (hv : v < N) (hc : hs v = none ∨ ∃ y, hs v = some y ∧ d < y) :
    Calls Try.prog 66 #[.pointer (some ⟨zs.p, 0, none⟩), .int .i64 (v : Nat), .int .i64 d] W fun e W' => e = .returned (.int .i64 0) ∧
      RS A y d b B mq gp N j at_ x zs zo ks ko (HM.upd hs v (some d)) ho Fs Fo W' := by
  obtain ⟨⟨F, m, f, n⟩, y0, y1, k, ny⟩ := h
  have ks := k.size
  refine (m.s.put (by omega) v hv d hc).mono ?_
  rintro e W' ⟨rfl, h1, h2⟩
  refine ⟨rfl, ⟨grow F W W', m.side h1 h2 (fun b hb => ?_), fun b hb => ?_, fun hb => ?_⟩, h1.cell y0 n, h1.cell y1 n, k.trans h1 (fun b hb => by
    rcases f b hb with h | h
    · exact .inl (.inl h)
    · exact .inr h), ny⟩
  · rcases hb with hb | hb
    · exact .inl hb
    · exact .inr hb.1
  · rcases hb with hb | hb
    · exact f b hb
    · exact .inr (by omega)
  · rcases hb with hb | hb
    · exact n hb
    · have := cell_lt y0
      dsimp only at this
      omega
theorem RS.best (h : RS A y d b B mq gp N j at_ x zs zo ks ko hs ho Fs Fo W) (v : Nat) (u : Int) : RS A y d b B mq gp N j v u zs zo ks ko hs ho Fs Fo ((W.setCell ⟨mq, 2, none⟩ (.int .i64 (v : Nat))).setCell ⟨mq, 3, none⟩ (.int .i64 u)) := by
  obtain ⟨⟨F, m, f, n⟩, y0, y1, k, ny⟩ := h
  obtain ⟨h1, h2⟩ := m.set v u
  exact ⟨⟨F, h1, f, n⟩, h2.cell y0 ny, h2.cell y1 ny, k.trans h2 (fun b hb => .inl (.inr hb)), ny⟩
theorem RS.done (h : RS A y d b B mq gp N j at_ x zs zo ks ko hs ho Fs Fo W) (h0 : ∀ b, Fo b → b < A.heap.size) (hl : mq < A.heap.size) (hFs : ∀ b, Fs b → B ≤ b ∧ b < A.heap.size) (hB : B ≤ A.heap.size) (hd : ∀ b, Fs b → ¬ Fo b) (hm : ¬ Fs mq) : Keeps (fun b => Fs b ∨ b = mq) A W ∧ ME W B mq gp N j at_ x zs zo ks ko hs ho (grow Fs A W) Fo := by
  obtain ⟨⟨F, m, f, n⟩, y0, y1, k, ny⟩ := h
  have hs := k.size
  refine ⟨k, ⟨m.cs, m.co, m.ca, m.cx, m.fa, m.fx, m.s.wide (fun b hb => ?_) (fun b hb => ?_), m.o, fun b hb hc => ?_, fun hb => ?_, m.mo, m.lo, m.j1⟩⟩
  · rcases f b hb with h1 | h1
    · exact .inl h1
    · exact .inr ⟨h1, (m.s.lt b hb).2⟩
  · rcases hb with hb | hb
    · have := hFs b hb
      omega
    · omega
  · rcases hb with hb | hb
    · exact hd b hb hc
    · have := h0 b hc
      omega
  · rcases hb with hb | hb
    · exact hm hb
    · omega
end
end Go.Proofs.Ytmamligiopbefaa
end

section
/-
  While a vertex is gone on from, of two sides' search. Nothing of the program.
-/
namespace Go.Proofs.Ytmamligiopbefaa
namespace NM
/-- Vertex u is gone on from, r far, by what is in pre; the other side's marks are ko. -/
structure PR (m : GM.M) (L : Nat → List (Int × Int)) (N s u : Nat) (r : Int) (dn : Nat → Bool) (ko : Nat → Option (Int × Int)) (pre : List (Int × Int)) (ks : Nat → Option (Int × Int)) (hs : Nat → Option Int) (at_ : Nat) (x : Int) : Prop where
  dj : DJ m L N s u pre (farOf ks) hs dn
  ar : BY m N s ks dn
  fu : farOf ks u = r
  mt : MT N (farOf ks) (farOf ko) at_ x
section
variable {m : GM.M} {L : Nat → List (Int × Int)} {N s u : Nat} {r : Int} {dn : Nat → Bool} {ko ks : Nat → Option (Int × Int)} {pre : List (Int × Int)} {hs : Nat → Option Int} {at_ : Nat} {x : Int}
theorem MT.bd {N : Nat} {F B : Nat → Int} {at_ : Nat} {x : Int} (h : MT N F B at_ x) : 0 ≤ x ∧ x ≤ 4611686018427387906 := by
  rcases h.is with e | ⟨-, e⟩
  · omega
  · rw [e]; exact DM.two_bd _ _
theorem PR.go (hW : Ways m N L) (hu : u < N) (hdu : dn u = true) (hr : r ≠ 4611686018427387906) (hko : ∀ v, 0 ≤ farOf ko v ∧ farOf ko v ≤ 4611686018427387906) (h : PR m L N s u r dn ko pre ks hs at_ x) {i : Nat} (hi : i < 64) (hz : opn m u i) (hw : 0 ≤ wt m i ∧ wt m i ≤ 4611686018427387904) (hx : (hd m i, wt m i) ∈ L u) :
    ∃ k : Nat, hd m i = k ∧ k < N ∧ (DM.two r (wt m i) < farOf ks k → (hs k = none ∨ ∃ y, hs k = some y ∧ DM.two r (wt m i) < y) ∧
        PR m L N s u r dn ko (pre ++ [(hd m i, wt m i)]) (SM.upd ks k (some (DM.two r (wt m i), (i : Int)))) (HM.upd hs k (some (DM.two r (wt m i)))) (lessAt (DM.two (DM.two r (wt m i)) (farOf ko k)) x k at_) (lessOf (DM.two (DM.two r (wt m i)) (farOf ko k)) x)) ∧
      (¬ DM.two r (wt m i) < farOf ks k → PR m L N s u r dn ko (pre ++ [(hd m i, wt m i)]) ks hs at_ x) := by
  obtain ⟨dj, ar, fu, mt⟩ := h
  obtain ⟨k, hk, hkN, hy, hn⟩ := dj.reach hW hu hdu hx (by rw [fu]; exact hr)
  dsimp only at hk hy hn
  rw [fu] at hy hn
  refine ⟨k, hk, hkN, fun hlt => ?_, fun hge => ⟨hn hge, ar, fu, mt⟩⟩
  obtain ⟨h1, h2, h3⟩ := hy hlt
  have hfu : 0 ≤ farOf ks u ∧ farOf ks u ≤ 4611686018427387905 := by
    have := ar.bd u
    rw [fu] at this ⊢
    omega
  have hdk := DJ.unset hW hu dj (by rw [fu]; exact hr) hz hk hkN (by rw [fu]; exact hlt)
  have hby := ar.reach hu hdu hi hz hk hfu hw hdk (by rw [fu]; exact hlt)
  rw [fu] at hby
  have hmt := mt.reach (v := k) (d := DM.two r (wt m i)) (fun v => ar.bd v) hko hkN (DM.two_bd _ _).1 hlt
  refine ⟨?_, ⟨by rw [farOf_upd]; exact h2, hby, by rw [farOf_upd]; exact h3, ?_⟩⟩
  · rw [h1]
    by_cases e : farOf ks k = 4611686018427387906
    · exact .inl (if_pos e)
    · exact .inr ⟨_, if_neg e, hlt⟩
  · rw [farOf_upd]
    by_cases hb : DM.two (DM.two r (wt m i)) (farOf ko k) < x
    · rw [lessAt_pos hb, lessOf_pos hb]
      exact hmt.1 hb
    · rw [lessAt_neg (by omega), lessOf_neg (by omega)]
      exact hmt.2 hb
/-- All is gone. -/
theorem PR.next (h : PR m L N s u r dn ko (L u) ks hs at_ x) : DJ m L N s N [] (farOf ks) hs dn ∧ BY m N s ks dn ∧ MT N (farOf ks) (farOf ko) at_ x := ⟨h.dj.next, h.ar, h.mt⟩
end
end NM
end Go.Proofs.Ytmamligiopbefaa
end

section
/-
  The end of both sides' search: how far it is, out of what waits first on each. A side's memory from its beginning on.
-/
namespace Go.Proofs.Ytmamligiopbefaa
open Go.RowKit Go.Shelf

theorem SD.base {A : World} {B B' : Nat} {z : Sid} {gp j N : Nat} {k : Nat → Option (Int × Int)} {hm : Nat → Option Int} {F : Nat → Prop} (h : SD A B z gp j N k hm F) (hb : B' ≤ B) : SD A B' z gp j N k hm F := by
  obtain ⟨c0, c1, c2, c3, ⟨bp, bc, lv, line, place, come, h1, h2, h3⟩, ⟨xs, st, now, r1, r2⟩, f, n, lt, few⟩ := h
  exact ⟨c0, c1, c2, c3, ⟨bp, bc, lv, line, place, come, hmem_base h1 hb, h2, h3⟩, ⟨xs, st, now, smem_base r1 hb, r2⟩, f, n, fun b hb' => ⟨Nat.le_trans hb (lt b hb').1, (lt b hb').2⟩, few⟩
theorem SD.either {A : World} {B : Nat} {z : Sid} {gp j N : Nat} {k : Nat → Option (Int × Int)} {hm : Nat → Option Int} {F : Nat → Prop} (h : SD A B z gp j N k hm F) : (∀ v, hm v = none) ∨ ∃ f, HM.IsFirst HM.TI hm f := by
  obtain ⟨-, -, -, -, ⟨bp, bc, lv, line, place, come, h1, h2, -⟩, -, -, -, -, -⟩ := h
  rcases Nat.eq_zero_or_pos line.length with h0 | h0
  · exact .inl (fun v => h2.empty h0 v)
  · exact .inr ⟨_, h2.first h0⟩
theorem better_none1 {h1 h2 : Nat → Option Int} {x : Int} (h : ∀ v, h1 v = none) : better h1 h2 x = false := by
  unfold better
  rw [HM.firstOf_none h]
theorem better_none2 {h1 h2 : Nat → Option Int} {x : Int} (h : ∀ v, h2 v = none) : better h1 h2 x = false := by
  unfold better
  rw [HM.firstOf_none h]
  cases HM.firstOf HM.TI h1 <;> rfl
theorem better_some {h1 h2 : Nat → Option Int} {x : Int} {f g : Nat × Int} (hf : HM.IsFirst HM.TI h1 f) (hg : HM.IsFirst HM.TI h2 g) : better h1 h2 x = decide (DM.two f.2 g.2 < x) := by
  unfold better
  rw [HM.firstOf_eq hf, HM.firstOf_eq hg]
namespace NM
section
variable {m : GM.M} {L : Nat → List (Int × Int)} {N s : Nat} {far : Nat → Int} {hm : Nat → Option Int} {dn : Nat → Bool}
/-- What waits first bounds what isn't settled. -/
theorem DJ.floor (h : DJ m L N s N [] far hm dn) {u : Nat} {r : Int} (hu : u < N) (hf : HM.IsFirst HM.TI hm (u, r)) : (0 ≤ r ∧ r ≤ 4611686018427387906) ∧ ∀ v, v < N → dn v = false → r ≤ far v := by
  obtain ⟨h1, h2⟩ := hf
  dsimp only at h1 h2
  have hpu := h.hp u hu
  rw [h1] at hpu
  have hr : far u = r := by
    split at hpu
    · cases hpu
    · exact (Option.some.inj hpu).symm
  have bu := h.bd u hu
  rw [hr] at bu
  refine ⟨bu, fun v hv hdv => ?_⟩
  have hpv := h.hp v hv
  by_cases e : far v = 4611686018427387906
  · omega
  · rw [if_neg (by rw [hdv]; simp [e])] at hpv
    have := h2 v (far v) hpv
    rw [not_or] at this
    have h3 : ¬ far v < r := by simpa [HM.TI] using this.1
    omega
theorem DJ.gone (h : DJ m L N s N [] far hm dn) (h0 : ∀ v, hm v = none) : ∀ v, v < N → dn v = false → (4611686018427387906 : Int) ≤ far v := fun v hv hdv => by
  have hpv := h.hp v hv
  rw [h0 v] at hpv
  by_cases e : far v = 4611686018427387906
  · omega
  · rw [if_neg (by rw [hdv]; simp [e])] at hpv
    cases hpv
end
/-- Nothing can be better any more. -/
theorem met {m : GM.M} {L1 L2 : Nat → List (Int × Int)} {N s t : Nat} {k1 k2 : Nat → Option (Int × Int)} {h1 h2 : Nat → Option Int} {d1 d2 : Nat → Bool} {at_ : Nat} {x : Int} (w1 : Ways m N L1) (w2 : Ways (rev m) N L2) (j1 : DJ m L1 N s N [] (farOf k1) h1 d1) (j2 : DJ (rev m) L2 N t N [] (farOf k2) h2 d2) (hs : s < N) (ht : t < N) (hm : MT N (farOf k1) (farOf k2) at_ x)
    (o1 : ∀ v, N ≤ v → h1 v = none) (o2 : ∀ v, N ≤ v → h2 v = none) (e1 : (∀ v, h1 v = none) ∨ ∃ f, HM.IsFirst HM.TI h1 f) (e2 : (∀ v, h2 v = none) ∨ ∃ f, HM.IsFirst HM.TI h2 f) (hb : better h1 h2 x = false) : x = dist m s t := by
  have hin : ∀ {h : Nat → Option Int} {f : Nat × Int}, (∀ v, N ≤ v → h v = none) → HM.IsFirst HM.TI h f → f.1 < N := fun {h f} ho hf => by
    rcases Nat.lt_or_ge f.1 N with h' | h'
    · exact h'
    · have := hf.1
      rw [ho _ h'] at this
      cases this
  have hat : x = 4611686018427387906 ∨ ∃ ids, Wk m s t ids ∧ csum m ids = x := by
    rcases hm.is with e | ⟨ha, e⟩
    · exact .inl e
    · have b1 := j1.bd at_ ha
      have b2 := j2.bd at_ ha
      rcases j1.is at_ ha with c1 | ⟨p, p1, p2⟩
      · left
        rcases two_cases b1.1 b1.2 b2.1 b2.2 with c | c | c <;> omega
      · rcases j2.is at_ ha with c2 | ⟨q, q1, q2⟩
        · left
          rcases two_cases b1.1 b1.2 b2.1 b2.2 with c | c | c <;> omega
        · right
          have hq := wk_rev q1
          have hc := csum_rev (rev m) q
          rw [rev_rev] at hq hc
          exact ⟨p ++ q.reverse, wk_append p1 hq, by rw [csum_append, p2, hc, q2, e]⟩
  have go : ∀ r1 r2 : Int, 0 ≤ r1 → 0 ≤ r2 → (∀ v, v < N → d1 v = false → r1 ≤ farOf k1 v) → (∀ v, v < N → d2 v = false → r2 ≤ farOf k2 v) → x ≤ DM.two r1 r2 → x = dist m s t := fun r1 r2 hr1 hr2 f1 f2 hx =>
    (dist_eq (meet w1 w2 j1 j2 hs ht hr1 hr2 f1 f2 hm.bd.1 hm.bd.2 (fun v hv _ => hm.le v hv) hx hat)).symm
  have bx := hm.bd
  rcases e1 with e1 | ⟨f, hf⟩
  · refine go 4611686018427387906 0 (by decide) (by decide) (j1.gone e1) (fun v hv _ => (j2.bd v hv).1) ?_
    rw [two_zero (by decide) (by decide)]
    exact bx.2
  · rcases e2 with e2 | ⟨g, hg⟩
    · refine go 0 4611686018427387906 (by decide) (by decide) (fun v hv _ => (j1.bd v hv).1) (j2.gone e2) ?_
      rw [zero_two (by decide) (by decide)]
      exact bx.2
    · obtain ⟨u, r⟩ := f
      obtain ⟨u', r'⟩ := g
      have p1 := j1.floor (hin o1 hf) hf
      have p2 := j2.floor (hin o2 hg) hg
      rw [better_some hf hg] at hb
      have := of_decide_eq_false hb
      exact go r r' p1.1.1 p2.1.1 p1.2 p2.2 (by dsimp only at this; omega)
/-- The beginning. -/
theorem MT.none (N : Nat) : MT N (fun _ => 4611686018427387906) (fun _ => 4611686018427387906) 0 4611686018427387906 := ⟨fun v _ => by decide, .inl rfl⟩
end NM
end Go.Proofs.Ytmamligiopbefaa
end
