/-
  WitMath, Ints.
-/
import Derived.Test.YtkcfepppnclniaaGreatDoorMmMeshDefs
import Derived.Test.YtkcfepppnclniaaGreatDoorMmHeapMath
import Derived.Test.YtkcfepppnclniaaGreatDoorMmBase
section
/-
  Searches that leave out vertices, and stop (layer 13): what is settled, as a list of vertices with how far each is. Nothing of the program.
  sum: the least sum over what is settled. Next: the one that is settled next. Got: what is settled when the search is over (unique; a smaller search's is where a greater one's begins; distances rise; without end it is how far it is by any steps). Wait: what waits, part way through the steps of the one settled last.
-/
namespace Go.Proofs.YtkcfepppnclniaaGreatDoor
namespace WM
open NM (two_cases two_mono two_l two_r two_comm two_assoc two_zero zero_two)

/-- So many unlike numbers below N. -/
theorem nodup_lenN : ∀ (N : Nat) (l : List Nat), l.Nodup → (∀ x ∈ l, x < N) → l.length ≤ N
  | 0, [], _, _ => Nat.le_refl _
  | 0, x :: l, _, h => absurd (h x (by simp)) (by omega)
  | N + 1, l, hd, h => by
    by_cases hm : N ∈ l
    · have h1 := nodup_lenN N (l.erase N) (hd.erase N) (fun x hx => by
        obtain ⟨h2, h3⟩ := hd.mem_erase_iff.1 hx
        have := h x h3
        omega)
      rw [List.length_erase_of_mem hm] at h1
      omega
    · have := nodup_lenN N l hd (fun x hx => by
        have h1 := h x hx
        have h2 : x ≠ N := fun e => hm (e ▸ hx)
        omega)
      omega
/-- A number, or another one where that is less. -/
def low (m x : Int) : Int := if x < m then x else m
theorem low_le (m x : Int) : low m x ≤ m ∧ low m x ≤ x := by unfold low; split <;> omega
theorem low_is (m x : Int) : low m x = m ∨ low m x = x := by unfold low; split <;> simp
/-- The least sum of how far it is to a settled one, and the step from that to w. -/
def sum (D : Nat → Nat → Int) (L : List (Nat × Int)) (w : Nat) : Int := L.foldl (fun m x => low m (DM.two x.2 (D x.1 w))) 4611686018427387906
theorem sum_snoc (D : Nat → Nat → Int) (L : List (Nat × Int)) (x : Nat × Int) (w : Nat) : sum D (L ++ [x]) w = low (sum D L w) (DM.two x.2 (D x.1 w)) := by
  unfold sum
  rw [List.foldl_append]
  rfl
theorem sum_nil (D : Nat → Nat → Int) (w : Nat) : sum D [] w = 4611686018427387906 := rfl
theorem low_bd {m x : Int} (hm : 0 ≤ m ∧ m ≤ 4611686018427387906) (hx : 0 ≤ x) : 0 ≤ low m x ∧ low m x ≤ 4611686018427387906 := by unfold low; split <;> omega
theorem sum_bd (D : Nat → Nat → Int) (w : Nat) (L : List (Nat × Int)) : 0 ≤ sum D L w ∧ sum D L w ≤ 4611686018427387906 := by
  unfold sum
  suffices h : ∀ (L : List (Nat × Int)) (m : Int), 0 ≤ m ∧ m ≤ 4611686018427387906 → 0 ≤ L.foldl (fun m x => low m (DM.two x.2 (D x.1 w))) m ∧ L.foldl (fun m x => low m (DM.two x.2 (D x.1 w))) m ≤ 4611686018427387906 by
    exact h L _ (by decide)
  intro L
  induction L with
  | nil => exact fun m h => h
  | cons x L ih => exact fun m h => ih _ (low_bd h (DM.two_bd _ _).1)
theorem foldl_low (D : Nat → Nat → Int) (w : Nat) : ∀ (L : List (Nat × Int)) (m : Int), L.foldl (fun m x => low m (DM.two x.2 (D x.1 w))) m ≤ m ∧ ∀ x ∈ L, L.foldl (fun m x => low m (DM.two x.2 (D x.1 w))) m ≤ DM.two x.2 (D x.1 w)
  | [], m => ⟨Int.le_refl _, fun x h => by cases h⟩
  | y :: L, m => by
    obtain ⟨h1, h2⟩ := foldl_low D w L (low m (DM.two y.2 (D y.1 w)))
    have h3 := low_le m (DM.two y.2 (D y.1 w))
    rw [List.foldl_cons]
    refine ⟨Int.le_trans h1 h3.1, fun x hx => ?_⟩
    rcases List.mem_cons.1 hx with e | e
    · rw [e]; exact Int.le_trans h1 h3.2
    · exact h2 x e
theorem sum_le {D : Nat → Nat → Int} {L : List (Nat × Int)} {w : Nat} {x : Nat × Int} (h : x ∈ L) : sum D L w ≤ DM.two x.2 (D x.1 w) := (foldl_low D w L _).2 x h
theorem foldl_is (D : Nat → Nat → Int) (w : Nat) : ∀ (L : List (Nat × Int)) (m : Int), L.foldl (fun m x => low m (DM.two x.2 (D x.1 w))) m = m ∨ ∃ x ∈ L, L.foldl (fun m x => low m (DM.two x.2 (D x.1 w))) m = DM.two x.2 (D x.1 w)
  | [], m => .inl rfl
  | y :: L, m => by
    rw [List.foldl_cons]
    rcases foldl_is D w L (low m (DM.two y.2 (D y.1 w))) with h | ⟨x, h1, h2⟩
    · rcases low_is m (DM.two y.2 (D y.1 w)) with e | e
      · exact .inl (h.trans e)
      · exact .inr ⟨y, by simp, h.trans e⟩
    · exact .inr ⟨x, by simp [h1], h2⟩
theorem sum_is (D : Nat → Nat → Int) (L : List (Nat × Int)) (w : Nat) : sum D L w = 4611686018427387906 ∨ ∃ x ∈ L, sum D L w = DM.two x.2 (D x.1 w) := foldl_is D w L _
/-- How far it is to w, as far as is known: 0 to the first one. -/
def key (D : Nat → Nat → Int) (s : Nat) (L : List (Nat × Int)) (w : Nat) : Int := if L = [] ∧ w = s then 0 else sum D L w
theorem key_bd (D : Nat → Nat → Int) (s : Nat) (L : List (Nat × Int)) (w : Nat) : 0 ≤ key D s L w ∧ key D s L w ≤ 4611686018427387906 := by
  unfold key
  split
  · decide
  · exact sum_bd D w L
theorem key_ne {D : Nat → Nat → Int} {s : Nat} {L : List (Nat × Int)} (w : Nat) (h : L ≠ []) : key D s L w = sum D L w := if_neg fun e => h e.1
/-- Is a vertex settled? -/
def has (L : List (Nat × Int)) (w : Nat) : Bool := L.any (fun x => x.1 == w)
theorem has_iff {L : List (Nat × Int)} {w : Nat} : has L w = true ↔ ∃ x ∈ L, x.1 = w := by
  unfold has
  rw [List.any_eq_true]
  simp
theorem has_snoc (L : List (Nat × Int)) (x : Nat × Int) (w : Nat) : has (L ++ [x]) w = (has L w || x.1 == w) := by
  unfold has
  rw [List.any_append]
  simp
theorem has_nil (w : Nat) : has [] w = false := rfl
/-- It may be settled, and isn't. -/
def Free (N : Nat) (W : Nat → Bool) (L : List (Nat × Int)) (w : Nat) : Prop := w < N ∧ W w = false ∧ has L w = false
/-- What is settled next: the nearest, of like ones the least. -/
structure Next (N : Nat) (D : Nat → Nat → Int) (s : Nat) (W : Nat → Bool) (L : List (Nat × Int)) (v : Nat) (d : Int) : Prop where
  free : Free N W L v
  is : key D s L v = d
  lt : d < 4611686018427387906
  le : ∀ w, Free N W L w → d ≤ key D s L w
  first : ∀ w, Free N W L w → key D s L w = d → v ≤ w
section
variable {N : Nat} {D : Nat → Nat → Int} {s : Nat} {W : Nat → Bool} {L : List (Nat × Int)} {v u : Nat} {d e : Int}
theorem Next.one (h : Next N D s W L v d) (k : Next N D s W L u e) : v = u ∧ d = e := by
  have h1 := h.le u k.free
  have h2 := k.le v h.free
  rw [k.is] at h1
  rw [h.is] at h2
  have he : d = e := by omega
  have h3 := h.first u k.free (by rw [k.is, he])
  have h4 := k.first v h.free (by rw [h.is, he])
  exact ⟨by omega, he⟩
end
/-- So far settled, up to X. -/
inductive Seq (N : Nat) (D : Nat → Nat → Int) (s : Nat) (W : Nat → Bool) (X : Int) : List (Nat × Int) → Prop
  | nil : Seq N D s W X []
  | snoc {L : List (Nat × Int)} {v : Nat} {d : Int} : Seq N D s W X L → Next N D s W L v d → d ≤ X → Seq N D s W X (L ++ [(v, d)])
/-- Nothing more may be settled. -/
def Stuck (N : Nat) (D : Nat → Nat → Int) (s : Nat) (W : Nat → Bool) (X : Int) (L : List (Nat × Int)) : Prop := ∀ v d, Next N D s W L v d → ¬ d ≤ X
/-- What is settled when the search is over: k vertices at most. -/
structure Got (N : Nat) (D : Nat → Nat → Int) (s : Nat) (W : Nat → Bool) (X : Int) (k : Nat) (L : List (Nat × Int)) : Prop where
  seq : Seq N D s W X L
  len : L.length ≤ k
  full : L.length = k ∨ Stuck N D s W X L
section
variable {N : Nat} {D : Nat → Nat → Int} {s : Nat} {W : Nat → Bool} {X Y : Int} {L M : List (Nat × Int)} {j k : Nat}
theorem Seq.mono (h : Seq N D s W X L) (hX : X ≤ Y) : Seq N D s W Y L := by
  induction h with
  | nil => exact .nil
  | snoc _ hn hd ih => exact .snoc ih hn (Int.le_trans hd hX)
/-- Of two of them the one is where the other begins. -/
theorem Seq.either (h : Seq N D s W X L) (k : Seq N D s W X M) : L <+: M ∨ M <+: L := by
  induction h with
  | nil => exact .inl (List.nil_prefix)
  | @snoc L v d hs hn hd ih =>
    rcases ih with h1 | h1
    · clear hs hd
      induction k with
      | nil =>
        have : L = [] := List.prefix_nil.1 h1
        exact .inr (List.nil_prefix)
      | @snoc M u e ks kn kd ik =>
        rcases List.prefix_concat_iff.1 (by simpa using h1) with e1 | e1
        · subst e1
          exact .inr (List.prefix_append _ _)
        · rcases ik e1 with h2 | h2
          · exact .inl (h2.trans (List.prefix_append _ _))
          · rcases List.prefix_concat_iff.1 (by simpa using h2) with e2 | e2
            · subst e2
              exact .inl (List.prefix_append _ _)
            · have : L = M := List.IsPrefix.eq_of_length_le e1 e2.length_le
              subst this
              obtain ⟨r1, r2⟩ := hn.one kn
              subst r1; subst r2
              exact .inl (List.prefix_refl _)
    · exact .inr (h1.trans (List.prefix_append _ _))
theorem next_of_longer (h : Seq N D s W X M) (hp : L <+: M) (hl : L.length < M.length) : ∃ v d, Next N D s W L v d ∧ d ≤ X := by
  induction h with
  | nil => simp at hl
  | @snoc M u e ks kn kd ik =>
    rcases List.prefix_concat_iff.1 (by simpa using hp) with e1 | e1
    · subst e1; omega
    · by_cases e2 : L.length < M.length
      · exact ik e1 e2
      · have : L = M := List.IsPrefix.eq_of_length_le e1 (by omega)
        subst this
        exact ⟨u, e, kn, kd⟩
/-- A search of fewer vertices, or up to less, settles what the greater one settles first. -/
theorem Got.pre (h : Got N D s W X j L) (g : Got N D s W Y k M) (hj : j ≤ k) (hX : X ≤ Y) : L <+: M := by
  rcases (h.seq.mono hX).either g.seq with e | e
  · exact e
  · rcases g.full with f | f
    · have h1 := h.len
      have h2 := e.length_le
      have : M = L := List.IsPrefix.eq_of_length_le e (by omega)
      subst this
      exact List.prefix_refl _
    · by_cases hl : M.length < L.length
      · obtain ⟨v, d, n1, n2⟩ := next_of_longer (h.seq.mono hX) e hl
        exact absurd n2 (f v d n1)
      · have : M = L := List.IsPrefix.eq_of_length_le e (by omega)
        subst this
        exact List.prefix_refl _
theorem Got.one (h : Got N D s W X k L) (g : Got N D s W X k M) : L = M := by
  have h1 := h.pre g (Nat.le_refl _) (Int.le_refl _)
  have h2 := g.pre h (Nat.le_refl _) (Int.le_refl _)
  exact List.IsPrefix.eq_of_length_le h1 h2.length_le
/-- How many the smaller one settles. -/
theorem Got.min_len (h : Got N D s W X j L) (g : Got N D s W X k M) (hj : j ≤ k) : L.length = min M.length j := by
  have hp := h.pre g hj (Int.le_refl _)
  have h1 := hp.length_le
  have h2 := h.len
  rcases h.full with f | f
  · omega
  · by_cases hl : L.length < M.length
    · obtain ⟨v, d, n1, n2⟩ := next_of_longer g.seq hp hl
      exact absurd n2 (f v d n1)
    · omega
theorem Got.take (h : Got N D s W X j L) (g : Got N D s W X k M) (hj : j ≤ k) : L = M.take L.length := (List.prefix_iff_eq_take.1 (h.pre g hj (Int.le_refl _)))
/-- What is settled. -/
structure Fine (N : Nat) (s : Nat) (W : Nat → Bool) (X : Int) (L : List (Nat × Int)) : Prop where
  free : ∀ x ∈ L, x.1 < N ∧ W x.1 = false ∧ 0 ≤ x.2 ∧ x.2 < 4611686018427387906 ∧ x.2 ≤ X
  nodup : (L.map (·.1)).Nodup
  head : ∀ x, L[0]? = some x → x = (s, 0)
theorem Seq.fine (hs : s < N) (hW : W s = false) (h : Seq N D s W X L) : Fine N s W X L := by
  induction h with
  | nil => exact ⟨fun x h => (by cases h), List.nodup_nil, fun x h => (by cases h)⟩
  | @snoc L v d _ hn hd ih =>
    have hb := key_bd D s L v
    rw [hn.is] at hb
    refine ⟨fun x hx => ?_, ?_, fun x hx => ?_⟩
    · rcases List.mem_append.1 hx with e | e
      · exact ih.free x e
      · rw [List.mem_singleton.1 e]
        exact ⟨hn.free.1, hn.free.2.1, hb.1, hn.lt, hd⟩
    · rw [List.map_append, List.nodup_append]
      refine ⟨ih.nodup, by simp, fun a ha b hb' e => ?_⟩
      obtain ⟨x, hx, rfl⟩ := List.mem_map.1 ha
      have hb2 : b = v := by simpa using hb'
      have := hn.free.2.2
      rw [has_iff.2 ⟨x, hx, e.trans hb2⟩] at this
      cases this
    · cases L with
      | nil =>
        have hx : (v, d) = x := by simpa using hx
        have h0 : key D s [] s = 0 := if_pos ⟨rfl, rfl⟩
        have h1 := hn.le s ⟨hs, hW, rfl⟩
        have h2 := hn.is
        rw [h0] at h1
        have hv : v = s := by
          unfold key at h2
          split at h2
          · rename_i e; exact e.2
          · rw [sum_nil] at h2
            omega
        have hd0 : d = 0 := by rw [hv] at h2; omega
        rw [← hx, hv, hd0]
      | cons y L => exact ih.head x hx
theorem Seq.len (hs : s < N) (hW : W s = false) (h : Seq N D s W X L) : L.length ≤ N := by
  have hf := h.fine hs hW
  have h1 := nodup_lenN N _ hf.nodup (fun x hx => by
    obtain ⟨y, hy, rfl⟩ := List.mem_map.1 hx
    exact (hf.free y hy).1)
  simpa using h1
/-- What is left is no nearer than what is settled. -/
theorem Seq.beneath (h : Seq N D s W X L) : ∀ x ∈ L, ∀ w, Free N W L w → x.2 ≤ key D s L w := by
  induction h with
  | nil => exact fun x h => by cases h
  | @snoc L v d hs hn hd ih =>
    intro x hx w hw
    rw [key_ne _ (by simp), sum_snoc]
    have hwL : Free N W L w := by
      refine ⟨hw.1, hw.2.1, ?_⟩
      have := hw.2.2
      rw [has_snoc, Bool.or_eq_false_iff] at this
      exact this.1
    have hkv := key_bd D s L v
    rw [hn.is] at hkv
    have hxd : x.2 ≤ d := by
      rcases List.mem_append.1 hx with e | e
      · have := ih x e v hn.free
        rwa [hn.is] at this
      · rw [List.mem_singleton.1 e]
        exact Int.le_refl _
    have h1 : d ≤ sum D L w := by
      have h2 := hn.le w hwL
      unfold key at h2
      split at h2
      · rename_i e
        rw [e.1, sum_nil]
        omega
      · exact h2
    have h3 : d ≤ DM.two d (D v w) := by
      have ht : DM.two d (D v w) = DM.two d (DM.norm (D v w)) := by rw [two_comm d, two_comm d, NM.norm_two]
      rw [ht]
      have hb := DM.norm_bd (D v w)
      exact two_l hkv.1 hkv.2 hb.1 hb.2
    rcases low_is (sum D L w) (DM.two d (D v w)) with e | e
    · rw [e]; omega
    · rw [e]; omega
/-- Distances rise. -/
theorem Seq.rises (h : Seq N D s W X L) : L.Pairwise (fun x y => x.2 ≤ y.2) := by
  induction h with
  | nil => exact .nil
  | @snoc L v d hs hn hd ih =>
    rw [List.pairwise_append]
    refine ⟨ih, by simp, fun x hx y hy => ?_⟩
    rw [List.mem_singleton.1 hy]
    have := hs.beneath x hx v hn.free
    rwa [hn.is] at this
/-- What is touched. -/
def Tch (N : Nat) (D : Nat → Nat → Int) (W : Nat → Bool) (L : List (Nat × Int)) (w : Nat) : Prop := w < N ∧ (has L w = true ∨ (W w = false ∧ ∃ x ∈ L, D x.1 w < 4611686018427387906))
theorem Tch.pre (hp : L <+: M) {w : Nat} (h : Tch N D W L w) : Tch N D W M w := by
  refine ⟨h.1, ?_⟩
  rcases h.2 with e | ⟨e, x, hx, hd⟩
  · obtain ⟨x, hx, hw⟩ := has_iff.1 e
    exact .inl (has_iff.2 ⟨x, hp.subset hx, hw⟩)
  · exact .inr ⟨e, x, hp.subset hx, hd⟩
/-- Touched, and not settled: there is a sum. -/
theorem tch_sum (hm : ∀ u w, 0 ≤ D u w ∧ D u w ≤ 4611686018427387906) (hL : ∀ x ∈ L, 0 ≤ x.2 ∧ x.2 < 4611686018427387906) {w : Nat} : (∃ x ∈ L, D x.1 w < 4611686018427387906) ↔ sum D L w < 4611686018427387906 := by
  constructor
  · rintro ⟨x, hx, hd⟩
    have h1 := sum_le (D := D) (w := w) hx
    have h2 := hL x hx
    have h3 := hm x.1 w
    have h4 := (XM.two_told (a := x.2) (b := D x.1 w) ⟨h2.1, by omega⟩ h3).2 ⟨by omega, by omega⟩
    omega
  · intro h
    rcases sum_is D L w with e | ⟨x, hx, e⟩
    · omega
    · have h2 := hL x hx
      have h3 := hm x.1 w
      have h4 := (XM.two_told (a := x.2) (b := D x.1 w) ⟨h2.1, by omega⟩ h3).1 (by omega)
      exact ⟨x, hx, by omega⟩
end

/-! Without end, and with nothing left out: how far it is by any steps. -/
section
variable {N : Nat} {D : Nat → Nat → Int} {s : Nat} {X : Int} {L : List (Nat × Int)}
def none' : Nat → Bool := fun _ => false
/-- A way out of what is settled: its first vertex that isn't has a sum that is no greater. -/
theorem leaves (hm : ∀ u w, 0 ≤ D u w ∧ D u w ≤ 4611686018427387906) (hL : ∀ x ∈ L, x.1 < N ∧ XM.Far D N s x.1 x.2) {b : Nat} (hb : has L b = false) : ∀ (vs : List Nat) (u : Nat), has L u = true → XM.Go N u b vs →
    ∀ us, XM.Go N s u us → ∃ w, w < N ∧ has L w = false ∧ sum D L w ≤ DM.two (XM.cost D s us) (XM.cost D u vs)
  | [], u, hu, hg, _, _ => by
    have e : u = b := hg.1
    rw [e, hb] at hu
    cases hu
  | v :: vs, u, hu, hg, us, hus => by
    obtain ⟨g1, g2⟩ := XM.go_cons.1 hg
    have bu := XM.cost_bd D s us
    have bv := XM.cost_bd D v vs
    by_cases hv : has L v = true
    · have hus2 : XM.Go N s v (us ++ [v]) := XM.go_append hus (XM.go_cons.2 ⟨g1, XM.go_nil _ _⟩)
      obtain ⟨w, w1, w2, w3⟩ := leaves hm hL hb vs v hv g2 _ hus2
      refine ⟨w, w1, w2, Int.le_trans w3 ?_⟩
      have e1 : XM.cost D s (us ++ [v]) = DM.two (XM.cost D s us) (D u v) := by
        rw [XM.cost_append, hus.1]
        show DM.two _ (DM.two (D u v) 0) = _
        rw [two_zero (hm u v).1 (hm u v).2]
      rw [e1, two_assoc]
      exact Int.le_refl _
    · refine ⟨v, g1, by simpa using hv, ?_⟩
      obtain ⟨x, hx, rfl⟩ := has_iff.1 hu
      refine Int.le_trans (sum_le hx) ?_
      obtain ⟨_, hf⟩ := hL x hx
      have h1 := hf.le us hus
      show _ ≤ DM.two (XM.cost D s us) (DM.two (D x.1 v) (XM.cost D v vs))
      refine two_mono hf.lo h1 bu.2 (hm x.1 v).1 ?_ (DM.two_bd _ _).2
      exact two_l (hm x.1 v).1 (hm x.1 v).2 bv.1 bv.2
/-- Each that is settled is as far as it is by any steps. -/
theorem Seq.far (hm : ∀ u w, 0 ≤ D u w ∧ D u w ≤ 4611686018427387906) (hs : s < N) (h : Seq N D s none' X L) : ∀ x ∈ L, x.1 < N ∧ XM.Far D N s x.1 x.2 := by
  induction h with
  | nil => exact fun x h => by cases h
  | @snoc L v d hq hn hd ih =>
    intro x hx
    rcases List.mem_append.1 hx with e | e
    · exact ih x e
    rw [List.mem_singleton.1 e]
    have hb := key_bd D s L v
    rw [hn.is] at hb
    refine ⟨hn.free.1, ?_⟩
    have hfine := hq.fine hs rfl
    by_cases hn0 : L = []
    · subst hn0
      have hf2 := (Seq.snoc hq hn hd).fine hs rfl
      have e0 := hf2.head (v, d) (by simp)
      obtain ⟨rfl, rfl⟩ := Prod.mk.inj e0
      exact ⟨Int.le_refl _, by show (0 : Int) ≤ _; decide, fun vs _ => (XM.cost_bd D _ vs).1, .inr ⟨[], XM.go_nil _ _, rfl⟩⟩
    · have hs0 : has L s = true := by
        cases L with
        | nil => exact absurd rfl hn0
        | cons y L =>
          have := hfine.head y rfl
          exact has_iff.2 ⟨y, by simp, by rw [this]⟩
      refine ⟨hb.1, hb.2, fun vs hg => ?_, .inr ?_⟩
      · obtain ⟨w, w1, w2, w3⟩ := leaves hm ih hn.free.2.2 vs s hs0 hg [] (XM.go_nil _ _)
        have h1 := hn.le w ⟨w1, rfl, w2⟩
        rw [key_ne _ hn0] at h1
        have bc := XM.cost_bd D s vs
        have e1 : DM.two (XM.cost D s []) (XM.cost D s vs) = XM.cost D s vs := zero_two bc.1 bc.2
        rw [e1] at w3
        show d ≤ _
        omega
      · have hi := hn.is
        rw [key_ne _ hn0] at hi
        rcases sum_is D L v with e1 | ⟨y, hy, e1⟩
        · have := hn.lt
          omega
        · obtain ⟨y1, hf⟩ := ih y hy
          have hlt := (hfine.free y hy).2.2.2.1
          rcases hf.is with e2 | ⟨us, u1, u2⟩
          · omega
          · refine ⟨us ++ [v], XM.go_append u1 (XM.go_cons.2 ⟨hn.free.1, XM.go_nil _ _⟩), ?_⟩
            rw [XM.cost_append, u1.1, u2]
            show DM.two y.2 (DM.two (D y.1 v) 0) = d
            rw [two_zero (hm y.1 v).1 (hm y.1 v).2, ← e1, hi]
/-- Some may be settled next, unless there is no sum at all. -/
theorem exists_next {N : Nat} {D : Nat → Nat → Int} {s : Nat} {W : Nat → Bool} {L : List (Nat × Int)} {w : Nat} (hw : Free N W L w) (hk : key D s L w < 4611686018427387906) : ∃ v d, Next N D s W L v d := by
  classical
  have hb : ∀ (n : Nat) (w : Nat), (key D s L w).toNat * (N + 1) + w ≤ n → Free N W L w → key D s L w < 4611686018427387906 → ∃ v d, Next N D s W L v d := by
    intro n
    induction n with
    | zero =>
      intro w hn hf hl
      refine ⟨w, key D s L w, hf, rfl, hl, fun u hu => ?_, fun u hu he => ?_⟩
      · have h1 := key_bd D s L w
        have h2 := key_bd D s L u
        rcases Nat.eq_zero_or_pos (key D s L w).toNat with e | e
        · omega
        · have : 1 * (N + 1) ≤ (key D s L w).toNat * (N + 1) := Nat.mul_le_mul_right _ e
          omega
      · omega
    | succ n ih =>
      intro w hn hf hl
      by_cases hx : ∃ u, Free N W L u ∧ (key D s L u < key D s L w ∨ (key D s L u = key D s L w ∧ u < w))
      · obtain ⟨u, hu, hlt⟩ := hx
        have h1 := key_bd D s L w
        have h2 := key_bd D s L u
        refine ih u ?_ hu (by omega)
        rcases hlt with e | ⟨e, e2⟩
        · have h3 : ((key D s L u).toNat + 1) * (N + 1) ≤ (key D s L w).toNat * (N + 1) := Nat.mul_le_mul_right _ (by omega)
          rw [Nat.succ_mul] at h3
          have := hu.1
          omega
        · rw [e]
          omega
      · refine ⟨w, key D s L w, hf, rfl, hl, fun u hu => ?_, fun u hu he => ?_⟩
        · exact Int.not_lt.1 fun c => hx ⟨u, hu, .inl c⟩
        · exact Nat.not_lt.1 fun c => hx ⟨u, hu, .inr ⟨he, c⟩⟩
  exact hb _ w (Nat.le_refl _) hw hk
/-- Where nothing more may be settled, nothing else can be come to. -/
theorem Stuck.far (hm : ∀ u w, 0 ≤ D u w ∧ D u w ≤ 4611686018427387906) (hs : s < N) (hX : 4611686018427387905 ≤ X) (h : Seq N D s none' X L) (hk : Stuck N D s none' X L) {b : Nat} (hb : has L b = false) : XM.Far D N s b 4611686018427387906 := by
  have hkey : ∀ w, Free N none' L w → key D s L w = 4611686018427387906 := by
    intro w hw
    have h1 := key_bd D s L w
    rcases Int.lt_or_le (key D s L w) 4611686018427387906 with c | c
    · obtain ⟨v, d, hn⟩ := exists_next hw c
      have := hk v d hn
      have := hn.lt
      omega
    · omega
  have hn0 : L ≠ [] := by
    rintro rfl
    have := hkey s ⟨hs, rfl, rfl⟩
    rw [show key D s [] s = 0 from if_pos ⟨rfl, rfl⟩] at this
    cases this
  have hs0 : has L s = true := by
    have hfine := h.fine hs rfl
    cases L with
    | nil => exact absurd rfl hn0
    | cons y L =>
      have := hfine.head y rfl
      exact has_iff.2 ⟨y, by simp, by rw [this]⟩
  refine ⟨by decide, Int.le_refl _, fun vs hg => ?_, .inl rfl⟩
  obtain ⟨w, w1, w2, w3⟩ := leaves hm (h.far hm hs) hb vs s hs0 hg [] (XM.go_nil _ _)
  have h1 := hkey w ⟨w1, rfl, w2⟩
  rw [key_ne _ hn0] at h1
  have bc := XM.cost_bd D s vs
  have e1 : DM.two (XM.cost D s []) (XM.cost D s vs) = XM.cost D s vs := zero_two bc.1 bc.2
  rw [e1] at w3
  omega
/-- A search without end, from which nothing is left out, settles just what can be come to. -/
theorem Got.far (hm : ∀ u w, 0 ≤ D u w ∧ D u w ≤ 4611686018427387906) (hs : s < N) (hX : 4611686018427387905 ≤ X) {k : Nat} (hk : N ≤ k) (h : Got N D s none' X k L) {b : Nat} (hb : b < N) {y : Int} (hy : XM.Far D N s b y) : has L b = true ↔ y < 4611686018427387906 := by
  have hfine := h.seq.fine hs rfl
  constructor
  · intro h1
    obtain ⟨x, hx, rfl⟩ := has_iff.1 h1
    have := (h.seq.far hm hs x hx).2.unique hy
    have := (hfine.free x hx).2.2.2.1
    omega
  · intro h1
    cases hc : has L b with
    | true => rfl
    | false =>
      rcases h.full with f | f
      · exfalso
        have hl := h.seq.len hs rfl
        have hcons : (b :: L.map (·.1)).Nodup := List.nodup_cons.2 ⟨fun hm' => by
          obtain ⟨x, hx, e⟩ := List.mem_map.1 hm'
          rw [has_iff.2 ⟨x, hx, e⟩] at hc
          exact absurd hc (by decide), hfine.nodup⟩
        have h2 := nodup_lenN N _ hcons (fun x hx => by
          rcases List.mem_cons.1 hx with e | e
          · rw [e]; exact hb
          · obtain ⟨z, hz, rfl⟩ := List.mem_map.1 e
            exact (hfine.free z hz).1)
        simp at h2
        omega
      · have := (f.far hm hs hX h.seq hc).unique hy
        omega
/-- A touched one is settled, where the search is without end and nothing is left out. -/
theorem Got.tch (hm : ∀ u w, 0 ≤ D u w ∧ D u w ≤ 4611686018427387906) (hs : s < N) (hX : 4611686018427387905 ≤ X) {k : Nat} (hk : N ≤ k) (h : Got N D s none' X k L) {b : Nat} (hb : b < N) : Tch N D none' L b ↔ has L b = true := by
  refine ⟨fun ht => ?_, fun e => ⟨hb, .inl e⟩⟩
  rcases ht.2 with e | ⟨_, x, hx, hd⟩
  · exact e
  · cases hc : has L b with
    | true => rfl
    | false =>
      exfalso
      have hfine := h.seq.fine hs rfl
      have hx2 := (hfine.free x hx).2.2
      have hlt := (tch_sum (w := b) hm (fun x hx => ⟨(hfine.free x hx).2.2.1, (hfine.free x hx).2.2.2.1⟩)).1 ⟨x, hx, hd⟩
      rcases h.full with f | f
      · have hcons : (b :: L.map (·.1)).Nodup := List.nodup_cons.2 ⟨fun hm' => by
          obtain ⟨x, hx, e⟩ := List.mem_map.1 hm'
          rw [has_iff.2 ⟨x, hx, e⟩] at hc
          exact absurd hc (by decide), hfine.nodup⟩
        have h2 := nodup_lenN N _ hcons (fun x hx => by
          rcases List.mem_cons.1 hx with e | e
          · rw [e]; exact hb
          · obtain ⟨z, hz, rfl⟩ := List.mem_map.1 e
            exact (hfine.free z hz).1)
        simp at h2
        omega
      · have hne : L ≠ [] := fun e => by rw [e] at hx; cases hx
        obtain ⟨v, d, hn⟩ := exists_next (s := s) (w := b) (W := none') ⟨hb, rfl, hc⟩ (by rw [key_ne _ hne]; exact hlt)
        have h1 := f v d hn
        have h2 := hn.lt
        omega
end
end WM
end Go.Proofs.YtkcfepppnclniaaGreatDoor
end

section
/-
  The reference's Ints: are two rows of integers alike? Rows of calls, each over the world that the last one left.
-/
namespace Go.Proofs.YtkcfepppnclniaaGreatDoor
open Go.RowKit

theorem take_one (zs : List Int) (k : Nat) (hk : k < zs.length) : zs.take (k + 1) = zs.take k ++ [zs[k]] := by
  rw [List.take_add_one, List.getElem?_eq_getElem hk]
  rfl
theorem below_new {w W : World} (h : Below w.heap.size w W) (o : Obj) : Below w.heap.size w (W.alloc o) := h.alloc h.size o
theorem below_on {w W W' : World} (h : Below w.heap.size w W) (h' : Below W.heap.size W W') : Below w.heap.size w W' := h.trans (h'.mono h.size)
theorem take_eq {zs ys : List Int} {k : Nat} (hz : k < zs.length) (hy : k < ys.length) (h : zs.take k = ys.take k) (e : zs[k] = ys[k]) : zs.take (k + 1) = ys.take (k + 1) := by
  rw [take_one zs k hz, take_one ys k hy, h, e]
set_option maxHeartbeats 1000000 in
/-- The reference's Ints. -/
theorem ints_any (u v : Value) (zs ys : List Int) (w : World) (hu : Row .i64 w u zs) (hv : Row .i64 w v ys) :
    Calls Tryz.prog 8 #[u, v] w fun e w' => e = .returned (.bool (decide (zs = ys))) ∧ Below w.heap.size w w' := by
  obtain ⟨a, cap, rfl, hat⟩ := hu
  obtain ⟨a2, cap2, rfl, hat2⟩ := hv
  have hml : zs.length ≤ 9223372036854775807 := by have := hat.1; have := hat.2.1; unfold maxLen at this; omega
  by_cases hl : zs.length = ys.length
  · have HA : Hid (RowAt .i64 w a cap zs) := hat
    have HB : Hid (RowAt .i64 w a2 cap2 ys) := hat2
    obtain ⟨n, hn⟩ : ∃ n, n = zs.length := ⟨_, rfl⟩
    have HN : Hid (n = zs.length) := hn
    have HN2 : Hid (n = ys.length) := hn.trans hl
    have h1 := hat.1
    have h2 := hat2.1
    rw [← hl] at h2 ⊢
    rw [← hn] at h1 h2 hml ⊢
    clear hat hat2 hl hn
    go_enter Tryz.func8, Tryz.ntmps8
    go_wp2_with fail
    go_loopw [5] (fun i wr => ∃ k : Nat, k ≤ n ∧ i = .int .i64 k ∧ Hid (zs.take k = ys.take k) ∧ Below w.heap.size w wr) (fun i _ => n - (intOf i).toNat)
    case atStart => exact ⟨0, Nat.zero_le _, rfl, rfl, Below.refl _ _⟩
    case round =>
      obtain ⟨k, hk, rfl, HK, hbr⟩ := hrel
      by_cases hlt : k < n
      · have hz : k < zs.length := by rw [← HN.out]; exact hlt
        have hy : k < ys.length := by rw [← HN2.out]; exact hlt
        obtain ⟨b, o, rfl, hc⟩ := (HA.out.below hbr).2.2.2 (by omega)
        obtain ⟨b2, o2, rfl, hc2⟩ := (HB.out.below hbr).2.2.2 (by omega)
        have hck := hc k hz
        have hck2 := hc2 k hy
        rw [List.getElem?_eq_getElem hz, Option.getD_some] at hck
        rw [List.getElem?_eq_getElem hy, Option.getD_some] at hck2
        have HE : Hid (zs[k] = ys[k] → zs.take (k + 1) = ys.take (k + 1)) := fun e => take_eq hz hy HK.out e
        have HD : Hid (zs[k] ≠ ys[k] → zs ≠ ys) := by
          intro e e'
          subst e'
          exact e rfl
        clear hc hc2 HK
        generalize zs[k] = z at *
        generalize ys[k] = y at *
        have hi0 : (0 : Int) ≤ (k : Int) := by omega
        have hi1 : (k : Int) < (n : Int) := by omega
        clear hz hy
        by_cases hzy : z = y
        · subst hzy
          have HK2 : Hid (zs.take (k + 1) = ys.take (k + 1)) := HE.out rfl
          go_wp2_with fail
          go_region
          go_wp2_with fail
          go_roundw
          case rel => exact ⟨k + 1, by omega, by simp, HK2, below_drewN hbr _⟩
          case measure => simp [intOf]; omega
        · have HD2 : Hid (zs ≠ ys) := HD.out hzy
          go_wp2_with fail
          go_region
          go_wp2_with fail
          go_ret
          exact ⟨ret_bool (by rw [decide_eq_false HD2.out]), below_drewN hbr _⟩
      · obtain rfl : k = n := by omega
        have HD2 : Hid (zs = ys) := by
          have := HK.out
          rw [List.take_of_length_le (by rw [← HN.out]; omega), List.take_of_length_le (by rw [← HN2.out]; omega)] at this
          exact this
        clear HK
        go_wp2_with fail
        go_ret
        exact ⟨ret_bool (by rw [decide_eq_true HD2.out]), hbr⟩
  · have hne : decide (zs = ys) = false := decide_eq_false (fun e => hl (by rw [e]))
    rw [hne]
    have hl' : ¬ (zs.length : Int) = (ys.length : Int) := by omega
    clear hat hat2
    go_enter Tryz.func8, Tryz.ntmps8
    go_wp2_with fail
    go_ret
    exact ⟨rfl, Below.refl _ _⟩
end Go.Proofs.YtkcfepppnclniaaGreatDoor
end
