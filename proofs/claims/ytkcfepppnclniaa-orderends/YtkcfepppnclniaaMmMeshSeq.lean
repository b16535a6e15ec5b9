/-
  MeshSeq, Range2, GraphSeq, GraphIds.
-/
import Derived.Test.YtkcfepppnclniaaMmRangeQ
import Derived.Test.YtkcfepppnclniaaMmMeshMem
import Derived.Test.YtkcfepppnclniaaMmOrdMath
import Derived.Test.YtkcfepppnclniaaMmGraphMem
import Derived.Laws.EntriesVeiled
import Derived.Maps.AppendAt
section
/-
  Out and In, gone through: each step at a vertex, by rising vertices.
-/
namespace Go.Proofs.Ytkcfepppnclniaa
open Go.RowKit Go.Shelf
attribute [local go_sem] Oper.semAt_some

/-- A vertex and how long the step is, as the loop's variables. -/
def stepV (x : Nat × Int) : Array Value := #[.int .i64 (x.1 : Nat), .int .i64 x.2]
/-- What the iterator reads: its mesh, its function, what that has. -/
structure Reads (F p N : Nat) (D : Nat → Nat → Int) (v : Int) (B : Nat) (A : World) : Prop where
  m : Boxed A B 24 (.pointer (some ⟨p, 0, none⟩))
  v : Boxed A (B + 1) 3 (.int .i64 v)
  mm : Boxed A (B + 1 + 1) 24 (.pointer (some ⟨p, 0, none⟩))
  f : Boxed A (B + 1 + 1 + 1) 78 (.func (.func F) #[] #[.pointer (some ⟨B, 0, none⟩), .pointer (some ⟨B + 1, 0, none⟩)])
  x : XMem A p N D
theorem Reads.same {F p N : Nat} {D : Nat → Nat → Int} {v : Int} {B : Nat} {A A' : World} (h : Reads F p N D v B A) (hp : A'.heap[p]? = A.heap[p]?) (hb : ∀ b, B ≤ b → b < B + 4 → A'.heap[b]? = A.heap[b]?) : Reads F p N D v B A' :=
  ⟨(hb B (by omega) (by omega)).trans h.m, (hb (B + 1) (by omega) (by omega)).trans h.v, (hb (B + 1 + 1) (by omega) (by omega)).trans h.mm, (hb (B + 1 + 1 + 1) (by omega) (by omega)).trans h.f, h.x.of_block hp⟩
theorem Reads.lt {F p N : Nat} {D : Nat → Nat → Int} {v : Int} {B : Nat} {A : World} (h : Reads F p N D v B A) : p < A.heap.size ∧ B + 4 ≤ A.heap.size := by
  have h1 := h.x.lt
  have h2 := h.f.lt
  exact ⟨h1, by omega⟩
theorem Reads.below {F p N : Nat} {D : Nat → Nat → Int} {v : Int} {B : Nat} {A A' : World} (h : Reads F p N D v B A) (hb : Below A.heap.size A A') : Reads F p N D v B A' := h.same (hb.block _ h.lt.1) (fun b _ h2 => hb.block b (by have := h.lt.2; omega))
theorem Reads.kept {F p N : Nat} {D : Nat → Nat → Int} {v : Int} {B : Nat} {A A' : World} {K : Nat → Prop} (h : Reads F p N D v B A) (hb : Keeps K A A') (hp : ¬ K p) (hn : ∀ b, B ≤ b → b < B + 4 → ¬ K b) : Reads F p N D v B A' := h.same (hb.block _ h.lt.1 hp) (fun b h1 h2 => hb.block b (by have := h.lt.2; omega) (hn b h1 h2))

set_option maxHeartbeats 400000 in
theorem outOne_any {w : World} {p N B : Nat} {D : Nat → Nat → Int} {v : Int} (hN : N ≤ 24) (h : Reads 39 p N D v B w) (k : Int) :
    Calls Try.prog 39 #[.int .i64 k, .pointer (some ⟨B, 0, none⟩), .pointer (some ⟨B + 1, 0, none⟩)] w fun e w' => e = .returned (.int .i64 (XM.dirE N D v false k)) ∧ w' = w := by
  have hc := xat_any h.x hN v k
  have h1 := h.m.cell
  have h2 := h.v.cell
  clear h
  go_enter Try.func39, Try.ntmps39
  go_wp2_with fail
  refine hc.mono ?_
  rintro e w' ⟨rfl, rfl⟩
  clear hc
  go_wp2_with fail
  go_ret
  exact ⟨rfl, rfl⟩
set_option maxHeartbeats 400000 in
theorem inOne_any {w : World} {p N B : Nat} {D : Nat → Nat → Int} {v : Int} (hN : N ≤ 24) (h : Reads 40 p N D v B w) (k : Int) :
    Calls Try.prog 40 #[.int .i64 k, .pointer (some ⟨B, 0, none⟩), .pointer (some ⟨B + 1, 0, none⟩)] w fun e w' => e = .returned (.int .i64 (XM.dirE N D v true k)) ∧ w' = w := by
  have hc := xat_any h.x hN k v
  have h1 := h.m.cell
  have h2 := h.v.cell
  clear h
  go_enter Try.func40, Try.ntmps40
  go_wp2_with fail
  refine hc.mono ?_
  rintro e w' ⟨rfl, rfl⟩
  clear hc
  go_wp2_with fail
  go_ret
  exact ⟨rfl, rfl⟩
/-- What Out (In) lays. -/
def iterW (F p : Nat) (v : Int) (W : World) : World := (((W.alloc (.cells #[.pointer (some ⟨p, 0, none⟩)] 24)).alloc (.cells #[.int .i64 v] 3)).alloc (.cells #[.pointer (some ⟨p, 0, none⟩)] 24)).alloc (.cells #[.func (.func F) #[] #[.pointer (some ⟨W.heap.size, 0, none⟩), .pointer (some ⟨W.heap.size + 1, 0, none⟩)]] 78)
def iterV (B : Nat) : Value := .func (.func 57) #[] #[.pointer (some ⟨B + 1 + 1, 0, none⟩), .pointer (some ⟨B + 1 + 1 + 1, 0, none⟩)]
theorem iterW_reads {w : World} {p N : Nat} {D : Nat → Nat → Int} (h : XMem w p N D) (F : Nat) (v : Int) : Reads F p N D v w.heap.size (iterW F p v w) ∧ Below w.heap.size w (iterW F p v w) ∧ (iterW F p v w).heap.size = w.heap.size + 4 := by
  have s1 : (w.alloc (.cells #[.pointer (some ⟨p, 0, none⟩)] 24)).heap.size = w.heap.size + 1 := by simp
  have b1 := Boxed.new w 24 (.pointer (some ⟨p, 0, none⟩))
  have l1 : Below w.heap.size w (w.alloc (.cells #[.pointer (some ⟨p, 0, none⟩)] 24)) := (Below.refl _ _).alloc (Nat.le_refl _) _
  unfold iterW
  generalize w.alloc (.cells #[.pointer (some ⟨p, 0, none⟩)] 24) = w1 at *
  have s2 : (w1.alloc (.cells #[.int .i64 v] 3)).heap.size = w.heap.size + 1 + 1 := by simp [s1]
  have b2 := Boxed.new w1 3 (.int .i64 v)
  have b1 := b1.alloc (.cells #[.int .i64 v] 3)
  have l2 : Below w.heap.size w (w1.alloc (.cells #[.int .i64 v] 3)) := l1.alloc (by omega) _
  rw [s1] at b2
  generalize w1.alloc (.cells #[.int .i64 v] 3) = w2 at *
  have s3 : (w2.alloc (.cells #[.pointer (some ⟨p, 0, none⟩)] 24)).heap.size = w.heap.size + 1 + 1 + 1 := by simp [s2]
  have b3 := Boxed.new w2 24 (.pointer (some ⟨p, 0, none⟩))
  have b1 := b1.alloc (.cells #[.pointer (some ⟨p, 0, none⟩)] 24)
  have b2 := b2.alloc (.cells #[.pointer (some ⟨p, 0, none⟩)] 24)
  have l3 : Below w.heap.size w (w2.alloc (.cells #[.pointer (some ⟨p, 0, none⟩)] 24)) := l2.alloc (by omega) _
  rw [s2] at b3
  generalize w2.alloc (.cells #[.pointer (some ⟨p, 0, none⟩)] 24) = w3 at *
  have b4 := Boxed.new w3 78 (.func (.func F) #[] #[.pointer (some ⟨w.heap.size, 0, none⟩), .pointer (some ⟨w.heap.size + 1, 0, none⟩)])
  rw [s3] at b4
  have l4 : Below w.heap.size w (w3.alloc (.cells #[.func (.func F) #[] #[.pointer (some ⟨w.heap.size, 0, none⟩), .pointer (some ⟨w.heap.size + 1, 0, none⟩)]] 78)) := l3.alloc (by omega) _
  exact ⟨⟨b1.alloc _, b2.alloc _, b3.alloc _, b4, h.on l4⟩, l4, by simp [s3]⟩
set_option maxHeartbeats 400000 in
theorem thoseX_any (p F : Nat) (caps : Array Value) (w : World) :
    Calls Try.prog 38 #[.pointer (some ⟨p, 0, none⟩), .func (.func F) #[] caps] w fun e w' => e = .returned (.func (.func 57) #[] #[.pointer (some ⟨w.heap.size, 0, none⟩), .pointer (some ⟨w.heap.size + 1, 0, none⟩)]) ∧
      w' = (w.alloc (.cells #[.pointer (some ⟨p, 0, none⟩)] 24)).alloc (.cells #[.func (.func F) #[] caps] 78) := by
  go_enter Try.func38, Try.ntmps38
  go_wp2_with fail
  go_ret
  exact ⟨rfl, rfl⟩
set_option maxHeartbeats 400000 in
theorem outX_any (p : Nat) (v : Int) (w : World) :
    Calls Try.prog 22 #[.pointer (some ⟨p, 0, none⟩), .int .i64 v] w fun e w' => e = .returned (iterV w.heap.size) ∧ w' = iterW 39 p v w := by
  have hc := thoseX_any p 39 #[.pointer (some ⟨w.heap.size, 0, none⟩), .pointer (some ⟨w.heap.size + 1, 0, none⟩)] ((w.alloc (.cells #[.pointer (some ⟨p, 0, none⟩)] 24)).alloc (.cells #[.int .i64 v] 3))
  go_enter Try.func22, Try.ntmps22
  go_wp2_with fail
  refine hc.mono ?_
  rintro e w' ⟨rfl, rfl⟩
  clear hc
  go_wp2_with fail
  go_ret
  exact ⟨by simp [iterV], rfl⟩
set_option maxHeartbeats 400000 in
theorem inX_any (p : Nat) (v : Int) (w : World) :
    Calls Try.prog 23 #[.pointer (some ⟨p, 0, none⟩), .int .i64 v] w fun e w' => e = .returned (iterV w.heap.size) ∧ w' = iterW 40 p v w := by
  have hc := thoseX_any p 40 #[.pointer (some ⟨w.heap.size, 0, none⟩), .pointer (some ⟨w.heap.size + 1, 0, none⟩)] ((w.alloc (.cells #[.pointer (some ⟨p, 0, none⟩)] 24)).alloc (.cells #[.int .i64 v] 3))
  go_enter Try.func23, Try.ntmps23
  go_wp2_with fail
  refine hc.mono ?_
  rintro e w' ⟨rfl, rfl⟩
  clear hc
  go_wp2_with fail
  go_ret
  exact ⟨by simp [iterV], rfl⟩
set_option maxRecDepth 100000 in
set_option maxHeartbeats 2000000 in
theorem those_goes (n : Nat) (_hn : 1 ≤ n) (F B p N : Nat) (hN : N ≤ 24) (D : Nat → Nat → Int) (v : Int) (back : Bool) (hef : ∀ args w, (callFunc F args).run Try.prog w = .ok (.enter F args) w)
    (hcl : ∀ (W : World) (k : Nat), Reads F p N D v B W → Calls Try.prog F #[.int .i64 k, .pointer (some ⟨B, 0, none⟩), .pointer (some ⟨B + 1, 0, none⟩)] W fun e w' => e = .returned (.int .i64 (XM.dirE N D v back k)) ∧ w' = W) :
    GoesQ n Try.prog 57 #[.pointer (some ⟨B + 1 + 1, 0, none⟩), .pointer (some ⟨B + 1 + 1 + 1, 0, none⟩)] stepV (XM.steps N D v back N) (Reads F p N D v B) := by
  intro l J Jx W hR hY h0
  have HR : Hid (∀ s A, J s A → Reads F p N D v B A) := hR
  have HY : Hid (∀ pre x W1, J pre W1 → pre ++ [x] <+: XM.steps N D v back N → YieldAt Fence.wide (n - 1) Try.prog l (stepV x) W1 fun e W' => (e = .returned (.bool true) ∧ J (pre ++ [x]) W') ∨ (e = .returned (.bool false) ∧ Jx (pre ++ [x]) W')) := hY
  have H0 : Hid (J [] W) := h0
  have HCL : Hid (∀ (W : World) (k : Nat), Reads F p N D v B W → Calls Try.prog F #[.int .i64 k, .pointer (some ⟨B, 0, none⟩), .pointer (some ⟨B + 1, 0, none⟩)] W fun e w' => e = .returned (.int .i64 (XM.dirE N D v back k)) ∧ w' = W) := hcl
  have r0 := hR _ _ h0
  have c1 := r0.mm.cell
  have c0 := r0.x.c0
  clear hR hY h0 hcl r0
  refine callsIn_of_wp Try.func57 rfl trivial ?_ rfl
  simp only [Try.ntmps57, List.size_toArray, List.length_cons, List.length_nil, Nat.reduceAdd, Nat.reduceSub, Array.replicate_succ, Array.replicate_zero, List.push_toArray, List.append_toArray, List.nil_append, List.cons_append]
  gi_wp2_with fail
  clear c1 c0
  gi_loopw [10] (fun iv wr => ∃ k : Nat, k ≤ N ∧ iv = .int .i64 k ∧ J (XM.steps N D v back k) wr) (fun iv _ => N - (intOf iv).toNat)
  case atStart => exact ⟨0, Nat.zero_le _, rfl, H0.out⟩
  case round =>
    obtain ⟨k, hk, rfl, hJs⟩ := hrel
    by_cases hlt : k < N
    · have r1 := HR.out _ _ hJs
      have c2 := r1.f.cell
      have hcl := HCL.out wr k r1
      have HJS : Hid (J (XM.steps N D v back k) wr) := hJs
      have HSK : Hid (XM.dirE N D v back (k : Nat) = 4611686018427387906 → XM.steps N D v back (k + 1) = XM.steps N D v back k) := XM.steps_skip
      have HTK : Hid (XM.dirE N D v back (k : Nat) ≠ 4611686018427387906 → XM.steps N D v back (k + 1) = XM.steps N D v back k ++ [(k, XM.dirE N D v back (k : Nat))]) := XM.steps_take
      have HP : Hid (XM.steps N D v back (k + 1) <+: XM.steps N D v back N) := XM.steps_pre (by omega)
      have kN : (k : Int) < (N : Int) := by omega
      clear hJs r1
      generalize XM.dirE N D v back (k : Nat) = d at *
      gi_wp2_with fail
      refine ⟨trivial, (callsIn_wide.2 hcl).mono ?_⟩
      rintro e w2 ⟨rfl, rfl⟩
      clear hcl
      by_cases hd : d = 4611686018427387906
      · have HA : Hid (XM.steps N D v back (k + 1) = XM.steps N D v back k) := HSK.out hd
        clear HSK HTK
        subst hd
        gi_wp2_with fail
        refine ⟨(fun _ h => by cases h), ?_⟩
        gi_wp2_with fail
        go_roundw
        case rel => exact ⟨k + 1, by omega, by go_num, by rw [HA.out]; exact HJS.out⟩
        case measure => simp [intOf]; omega
      · have HA : Hid (XM.steps N D v back (k + 1) = XM.steps N D v back k ++ [(k, d)]) := HTK.out hd
        have HYX : Hid (YieldAt Fence.wide (n - 1) Try.prog l #[.int .i64 (k : Nat), .int .i64 d] w2 fun e W' => (e = .returned (.bool true) ∧ J (XM.steps N D v back (k + 1)) W') ∨ (e = .returned (.bool false) ∧ Jx (XM.steps N D v back (k + 1)) W')) := by
          have := HY.out _ (k, d) w2 HJS.out (by rw [← HA.out]; exact HP.out)
          show YieldAt _ _ _ _ _ _ _
          rw [HA.out]
          exact this
        have hd' : (d != 4611686018427387906) = true := by simp [hd]
        obtain ⟨fn, tmps, assign, body, hy, hRd⟩ := HYX.out
        clear HSK HTK HYX HA hd
        gi_wp2_with fail
        refine hRd.mono ?_
        rintro e W4 (⟨rfl, hJ4⟩ | ⟨rfl, hJx4⟩)
        · have HJ4 : Hid (J (XM.steps N D v back (k + 1)) W4) := hJ4
          clear hJ4 hy hRd
          gi_wp2_with fail
          go_roundw
          case rel => exact ⟨k + 1, by omega, by go_num, HJ4.out⟩
          case measure => simp [intOf]; omega
        · have HJ4 : Hid (Jx (XM.steps N D v back (k + 1)) W4) := hJx4
          clear hJx4 hy hRd
          gi_wp2_with fail
          (try simp only [Exit.inBlock, Exit.then]); refine bodyPost_ret (results_none rfl _ _ _) rfl ?_
          exact ⟨⟨_, rfl⟩, .inr ⟨_, HP.out, HJ4.out⟩⟩
    · obtain rfl : k = N := by omega
      clear hN
      have HJS : Hid (J (XM.steps k D v back k) wr) := hJs
      clear hJs hlt hk
      gi_wp2_with fail
      go_end0
      exact ⟨⟨_, rfl⟩, .inl HJS.out⟩
theorem out_goes (n : Nat) (hn : 1 ≤ n) (B p N : Nat) (hN : N ≤ 24) (D : Nat → Nat → Int) (v : Int) : GoesQ n Try.prog 57 #[.pointer (some ⟨B + 1 + 1, 0, none⟩), .pointer (some ⟨B + 1 + 1 + 1, 0, none⟩)] stepV (XM.steps N D v false N) (Reads 39 p N D v B) :=
  those_goes n hn _ B p N hN D v false (enters_of Try.func39 (by kernel_rfl) rfl) fun _ k h => outOne_any hN h k
theorem in_goes (n : Nat) (hn : 1 ≤ n) (B p N : Nat) (hN : N ≤ 24) (D : Nat → Nat → Int) (v : Int) : GoesQ n Try.prog 57 #[.pointer (some ⟨B + 1 + 1, 0, none⟩), .pointer (some ⟨B + 1 + 1 + 1, 0, none⟩)] stepV (XM.steps N D v true N) (Reads 40 p N D v B) :=
  those_goes n hn _ B p N hN D v true (enters_of Try.func40 (by kernel_rfl) rfl) fun _ k h => inOne_any hN h k
end Go.Proofs.Ytkcfepppnclniaa
end

section
/-
  A range over a function that turns nothing that lies there (it may make new memory between rounds), and whose rounds never leave the loop early: a round may turn whatever it likes but the loop's own two blocks, also memory that earlier rounds have made (a list that is appended to).
-/
namespace Go.Proofs.Ytkcfepppnclniaa
open Go.RowKit Go.Shelf

/-- What the function owes: of rounds that go on it hands on what S says. -/
def GoesX {α : Type} (n : Nat) (P : Program) (g : Nat) (lb : Array Value) (encs : α → Array Value) (S : List α → Prop) (N : Nat) (R : World → Prop) : Prop :=
  ∀ (l : Nat) (J : List α → World → Prop) (W : World),
    (∀ s A, J s A → R A) → (∀ s A A', J s A → Below A.heap.size A A' → J s A') →
    (∀ pre x W1, J pre W1 → pre.length < N → YieldAt Fence.wide (n - 1) P l (encs x) W1 fun e W' => e = .returned (.bool true) ∧ J (pre ++ [x]) W') →
    J [] W →
    CallsIn Fence.wide n P g (#[.func (.yield l) #[] #[]] ++ lb) W fun e W' => (∃ v, e = .returned v) ∧ ∃ xs, S xs ∧ J xs W'
/-- How a round ends. -/
def wentOn {α : Type} (B : Nat) (I : List α → World → Prop) (xs : List α) (W : World) : Exit → Act → World → Prop
  | .normal, _, W' => (W'.heap[B]? = W.heap[B]? ∧ W'.heap[B + 1]? = W.heap[B + 1]?) ∧ I xs W'
  | _, _, _ => False

theorem range_goesX {α : Type} {P : Program} {n : Nat} (h1 : 1 ≤ n) {g : Operand} {ps : Array Tmp} {assign body : Code} {Q : Exit → Act → World → Prop} {a : Act} {w : World}
    {gf : Nat} {lb : Array Value} (hg : a.eval g = .func (.func gf) #[] lb) (eg : ∀ args w, (callFunc gf args).run P w = .ok (.enter gf args) w)
    {encs : α → Array Value} {S : List α → Prop} {N : Nat} {R : World → Prop} (hseq : GoesX (n - 1) P gf lb encs S N R) (hps : ∀ x, (encs x).size = ps.size)
    (I : List α → World → Prop) (hI : ∀ s A A', I s A → Below A.heap.size A A' → I s A') (hP : ∀ s A o, I s A → w.heap.size + 1 < A.heap.size → I s (A.putObj (w.heap.size + 1) (.loop o))) (hR : ∀ s A, I s A → R A) (h0 : I [] w) (a₁ : α → Act)
    (hassign : ∀ (l : Nat) (x : α) (W : World) (K : Act → World → Prop), K (a₁ x) W →
      assign.wpIn (Fence.wide.inRound l) (n - 1 - 1) P (Exit.then K (fun _ _ _ => False)) { tmps := (ps.zip (encs x)).foldl (fun t (p, v) => t.setIfInBounds p v) a.tmps, defers := [] } W)
    (hbody : ∀ (l : Nat) (pre : List α) (x : α) (W : World), I pre W → pre.length < N → w.heap.size + 1 < W.heap.size → body.wpIn (Fence.wide.inRound l) (n - 1 - 1) P (wentOn w.heap.size I (pre ++ [x]) W) (a₁ x) W)
    (hdone : ∀ (xs : List α) (W : World), S xs → I xs W → W.heap[w.heap.size]? = some (.deferred (some [])) → Q .normal { a with defers := { target := .collected w.heap.size, args := #[] } :: a.defers } W) :
    (Code.rangeFunc g ps assign body).wpIn Fence.wide n P Q a w := by
  refine wpIn_rangeFunc fun fn _ => ?_
  have hb1 : Below w.heap.size w ((w.alloc (.deferred (some []))).alloc (.loop (recd fn a.tmps ps assign body w.heap.size .ready none))) := ((Below.refl _ w).alloc (Nat.le_refl _) _).alloc (by simp) _
  have hbk : Book ((w.alloc (.deferred (some []))).alloc (.loop (recd fn a.tmps ps assign body w.heap.size .ready none))) w.heap.size (recd fn a.tmps ps assign body w.heap.size .ready none) := by
    constructor
    · have := World.alloc_heap_new (w.alloc (.deferred (some []))) (.loop (recd fn a.tmps ps assign body w.heap.size .ready none))
      rwa [World.size_alloc] at this
    · exact (Below.heap_alloc _ _ _ (by simp)).trans (World.alloc_heap_new w _)
  have hen : (Instr.enterLoop fn a.tmps ps assign body none).run P w = .ok (w.heap.size + 1, [{ target := .collected w.heap.size, args := #[] }]) ((w.alloc (.deferred (some []))).alloc (.loop (recd fn a.tmps ps assign body w.heap.size .ready none))) := run_enterLoop_outer _ _ _ _ _
  generalize (w.alloc (.deferred (some []))).alloc (.loop (recd fn a.tmps ps assign body w.heap.size .ready none)) = W1 at *
  refine ⟨w.heap.size + 1, [{ target := .collected w.heap.size, args := #[] }], W1, { target := .fn (.func gf) lb, args := #[.func (.yield (w.heap.size + 1)) #[] #[]] }, W1, gf, #[.func (.yield (w.heap.size + 1)) #[] #[]] ++ lb, W1, hen, ?_, fun _ _ => trivial, ?_, fun _ => h1, ?_⟩
  · simp only [resolve, hg]
    simp [go_sem]
  · simp [invoke, go_sem, eg]
  refine (hseq (w.heap.size + 1) (fun pre W => I pre W ∧ Book W w.heap.size (recd fn a.tmps ps assign body w.heap.size .ready none)) W1 (fun s A h => hR s A h.1)
    (fun s A A' h hb => ⟨hI s A A' h.1 hb, h.2.below (hb.mono h.2.lt)⟩) ?_ ⟨hI _ _ _ h0 hb1, hbk⟩).mono ?_
  · -- one round
    rintro pre x W ⟨hi, hb⟩ hlen
    have hy := run_yield (P := P) (args := encs x) hb.keep (hps x)
    refine ⟨_, _, _, _, hy, roundIn_of_wpIn trivial (hassign _ x W _ ⟨_, run_beginRound hb.keep rfl, ?_⟩)⟩
    have hb2 : Book (W.putObj (w.heap.size + 1) (.loop (recd fn a.tmps ps assign body w.heap.size .busy none))) w.heap.size (recd fn a.tmps ps assign body w.heap.size .busy none) := hb.put _
    have hi2 : I pre (W.putObj (w.heap.size + 1) (.loop (recd fn a.tmps ps assign body w.heap.size .busy none))) := hP _ _ _ hi hb.lt
    refine wpIn_mono (hbody _ pre x _ hi2 hlen hb2.lt) ?_
    rintro e a3 W3 hp
    cases e with
    | normal =>
      have hb3 : Book W3 w.heap.size (recd fn a.tmps ps assign body w.heap.size .busy none) := ⟨hp.1.2.trans hb2.keep, hp.1.1.trans hb2.dfr⟩
      exact ⟨_, _, run_endRound none hb3.keep, rfl, hP _ _ _ hp.2 hb3.lt, hb3.put _⟩
    | ret => exact hp.elim
    | exit id => exact hp.elim
    | goto t => exact hp.elim
    | panic ch => exact hp.elim
    | outgrown => exact hp.elim
  · -- behind it
    rintro e W2 ⟨⟨v, rfl⟩, xs, hS, hi, hb⟩
    exact ⟨none, _, run_endLoop hb.keep (by intro h; cases h), hdone xs _ hS (hP _ _ _ hi hb.lt) (hb.put _).dfr⟩
end Go.Proofs.Ytkcfepppnclniaa
end

section
/-
  The program's all, gone through: each arc that there is, by rising numbers.
-/
namespace Go.Proofs.Ytkcfepppnclniaa
open Go.RowKit Go.Shelf
attribute [local go_sem] Oper.semAt_some

/-- A number and its arc, as the loop's variables. -/
def numArc (x : Nat × Arc) : Array Value := #[.int .i64 (x.1 : Nat), .agg #[.int .i64 x.2.tail, .int .i64 x.2.head, .int .i64 x.2.weight, .bool x.2.closed]]

end Go.Proofs.Ytkcfepppnclniaa
end

section
/-
  The walk of graph's Ids: a range over all, in whose rounds a list is appended to.
-/
namespace Go.Proofs.Ytkcfepppnclniaa
open Go.RowKit Go.Shelf
attribute [local go_sem] Oper.semAt_some

theorem info3 : (Try.prog.info? 3).map (fun i => (i.zero, i.size, i.bytes)) = some (some (.int .i64 0), 1, 8) := by kernel_rfl
theorem info_parts {P : Program} {t : TypeId} {z : Value} {s b : Nat} (h : (P.info? t).map (fun i => (i.zero, i.size, i.bytes)) = some (some z, s, b)) : ∃ i, P.info? t = some i ∧ i.zero = some z ∧ i.size = s ∧ i.bytes = b := by
  obtain ⟨i, hi, hzz⟩ := Option.map_eq_some_iff.1 h
  simp only [Prod.mk.injEq] at hzz
  exact ⟨i, hi, hzz.1, hzz.2.1, hzz.2.2⟩
theorem keeps_put (W : World) (k : Nat) (o : Obj) : Keeps (fun b => b = k) W (W.putObj k o) := ⟨rfl, rfl, rfl, by simp, fun _ _ hn => World.putObj_heap_other (by omega)⟩
section
variable {w W W' : World} {p : Nat} {va : Value} {zs : List Int}
end

def nums (l : List (Nat × Arc)) : List Int := l.map (fun x => ((x.1 : Nat) : Int))
theorem nums_len (l : List (Nat × Arc)) : (nums l).length = l.length := by simp [nums]
theorem nums_snoc (l : List (Nat × Arc)) (x : Nat × Arc) : nums (l ++ [x]) = nums l ++ [((x.1 : Nat) : Int)] := by simp [nums]
theorem nums_all (m : GM.M) (k : Nat) : nums (GM.arcs m k) = GM.iids m k := by simp [nums, GM.arcs, GM.iids]

end Go.Proofs.Ytkcfepppnclniaa
end
