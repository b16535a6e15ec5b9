/-
  Out and In, gone through: each step at a vertex, by rising vertices.
-/
import Derived.Test.YtmkpcidgiobpeaaMmRanges
import Derived.Test.YtmkpcidgiobpeaaMmMeshA
import Derived.Laws.EntriesVeiled
namespace Go.Proofs.Ytmkpcidgiobpeaa
open Go.RowKit Go.Shelf
attribute [local go_sem] Oper.semAt_some

/-- A vertex and how long the step is, as the loop's variables. -/
def stepV (x : Nat × Int) : Array Value := #[.int .i64 (x.1 : Nat), .int .i64 x.2]
/-- What the iterator reads: its mesh, its function, what that has. -/
structure Reads (F p N : Nat) (D : Nat → Nat → Int) (v : Int) (B : Nat) (A : World) : Prop where
  m : Boxed A B 25 (.pointer (some ⟨p, 0, none⟩))
  v : Boxed A (B + 1) 3 (.int .i64 v)
  mm : Boxed A (B + 1 + 1) 25 (.pointer (some ⟨p, 0, none⟩))
  f : Boxed A (B + 1 + 1 + 1) 81 (.func (.func F) #[] #[.pointer (some ⟨B, 0, none⟩), .pointer (some ⟨B + 1, 0, none⟩)])
  x : XMem A p N D
theorem Reads.same {F p N : Nat} {D : Nat → Nat → Int} {v : Int} {B : Nat} {A A' : World} (h : Reads F p N D v B A) (hp : A'.heap[p]? = A.heap[p]?) (hb : ∀ b, B ≤ b → b < B + 4 → A'.heap[b]? = A.heap[b]?) : Reads F p N D v B A' :=
  ⟨(hb B (by omega) (by omega)).trans h.m, (hb (B + 1) (by omega) (by omega)).trans h.v, (hb (B + 1 + 1) (by omega) (by omega)).trans h.mm, (hb (B + 1 + 1 + 1) (by omega) (by omega)).trans h.f, h.x.of_block hp⟩
theorem Reads.lt {F p N : Nat} {D : Nat → Nat → Int} {v : Int} {B : Nat} {A : World} (h : Reads F p N D v B A) : p < A.heap.size ∧ B + 4 ≤ A.heap.size := by
  have h1 := h.x.lt
  have h2 := h.f.lt
  exact ⟨h1, by omega⟩
theorem Reads.below {F p N : Nat} {D : Nat → Nat → Int} {v : Int} {B : Nat} {A A' : World} (h : Reads F p N D v B A) (hb : Below A.heap.size A A') : Reads F p N D v B A' := h.same (hb.block _ h.lt.1) (fun b _ h2 => hb.block b (by have := h.lt.2; omega))
theorem Reads.kept {F p N : Nat} {D : Nat → Nat → Int} {v : Int} {B : Nat} {A A' : World} {K : Nat → Prop} (h : Reads F p N D v B A) (hb : Keeps K A A') (hp : ¬ K p) (hn : ∀ b, B ≤ b → b < B + 4 → ¬ K b) : Reads F p N D v B A' := h.same (hb.block _ h.lt.1 hp) (fun b h1 h2 => hb.block b (by have := h.lt.2; omega) (hn b h1 h2))

set_option maxHeartbeats 400000 in
theorem outOne_any {w : World} {p N B : Nat} {D : Nat → Nat → Int} {v : Int} (hN : N ≤ 24) (h : Reads 67 p N D v B w) (k : Int) :
    Calls Try.prog 67 #[.int .i64 k, .pointer (some ⟨B, 0, none⟩), .pointer (some ⟨B + 1, 0, none⟩)] w fun e w' => e = .returned (.int .i64 (XM.dirE N D v false k)) ∧ w' = w := by
  have hc := xat_any h.x hN v k
  have h1 := h.m.cell
  have h2 := h.v.cell
  clear h
  go_enter Try.func67, Try.ntmps67
  go_wp2_with fail
  refine hc.mono ?_
  rintro e w' ⟨rfl, rfl⟩
  clear hc
  go_wp2_with fail
  go_ret
  exact ⟨rfl, rfl⟩
/-- What Out (In) lays. -/
def iterW (F p : Nat) (v : Int) (W : World) : World := (((W.alloc (.cells #[.pointer (some ⟨p, 0, none⟩)] 25)).alloc (.cells #[.int .i64 v] 3)).alloc (.cells #[.pointer (some ⟨p, 0, none⟩)] 25)).alloc (.cells #[.func (.func F) #[] #[.pointer (some ⟨W.heap.size, 0, none⟩), .pointer (some ⟨W.heap.size + 1, 0, none⟩)]] 81)
def iterV (B : Nat) : Value := .func (.func 70) #[] #[.pointer (some ⟨B + 1 + 1, 0, none⟩), .pointer (some ⟨B + 1 + 1 + 1, 0, none⟩)]
theorem iterW_reads {w : World} {p N : Nat} {D : Nat → Nat → Int} (h : XMem w p N D) (F : Nat) (v : Int) : Reads F p N D v w.heap.size (iterW F p v w) ∧ Below w.heap.size w (iterW F p v w) ∧ (iterW F p v w).heap.size = w.heap.size + 4 := by
  have s1 : (w.alloc (.cells #[.pointer (some ⟨p, 0, none⟩)] 25)).heap.size = w.heap.size + 1 := by simp
  have b1 := Boxed.new w 25 (.pointer (some ⟨p, 0, none⟩))
  have l1 : Below w.heap.size w (w.alloc (.cells #[.pointer (some ⟨p, 0, none⟩)] 25)) := (Below.refl _ _).alloc (Nat.le_refl _) _
  unfold iterW
  generalize w.alloc (.cells #[.pointer (some ⟨p, 0, none⟩)] 25) = w1 at *
  have s2 : (w1.alloc (.cells #[.int .i64 v] 3)).heap.size = w.heap.size + 1 + 1 := by simp [s1]
  have b2 := Boxed.new w1 3 (.int .i64 v)
  have b1 := b1.alloc (.cells #[.int .i64 v] 3)
  have l2 : Below w.heap.size w (w1.alloc (.cells #[.int .i64 v] 3)) := l1.alloc (by omega) _
  rw [s1] at b2
  generalize w1.alloc (.cells #[.int .i64 v] 3) = w2 at *
  have s3 : (w2.alloc (.cells #[.pointer (some ⟨p, 0, none⟩)] 25)).heap.size = w.heap.size + 1 + 1 + 1 := by simp [s2]
  have b3 := Boxed.new w2 25 (.pointer (some ⟨p, 0, none⟩))
  have b1 := b1.alloc (.cells #[.pointer (some ⟨p, 0, none⟩)] 25)
  have b2 := b2.alloc (.cells #[.pointer (some ⟨p, 0, none⟩)] 25)
  have l3 : Below w.heap.size w (w2.alloc (.cells #[.pointer (some ⟨p, 0, none⟩)] 25)) := l2.alloc (by omega) _
  rw [s2] at b3
  generalize w2.alloc (.cells #[.pointer (some ⟨p, 0, none⟩)] 25) = w3 at *
  have b4 := Boxed.new w3 81 (.func (.func F) #[] #[.pointer (some ⟨w.heap.size, 0, none⟩), .pointer (some ⟨w.heap.size + 1, 0, none⟩)])
  rw [s3] at b4
  have l4 : Below w.heap.size w (w3.alloc (.cells #[.func (.func F) #[] #[.pointer (some ⟨w.heap.size, 0, none⟩), .pointer (some ⟨w.heap.size + 1, 0, none⟩)]] 81)) := l3.alloc (by omega) _
  exact ⟨⟨b1.alloc _, b2.alloc _, b3.alloc _, b4, h.on l4⟩, l4, by simp [s3]⟩
set_option maxHeartbeats 400000 in
theorem thoseX_any (p F : Nat) (caps : Array Value) (w : World) :
    Calls Try.prog 66 #[.pointer (some ⟨p, 0, none⟩), .func (.func F) #[] caps] w fun e w' => e = .returned (.func (.func 70) #[] #[.pointer (some ⟨w.heap.size, 0, none⟩), .pointer (some ⟨w.heap.size + 1, 0, none⟩)]) ∧
      w' = (w.alloc (.cells #[.pointer (some ⟨p, 0, none⟩)] 25)).alloc (.cells #[.func (.func F) #[] caps] 81) := by
  go_enter Try.func66, Try.ntmps66
  go_wp2_with fail
  go_ret
  exact ⟨rfl, rfl⟩
set_option maxHeartbeats 400000 in
theorem outX_any (p : Nat) (v : Int) (w : World) :
    Calls Try.prog 63 #[.pointer (some ⟨p, 0, none⟩), .int .i64 v] w fun e w' => e = .returned (iterV w.heap.size) ∧ w' = iterW 67 p v w := by
  have hc := thoseX_any p 67 #[.pointer (some ⟨w.heap.size, 0, none⟩), .pointer (some ⟨w.heap.size + 1, 0, none⟩)] ((w.alloc (.cells #[.pointer (some ⟨p, 0, none⟩)] 25)).alloc (.cells #[.int .i64 v] 3))
  go_enter Try.func63, Try.ntmps63
  go_wp2_with fail
  refine hc.mono ?_
  rintro e w' ⟨rfl, rfl⟩
  clear hc
  go_wp2_with fail
  go_ret
  exact ⟨by simp [iterV], rfl⟩
set_option maxRecDepth 100000 in
set_option maxHeartbeats 2000000 in
theorem those_goes (n : Nat) (_hn : 1 ≤ n) (F B p N : Nat) (hN : N ≤ 24) (D : Nat → Nat → Int) (v : Int) (back : Bool) (hef : ∀ args w, (callFunc F args).run Try.prog w = .ok (.enter F args) w)
    (hcl : ∀ (W : World) (k : Nat), Reads F p N D v B W → Calls Try.prog F #[.int .i64 k, .pointer (some ⟨B, 0, none⟩), .pointer (some ⟨B + 1, 0, none⟩)] W fun e w' => e = .returned (.int .i64 (XM.dirE N D v back k)) ∧ w' = W) :
    GoesQ n Try.prog 70 #[.pointer (some ⟨B + 1 + 1, 0, none⟩), .pointer (some ⟨B + 1 + 1 + 1, 0, none⟩)] stepV (XM.steps N D v back N) (Reads F p N D v B) := by
  intro l J Jx W hR hY h0
  have HR : Hid (∀ s A, J s A → Reads F p N D v B A) := hR
  have HY : Hid (∀ pre x W1, J pre W1 → pre ++ [x] <+: XM.steps N D v back N → YieldAt Fence.wide (n - 1) Try.prog l (stepV x) W1 fun e W' => (e = .returned (.bool true) ∧ J (pre ++ [x]) W') ∨ (e = .returned (.bool false) ∧ Jx (pre ++ [x]) W')) := hY
  have H0 : Hid (J [] W) := h0
  have HCL : Hid (∀ (W : World) (k : Nat), Reads F p N D v B W → Calls Try.prog F #[.int .i64 k, .pointer (some ⟨B, 0, none⟩), .pointer (some ⟨B + 1, 0, none⟩)] W fun e w' => e = .returned (.int .i64 (XM.dirE N D v back k)) ∧ w' = W) := hcl
  have r0 := hR _ _ h0
  have c1 := r0.mm.cell
  have c0 := r0.x.c0
  clear hR hY h0 hcl r0
  refine callsIn_of_wp Try.func70 rfl trivial ?_ rfl
  simp only [Try.ntmps70, List.size_toArray, List.length_cons, List.length_nil, Nat.reduceAdd, Nat.reduceSub, Array.replicate_succ, Array.replicate_zero, List.push_toArray, List.append_toArray, List.nil_append, List.cons_append]
  gi_wp2_with fail
  clear c1 c0
  gi_loopw [10] (fun iv wr => ∃ k : Nat, k ≤ N ∧ iv = .int .i64 k ∧ J (XM.steps N D v back k) wr) (fun iv _ => N - (intOf iv).toNat)
  case atStart => exact ⟨0, Nat.zero_le _, rfl, H0.out⟩
  case round =>
    obtain ⟨k, hk, rfl, hJs⟩ := hrel
    by_cases hlt : k < N
    · have r1 := HR.out _ _ hJs
      have c2 := r1.f.cell
      have hcl := HCL.out wr k r1
      have HJS : Hid (J (XM.steps N D v back k) wr) := hJs
      have HSK : Hid (XM.dirE N D v back (k : Nat) = 4611686018427387906 → XM.steps N D v back (k + 1) = XM.steps N D v back k) := XM.steps_skip
      have HTK : Hid (XM.dirE N D v back (k : Nat) ≠ 4611686018427387906 → XM.steps N D v back (k + 1) = XM.steps N D v back k ++ [(k, XM.dirE N D v back (k : Nat))]) := XM.steps_take
      have HP : Hid (XM.steps N D v back (k + 1) <+: XM.steps N D v back N) := XM.steps_pre (by omega)
      have kN : (k : Int) < (N : Int) := by omega
      clear hJs r1
      generalize XM.dirE N D v back (k : Nat) = d at *
      gi_wp2_with fail
      refine ⟨trivial, (callsIn_wide.2 hcl).mono ?_⟩
      rintro e w2 ⟨rfl, rfl⟩
      clear hcl
      by_cases hd : d = 4611686018427387906
      · have HA : Hid (XM.steps N D v back (k + 1) = XM.steps N D v back k) := HSK.out hd
        clear HSK HTK
        subst hd
        gi_wp2_with fail
        refine ⟨(fun _ h => by cases h), ?_⟩
        gi_wp2_with fail
        go_roundw
        case rel => exact ⟨k + 1, by omega, by go_num, by rw [HA.out]; exact HJS.out⟩
        case measure => simp [intOf]; omega
      · have HA : Hid (XM.steps N D v back (k + 1) = XM.steps N D v back k ++ [(k, d)]) := HTK.out hd
        have HYX : Hid (YieldAt Fence.wide (n - 1) Try.prog l #[.int .i64 (k : Nat), .int .i64 d] w2 fun e W' => (e = .returned (.bool true) ∧ J (XM.steps N D v back (k + 1)) W') ∨ (e = .returned (.bool false) ∧ Jx (XM.steps N D v back (k + 1)) W')) := by
          have := HY.out _ (k, d) w2 HJS.out (by rw [← HA.out]; exact HP.out)
          show YieldAt _ _ _ _ _ _ _
          rw [HA.out]
          exact this
        have hd' : (d != 4611686018427387906) = true := by simp [hd]
        obtain ⟨fn, tmps, assign, body, hy, hRd⟩ := HYX.out
        clear HSK HTK HYX HA hd
        gi_wp2_with fail
        refine hRd.mono ?_
        rintro e W4 (⟨rfl, hJ4⟩ | ⟨rfl, hJx4⟩)
        · have HJ4 : Hid (J (XM.steps N D v back (k + 1)) W4) := hJ4
          clear hJ4 hy hRd
          gi_wp2_with fail
          go_roundw
          case rel => exact ⟨k + 1, by omega, by go_num, HJ4.out⟩
          case measure => simp [intOf]; omega
        · have HJ4 : Hid (Jx (XM.steps N D v back (k + 1)) W4) := hJx4
          clear hJx4 hy hRd
          gi_wp2_with fail
          (try simp only [Exit.inBlock, Exit.then]); refine bodyPost_ret (results_none rfl _ _ _) rfl ?_
          exact ⟨⟨_, rfl⟩, .inr ⟨_, HP.out, HJ4.out⟩⟩
    · obtain rfl : k = N := by omega
      clear hN
      have HJS : Hid (J (XM.steps k D v back k) wr) := hJs
      clear hJs hlt hk
      gi_wp2_with fail
      go_end0
      exact ⟨⟨_, rfl⟩, .inl HJS.out⟩
theorem out_goes (n : Nat) (hn : 1 ≤ n) (B p N : Nat) (hN : N ≤ 24) (D : Nat → Nat → Int) (v : Int) : GoesQ n Try.prog 70 #[.pointer (some ⟨B + 1 + 1, 0, none⟩), .pointer (some ⟨B + 1 + 1 + 1, 0, none⟩)] stepV (XM.steps N D v false N) (Reads 67 p N D v B) :=
  those_goes n hn _ B p N hN D v false (enters_of Try.func67 (by kernel_rfl) rfl) fun _ k h => outOne_any hN h k
end Go.Proofs.Ytmkpcidgiobpeaa
