/-
  What leads on from each vertex, forwards and back.
-/
import Derived.Test.YtmamligiopbefaaMmFwds
import Derived.Test.YtmamligiopbefaaMmMades
import Derived.Test.YtmamligiopbefaaMmHeaps0
namespace Go.Proofs.Ytmamligiopbefaa
namespace NM
theorem mem_ends {m : GM.M} {v : Int} {head : Bool} {i : Nat} : i ∈ GM.ends m v head ↔ i < 64 ∧ GM.is m i = true ∧ GM.end1 head (GM.arc m i) = v := by
  unfold GM.ends
  rw [List.mem_filter, GM.mem_ids]
  simp [and_assoc]
theorem mem_opens {m : GM.M} {ids : List Nat} (h64 : ∀ i ∈ ids, i < 64) {a : Arc} : a ∈ opens m ids ↔ ∃ i, i ∈ ids ∧ GM.arc m i = a ∧ a.closed = false := by
  unfold opens
  rw [List.mem_filter, List.mem_map]
  constructor
  · rintro ⟨⟨i, hi, rfl⟩, hc⟩
    rw [look_at m (h64 i hi)] at hc ⊢
    exact ⟨i, hi, rfl, by simpa using hc⟩
  · rintro ⟨i, hi, rfl, hc⟩
    exact ⟨⟨i, hi, by rw [look_at m (h64 i hi)]⟩, by simpa using hc⟩
theorem opn_iff {m : GM.M} {u z : Int} : opn m u z ↔ ∃ i : Nat, z = i ∧ i < 64 ∧ GM.is m i = true ∧ (GM.arc m i).tail = u ∧ (GM.arc m i).closed = false := by
  constructor
  · intro h
    obtain ⟨i, rfl, hi⟩ := opn_place h
    exact ⟨i, rfl, hi, (opn_at hi).1 h⟩
  · rintro ⟨i, rfl, hi, h⟩
    exact (opn_at hi).2 h
theorem ways_fwd {m : GM.M} {N : Nat} (h : WK.Inn N m) : Ways m N (fun v => wayO (opens m (GM.ends m (v : Int) false))) := by
  have h64 : ∀ v : Int, ∀ i ∈ GM.ends m v false, i < 64 := fun v i hi => (mem_ends.1 hi).1
  refine ⟨fun v _ x hx => ?_, fun v _ z hz => ?_, into_of h⟩
  · obtain ⟨a, ha, rfl⟩ := List.mem_map.1 hx
    obtain ⟨i, hi, rfl, hc⟩ := (mem_opens (h64 _)).1 ha
    obtain ⟨h1, h2, h3⟩ := mem_ends.1 hi
    exact ⟨i, (opn_at h1).2 ⟨h2, h3, hc⟩, hd_at m h1, wt_at m h1⟩
  · obtain ⟨i, rfl, hi, h1, h2, h3⟩ := opn_iff.1 hz
    refine List.mem_map.2 ⟨GM.arc m i, (mem_opens (h64 _)).2 ⟨i, mem_ends.2 ⟨hi, h1, h2⟩, rfl, h3⟩, ?_⟩
    rw [hd_at m hi, wt_at m hi]
theorem ways_back {m : GM.M} {N : Nat} (h : WK.Inn N m) : Ways (rev m) N (fun v => wayI (opens m (GM.ends m (v : Int) true))) := by
  have h64 : ∀ v : Int, ∀ i ∈ GM.ends m v true, i < 64 := fun v i hi => (mem_ends.1 hi).1
  refine ⟨fun v _ x hx => ?_, fun v _ z hz => ?_, into_of (inn_rev h)⟩
  · obtain ⟨a, ha, rfl⟩ := List.mem_map.1 hx
    obtain ⟨i, hi, rfl, hc⟩ := (mem_opens (h64 _)).1 ha
    obtain ⟨h1, h2, h3⟩ := mem_ends.1 hi
    refine ⟨i, (opn_at h1).2 ⟨by rw [is_rev]; exact h2, by rw [arc_rev]; exact h3, by rw [arc_rev]; exact hc⟩, ?_, ?_⟩
    · rw [hd_at _ h1, arc_rev]; rfl
    · rw [wt_at _ h1, arc_rev]; rfl
  · obtain ⟨i, rfl, hi, h1, h2, h3⟩ := opn_iff.1 hz
    rw [is_rev] at h1
    rw [arc_rev] at h2 h3
    refine List.mem_map.2 ⟨GM.arc m i, (mem_opens (h64 _)).2 ⟨i, mem_ends.2 ⟨hi, h1, h2⟩, rfl, h3⟩, ?_⟩
    rw [hd_at _ hi, wt_at _ hi, arc_rev]
    rfl
end NM
end Go.Proofs.Ytmamligiopbefaa
