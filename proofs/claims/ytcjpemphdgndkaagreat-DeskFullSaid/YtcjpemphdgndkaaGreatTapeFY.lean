/- The few keys that a tape gives. -/
import Derived.Test.YtcjpemphdgndkaaGreatBdY
import Derived.Test.YtcjpemphdgndkaaGreatMapDY
namespace Go.Proofs.YtcjpemphdgndkaaGreat
open Go.RowKit
set_option linter.unusedVariables false
set_option linter.unusedSimpArgs false

def KA (s : ByteArray) : Prop := s = ⟨#[97, 112, 112]⟩ ∨ s = ⟨#[98]⟩ ∨ s = ⟨#[97, 112, 112, 49]⟩ ∨ s = ⟨#[122, 57]⟩
def KI (s : ByteArray) : Prop := s = ⟨#[105, 100]⟩ ∨ s = ⟨#[97]⟩ ∨ s = ⟨#[105, 100, 50]⟩ ∨ s = ⟨#[120, 48]⟩ ∨ s = ⟨#[109]⟩
theorem KA.size {s : ByteArray} (h : KA s) : s.size ≤ 4 := by rcases h with rfl | rfl | rfl | rfl <;> decide
theorem KI.size {s : ByteArray} (h : KI s) : s.size ≤ 4 := by rcases h with rfl | rfl | rfl | rfl | rfl <;> decide
def K20 : List Ky := [(⟨#[97, 112, 112]⟩, ⟨#[105, 100]⟩), (⟨#[97, 112, 112]⟩, ⟨#[97]⟩), (⟨#[97, 112, 112]⟩, ⟨#[105, 100, 50]⟩), (⟨#[97, 112, 112]⟩, ⟨#[120, 48]⟩), (⟨#[97, 112, 112]⟩, ⟨#[109]⟩), (⟨#[98]⟩, ⟨#[105, 100]⟩), (⟨#[98]⟩, ⟨#[97]⟩), (⟨#[98]⟩, ⟨#[105, 100, 50]⟩), (⟨#[98]⟩, ⟨#[120, 48]⟩), (⟨#[98]⟩, ⟨#[109]⟩), (⟨#[97, 112, 112, 49]⟩, ⟨#[105, 100]⟩), (⟨#[97, 112, 112, 49]⟩, ⟨#[97]⟩), (⟨#[97, 112, 112, 49]⟩, ⟨#[105, 100, 50]⟩), (⟨#[97, 112, 112, 49]⟩, ⟨#[120, 48]⟩), (⟨#[97, 112, 112, 49]⟩, ⟨#[109]⟩), (⟨#[122, 57]⟩, ⟨#[105, 100]⟩), (⟨#[122, 57]⟩, ⟨#[97]⟩), (⟨#[122, 57]⟩, ⟨#[105, 100, 50]⟩), (⟨#[122, 57]⟩, ⟨#[120, 48]⟩), (⟨#[122, 57]⟩, ⟨#[109]⟩)]
theorem k20_mem {k : Ky} (h1 : KA k.1) (h2 : KI k.2) : k ∈ K20 := by
  obtain ⟨a, i⟩ := k
  rcases h1 with h | h | h | h <;> rcases h2 with g | g | g | g | g <;> (simp only at h g; subst h; subst g; simp [K20])
theorem k20_nodup : K20.Nodup := by simp [K20]
open Classical in
theorem few {es : List En} (h : Asc es) (hk : ∀ e ∈ es, KA e.c.a ∧ KI e.c.i) : es.length ≤ 20 := by
  have h1 := asc_nodup h
  have h2 : (K20.filter (fun k => decide (k ∈ es.map enK))).Nodup := List.Pairwise.filter _ k20_nodup
  have hp := (List.perm_ext_iff_of_nodup h1 h2).2 (fun k => by
    constructor
    · intro hm
      refine List.mem_filter.2 ⟨?_, by simpa using hm⟩
      obtain ⟨e, he, rfl⟩ := List.mem_map.1 hm
      exact k20_mem (hk e he).1 (hk e he).2
    · intro hm
      simpa using (List.mem_filter.1 hm).2)
  have h3 := hp.length_eq
  have h4 := List.length_filter_le (fun k => decide (k ∈ es.map enK)) K20
  rw [List.length_map] at h3
  have h5 : K20.length = 20 := rfl
  omega

end Go.Proofs.YtcjpemphdgndkaaGreat
