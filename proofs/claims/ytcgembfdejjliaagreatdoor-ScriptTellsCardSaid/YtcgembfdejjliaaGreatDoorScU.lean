/- What the law's known runs come to, by the model. -/
import Derived.Test.YtcgembfdejjliaaGreatDoorScM
namespace Go.Proofs.YtcgembfdejjliaaGreatDoor
theorem kn1 : lineM ⟨#[116, 105, 99, 107, 32, 48, 32, 53]⟩ = some ⟨1, 0, 0, 0, 0, 5, ⟨#[]⟩⟩ := by kernel_rfl
theorem kn2 : lineM ⟨#[116, 105, 99, 107, 32, 48]⟩ = none ∧ hdw ⟨#[116, 105, 99, 107, 32, 48]⟩ = ⟨#[116, 105, 99, 107]⟩ := ⟨by kernel_rfl, by kernel_rfl⟩
theorem kn3 : pm 1 0 (nl [108, 111, 111, 107, 32, 49, 32, 120, 10, 10, 98, 97, 100, 10, 100, 114, 111, 112, 32, 51]) = ([⟨9, 1, 0, 0, 0, 0, ⟨#[120]⟩⟩, ⟨3, 0, 0, 0, 0, 3, ⟨#[]⟩⟩], [(3, ⟨#[98, 97, 100]⟩)]) := by kernel_rfl
end Go.Proofs.YtcgembfdejjliaaGreatDoor
