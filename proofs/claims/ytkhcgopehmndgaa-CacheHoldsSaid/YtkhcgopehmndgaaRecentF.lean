/- Layer 13's reference, walked. -/
import Derived.Test.YtkhcgopehmndgaaBm
namespace Go.Proofs.Ytkhcgopehmndgaa
open Go.RowKit
set_option linter.unusedVariables false

theorem own_emptyR {w : World} {b base : Nat} (h : w.heap[b]? = some (.cells #[] 31 (0, 0))) (hb : base ≤ b) : w.ownsRow base 31 2 (.slice (some ⟨b, 0, none⟩) 0 0) 0 (kf []) :=
  ⟨rfl, .inr ⟨b, 0, #[], rfl, hb, h, Nat.le_refl _, by simp [maxLen], rfl, rfl⟩⟩
theorem blk_ne {w : World} {b b1 : Nat} {x y : Value} (h : w.heap[b]? = some (.cells #[x, y] 31 (0, 0))) (h1 : w.heap[b1]? = some (.cells #[] 31 (0, 0))) : b ≠ b1 := by
  rintro rfl
  rw [h] at h1
  simp at h1

end Go.Proofs.Ytkhcgopehmndgaa
