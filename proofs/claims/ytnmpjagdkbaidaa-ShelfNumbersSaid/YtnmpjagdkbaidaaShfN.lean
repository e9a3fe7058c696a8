/- The document's own shelf: Put of a new key. -/
import Derived.Test.YtnmpjagdkbaidaaShfM
import Derived.Test.YtnmpjagdkbaidaaInv
namespace Go.Proofs.Ytnmpjagdkbaidaa
open Go.RowKit
set_option linter.unusedVariables false
set_option linter.unusedSimpArgs false

theorem own_empty10 {w : World} {b base : Nat} (h : w.heap[b]? = some (.cells #[] 63 (0, 0))) (hb : base ≤ b) : w.ownsRow base 63 10 (.slice (some ⟨b, 0, none⟩) 0 0) 0 (flat ec []) :=
  ⟨rfl, .inr ⟨b, 0, #[], rfl, hb, h, Nat.le_refl _, by simp [maxLen], rfl, rfl⟩⟩
theorem blk_ne10 {w : World} {b b1 : Nat} {e : En} (h : w.heap[b]? = some (.cells #[.string e.c.a, .string e.c.i, .int .i64 e.c.s, .int .i64 e.c.o, .int .i64 e.c.l, .int .i64 e.c.t, .int .i64 e.c.k, .int .i64 e.c.n, .bool e.c.g, .int .i64 e.seen] 63 (0, 0))) (h1 : w.heap[b1]? = some (.cells #[] 63 (0, 0))) : b ≠ b1 := by
  rintro rfl
  rw [h] at h1
  simp at h1

end Go.Proofs.Ytnmpjagdkbaidaa
