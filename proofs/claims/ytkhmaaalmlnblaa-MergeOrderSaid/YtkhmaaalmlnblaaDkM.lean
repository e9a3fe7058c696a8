/- Stamps, for a desk. -/
import Derived.Test.YtkhmaaalmlnblaaBe
import Derived.Test.YtkhmaaalmlnblaaDkN
namespace Go.Proofs.Ytkhmaaalmlnblaa
open Go.RowKit
set_option linter.unusedVariables false
set_option linter.unusedSimpArgs false

@[reducible] def stp (p : Int × Int × Int) : Value := stv p.1 p.2.1 p.2.2
/-- the later of two -/
def sMax (t k n t' k' n' : Int) : Int × Int × Int := if sLess t k n t' k' n' then (t', k', n') else (t, k, n)
def sNext (t n now node : Int) : Int × Int × Int := (if t < now then now else t, node, if n < 9223372036854775807 then n + 1 else n)
theorem sLess_later {t k n T k' : Int} (h : t ≤ T) : sLess t k n T k' (n + 1) = true := by
  unfold sLess
  have h1 : ¬ n = n + 1 := by omega
  by_cases e : t = T
  · simp [e, h1]; omega
  · simp [e]; omega
end Go.Proofs.Ytkhmaaalmlnblaa
