/- Package seal's walks: what is seen, its bytes, its sum. -/
import Derived.Test.YtkhmaaalmlnblaaSealW
import Derived.Test.YtkhmaaalmlnblaaSortE
namespace Go.Proofs.Ytkhmaaalmlnblaa
open Go.RowKit
set_option linter.unusedVariables false
set_option linter.unusedSimpArgs false

theorem filt_snoc (ls : List Cd) (x : Cd) : (ls ++ [x]).filter (fun c => !c.g) = ls.filter (fun c => !c.g) ++ (if x.g then [] else [x]) := by
  rw [List.filter_append]
  cases h : x.g <;> simp [List.filter, h]

end Go.Proofs.Ytkhmaaalmlnblaa
