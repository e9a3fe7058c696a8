/- Rows of asks of a tape. -/
import Derived.Test.YtcjpemphdgndkaaGreatDkAkY
import Derived.Deep.WholeRow
namespace Go.Proofs.YtcjpemphdgndkaaGreat
open Go.RowKit
set_option linter.unusedVariables false
set_option linter.unusedSimpArgs false

end Go.Proofs.YtcjpemphdgndkaaGreat
