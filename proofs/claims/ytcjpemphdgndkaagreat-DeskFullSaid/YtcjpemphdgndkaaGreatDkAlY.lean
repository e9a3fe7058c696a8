/- A desk: Handle of any ask of a tape. -/
import Derived.Test.YtcjpemphdgndkaaGreatDkZY
namespace Go.Proofs.YtcjpemphdgndkaaGreat
open Go.RowKit
set_option linter.unusedVariables false
set_option linter.unusedSimpArgs false

end Go.Proofs.YtcjpemphdgndkaaGreat
