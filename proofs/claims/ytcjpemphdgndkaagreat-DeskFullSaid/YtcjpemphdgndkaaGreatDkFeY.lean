/- A desk: fetch. -/
import Derived.Test.YtcjpemphdgndkaaGreatDkXY
import Derived.Test.YtcjpemphdgndkaaGreatDkQY
namespace Go.Proofs.YtcjpemphdgndkaaGreat
open Go.RowKit
set_option linter.unusedVariables false
set_option linter.unusedSimpArgs false

end Go.Proofs.YtcjpemphdgndkaaGreat
