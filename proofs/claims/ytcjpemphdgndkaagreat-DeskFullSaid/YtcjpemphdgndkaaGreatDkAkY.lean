/- Asks of a tape. -/
import Derived.Test.YtcjpemphdgndkaaGreatDkQY
import Derived.Test.YtcjpemphdgndkaaGreatDkWY
namespace Go.Proofs.YtcjpemphdgndkaaGreat
open Go.RowKit
set_option linter.unusedVariables false
set_option linter.unusedSimpArgs false

end Go.Proofs.YtcjpemphdgndkaaGreat
