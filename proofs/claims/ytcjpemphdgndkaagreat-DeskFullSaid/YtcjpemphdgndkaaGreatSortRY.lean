/- Cards by key: the document's own order and sort. -/
import Derived.Test.YtcjpemphdgndkaaGreatBsY
import Derived.Test.YtcjpemphdgndkaaGreatBdY
import Derived.Test.YtcjpemphdgndkaaGreatBaY
namespace Go.Proofs.YtcjpemphdgndkaaGreat
open Go.RowKit
set_option linter.unusedVariables false
set_option linter.unusedSimpArgs false

end Go.Proofs.YtcjpemphdgndkaaGreat
