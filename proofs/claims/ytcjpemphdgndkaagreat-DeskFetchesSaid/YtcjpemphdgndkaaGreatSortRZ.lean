/- Cards by key: the document's own order and sort. -/
import Derived.Test.YtcjpemphdgndkaaGreatBsZ
import Derived.Test.YtcjpemphdgndkaaGreatBdZ
import Derived.Test.YtcjpemphdgndkaaGreatBaZ
namespace Go.Proofs.YtcjpemphdgndkaaGreat
open Go.RowKit
set_option linter.unusedVariables false
set_option linter.unusedSimpArgs false

end Go.Proofs.YtcjpemphdgndkaaGreat
