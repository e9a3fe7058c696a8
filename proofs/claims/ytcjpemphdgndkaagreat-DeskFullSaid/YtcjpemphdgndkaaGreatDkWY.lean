/- Cards of a shelf inside a desk; feeds of a desk. -/
import Derived.Test.YtcjpemphdgndkaaGreatDkRY
import Derived.Test.YtcjpemphdgndkaaGreatDkPY
import Derived.Test.YtcjpemphdgndkaaGreatSeaY
import Derived.Test.YtcjpemphdgndkaaGreatSplitY
namespace Go.Proofs.YtcjpemphdgndkaaGreat
open Go.RowKit
set_option linter.unusedVariables false
set_option linter.unusedSimpArgs false

/-- the card of a key by now; one that is gone, if there is none -/
def cur (es : List En) (k : Ky) : Cd := if isIn k es = true then ((es[low k es]?).map (·.c)).getD Cd.zero else ⟨k.1, k.2, 2, 0, 1, 0, 0, 0, true⟩
end Go.Proofs.YtcjpemphdgndkaaGreat
