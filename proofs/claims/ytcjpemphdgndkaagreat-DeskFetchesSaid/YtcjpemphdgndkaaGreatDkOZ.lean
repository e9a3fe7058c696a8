/- A desk: a sweep that puts nobody out. -/
import Derived.Test.YtcjpemphdgndkaaGreatDkKZ
namespace Go.Proofs.YtcjpemphdgndkaaGreat
open Go.RowKit
set_option linter.unusedVariables false
set_option linter.unusedSimpArgs false

end Go.Proofs.YtcjpemphdgndkaaGreat
