/- A desk: register at a register that is full. -/
import Derived.Test.YtcjpemphdgndkaaGreatDkOvZ
namespace Go.Proofs.YtcjpemphdgndkaaGreat
open Go.RowKit
set_option linter.unusedVariables false
set_option linter.unusedSimpArgs false

end Go.Proofs.YtcjpemphdgndkaaGreat
