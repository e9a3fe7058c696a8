/- Layer 13's reference, walked: Since. -/
import Derived.Test.YtkhcgopehmndgaaRecentF
namespace Go.Proofs.Ytkhcgopehmndgaa
open Go.RowKit
set_option linter.unusedVariables false

end Go.Proofs.Ytkhcgopehmndgaa
