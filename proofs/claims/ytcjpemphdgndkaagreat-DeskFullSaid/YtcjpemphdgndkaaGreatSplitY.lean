/- A region that draws its order, in two parts: all of the second waits for all of the first. -/
import Derived.Test.YtcjpemphdgndkaaGreatHistY
import Derived.Test.YtcjpemphdgndkaaGreatBaY
namespace Go.Proofs.YtcjpemphdgndkaaGreat
open Go.RowKit

section
variable {P : Program}

/-- what is asked behind the first part -/
def behind (T : Act → World → Prop) (Q : Exit → Act → World → Prop) : Exit → Act → World → Prop
  | .normal, a, w => T a w
  | e, a, w => Q e a w
end

end Go.Proofs.YtcjpemphdgndkaaGreat
