/- Nobody is late: nobody is picked. -/
import Derived.Test.YtcjpemphdgndkaaGreatDkLY
namespace Go.Proofs.YtcjpemphdgndkaaGreat
open Go.RowKit
set_option linter.unusedVariables false
set_option linter.unusedSimpArgs false

def hd (n : Int) : Int := if n < 0 then 0 else if 4611686018427387904 < n then 4611686018427387904 else n

theorem hd_lo (n : Int) : 0 ≤ hd n := by unfold hd; split <;> (try split) <;> omega

theorem hd_hi (n : Int) : hd n ≤ 4611686018427387904 := by unfold hd; split <;> (try split) <;> omega

def late (e : En) (now : Int) : Int := if e.c.g then 0 else if hd now - hd e.seen - hd e.c.l < 0 then 0 else hd now - hd e.seen - hd e.c.l

end Go.Proofs.YtcjpemphdgndkaaGreat
