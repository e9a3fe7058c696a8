/- Several texts as one: PackM, PackW, Sum, SealW, SealS. -/
import Derived.Test.YtcjpemphdgndkaaGreatBbY
import Derived.Test.YtcjpemphdgndkaaGreatBeY
import Derived.Test.YtcjpemphdgndkaaGreatSybY
/- Numbers as eight bytes, and back. -/
namespace Go.Proofs.YtcjpemphdgndkaaGreat
open Go.RowKit
set_option linter.unusedVariables false

/-- a number's eight bytes, the highest first -/
def be (n : Int) : List Int := [n / 2 ^ 56 % 256, n / 2 ^ 48 % 256, n / 2 ^ 40 % 256, n / 2 ^ 32 % 256, n / 2 ^ 24 % 256, n / 2 ^ 16 % 256, n / 2 ^ 8 % 256, n % 256]
/-- bytes as a number, the highest first -/
def rdU (xs : List Int) : Int := xs.foldl (fun a c => a * 256 + c) 0
/-- the number that eight bytes say -/
def rd (xs : List Int) : Int := IntKind.i64.wrap (rdU xs)
end Go.Proofs.YtcjpemphdgndkaaGreat

/- Package pack's walks: values are put behind bytes. -/
namespace Go.Proofs.YtcjpemphdgndkaaGreat
open Go.RowKit
set_option linter.unusedVariables false

/-- a row of bytes in new memory -/
def Row (xs : List Int) (w : World) (e : Ending) (w' : World) : Prop := ∃ v, e = .returned v ∧ w'.ownsRow w.heap.size 5 1 v xs.length (bc xs) ∧ Below w.heap.size w w'

end Go.Proofs.YtcjpemphdgndkaaGreat

/- Sums of bytes. -/
namespace Go.Proofs.YtcjpemphdgndkaaGreat
open Go.RowKit
set_option linter.unusedVariables false

end Go.Proofs.YtcjpemphdgndkaaGreat

/- Package seal's walks. -/
namespace Go.Proofs.YtcjpemphdgndkaaGreat
open Go.RowKit
set_option linter.unusedVariables false
set_option linter.unusedSimpArgs false

/-- a card whose texts are short -/
def CdS (c : Cd) : Prop := c.a.size ≤ 1000 ∧ c.i.size ≤ 1000
theorem CdOk.s {c : Cd} (h : CdOk c) : CdS c := ⟨by have := h.1; omega, by have := h.2.1; omega⟩
end Go.Proofs.YtcjpemphdgndkaaGreat

/- Package seal's walks: what is seen, its bytes, its sum. -/
namespace Go.Proofs.YtcjpemphdgndkaaGreat
open Go.RowKit
set_option linter.unusedVariables false
set_option linter.unusedSimpArgs false

end Go.Proofs.YtcjpemphdgndkaaGreat
