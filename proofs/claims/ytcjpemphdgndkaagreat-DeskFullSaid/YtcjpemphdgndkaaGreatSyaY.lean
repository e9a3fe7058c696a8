/- Several texts as one: Sym, SymL, SymB, SymW. -/
import Derived.Test.YtcjpemphdgndkaaGreatInsY
import Derived.Shelf.SlSortCmp.InsertionK
import Derived.Shelf.SlSortCmp.KitK
import Derived.Sort.WalkB2
import Derived.Sort.WalkB12
import Derived.Deep.LoopGhost
/- Merging of rows in order, no word of the program: what SymMerge's halves come to; a stable sort of two blocks. -/
namespace Go.Proofs.YtcjpemphdgndkaaGreat
set_option linter.unusedVariables false
set_option linter.unusedSimpArgs false

section
variable {α : Type} (lt : α → α → Bool)
end
end Go.Proofs.YtcjpemphdgndkaaGreat

/- Lists laid over arrays: exchanges, a segment put in order by insertion, what a merge's halves come to. No word of the program. -/
namespace Go.Proofs.YtcjpemphdgndkaaGreat
open Go.Sort
set_option linter.unusedVariables false
set_option linter.unusedSimpArgs false
set_option linter.unusedSectionVars false

section
variable {α : Type} [Inhabited α] (lt : α → α → Bool)
end
end Go.Proofs.YtcjpemphdgndkaaGreat

/- The bodies of slices.swapRangeCmpFunc, rotateCmpFunc, symMergeCmpFunc, stableCmpFunc over any numbering: as the program prints them. -/
namespace Go.Proofs.YtcjpemphdgndkaaGreat
open Go.Shelf
set_option linter.unusedVariables false

end Go.Proofs.YtcjpemphdgndkaaGreat

/- slices.swapRangeCmpFunc, rotateCmpFunc at structs, over any program. -/
namespace Go.Proofs.YtcjpemphdgndkaaGreat
open Go.Shelf Go.RowKit Go.Lib Go.Sort
set_option linter.unusedVariables false
set_option linter.unusedSimpArgs false
set_option linter.unusedSectionVars false
variable {P : Program} {ρ : Ren} {α : Type} [Inhabited α]
end Go.Proofs.YtcjpemphdgndkaaGreat
