/- Several texts as one: SymM, SymR, SymG, SymS, SortE. -/
import Derived.Test.YtcjpemphdgndkaaGreatSyaY
import Derived.Deep.Cut
import Derived.Deep.CutRange
import Derived.Test.YtcjpemphdgndkaaGreatBsY
import Derived.Test.YtcjpemphdgndkaaGreatBeY
/- slices.symMergeCmpFunc at structs: one on the left. -/
namespace Go.Proofs.YtcjpemphdgndkaaGreat
open Go.Shelf Go.RowKit Go.Lib Go.Sort
set_option linter.unusedVariables false
set_option linter.unusedSimpArgs false
set_option linter.unusedSectionVars false
variable {P : Program} {ρ : Ren} {α : Type} [Inhabited α]
end Go.Proofs.YtcjpemphdgndkaaGreat

/- slices.symMergeCmpFunc at structs: one on the right. -/
namespace Go.Proofs.YtcjpemphdgndkaaGreat
open Go.Shelf Go.RowKit Go.Lib Go.Sort
set_option linter.unusedVariables false
set_option linter.unusedSimpArgs false
set_option linter.unusedSectionVars false
variable {P : Program} {ρ : Ren} {α : Type} [Inhabited α]
end Go.Proofs.YtcjpemphdgndkaaGreat

/- slices.symMergeCmpFunc at structs. -/
namespace Go.Proofs.YtcjpemphdgndkaaGreat
open Go.Shelf Go.RowKit Go.Lib Go.Sort
set_option linter.unusedVariables false
set_option linter.unusedSimpArgs false
set_option linter.unusedSectionVars false
section
variable {β : Type} [Inhabited β] (lt : β → β → Bool)
end
variable {P : Program} {ρ : Ren} {α : Type} [Inhabited α]
end Go.Proofs.YtcjpemphdgndkaaGreat

/- slices.stableCmpFunc at structs. -/
namespace Go.Proofs.YtcjpemphdgndkaaGreat
open Go.Shelf Go.RowKit Go.Lib Go.Sort
set_option linter.unusedVariables false
set_option linter.unusedSimpArgs false
set_option linter.unusedSectionVars false
section
variable {β : Type} (lt : β → β → Bool)
end
variable {P : Program} {ρ : Ren} {α : Type} [Inhabited α]
end Go.Proofs.YtcjpemphdgndkaaGreat

/- Cards put in order by the library's stable sort, of any number (up to 1000). -/
namespace Go.Proofs.YtcjpemphdgndkaaGreat
open Go.RowKit
set_option linter.unusedVariables false
set_option linter.unusedSimpArgs false
set_option linter.unusedSectionVars false

end Go.Proofs.YtcjpemphdgndkaaGreat
