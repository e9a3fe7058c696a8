/- MailKinds: the walk. -/
import Derived.Test.YtfdalmodnkkfiaaDoorMlI0
import Derived.Test.YtfdalmodnkkfiaaDoorMlI1
import Derived.Test.YtfdalmodnkkfiaaDoorMlI2
import Derived.Test.YtfdalmodnkkfiaaDoorMlI3
import Derived.Test.YtfdalmodnkkfiaaDoorMlI4
namespace Go.Proofs.YtfdalmodnkkfiaaDoor
open Go.RowKit
set_option linter.unusedVariables false
set_option linter.unusedSimpArgs false

theorem mailKinds_walk (ra : Option Addr) (rlen rcap : Nat) (rz : List Int) (which : Int) (w : World) (hG : EG w) (hr : IsRow .i64 w ra rlen rcap rz) (hw9 : (Lit.int .i64 which).wf = true) :
    Calls Tryd.prog 4 #[.slice ra rlen rcap, .int .i64 which] w fun r w' => r = .returned (.bool true) ∧ Below w.heap.size w w' := by
  have h1 := win_lo which 0 4 (by omega)
  have h2 := win_hi which 0 4 (by omega)
  obtain ⟨q, hq⟩ : ∃ q, win which 0 4 = q := ⟨_, rfl⟩
  rw [hq] at h1 h2
  have h5 : q = 0 ∨ q = 1 ∨ q = 2 ∨ q = 3 ∨ q = 4 := by omega
  rcases h5 with rfl | rfl | rfl | rfl | rfl
  · exact mailKinds0 ra rlen rcap rz which w hG hr hw9 hq
  · exact mailKinds1 ra rlen rcap rz which w hG hr hw9 hq
  · exact mailKinds2 ra rlen rcap rz which w hG hr hw9 hq
  · exact mailKinds3 ra rlen rcap rz which w hG hr hw9 hq
  · exact mailKinds4 ra rlen rcap rz which w hG hr hw9 hq
end Go.Proofs.YtfdalmodnkkfiaaDoor
