/- A desk: a sweep that puts nobody out. -/
import Derived.Test.YtcjpemphdgndkaaGreatDkKY
namespace Go.Proofs.YtcjpemphdgndkaaGreat
open Go.RowKit
set_option linter.unusedVariables false
set_option linter.unusedSimpArgs false

theorem deskAll (db : Nat) (nd t0 k0 n0 : Int) (es : List En) (g l tt : Int) (ks : List Ky) (w : World) (h : DkP w db nd t0 k0 n0 es g l tt ks) (hn : es.length ≤ 900) :
    Calls Tryz.prog 51 #[.pointer (some ⟨db, 4, none⟩)] w fun r w' => ∃ v, r = .returned v ∧ OwnE w.heap.size w' v es ∧ Below w.heap.size w w' := by
  obtain ⟨Dk0, h1, -⟩ := h.s
  exact dkAll Dk0 db 32 es w h1 hn
end Go.Proofs.YtcjpemphdgndkaaGreat
