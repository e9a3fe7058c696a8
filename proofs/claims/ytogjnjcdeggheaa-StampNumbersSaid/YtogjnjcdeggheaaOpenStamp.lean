/- What comes in, opened: stamps. -/
import Derived.Test.YtogjnjcdeggheaaRows
import Derived.Test.YtogjnjcdeggheaaOpen
import Derived.ProofKit
import Derived.OpenShut
import Derived.ShutString
import Derived.ChangeOld
import Derived.Below
import Derived.Lib.SmallJoins
namespace Go.Proofs.Ytogjnjcdeggheaa
open Go.ChangeShapes Go.WideShapes Go.ChangeAt Go.RowKit

/-- the numbers of a stamp are of their kinds -/
def StWf (t k n : Int) : Prop := (Lit.int .i64 t).wf = true ∧ (Lit.int .i64 k).wf = true ∧ (Lit.int .i64 n).wf = true
/-- a stamp, as a value: its three numbers in the order of the struct's fields -/
@[reducible] def stv (t k n : Int) : Value := .agg #[.int .i64 t, .int .i64 k, .int .i64 n]

theorem stamp_cells : Try.prog.cellsOf 25 = 3 := by kernel_rfl

theorem open_stamp {H : Type} {enc : TypeId × Value → H} {w : World} {r : Reach} {b0 base : Nat} {spare : Nat → Bool} {held : Bool} {v : Value} {d : DataW H} {p : List MemPlace}
    (hv : Value.okWide Try.prog w r b0 25 v) (h : DataW.Trod enc Try.prog w base spare held 25 v d p) :
    ∃ t k n, v = stv t k n ∧ StWf t k n := by
  obtain ⟨c0, c1, c2, y0, y1, y2, m, rfl, _, _, h0, h1, h2⟩ := Joins.open_agg3 Try.underlying25 (by kernel_rfl) stamp_cells hv h
  obtain ⟨t, e0, _, w0⟩ := DataW.trod_int Try.underlying2 h0
  obtain ⟨k, e1, _, w1⟩ := DataW.trod_int Try.underlying3 h1
  obtain ⟨n, e2, _, w2⟩ := DataW.trod_int Try.underlying2 h2
  simp at e0 e1 e2
  subst e0 e1 e2
  exact ⟨t, k, n, rfl, w0, w1, w2⟩

end Go.Proofs.Ytogjnjcdeggheaa
