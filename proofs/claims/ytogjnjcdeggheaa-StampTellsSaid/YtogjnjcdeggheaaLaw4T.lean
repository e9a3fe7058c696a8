/- Layer 4's laws, walked: StampTells. -/
import Derived.Test.YtogjnjcdeggheaaLaw4S
import Derived.Test.YtogjnjcdeggheaaLaw4K
import Derived.OpenShut
namespace Go.Proofs.Ytogjnjcdeggheaa
open Go.RowKit
set_option linter.unusedVariables false

set_option maxRecDepth 100000 in
set_option maxHeartbeats 4000000 in
theorem stampTells_walk (t k n : Int) (t' k' n' : Int) (now : Int) (node : Int) (w : World) (w0 : StWf t k n) (w1 : StWf t' k' n') (_ : (Lit.int .i64 now).wf = true) (_ : (Lit.int .i64 node).wf = true) :
    Calls Try.prog 4 #[stv t k n, stv t' k' n', .int .i64 now, .int .i64 node] w fun e w' => e = .returned (.bool true) ∧ Below w.heap.size w w' := by
  have hn := i64_hi w0.2.2
  have hn0 := i64_lo w0.2.2
  go_enter Try.func4, Try.ntmps4
  go_wp2_with fail
  refine (law4same _ _ _ _ _ _ _ _ _ hn hn0).mono ?_
  rintro e w1 ⟨rfl, hb⟩
  have x0 := ext_cell hb (b := w.heap.size + 1 + 1) (o := 0) (v := .int .i64 (bits BinOp.and IntKind.i64 t 3)) (by go_cell)
  have x1 := ext_cell hb (b := w.heap.size + 1 + 1) (o := 1) (v := .int .i64 (bits BinOp.and IntKind.i64 k 1)) (by go_cell)
  have x2 := ext_cell hb (b := w.heap.size + 1 + 1) (o := 2) (v := .int .i64 (bits BinOp.and IntKind.i64 n' 3)) (by go_cell)
  have x3 := ext_cell hb (b := w.heap.size + 1 + 1 + 1) (o := 0) (v := .int .i64 (bits BinOp.and IntKind.i64 t' 3)) (by go_cell)
  have x4 := ext_cell hb (b := w.heap.size + 1 + 1 + 1) (o := 1) (v := .int .i64 (bits BinOp.and IntKind.i64 k' 1)) (by go_cell)
  have x5 := ext_cell hb (b := w.heap.size + 1 + 1 + 1) (o := 2) (v := .int .i64 (bits BinOp.and IntKind.i64 n 3)) (by go_cell)
  have B := ext_trans (a := w) (by go_grown) hb
  clear hb
  go_wp2_with fail
  refine (law4same _ _ _ _ _ _ _ _ _ (i64_hi (wf_bits _ _ _ _)) (i64_lo (wf_bits _ _ _ _))).mono ?_
  rintro e w2 ⟨rfl, hb⟩
  have B2 := ext_trans B hb
  go_wp2_with fail
  refine (law4known _).mono ?_
  rintro e w3 ⟨rfl, hb⟩
  have B3 := ext_trans B2 hb
  go_wp2_with fail
  go_ret
  exact ⟨rfl, B3⟩

end Go.Proofs.Ytogjnjcdeggheaa
