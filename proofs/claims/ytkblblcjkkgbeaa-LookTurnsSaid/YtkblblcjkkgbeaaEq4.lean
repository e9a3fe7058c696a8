/- Rows of four numbers, compared. -/
import Derived.Test.YtkblblcjkkgbeaaLookA
import Derived.ChangeKeysEq
import Derived.Laws.StructEq
namespace Go.Proofs.Ytkblblcjkkgbeaa
open Go.RowKit
set_option linter.unusedVariables false

theorem info_int4 : (Try.prog.info? 3).map (fun i => (i.zero, i.size, i.bytes)) = some (some (.int .i64 0), 1, 8) := by kernel_rfl
theorem under4 : Try.prog.underlying 45 = some (.array 4 3) := by kernel_rfl
theorem cells4 : Try.prog.cellsOf 3 = 1 := by kernel_rfl
theorem eq4 (a b c d : Int) (w : World) : (Op.equalIn 10000 45 (.agg #[.int .i64 a, .int .i64 b, .int .i64 c, .int .i64 d]) (.agg #[.int .i64 a, .int .i64 b, .int .i64 c, .int .i64 d])).run Try.prog w = .ok true w := by
  obtain ⟨i, hi, -, -, -⟩ := info_parts' info_int4
  rw [run_equalIn_array w 9999 _ _ under4 hi, cells4]
  have hr : List.range 4 = [0, 1, 2, 3] := rfl
  rw [hr]
  simp [Op.eqItems, go_sem, Try.underlying3, Try.isAgg3]
end Go.Proofs.Ytkblblcjkkgbeaa
