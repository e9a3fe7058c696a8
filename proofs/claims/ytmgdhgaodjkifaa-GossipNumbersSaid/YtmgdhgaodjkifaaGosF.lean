/- Fields of a message. -/
import Derived.Test.YtmgdhgaodjkifaaGosC
namespace Go.Proofs.Ytmgdhgaodjkifaa
open Go.RowKit
set_option linter.unusedVariables false
set_option linter.unusedSimpArgs false

theorem field_kind (v : Value) (w : World) : (Instr.field 43 (.agg #[.int .i64 4, .int .i64 0, .int .i64 0, .int .i64 0, .int .i64 0, .int .i64 0, .int .i64 0, .string ⟨#[]⟩, .string ⟨#[]⟩, .bool false, .int .u32 0, v, .slice none 0 0]) 0).run Try.prog w = .ok (.int .i64 4) w := by
  unfold Instr.field
  simp [go_sem, asAgg, Try.underlying43]
theorem field_cards (a : Option Addr) (n c : Nat) (w : World) : (Instr.field 43 (.agg #[.int .i64 4, .int .i64 0, .int .i64 0, .int .i64 0, .int .i64 0, .int .i64 0, .int .i64 0, .string ⟨#[]⟩, .string ⟨#[]⟩, .bool false, .int .u32 0, .slice a n c, .slice none 0 0]) 10).run Try.prog w = .ok (.slice a n c) w := by
  unfold Instr.field
  simp [go_sem, asAgg, Try.underlying43]
end Go.Proofs.Ytmgdhgaodjkifaa
