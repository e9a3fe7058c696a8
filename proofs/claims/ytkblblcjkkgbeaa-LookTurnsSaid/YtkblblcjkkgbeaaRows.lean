/-
  No cell of these rows narrows 'for every input' (looked for: loops, veiled, ifaces, maps, wideKeys, modest, calm, conditions, laid).
  DERIVED. THE GIVEN ROWS OF THIS SEAT. 3 by the template 'for every input the law returns true; each argument reads behind the call as it read before'; 0 by the template 'total and deterministic' (their statements: YtkblblcjkkgbeaaTotals.lean).
  GIVEN WITH THE SEED: the statements are not yours to turn. If you find one false, say at which input.
  Laid BY PROGRAM, IN A SANDBOX (cutbox-rows.mjs): the forced cells as the released guide's own fill.sh prints them over the translation 322db70ed099c79c… (all of the seat's roots in one cut). By AI agents, Wed Nov 11 2026. No macro, syntax, notation, axiom, sorry.
-/
import Derived.Test.YtkblblcjkkgbeaaChecked
import GoSem.Claim
import GoSem.ClaimJoined
import GoSem.ClaimMapViews
import Derived.JoinedTies
import Derived.KernelRfl
namespace Go.Proofs.Ytkblblcjkkgbeaa
/- THE CELL 'sum', in the pinned program and in every row, IS THE sha256 OF THE DUMP (.gsa) THAT YtkblblcjkkgbeaaProg.lean LOADS. Nothing in Lean hashes anything: it is a label: what it is worth is what the hold of that sum in a sandbox is worth. -/
noncomputable def Try.pinned : Pinned := { name := "ytkblblcjkkgbeaa", sum := "322db70ed099c79c907e9af18d4fb66a76c46dbfc7728f1c134a0e24335d10f6", checked := Try.checked }
namespace Rows
def none {H : Type} : Left H := { results := [], args := [] }

/-- 'frankpledgelaw23.LookNumbers': WHATEVER THE INPUT: true; the input reads as it did. -/
def lookNumbersSpec : ChangeSpec := { name := "lookNumbers", fn := fun _ => fun
  | [] => { results := [.lit (.bool true)], args := [] }
  | _ => none }
def lookNumbersRow : OpenClaim := { program := "ytkblblcjkkgbeaa", sum := "322db70ed099c79c907e9af18d4fb66a76c46dbfc7728f1c134a0e24335d10f6", func := "frankpledge/frankpledgelaw23.LookNumbers", spec := "lookNumbers", inPlace := ["internal/bytealg.abigen_runtime_cmpstring"], unfollowed := true, recurses := true, plainKeys := false, apart := false }
def LookNumbersSaid : Prop := lookNumbersRow.holds Try.pinned (OpenSpec.ofChange lookNumbersSpec)

/-- ITS FALSE NEIGHBOUR: 'it returns false'. Refute it at one input. -/
def lookNumbersWrong : ChangeSpec := { name := "lookNumbers", fn := fun _ => fun
  | [] => { results := [.lit (.bool false)], args := [] }
  | _ => none }
def LookNumbersWrongFalsely : Prop := lookNumbersRow.holds Try.pinned (OpenSpec.ofChange lookNumbersWrong)

/-- 'frankpledgelaw23.LookTurns': WHATEVER THE INPUT: true; the input reads as it did. -/
def lookTurnsSpec : ChangeSpec := { name := "lookTurns", fn := fun _ => fun
  | [d1, d2] => { results := [.lit (.bool true)], args := [d1, d2] }
  | _ => none }
def lookTurnsRow : OpenClaim := { program := "ytkblblcjkkgbeaa", sum := "322db70ed099c79c907e9af18d4fb66a76c46dbfc7728f1c134a0e24335d10f6", func := "frankpledge/frankpledgelaw23.LookTurns", spec := "lookTurns", inPlace := ["internal/bytealg.abigen_runtime_cmpstring"], unfollowed := true, recurses := true, plainKeys := false, apart := false }
def LookTurnsSaid : Prop := lookTurnsRow.holds Try.pinned (OpenSpec.ofChange lookTurnsSpec)

/-- ITS FALSE NEIGHBOUR: 'it returns false'. Refute it at one input. -/
def lookTurnsWrong : ChangeSpec := { name := "lookTurns", fn := fun _ => fun
  | [d1, d2] => { results := [.lit (.bool false)], args := [d1, d2] }
  | _ => none }
def LookTurnsWrongFalsely : Prop := lookTurnsRow.holds Try.pinned (OpenSpec.ofChange lookTurnsWrong)

/-- 'frankpledgelaw23.LookCounts': WHATEVER THE INPUT: true; the input reads as it did. -/
def lookCountsSpec : ChangeSpec := { name := "lookCounts", fn := fun _ => fun
  | [d] => { results := [.lit (.bool true)], args := [d] }
  | _ => none }
def lookCountsRow : OpenClaim := { program := "ytkblblcjkkgbeaa", sum := "322db70ed099c79c907e9af18d4fb66a76c46dbfc7728f1c134a0e24335d10f6", func := "frankpledge/frankpledgelaw23.LookCounts", spec := "lookCounts", inPlace := ["internal/bytealg.abigen_runtime_cmpstring"], unfollowed := true, recurses := true, plainKeys := false, apart := false }
def LookCountsSaid : Prop := lookCountsRow.holds Try.pinned (OpenSpec.ofChange lookCountsSpec)

/-- ITS FALSE NEIGHBOUR: 'it returns false'. Refute it at one input. -/
def lookCountsWrong : ChangeSpec := { name := "lookCounts", fn := fun _ => fun
  | [d] => { results := [.lit (.bool false)], args := [d] }
  | _ => none }
def LookCountsWrongFalsely : Prop := lookCountsRow.holds Try.pinned (OpenSpec.ofChange lookCountsWrong)

/- THE SECOND FORM. 'bulk': how many values and letters a reading holds, each counted each time it is reached (what is shared counts as often as it is met; a slice's spare places count too). A statement '..UptoSaid' is the law's where the arguments, and the package variables that the reading takes, are together of bulk at most 1048576: NARROWER than '..Said'. Prove '..Said' where nothing that the law and all that it calls make is longer than what came in: it says more and counts as full. Else prove '..UptoSaid'. A law counts once. -/
mutual
def uptoBulk {H : Type} : DataW H → Nat
  | .lit (.string bytes) => bytes.length + 1
  | .lit _ => 1
  | .nil => 1
  | .ptr d => uptoBulk d + 1
  | .slice elems spare => uptoBulkAll elems + uptoBulkAll spare + 1
  | .agg parts => uptoBulkAll parts + 1
  | .iface _ d => uptoBulk d + 1
  | .map entries => uptoBulkEntries entries + 1
  | .held _ => 1
def uptoBulkAll {H : Type} : List (DataW H) → Nat
  | [] => 0
  | d :: r => uptoBulk d + uptoBulkAll r
def uptoBulkEntries {H : Type} : List (Lit × DataW H) → Nat
  | [] => 0
  | x :: r => uptoBulkEntry x + uptoBulkEntries r
def uptoBulkEntry {H : Type} : Lit × DataW H → Nat
  | (.string bytes, d) => bytes.length + uptoBulk d + 1
  | (_, d) => uptoBulk d + 1
 end
def uptoSmall : (H : Type) → List (DataW H) → Bool := fun _ ds => decide (uptoBulkAll ds ≤ 1048576)
def OpenSpec.upto (s : _root_.Go.ChangeSpec) : _root_.Go.OpenSpec := { _root_.Go.OpenSpec.ofChange s with cond := some uptoSmall }

/-- 'frankpledgelaw23.LookNumbers', WHERE WHAT IT READS IS OF BULK AT MOST 1048576: true; the input reads as it did. -/
def lookNumbersUptoRow : OpenClaim := { program := "ytkblblcjkkgbeaa", sum := "322db70ed099c79c907e9af18d4fb66a76c46dbfc7728f1c134a0e24335d10f6", func := "frankpledge/frankpledgelaw23.LookNumbers", spec := "lookNumbers", inPlace := ["internal/bytealg.abigen_runtime_cmpstring"], unfollowed := true, recurses := true, plainKeys := false, apart := false, narrowed := true }
def LookNumbersUptoSaid : Prop := lookNumbersUptoRow.holds Try.pinned (OpenSpec.upto lookNumbersSpec)

/-- 'frankpledgelaw23.LookTurns', WHERE WHAT IT READS IS OF BULK AT MOST 1048576: true; the input reads as it did. -/
def lookTurnsUptoRow : OpenClaim := { program := "ytkblblcjkkgbeaa", sum := "322db70ed099c79c907e9af18d4fb66a76c46dbfc7728f1c134a0e24335d10f6", func := "frankpledge/frankpledgelaw23.LookTurns", spec := "lookTurns", inPlace := ["internal/bytealg.abigen_runtime_cmpstring"], unfollowed := true, recurses := true, plainKeys := false, apart := false, narrowed := true }
def LookTurnsUptoSaid : Prop := lookTurnsUptoRow.holds Try.pinned (OpenSpec.upto lookTurnsSpec)

/-- 'frankpledgelaw23.LookCounts', WHERE WHAT IT READS IS OF BULK AT MOST 1048576: true; the input reads as it did. -/
def lookCountsUptoRow : OpenClaim := { program := "ytkblblcjkkgbeaa", sum := "322db70ed099c79c907e9af18d4fb66a76c46dbfc7728f1c134a0e24335d10f6", func := "frankpledge/frankpledgelaw23.LookCounts", spec := "lookCounts", inPlace := ["internal/bytealg.abigen_runtime_cmpstring"], unfollowed := true, recurses := true, plainKeys := false, apart := false, narrowed := true }
def LookCountsUptoSaid : Prop := lookCountsUptoRow.holds Try.pinned (OpenSpec.upto lookCountsSpec)

end Rows
end Go.Proofs.Ytkblblcjkkgbeaa
