/-
  No cell of these rows narrows 'for every input' (looked for: loops, veiled, ifaces, maps, wideKeys, modest, calm, conditions, laid).
  DERIVED. THE GIVEN ROWS OF THIS SEAT. 4 by the template 'for every input the law returns true; each argument reads behind the call as it read before'; 0 by the template 'total and deterministic' (their statements: YtgnmlkomgokimaaTotals.lean).
  GIVEN WITH THE SEED: the statements are not yours to turn. If you find one false, say at which input.
  Laid BY PROGRAM, IN A SANDBOX (cutbox-rows.mjs): the forced cells as the released guide's own fill.sh prints them over the translation 9efc28e028bd12b6… (all of the seat's roots in one cut). By AI agents, Wed Nov 11 2026. No macro, syntax, notation, axiom, sorry.
-/
import Derived.Test.YtgnmlkomgokimaaChecked
import GoSem.Claim
import GoSem.ClaimJoined
import GoSem.ClaimMapViews
import Derived.JoinedTies
import Derived.KernelRfl
namespace Go.Proofs.Ytgnmlkomgokimaa
/- THE CELL 'sum', in the pinned program and in every row, IS THE sha256 OF THE DUMP (.gsa) THAT YtgnmlkomgokimaaProg.lean LOADS. Nothing in Lean hashes anything: it is a label: what it is worth is what the hold of that sum in a sandbox is worth. -/
noncomputable def Try.pinned : Pinned := { name := "ytgnmlkomgokimaa", sum := "9efc28e028bd12b6dc16ad009d0d9a2f160b2bb05dae7f5e16f5b128f51e4002", checked := Try.checked }
namespace Rows
def none {H : Type} : Left H := { results := [], args := [] }

/-- 'frankpledgelaw15.FeedNumbers': WHATEVER THE INPUT: true; the input reads as it did. -/
def feedNumbersSpec : ChangeSpec := { name := "feedNumbers", fn := fun _ => fun
  | [] => { results := [.lit (.bool true)], args := [] }
  | _ => none }
def feedNumbersRow : OpenClaim := { program := "ytgnmlkomgokimaa", sum := "9efc28e028bd12b6dc16ad009d0d9a2f160b2bb05dae7f5e16f5b128f51e4002", func := "frankpledge/frankpledgelaw15.FeedNumbers", spec := "feedNumbers", inPlace := ["internal/bytealg.abigen_runtime_cmpstring", "slices.overlaps[frankpledge/lease.Entry]"], unfollowed := true, recurses := true, plainKeys := false, apart := false }
def FeedNumbersSaid : Prop := feedNumbersRow.holds Try.pinned (OpenSpec.ofChange feedNumbersSpec)

/-- ITS FALSE NEIGHBOUR: 'it returns false'. Refute it at one input. -/
def feedNumbersWrong : ChangeSpec := { name := "feedNumbers", fn := fun _ => fun
  | [] => { results := [.lit (.bool false)], args := [] }
  | _ => none }
def FeedNumbersWrongFalsely : Prop := feedNumbersRow.holds Try.pinned (OpenSpec.ofChange feedNumbersWrong)

/-- 'frankpledgelaw15.FeedTells': WHATEVER THE INPUT: true; the input reads as it did. -/
def feedTellsSpec : ChangeSpec := { name := "feedTells", fn := fun _ => fun
  | [d1, d2] => { results := [.lit (.bool true)], args := [d1, d2] }
  | _ => none }
def feedTellsRow : OpenClaim := { program := "ytgnmlkomgokimaa", sum := "9efc28e028bd12b6dc16ad009d0d9a2f160b2bb05dae7f5e16f5b128f51e4002", func := "frankpledge/frankpledgelaw15.FeedTells", spec := "feedTells", inPlace := ["internal/bytealg.abigen_runtime_cmpstring", "slices.overlaps[frankpledge/lease.Entry]"], unfollowed := true, recurses := true, plainKeys := false, apart := false }
def FeedTellsSaid : Prop := feedTellsRow.holds Try.pinned (OpenSpec.ofChange feedTellsSpec)

/-- ITS FALSE NEIGHBOUR: 'it returns false'. Refute it at one input. -/
def feedTellsWrong : ChangeSpec := { name := "feedTells", fn := fun _ => fun
  | [d1, d2] => { results := [.lit (.bool false)], args := [d1, d2] }
  | _ => none }
def FeedTellsWrongFalsely : Prop := feedTellsRow.holds Try.pinned (OpenSpec.ofChange feedTellsWrong)

/-- 'frankpledgelaw15.FeedJoins': WHATEVER THE INPUT: true; the input reads as it did. -/
def feedJoinsSpec : ChangeSpec := { name := "feedJoins", fn := fun _ => fun
  | [d1, d2] => { results := [.lit (.bool true)], args := [d1, d2] }
  | _ => none }
def feedJoinsRow : OpenClaim := { program := "ytgnmlkomgokimaa", sum := "9efc28e028bd12b6dc16ad009d0d9a2f160b2bb05dae7f5e16f5b128f51e4002", func := "frankpledge/frankpledgelaw15.FeedJoins", spec := "feedJoins", inPlace := ["internal/bytealg.abigen_runtime_cmpstring", "slices.overlaps[frankpledge/lease.Entry]"], unfollowed := true, recurses := true, plainKeys := false, apart := false }
def FeedJoinsSaid : Prop := feedJoinsRow.holds Try.pinned (OpenSpec.ofChange feedJoinsSpec)

/-- ITS FALSE NEIGHBOUR: 'it returns false'. Refute it at one input. -/
def feedJoinsWrong : ChangeSpec := { name := "feedJoins", fn := fun _ => fun
  | [d1, d2] => { results := [.lit (.bool false)], args := [d1, d2] }
  | _ => none }
def FeedJoinsWrongFalsely : Prop := feedJoinsRow.holds Try.pinned (OpenSpec.ofChange feedJoinsWrong)

/-- 'frankpledgelaw15.FeedSizes': WHATEVER THE INPUT: true; the input reads as it did. -/
def feedSizesSpec : ChangeSpec := { name := "feedSizes", fn := fun _ => fun
  | [d1, d2] => { results := [.lit (.bool true)], args := [d1, d2] }
  | _ => none }
def feedSizesRow : OpenClaim := { program := "ytgnmlkomgokimaa", sum := "9efc28e028bd12b6dc16ad009d0d9a2f160b2bb05dae7f5e16f5b128f51e4002", func := "frankpledge/frankpledgelaw15.FeedSizes", spec := "feedSizes", inPlace := ["internal/bytealg.abigen_runtime_cmpstring", "slices.overlaps[frankpledge/lease.Entry]"], unfollowed := true, recurses := true, plainKeys := false, apart := false }
def FeedSizesSaid : Prop := feedSizesRow.holds Try.pinned (OpenSpec.ofChange feedSizesSpec)

/-- ITS FALSE NEIGHBOUR: 'it returns false'. Refute it at one input. -/
def feedSizesWrong : ChangeSpec := { name := "feedSizes", fn := fun _ => fun
  | [d1, d2] => { results := [.lit (.bool false)], args := [d1, d2] }
  | _ => none }
def FeedSizesWrongFalsely : Prop := feedSizesRow.holds Try.pinned (OpenSpec.ofChange feedSizesWrong)

/- THE SECOND FORM. 'bulk': how many values and letters a reading holds, each counted each time it is reached (what is shared counts as often as it is met; a slice's spare places count too). A statement '..UptoSaid' is the law's where the arguments, and the package variables that the reading takes, are together of bulk at most 1048576: NARROWER than '..Said'. Prove '..Said' where nothing that the law and all that it calls make is longer than what came in: it says more and counts as full. Else prove '..UptoSaid'. A law counts once. -/
mutual
def uptoBulk {H : Type} : DataW H → Nat
  | .lit (.string bytes) => bytes.length + 1
  | .lit _ => 1
  | .nil => 1
  | .ptr d => uptoBulk d + 1
  | .slice elems spare => uptoBulkAll elems + uptoBulkAll spare + 1
  | .agg parts => uptoBulkAll parts + 1
  | .iface _ d => uptoBulk d + 1
  | .map entries => uptoBulkEntries entries + 1
  | .held _ => 1
def uptoBulkAll {H : Type} : List (DataW H) → Nat
  | [] => 0
  | d :: r => uptoBulk d + uptoBulkAll r
def uptoBulkEntries {H : Type} : List (Lit × DataW H) → Nat
  | [] => 0
  | x :: r => uptoBulkEntry x + uptoBulkEntries r
def uptoBulkEntry {H : Type} : Lit × DataW H → Nat
  | (.string bytes, d) => bytes.length + uptoBulk d + 1
  | (_, d) => uptoBulk d + 1
 end
def uptoSmall : (H : Type) → List (DataW H) → Bool := fun _ ds => decide (uptoBulkAll ds ≤ 1048576)
def OpenSpec.upto (s : _root_.Go.ChangeSpec) : _root_.Go.OpenSpec := { _root_.Go.OpenSpec.ofChange s with cond := some uptoSmall }

/-- 'frankpledgelaw15.FeedNumbers', WHERE WHAT IT READS IS OF BULK AT MOST 1048576: true; the input reads as it did. -/
def feedNumbersUptoRow : OpenClaim := { program := "ytgnmlkomgokimaa", sum := "9efc28e028bd12b6dc16ad009d0d9a2f160b2bb05dae7f5e16f5b128f51e4002", func := "frankpledge/frankpledgelaw15.FeedNumbers", spec := "feedNumbers", inPlace := ["internal/bytealg.abigen_runtime_cmpstring", "slices.overlaps[frankpledge/lease.Entry]"], unfollowed := true, recurses := true, plainKeys := false, apart := false, narrowed := true }
def FeedNumbersUptoSaid : Prop := feedNumbersUptoRow.holds Try.pinned (OpenSpec.upto feedNumbersSpec)

/-- 'frankpledgelaw15.FeedTells', WHERE WHAT IT READS IS OF BULK AT MOST 1048576: true; the input reads as it did. -/
def feedTellsUptoRow : OpenClaim := { program := "ytgnmlkomgokimaa", sum := "9efc28e028bd12b6dc16ad009d0d9a2f160b2bb05dae7f5e16f5b128f51e4002", func := "frankpledge/frankpledgelaw15.FeedTells", spec := "feedTells", inPlace := ["internal/bytealg.abigen_runtime_cmpstring", "slices.overlaps[frankpledge/lease.Entry]"], unfollowed := true, recurses := true, plainKeys := false, apart := false, narrowed := true }
def FeedTellsUptoSaid : Prop := feedTellsUptoRow.holds Try.pinned (OpenSpec.upto feedTellsSpec)

/-- 'frankpledgelaw15.FeedJoins', WHERE WHAT IT READS IS OF BULK AT MOST 1048576: true; the input reads as it did. -/
def feedJoinsUptoRow : OpenClaim := { program := "ytgnmlkomgokimaa", sum := "9efc28e028bd12b6dc16ad009d0d9a2f160b2bb05dae7f5e16f5b128f51e4002", func := "frankpledge/frankpledgelaw15.FeedJoins", spec := "feedJoins", inPlace := ["internal/bytealg.abigen_runtime_cmpstring", "slices.overlaps[frankpledge/lease.Entry]"], unfollowed := true, recurses := true, plainKeys := false, apart := false, narrowed := true }
def FeedJoinsUptoSaid : Prop := feedJoinsUptoRow.holds Try.pinned (OpenSpec.upto feedJoinsSpec)

/-- 'frankpledgelaw15.FeedSizes', WHERE WHAT IT READS IS OF BULK AT MOST 1048576: true; the input reads as it did. -/
def feedSizesUptoRow : OpenClaim := { program := "ytgnmlkomgokimaa", sum := "9efc28e028bd12b6dc16ad009d0d9a2f160b2bb05dae7f5e16f5b128f51e4002", func := "frankpledge/frankpledgelaw15.FeedSizes", spec := "feedSizes", inPlace := ["internal/bytealg.abigen_runtime_cmpstring", "slices.overlaps[frankpledge/lease.Entry]"], unfollowed := true, recurses := true, plainKeys := false, apart := false, narrowed := true }
def FeedSizesUptoSaid : Prop := feedSizesUptoRow.holds Try.pinned (OpenSpec.upto feedSizesSpec)

end Rows
end Go.Proofs.Ytgnmlkomgokimaa
