/-
  No cell of these rows narrows 'for every input' (looked for: loops, veiled, ifaces, maps, wideKeys, modest, calm, conditions, laid).
  DERIVED. THE GIVEN ROWS OF THIS SEAT. 5 by the template 'for every input the law returns true; each argument reads behind the call as it read before'; 0 by the template 'total and deterministic' (their statements: YtohiimfojlcomaaTotals.lean).
  GIVEN WITH THE SEED: the statements are not yours to turn. If you find one false, say at which input.
  Laid BY PROGRAM, IN A SANDBOX (cutbox-rows.mjs): the forced cells as the released guide's own fill.sh prints them over the translation 88a7e4936c1a7ac7… (all of the seat's roots in one cut). By AI agents, Wed Nov 11 2026. No macro, syntax, notation, axiom, sorry.
-/
import Derived.Test.YtohiimfojlcomaaChecked
import GoSem.Claim
import GoSem.ClaimJoined
import GoSem.ClaimMapViews
import Derived.JoinedTies
import Derived.KernelRfl
namespace Go.Proofs.Ytohiimfojlcomaa
/- THE CELL 'sum', in the pinned program and in every row, IS THE sha256 OF THE DUMP (.gsa) THAT YtohiimfojlcomaaProg.lean LOADS. Nothing in Lean hashes anything: it is a label: what it is worth is what the hold of that sum in a sandbox is worth. -/
noncomputable def Try.pinned : Pinned := { name := "ytohiimfojlcomaa", sum := "88a7e4936c1a7ac7202538d7028bdd25dbddf422a8a9e61f97351060f0bdda64", checked := Try.checked }
namespace Rows
def none {H : Type} : Left H := { results := [], args := [] }

/-- 'frankpledgelaw12.SweepNumbers': WHATEVER THE INPUT: true; the input reads as it did. -/
def sweepNumbersSpec : ChangeSpec := { name := "sweepNumbers", fn := fun _ => fun
  | [] => { results := [.lit (.bool true)], args := [] }
  | _ => none }
def sweepNumbersRow : OpenClaim := { program := "ytohiimfojlcomaa", sum := "88a7e4936c1a7ac7202538d7028bdd25dbddf422a8a9e61f97351060f0bdda64", func := "frankpledge/frankpledgelaw12.SweepNumbers", spec := "sweepNumbers", inPlace := ["internal/bytealg.abigen_runtime_cmpstring"], unfollowed := true, recurses := true, apart := false }
def SweepNumbersSaid : Prop := sweepNumbersRow.holds Try.pinned (OpenSpec.ofChange sweepNumbersSpec)

/-- ITS FALSE NEIGHBOUR: 'it returns false'. Refute it at one input. -/
def sweepNumbersWrong : ChangeSpec := { name := "sweepNumbers", fn := fun _ => fun
  | [] => { results := [.lit (.bool false)], args := [] }
  | _ => none }
def SweepNumbersWrongFalsely : Prop := sweepNumbersRow.holds Try.pinned (OpenSpec.ofChange sweepNumbersWrong)

/-- 'frankpledgelaw12.SweepTells': WHATEVER THE INPUT: true; the input reads as it did. -/
def sweepTellsSpec : ChangeSpec := { name := "sweepTells", fn := fun _ => fun
  | [d1, d2, d3, d4, d5] => { results := [.lit (.bool true)], args := [d1, d2, d3, d4, d5] }
  | _ => none }
def sweepTellsRow : OpenClaim := { program := "ytohiimfojlcomaa", sum := "88a7e4936c1a7ac7202538d7028bdd25dbddf422a8a9e61f97351060f0bdda64", func := "frankpledge/frankpledgelaw12.SweepTells", spec := "sweepTells", inPlace := ["internal/bytealg.abigen_runtime_cmpstring"], unfollowed := true, recurses := true, apart := false }
def SweepTellsSaid : Prop := sweepTellsRow.holds Try.pinned (OpenSpec.ofChange sweepTellsSpec)

/-- ITS FALSE NEIGHBOUR: 'it returns false'. Refute it at one input. -/
def sweepTellsWrong : ChangeSpec := { name := "sweepTells", fn := fun _ => fun
  | [d1, d2, d3, d4, d5] => { results := [.lit (.bool false)], args := [d1, d2, d3, d4, d5] }
  | _ => none }
def SweepTellsWrongFalsely : Prop := sweepTellsRow.holds Try.pinned (OpenSpec.ofChange sweepTellsWrong)

/-- 'frankpledgelaw12.SweepParts': WHATEVER THE INPUT: true; the input reads as it did. -/
def sweepPartsSpec : ChangeSpec := { name := "sweepParts", fn := fun _ => fun
  | [d1, d2, d3] => { results := [.lit (.bool true)], args := [d1, d2, d3] }
  | _ => none }
def sweepPartsRow : OpenClaim := { program := "ytohiimfojlcomaa", sum := "88a7e4936c1a7ac7202538d7028bdd25dbddf422a8a9e61f97351060f0bdda64", func := "frankpledge/frankpledgelaw12.SweepParts", spec := "sweepParts", inPlace := ["internal/bytealg.abigen_runtime_cmpstring"], unfollowed := true, recurses := true, apart := false }
def SweepPartsSaid : Prop := sweepPartsRow.holds Try.pinned (OpenSpec.ofChange sweepPartsSpec)

/-- ITS FALSE NEIGHBOUR: 'it returns false'. Refute it at one input. -/
def sweepPartsWrong : ChangeSpec := { name := "sweepParts", fn := fun _ => fun
  | [d1, d2, d3] => { results := [.lit (.bool false)], args := [d1, d2, d3] }
  | _ => none }
def SweepPartsWrongFalsely : Prop := sweepPartsRow.holds Try.pinned (OpenSpec.ofChange sweepPartsWrong)

/-- 'frankpledgelaw12.SweepLeasts': WHATEVER THE INPUT: true; the input reads as it did. -/
def sweepLeastsSpec : ChangeSpec := { name := "sweepLeasts", fn := fun _ => fun
  | [d1, d2, d3, d4] => { results := [.lit (.bool true)], args := [d1, d2, d3, d4] }
  | _ => none }
def sweepLeastsRow : OpenClaim := { program := "ytohiimfojlcomaa", sum := "88a7e4936c1a7ac7202538d7028bdd25dbddf422a8a9e61f97351060f0bdda64", func := "frankpledge/frankpledgelaw12.SweepLeasts", spec := "sweepLeasts", inPlace := ["internal/bytealg.abigen_runtime_cmpstring"], unfollowed := true, recurses := true, apart := false }
def SweepLeastsSaid : Prop := sweepLeastsRow.holds Try.pinned (OpenSpec.ofChange sweepLeastsSpec)

/-- ITS FALSE NEIGHBOUR: 'it returns false'. Refute it at one input. -/
def sweepLeastsWrong : ChangeSpec := { name := "sweepLeasts", fn := fun _ => fun
  | [d1, d2, d3, d4] => { results := [.lit (.bool false)], args := [d1, d2, d3, d4] }
  | _ => none }
def SweepLeastsWrongFalsely : Prop := sweepLeastsRow.holds Try.pinned (OpenSpec.ofChange sweepLeastsWrong)

/-- 'frankpledgelaw12.SweepDeads': WHATEVER THE INPUT: true; the input reads as it did. -/
def sweepDeadsSpec : ChangeSpec := { name := "sweepDeads", fn := fun _ => fun
  | [d1, d2] => { results := [.lit (.bool true)], args := [d1, d2] }
  | _ => none }
def sweepDeadsRow : OpenClaim := { program := "ytohiimfojlcomaa", sum := "88a7e4936c1a7ac7202538d7028bdd25dbddf422a8a9e61f97351060f0bdda64", func := "frankpledge/frankpledgelaw12.SweepDeads", spec := "sweepDeads", inPlace := ["internal/bytealg.abigen_runtime_cmpstring"], unfollowed := true, recurses := true, apart := false }
def SweepDeadsSaid : Prop := sweepDeadsRow.holds Try.pinned (OpenSpec.ofChange sweepDeadsSpec)

/-- ITS FALSE NEIGHBOUR: 'it returns false'. Refute it at one input. -/
def sweepDeadsWrong : ChangeSpec := { name := "sweepDeads", fn := fun _ => fun
  | [d1, d2] => { results := [.lit (.bool false)], args := [d1, d2] }
  | _ => none }
def SweepDeadsWrongFalsely : Prop := sweepDeadsRow.holds Try.pinned (OpenSpec.ofChange sweepDeadsWrong)

/- THE SECOND FORM. 'bulk': how many values and letters a reading holds, each counted each time it is reached (what is shared counts as often as it is met; a slice's spare places count too). A statement '..UptoSaid' is the law's where the arguments, and the package variables that the reading takes, are together of bulk at most 1048576: NARROWER than '..Said'. Prove '..Said' where nothing that the law and all that it calls make is longer than what came in: it says more and counts as full. Else prove '..UptoSaid'. A law counts once. -/
mutual
def uptoBulk {H : Type} : DataW H → Nat
  | .lit (.string bytes) => bytes.length + 1
  | .lit _ => 1
  | .nil => 1
  | .ptr d => uptoBulk d + 1
  | .slice elems spare => uptoBulkAll elems + uptoBulkAll spare + 1
  | .agg parts => uptoBulkAll parts + 1
  | .iface _ d => uptoBulk d + 1
  | .map entries => uptoBulkEntries entries + 1
  | .held _ => 1
def uptoBulkAll {H : Type} : List (DataW H) → Nat
  | [] => 0
  | d :: r => uptoBulk d + uptoBulkAll r
def uptoBulkEntries {H : Type} : List (Lit × DataW H) → Nat
  | [] => 0
  | x :: r => uptoBulkEntry x + uptoBulkEntries r
def uptoBulkEntry {H : Type} : Lit × DataW H → Nat
  | (.string bytes, d) => bytes.length + uptoBulk d + 1
  | (_, d) => uptoBulk d + 1
 end
def uptoSmall : (H : Type) → List (DataW H) → Bool := fun _ ds => decide (uptoBulkAll ds ≤ 1048576)
def OpenSpec.upto (s : _root_.Go.ChangeSpec) : _root_.Go.OpenSpec := { _root_.Go.OpenSpec.ofChange s with cond := some uptoSmall }

/-- 'frankpledgelaw12.SweepNumbers', WHERE WHAT IT READS IS OF BULK AT MOST 1048576: true; the input reads as it did. -/
def sweepNumbersUptoRow : OpenClaim := { program := "ytohiimfojlcomaa", sum := "88a7e4936c1a7ac7202538d7028bdd25dbddf422a8a9e61f97351060f0bdda64", func := "frankpledge/frankpledgelaw12.SweepNumbers", spec := "sweepNumbers", inPlace := ["internal/bytealg.abigen_runtime_cmpstring"], unfollowed := true, recurses := true, apart := false, narrowed := true }
def SweepNumbersUptoSaid : Prop := sweepNumbersUptoRow.holds Try.pinned (OpenSpec.upto sweepNumbersSpec)

/-- 'frankpledgelaw12.SweepTells', WHERE WHAT IT READS IS OF BULK AT MOST 1048576: true; the input reads as it did. -/
def sweepTellsUptoRow : OpenClaim := { program := "ytohiimfojlcomaa", sum := "88a7e4936c1a7ac7202538d7028bdd25dbddf422a8a9e61f97351060f0bdda64", func := "frankpledge/frankpledgelaw12.SweepTells", spec := "sweepTells", inPlace := ["internal/bytealg.abigen_runtime_cmpstring"], unfollowed := true, recurses := true, apart := false, narrowed := true }
def SweepTellsUptoSaid : Prop := sweepTellsUptoRow.holds Try.pinned (OpenSpec.upto sweepTellsSpec)

/-- 'frankpledgelaw12.SweepParts', WHERE WHAT IT READS IS OF BULK AT MOST 1048576: true; the input reads as it did. -/
def sweepPartsUptoRow : OpenClaim := { program := "ytohiimfojlcomaa", sum := "88a7e4936c1a7ac7202538d7028bdd25dbddf422a8a9e61f97351060f0bdda64", func := "frankpledge/frankpledgelaw12.SweepParts", spec := "sweepParts", inPlace := ["internal/bytealg.abigen_runtime_cmpstring"], unfollowed := true, recurses := true, apart := false, narrowed := true }
def SweepPartsUptoSaid : Prop := sweepPartsUptoRow.holds Try.pinned (OpenSpec.upto sweepPartsSpec)

/-- 'frankpledgelaw12.SweepLeasts', WHERE WHAT IT READS IS OF BULK AT MOST 1048576: true; the input reads as it did. -/
def sweepLeastsUptoRow : OpenClaim := { program := "ytohiimfojlcomaa", sum := "88a7e4936c1a7ac7202538d7028bdd25dbddf422a8a9e61f97351060f0bdda64", func := "frankpledge/frankpledgelaw12.SweepLeasts", spec := "sweepLeasts", inPlace := ["internal/bytealg.abigen_runtime_cmpstring"], unfollowed := true, recurses := true, apart := false, narrowed := true }
def SweepLeastsUptoSaid : Prop := sweepLeastsUptoRow.holds Try.pinned (OpenSpec.upto sweepLeastsSpec)

/-- 'frankpledgelaw12.SweepDeads', WHERE WHAT IT READS IS OF BULK AT MOST 1048576: true; the input reads as it did. -/
def sweepDeadsUptoRow : OpenClaim := { program := "ytohiimfojlcomaa", sum := "88a7e4936c1a7ac7202538d7028bdd25dbddf422a8a9e61f97351060f0bdda64", func := "frankpledge/frankpledgelaw12.SweepDeads", spec := "sweepDeads", inPlace := ["internal/bytealg.abigen_runtime_cmpstring"], unfollowed := true, recurses := true, apart := false, narrowed := true }
def SweepDeadsUptoSaid : Prop := sweepDeadsUptoRow.holds Try.pinned (OpenSpec.upto sweepDeadsSpec)

end Rows
end Go.Proofs.Ytohiimfojlcomaa
