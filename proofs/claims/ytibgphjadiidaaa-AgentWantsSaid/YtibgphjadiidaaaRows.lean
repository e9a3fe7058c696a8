/-
  No cell of these rows narrows 'for every input' (looked for: loops, veiled, ifaces, maps, wideKeys, modest, calm, conditions, laid).
  DERIVED. THE GIVEN ROWS OF THIS SEAT. 3 by the template 'for every input the law returns true; each argument reads behind the call as it read before'; 0 by the template 'total and deterministic' (their statements: YtibgphjadiidaaaTotals.lean).
  GIVEN WITH THE SEED: the statements are not yours to turn. If you find one false, say at which input.
  Laid BY PROGRAM, IN A SANDBOX (cutbox-rows.mjs): the forced cells as the released guide's own fill.sh prints them over the translation a1da1d424ab7b53c… (all of the seat's roots in one cut). By AI agents, Wed Nov 11 2026. No macro, syntax, notation, axiom, sorry.
-/
import Derived.Test.YtibgphjadiidaaaChecked
import GoSem.Claim
import GoSem.ClaimJoined
import GoSem.ClaimMapViews
import Derived.JoinedTies
import Derived.KernelRfl
namespace Go.Proofs.Ytibgphjadiidaaa
/- THE CELL 'sum', in the pinned program and in every row, IS THE sha256 OF THE DUMP (.gsa) THAT YtibgphjadiidaaaProg.lean LOADS. Nothing in Lean hashes anything: it is a label: what it is worth is what the hold of that sum in a sandbox is worth. -/
noncomputable def Try.pinned : Pinned := { name := "ytibgphjadiidaaa", sum := "a1da1d424ab7b53cbce6376add1b00062f3a22ec7e4e1e0bbd948bfb48789408", checked := Try.checked }
namespace Rows
def none {H : Type} : Left H := { results := [], args := [] }

/-- 'frankpledgelaw22.AgentBeats': WHATEVER THE INPUT: true; the input reads as it did. -/
def agentBeatsSpec : ChangeSpec := { name := "agentBeats", fn := fun _ => fun
  | [d1, d2] => { results := [.lit (.bool true)], args := [d1, d2] }
  | _ => none }
def agentBeatsRow : OpenClaim := { program := "ytibgphjadiidaaa", sum := "a1da1d424ab7b53cbce6376add1b00062f3a22ec7e4e1e0bbd948bfb48789408", func := "frankpledge/frankpledgelaw22.AgentBeats", spec := "agentBeats", inPlace := ["internal/bytealg.abigen_runtime_cmpstring", "slices.overlaps[frankpledge/api.Card]"], unfollowed := true, recurses := true, apart := false }
def AgentBeatsSaid : Prop := agentBeatsRow.holds Try.pinned (OpenSpec.ofChange agentBeatsSpec)

/-- ITS FALSE NEIGHBOUR: 'it returns false'. Refute it at one input. -/
def agentBeatsWrong : ChangeSpec := { name := "agentBeats", fn := fun _ => fun
  | [d1, d2] => { results := [.lit (.bool false)], args := [d1, d2] }
  | _ => none }
def AgentBeatsWrongFalsely : Prop := agentBeatsRow.holds Try.pinned (OpenSpec.ofChange agentBeatsWrong)

/-- 'frankpledgelaw22.AgentOne': WHATEVER THE INPUT: true; the input reads as it did. -/
def agentOneSpec : ChangeSpec := { name := "agentOne", fn := fun _ => fun
  | [d] => { results := [.lit (.bool true)], args := [d] }
  | _ => none }
def agentOneRow : OpenClaim := { program := "ytibgphjadiidaaa", sum := "a1da1d424ab7b53cbce6376add1b00062f3a22ec7e4e1e0bbd948bfb48789408", func := "frankpledge/frankpledgelaw22.AgentOne", spec := "agentOne", inPlace := ["internal/bytealg.abigen_runtime_cmpstring", "slices.overlaps[frankpledge/api.Card]"], unfollowed := true, recurses := true, apart := false }
def AgentOneSaid : Prop := agentOneRow.holds Try.pinned (OpenSpec.ofChange agentOneSpec)

/-- ITS FALSE NEIGHBOUR: 'it returns false'. Refute it at one input. -/
def agentOneWrong : ChangeSpec := { name := "agentOne", fn := fun _ => fun
  | [d] => { results := [.lit (.bool false)], args := [d] }
  | _ => none }
def AgentOneWrongFalsely : Prop := agentOneRow.holds Try.pinned (OpenSpec.ofChange agentOneWrong)

/-- 'frankpledgelaw22.AgentWants': WHATEVER THE INPUT: true; the input reads as it did. -/
def agentWantsSpec : ChangeSpec := { name := "agentWants", fn := fun _ => fun
  | [d] => { results := [.lit (.bool true)], args := [d] }
  | _ => none }
def agentWantsRow : OpenClaim := { program := "ytibgphjadiidaaa", sum := "a1da1d424ab7b53cbce6376add1b00062f3a22ec7e4e1e0bbd948bfb48789408", func := "frankpledge/frankpledgelaw22.AgentWants", spec := "agentWants", inPlace := ["internal/bytealg.abigen_runtime_cmpstring", "slices.overlaps[frankpledge/api.Card]"], unfollowed := true, recurses := true, apart := false }
def AgentWantsSaid : Prop := agentWantsRow.holds Try.pinned (OpenSpec.ofChange agentWantsSpec)

/-- ITS FALSE NEIGHBOUR: 'it returns false'. Refute it at one input. -/
def agentWantsWrong : ChangeSpec := { name := "agentWants", fn := fun _ => fun
  | [d] => { results := [.lit (.bool false)], args := [d] }
  | _ => none }
def AgentWantsWrongFalsely : Prop := agentWantsRow.holds Try.pinned (OpenSpec.ofChange agentWantsWrong)

/- THE SECOND FORM. 'bulk': how many values and letters a reading holds, each counted each time it is reached (what is shared counts as often as it is met; a slice's spare places count too). A statement '..UptoSaid' is the law's where the arguments, and the package variables that the reading takes, are together of bulk at most 1048576: NARROWER than '..Said'. Prove '..Said' where nothing that the law and all that it calls make is longer than what came in: it says more and counts as full. Else prove '..UptoSaid'. A law counts once. -/
mutual
def uptoBulk {H : Type} : DataW H → Nat
  | .lit (.string bytes) => bytes.length + 1
  | .lit _ => 1
  | .nil => 1
  | .ptr d => uptoBulk d + 1
  | .slice elems spare => uptoBulkAll elems + uptoBulkAll spare + 1
  | .agg parts => uptoBulkAll parts + 1
  | .iface _ d => uptoBulk d + 1
  | .map entries => uptoBulkEntries entries + 1
  | .held _ => 1
def uptoBulkAll {H : Type} : List (DataW H) → Nat
  | [] => 0
  | d :: r => uptoBulk d + uptoBulkAll r
def uptoBulkEntries {H : Type} : List (Lit × DataW H) → Nat
  | [] => 0
  | x :: r => uptoBulkEntry x + uptoBulkEntries r
def uptoBulkEntry {H : Type} : Lit × DataW H → Nat
  | (.string bytes, d) => bytes.length + uptoBulk d + 1
  | (_, d) => uptoBulk d + 1
 end
def uptoSmall : (H : Type) → List (DataW H) → Bool := fun _ ds => decide (uptoBulkAll ds ≤ 1048576)
def OpenSpec.upto (s : _root_.Go.ChangeSpec) : _root_.Go.OpenSpec := { _root_.Go.OpenSpec.ofChange s with cond := some uptoSmall }

/-- 'frankpledgelaw22.AgentBeats', WHERE WHAT IT READS IS OF BULK AT MOST 1048576: true; the input reads as it did. -/
def agentBeatsUptoRow : OpenClaim := { program := "ytibgphjadiidaaa", sum := "a1da1d424ab7b53cbce6376add1b00062f3a22ec7e4e1e0bbd948bfb48789408", func := "frankpledge/frankpledgelaw22.AgentBeats", spec := "agentBeats", inPlace := ["internal/bytealg.abigen_runtime_cmpstring", "slices.overlaps[frankpledge/api.Card]"], unfollowed := true, recurses := true, apart := false, narrowed := true }
def AgentBeatsUptoSaid : Prop := agentBeatsUptoRow.holds Try.pinned (OpenSpec.upto agentBeatsSpec)

/-- 'frankpledgelaw22.AgentOne', WHERE WHAT IT READS IS OF BULK AT MOST 1048576: true; the input reads as it did. -/
def agentOneUptoRow : OpenClaim := { program := "ytibgphjadiidaaa", sum := "a1da1d424ab7b53cbce6376add1b00062f3a22ec7e4e1e0bbd948bfb48789408", func := "frankpledge/frankpledgelaw22.AgentOne", spec := "agentOne", inPlace := ["internal/bytealg.abigen_runtime_cmpstring", "slices.overlaps[frankpledge/api.Card]"], unfollowed := true, recurses := true, apart := false, narrowed := true }
def AgentOneUptoSaid : Prop := agentOneUptoRow.holds Try.pinned (OpenSpec.upto agentOneSpec)

/-- 'frankpledgelaw22.AgentWants', WHERE WHAT IT READS IS OF BULK AT MOST 1048576: true; the input reads as it did. -/
def agentWantsUptoRow : OpenClaim := { program := "ytibgphjadiidaaa", sum := "a1da1d424ab7b53cbce6376add1b00062f3a22ec7e4e1e0bbd948bfb48789408", func := "frankpledge/frankpledgelaw22.AgentWants", spec := "agentWants", inPlace := ["internal/bytealg.abigen_runtime_cmpstring", "slices.overlaps[frankpledge/api.Card]"], unfollowed := true, recurses := true, apart := false, narrowed := true }
def AgentWantsUptoSaid : Prop := agentWantsUptoRow.holds Try.pinned (OpenSpec.upto agentWantsSpec)

end Rows
end Go.Proofs.Ytibgphjadiidaaa
