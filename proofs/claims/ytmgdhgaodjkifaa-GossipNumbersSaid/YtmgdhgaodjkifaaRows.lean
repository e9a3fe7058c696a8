/-
  No cell of these rows narrows 'for every input' (looked for: loops, veiled, ifaces, maps, wideKeys, modest, calm, conditions, laid).
  DERIVED. THE GIVEN ROWS OF THIS SEAT. 4 by the template 'for every input the law returns true; each argument reads behind the call as it read before'; 0 by the template 'total and deterministic' (their statements: YtmgdhgaodjkifaaTotals.lean).
  GIVEN WITH THE SEED: the statements are not yours to turn. If you find one false, say at which input.
  Laid BY PROGRAM, IN A SANDBOX (cutbox-rows.mjs): the forced cells as the released guide's own fill.sh prints them over the translation 19d578abf9c89211… (all of the seat's roots in one cut). By AI agents, Wed Nov 11 2026. No macro, syntax, notation, axiom, sorry.
-/
import Derived.Test.YtmgdhgaodjkifaaChecked
import GoSem.Claim
import GoSem.ClaimJoined
import GoSem.ClaimMapViews
import Derived.JoinedTies
import Derived.KernelRfl
namespace Go.Proofs.Ytmgdhgaodjkifaa
/- THE CELL 'sum', in the pinned program and in every row, IS THE sha256 OF THE DUMP (.gsa) THAT YtmgdhgaodjkifaaProg.lean LOADS. Nothing in Lean hashes anything: it is a label: what it is worth is what the hold of that sum in a sandbox is worth. -/
noncomputable def Try.pinned : Pinned := { name := "ytmgdhgaodjkifaa", sum := "19d578abf9c892118938c3ffd4fd1047e97a779bdec9381082d16c3e6549175e", checked := Try.checked }
namespace Rows
def none {H : Type} : Left H := { results := [], args := [] }

/-- 'frankpledgelaw18.GossipNumbers': WHATEVER THE INPUT: true; the input reads as it did. -/
def gossipNumbersSpec : ChangeSpec := { name := "gossipNumbers", fn := fun _ => fun
  | [] => { results := [.lit (.bool true)], args := [] }
  | _ => none }
def gossipNumbersRow : OpenClaim := { program := "ytmgdhgaodjkifaa", sum := "19d578abf9c892118938c3ffd4fd1047e97a779bdec9381082d16c3e6549175e", func := "frankpledge/frankpledgelaw18.GossipNumbers", spec := "gossipNumbers", inPlace := ["internal/bytealg.abigen_runtime_cmpstring"], unfollowed := true, recurses := true, plainKeys := false, apart := false }
def GossipNumbersSaid : Prop := gossipNumbersRow.holds Try.pinned (OpenSpec.ofChange gossipNumbersSpec)

/-- ITS FALSE NEIGHBOUR: 'it returns false'. Refute it at one input. -/
def gossipNumbersWrong : ChangeSpec := { name := "gossipNumbers", fn := fun _ => fun
  | [] => { results := [.lit (.bool false)], args := [] }
  | _ => none }
def GossipNumbersWrongFalsely : Prop := gossipNumbersRow.holds Try.pinned (OpenSpec.ofChange gossipNumbersWrong)

/-- 'frankpledgelaw18.GossipBoth': WHATEVER THE INPUT: true; the input reads as it did. -/
def gossipBothSpec : ChangeSpec := { name := "gossipBoth", fn := fun _ => fun
  | [d] => { results := [.lit (.bool true)], args := [d] }
  | _ => none }
def gossipBothRow : OpenClaim := { program := "ytmgdhgaodjkifaa", sum := "19d578abf9c892118938c3ffd4fd1047e97a779bdec9381082d16c3e6549175e", func := "frankpledge/frankpledgelaw18.GossipBoth", spec := "gossipBoth", inPlace := ["internal/bytealg.abigen_runtime_cmpstring"], unfollowed := true, recurses := true, plainKeys := false, apart := false }
def GossipBothSaid : Prop := gossipBothRow.holds Try.pinned (OpenSpec.ofChange gossipBothSpec)

/-- ITS FALSE NEIGHBOUR: 'it returns false'. Refute it at one input. -/
def gossipBothWrong : ChangeSpec := { name := "gossipBoth", fn := fun _ => fun
  | [d] => { results := [.lit (.bool false)], args := [d] }
  | _ => none }
def GossipBothWrongFalsely : Prop := gossipBothRow.holds Try.pinned (OpenSpec.ofChange gossipBothWrong)

/-- 'frankpledgelaw18.GossipSelf': WHATEVER THE INPUT: true; the input reads as it did. -/
def gossipSelfSpec : ChangeSpec := { name := "gossipSelf", fn := fun _ => fun
  | [d] => { results := [.lit (.bool true)], args := [d] }
  | _ => none }
def gossipSelfRow : OpenClaim := { program := "ytmgdhgaodjkifaa", sum := "19d578abf9c892118938c3ffd4fd1047e97a779bdec9381082d16c3e6549175e", func := "frankpledge/frankpledgelaw18.GossipSelf", spec := "gossipSelf", inPlace := ["internal/bytealg.abigen_runtime_cmpstring"], unfollowed := true, recurses := true, plainKeys := false, apart := false }
def GossipSelfSaid : Prop := gossipSelfRow.holds Try.pinned (OpenSpec.ofChange gossipSelfSpec)

/-- ITS FALSE NEIGHBOUR: 'it returns false'. Refute it at one input. -/
def gossipSelfWrong : ChangeSpec := { name := "gossipSelf", fn := fun _ => fun
  | [d] => { results := [.lit (.bool false)], args := [d] }
  | _ => none }
def GossipSelfWrongFalsely : Prop := gossipSelfRow.holds Try.pinned (OpenSpec.ofChange gossipSelfWrong)

/-- 'frankpledgelaw18.GossipLater': WHATEVER THE INPUT: true; the input reads as it did. -/
def gossipLaterSpec : ChangeSpec := { name := "gossipLater", fn := fun _ => fun
  | [d1, d2] => { results := [.lit (.bool true)], args := [d1, d2] }
  | _ => none }
def gossipLaterRow : OpenClaim := { program := "ytmgdhgaodjkifaa", sum := "19d578abf9c892118938c3ffd4fd1047e97a779bdec9381082d16c3e6549175e", func := "frankpledge/frankpledgelaw18.GossipLater", spec := "gossipLater", inPlace := ["internal/bytealg.abigen_runtime_cmpstring"], unfollowed := true, recurses := true, plainKeys := false, apart := false }
def GossipLaterSaid : Prop := gossipLaterRow.holds Try.pinned (OpenSpec.ofChange gossipLaterSpec)

/-- ITS FALSE NEIGHBOUR: 'it returns false'. Refute it at one input. -/
def gossipLaterWrong : ChangeSpec := { name := "gossipLater", fn := fun _ => fun
  | [d1, d2] => { results := [.lit (.bool false)], args := [d1, d2] }
  | _ => none }
def GossipLaterWrongFalsely : Prop := gossipLaterRow.holds Try.pinned (OpenSpec.ofChange gossipLaterWrong)

/- THE SECOND FORM. 'bulk': how many values and letters a reading holds, each counted each time it is reached (what is shared counts as often as it is met; a slice's spare places count too). A statement '..UptoSaid' is the law's where the arguments, and the package variables that the reading takes, are together of bulk at most 1048576: NARROWER than '..Said'. Prove '..Said' where nothing that the law and all that it calls make is longer than what came in: it says more and counts as full. Else prove '..UptoSaid'. A law counts once. -/
mutual
def uptoBulk {H : Type} : DataW H → Nat
  | .lit (.string bytes) => bytes.length + 1
  | .lit _ => 1
  | .nil => 1
  | .ptr d => uptoBulk d + 1
  | .slice elems spare => uptoBulkAll elems + uptoBulkAll spare + 1
  | .agg parts => uptoBulkAll parts + 1
  | .iface _ d => uptoBulk d + 1
  | .map entries => uptoBulkEntries entries + 1
  | .held _ => 1
def uptoBulkAll {H : Type} : List (DataW H) → Nat
  | [] => 0
  | d :: r => uptoBulk d + uptoBulkAll r
def uptoBulkEntries {H : Type} : List (Lit × DataW H) → Nat
  | [] => 0
  | x :: r => uptoBulkEntry x + uptoBulkEntries r
def uptoBulkEntry {H : Type} : Lit × DataW H → Nat
  | (.string bytes, d) => bytes.length + uptoBulk d + 1
  | (_, d) => uptoBulk d + 1
 end
def uptoSmall : (H : Type) → List (DataW H) → Bool := fun _ ds => decide (uptoBulkAll ds ≤ 1048576)
def OpenSpec.upto (s : _root_.Go.ChangeSpec) : _root_.Go.OpenSpec := { _root_.Go.OpenSpec.ofChange s with cond := some uptoSmall }

/-- 'frankpledgelaw18.GossipNumbers', WHERE WHAT IT READS IS OF BULK AT MOST 1048576: true; the input reads as it did. -/
def gossipNumbersUptoRow : OpenClaim := { program := "ytmgdhgaodjkifaa", sum := "19d578abf9c892118938c3ffd4fd1047e97a779bdec9381082d16c3e6549175e", func := "frankpledge/frankpledgelaw18.GossipNumbers", spec := "gossipNumbers", inPlace := ["internal/bytealg.abigen_runtime_cmpstring"], unfollowed := true, recurses := true, plainKeys := false, apart := false, narrowed := true }
def GossipNumbersUptoSaid : Prop := gossipNumbersUptoRow.holds Try.pinned (OpenSpec.upto gossipNumbersSpec)

/-- 'frankpledgelaw18.GossipBoth', WHERE WHAT IT READS IS OF BULK AT MOST 1048576: true; the input reads as it did. -/
def gossipBothUptoRow : OpenClaim := { program := "ytmgdhgaodjkifaa", sum := "19d578abf9c892118938c3ffd4fd1047e97a779bdec9381082d16c3e6549175e", func := "frankpledge/frankpledgelaw18.GossipBoth", spec := "gossipBoth", inPlace := ["internal/bytealg.abigen_runtime_cmpstring"], unfollowed := true, recurses := true, plainKeys := false, apart := false, narrowed := true }
def GossipBothUptoSaid : Prop := gossipBothUptoRow.holds Try.pinned (OpenSpec.upto gossipBothSpec)

/-- 'frankpledgelaw18.GossipSelf', WHERE WHAT IT READS IS OF BULK AT MOST 1048576: true; the input reads as it did. -/
def gossipSelfUptoRow : OpenClaim := { program := "ytmgdhgaodjkifaa", sum := "19d578abf9c892118938c3ffd4fd1047e97a779bdec9381082d16c3e6549175e", func := "frankpledge/frankpledgelaw18.GossipSelf", spec := "gossipSelf", inPlace := ["internal/bytealg.abigen_runtime_cmpstring"], unfollowed := true, recurses := true, plainKeys := false, apart := false, narrowed := true }
def GossipSelfUptoSaid : Prop := gossipSelfUptoRow.holds Try.pinned (OpenSpec.upto gossipSelfSpec)

/-- 'frankpledgelaw18.GossipLater', WHERE WHAT IT READS IS OF BULK AT MOST 1048576: true; the input reads as it did. -/
def gossipLaterUptoRow : OpenClaim := { program := "ytmgdhgaodjkifaa", sum := "19d578abf9c892118938c3ffd4fd1047e97a779bdec9381082d16c3e6549175e", func := "frankpledge/frankpledgelaw18.GossipLater", spec := "gossipLater", inPlace := ["internal/bytealg.abigen_runtime_cmpstring"], unfollowed := true, recurses := true, plainKeys := false, apart := false, narrowed := true }
def GossipLaterUptoSaid : Prop := gossipLaterUptoRow.holds Try.pinned (OpenSpec.upto gossipLaterSpec)

end Rows
end Go.Proofs.Ytmgdhgaodjkifaa
