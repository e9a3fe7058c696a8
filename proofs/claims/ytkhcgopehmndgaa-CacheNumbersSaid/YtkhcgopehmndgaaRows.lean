/-
  No cell of these rows narrows 'for every input' (looked for: loops, veiled, ifaces, maps, wideKeys, modest, calm, conditions, laid).
  DERIVED. THE GIVEN ROWS OF THIS SEAT. 3 by the template 'for every input the law returns true; each argument reads behind the call as it read before'; 0 by the template 'total and deterministic' (their statements: YtkhcgopehmndgaaTotals.lean).
  GIVEN WITH THE SEED: the statements are not yours to turn. If you find one false, say at which input.
  Laid BY PROGRAM, IN A SANDBOX (cutbox-rows.mjs): the forced cells as the released guide's own fill.sh prints them over the translation 76927fe2979b9fd3… (all of the seat's roots in one cut). By AI agents, Wed Nov 11 2026. No macro, syntax, notation, axiom, sorry.
-/
import Derived.Test.YtkhcgopehmndgaaChecked
import GoSem.Claim
import GoSem.ClaimJoined
import GoSem.ClaimMapViews
import Derived.JoinedTies
import Derived.KernelRfl
namespace Go.Proofs.Ytkhcgopehmndgaa
/- THE CELL 'sum', in the pinned program and in every row, IS THE sha256 OF THE DUMP (.gsa) THAT YtkhcgopehmndgaaProg.lean LOADS. Nothing in Lean hashes anything: it is a label: what it is worth is what the hold of that sum in a sandbox is worth. -/
noncomputable def Try.pinned : Pinned := { name := "ytkhcgopehmndgaa", sum := "76927fe2979b9fd3adbe473126aadb3ef65226cdfdf61661e77817019589f69d", checked := Try.checked }
namespace Rows
def none {H : Type} : Left H := { results := [], args := [] }

/-- 'frankpledgelaw21.CacheNumbers': WHATEVER THE INPUT: true; the input reads as it did. -/
def cacheNumbersSpec : ChangeSpec := { name := "cacheNumbers", fn := fun _ => fun
  | [] => { results := [.lit (.bool true)], args := [] }
  | _ => none }
def cacheNumbersRow : OpenClaim := { program := "ytkhcgopehmndgaa", sum := "76927fe2979b9fd3adbe473126aadb3ef65226cdfdf61661e77817019589f69d", func := "frankpledge/frankpledgelaw21.CacheNumbers", spec := "cacheNumbers", inPlace := ["internal/bytealg.abigen_runtime_cmpstring", "slices.overlaps[frankpledge/api.Card]"], unfollowed := true, recurses := true, apart := false }
def CacheNumbersSaid : Prop := cacheNumbersRow.holds Try.pinned (OpenSpec.ofChange cacheNumbersSpec)

/-- ITS FALSE NEIGHBOUR: 'it returns false'. Refute it at one input. -/
def cacheNumbersWrong : ChangeSpec := { name := "cacheNumbers", fn := fun _ => fun
  | [] => { results := [.lit (.bool false)], args := [] }
  | _ => none }
def CacheNumbersWrongFalsely : Prop := cacheNumbersRow.holds Try.pinned (OpenSpec.ofChange cacheNumbersWrong)

/-- 'frankpledgelaw21.CacheHolds': WHATEVER THE INPUT: true; the input reads as it did. -/
def cacheHoldsSpec : ChangeSpec := { name := "cacheHolds", fn := fun _ => fun
  | [d1, d2] => { results := [.lit (.bool true)], args := [d1, d2] }
  | _ => none }
def cacheHoldsRow : OpenClaim := { program := "ytkhcgopehmndgaa", sum := "76927fe2979b9fd3adbe473126aadb3ef65226cdfdf61661e77817019589f69d", func := "frankpledge/frankpledgelaw21.CacheHolds", spec := "cacheHolds", inPlace := ["internal/bytealg.abigen_runtime_cmpstring", "slices.overlaps[frankpledge/lease.Entry]", "slices.overlaps[frankpledge/api.Card]"], unfollowed := true, recurses := true, apart := false }
def CacheHoldsSaid : Prop := cacheHoldsRow.holds Try.pinned (OpenSpec.ofChange cacheHoldsSpec)

/-- ITS FALSE NEIGHBOUR: 'it returns false'. Refute it at one input. -/
def cacheHoldsWrong : ChangeSpec := { name := "cacheHolds", fn := fun _ => fun
  | [d1, d2] => { results := [.lit (.bool false)], args := [d1, d2] }
  | _ => none }
def CacheHoldsWrongFalsely : Prop := cacheHoldsRow.holds Try.pinned (OpenSpec.ofChange cacheHoldsWrong)

/-- 'frankpledgelaw21.CacheFulls': WHATEVER THE INPUT: true; the input reads as it did. -/
def cacheFullsSpec : ChangeSpec := { name := "cacheFulls", fn := fun _ => fun
  | [d1, d2] => { results := [.lit (.bool true)], args := [d1, d2] }
  | _ => none }
def cacheFullsRow : OpenClaim := { program := "ytkhcgopehmndgaa", sum := "76927fe2979b9fd3adbe473126aadb3ef65226cdfdf61661e77817019589f69d", func := "frankpledge/frankpledgelaw21.CacheFulls", spec := "cacheFulls", inPlace := ["internal/bytealg.abigen_runtime_cmpstring", "slices.overlaps[frankpledge/api.Card]"], unfollowed := true, recurses := true, apart := false }
def CacheFullsSaid : Prop := cacheFullsRow.holds Try.pinned (OpenSpec.ofChange cacheFullsSpec)

/-- ITS FALSE NEIGHBOUR: 'it returns false'. Refute it at one input. -/
def cacheFullsWrong : ChangeSpec := { name := "cacheFulls", fn := fun _ => fun
  | [d1, d2] => { results := [.lit (.bool false)], args := [d1, d2] }
  | _ => none }
def CacheFullsWrongFalsely : Prop := cacheFullsRow.holds Try.pinned (OpenSpec.ofChange cacheFullsWrong)

/- THE SECOND FORM. 'bulk': how many values and letters a reading holds, each counted each time it is reached (what is shared counts as often as it is met; a slice's spare places count too). A statement '..UptoSaid' is the law's where the arguments, and the package variables that the reading takes, are together of bulk at most 1048576: NARROWER than '..Said'. Prove '..Said' where nothing that the law and all that it calls make is longer than what came in: it says more and counts as full. Else prove '..UptoSaid'. A law counts once. -/
mutual
def uptoBulk {H : Type} : DataW H → Nat
  | .lit (.string bytes) => bytes.length + 1
  | .lit _ => 1
  | .nil => 1
  | .ptr d => uptoBulk d + 1
  | .slice elems spare => uptoBulkAll elems + uptoBulkAll spare + 1
  | .agg parts => uptoBulkAll parts + 1
  | .iface _ d => uptoBulk d + 1
  | .map entries => uptoBulkEntries entries + 1
  | .held _ => 1
def uptoBulkAll {H : Type} : List (DataW H) → Nat
  | [] => 0
  | d :: r => uptoBulk d + uptoBulkAll r
def uptoBulkEntries {H : Type} : List (Lit × DataW H) → Nat
  | [] => 0
  | x :: r => uptoBulkEntry x + uptoBulkEntries r
def uptoBulkEntry {H : Type} : Lit × DataW H → Nat
  | (.string bytes, d) => bytes.length + uptoBulk d + 1
  | (_, d) => uptoBulk d + 1
 end
def uptoSmall : (H : Type) → List (DataW H) → Bool := fun _ ds => decide (uptoBulkAll ds ≤ 1048576)
def OpenSpec.upto (s : _root_.Go.ChangeSpec) : _root_.Go.OpenSpec := { _root_.Go.OpenSpec.ofChange s with cond := some uptoSmall }

/-- 'frankpledgelaw21.CacheNumbers', WHERE WHAT IT READS IS OF BULK AT MOST 1048576: true; the input reads as it did. -/
def cacheNumbersUptoRow : OpenClaim := { program := "ytkhcgopehmndgaa", sum := "76927fe2979b9fd3adbe473126aadb3ef65226cdfdf61661e77817019589f69d", func := "frankpledge/frankpledgelaw21.CacheNumbers", spec := "cacheNumbers", inPlace := ["internal/bytealg.abigen_runtime_cmpstring", "slices.overlaps[frankpledge/api.Card]"], unfollowed := true, recurses := true, apart := false, narrowed := true }
def CacheNumbersUptoSaid : Prop := cacheNumbersUptoRow.holds Try.pinned (OpenSpec.upto cacheNumbersSpec)

/-- 'frankpledgelaw21.CacheHolds', WHERE WHAT IT READS IS OF BULK AT MOST 1048576: true; the input reads as it did. -/
def cacheHoldsUptoRow : OpenClaim := { program := "ytkhcgopehmndgaa", sum := "76927fe2979b9fd3adbe473126aadb3ef65226cdfdf61661e77817019589f69d", func := "frankpledge/frankpledgelaw21.CacheHolds", spec := "cacheHolds", inPlace := ["internal/bytealg.abigen_runtime_cmpstring", "slices.overlaps[frankpledge/lease.Entry]", "slices.overlaps[frankpledge/api.Card]"], unfollowed := true, recurses := true, apart := false, narrowed := true }
def CacheHoldsUptoSaid : Prop := cacheHoldsUptoRow.holds Try.pinned (OpenSpec.upto cacheHoldsSpec)

/-- 'frankpledgelaw21.CacheFulls', WHERE WHAT IT READS IS OF BULK AT MOST 1048576: true; the input reads as it did. -/
def cacheFullsUptoRow : OpenClaim := { program := "ytkhcgopehmndgaa", sum := "76927fe2979b9fd3adbe473126aadb3ef65226cdfdf61661e77817019589f69d", func := "frankpledge/frankpledgelaw21.CacheFulls", spec := "cacheFulls", inPlace := ["internal/bytealg.abigen_runtime_cmpstring", "slices.overlaps[frankpledge/api.Card]"], unfollowed := true, recurses := true, apart := false, narrowed := true }
def CacheFullsUptoSaid : Prop := cacheFullsUptoRow.holds Try.pinned (OpenSpec.upto cacheFullsSpec)

end Rows
end Go.Proofs.Ytkhcgopehmndgaa
