/- The document's own shelf: Drop. -/
import Derived.Test.YtgnmlkomgokimaaShfX
import Derived.Test.YtgnmlkomgokimaaShfXB
namespace Go.Proofs.Ytgnmlkomgokimaa
open Go.RowKit
set_option linter.unusedVariables false
set_option linter.unusedSimpArgs false

set_option maxRecDepth 100000 in
set_option maxHeartbeats 1000000 in
theorem rshDropYes (sb : Nat) (most : Int) (es : List En) (k : Ky) (w : World) (h : RShP w sb most es) (hs : Asc es) (hn : es.length ≤ 900) (hin : isIn k es = true) :
    Calls Try.prog 28 #[.pointer (some ⟨sb, 0, none⟩), .agg #[.string k.1, .string k.2]] w fun r w' => r = .returned (.bool true) ∧ RShP w' sb most (delAt es (low k es)) ∧ Rim sb w w' := by
  obtain ⟨a, c, h1, h2, h3, h4, h5⟩ := h
  rcases h5 with ⟨rfl, rfl⟩ | ⟨b, o, rfl⟩
  · obtain rfl : es = [] := List.eq_nil_of_length_eq_zero (by omega)
    cases hin
  · by_cases hc : c = low k es + 1
    · exact rshDropB sb most b o c es k w ⟨h1, h2, h3, h4⟩ hs hn hin hc
    · exact rshDropA sb most b o c es k w ⟨h1, h2, h3, h4⟩ hs hn hin hc
end Go.Proofs.Ytgnmlkomgokimaa
