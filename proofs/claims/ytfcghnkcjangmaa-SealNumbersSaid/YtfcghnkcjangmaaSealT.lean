/- Layer 14's same. -/
import Derived.Test.YtfcghnkcjangmaaSealTA
import Derived.Test.YtfcghnkcjangmaaSealTB
import Derived.Test.YtfcghnkcjangmaaSealTC
namespace Go.Proofs.Ytfcghnkcjangmaa
open Go.RowKit
set_option linter.unusedVariables false
set_option linter.unusedSimpArgs false

theorem law14same (a1 a2 : Option Addr) (n1 n2 c1 c2 : Nat) (l1 l2 : List Cd) (w : World) (h1 : CAt w a1 l1) (h2 : CAt w a2 l2) (hl1 : l1.length = n1) (hl2 : l2.length = n2) (hn1 : n1 ≤ 19) (hn2 : n2 ≤ 19) (hc1 : n1 ≤ c1) (hc2 : n2 ≤ c2) (hs1 : ∀ x ∈ l1, CdS x) (hs2 : ∀ x ∈ l2, CdS x) :
    Calls Try.prog 7 #[.slice a1 n1 c1, .slice a2 n2 c2] w fun e w' => e = .returned (.bool true) ∧ Below w.heap.size w w' := by
  by_cases he : sm (sealB l1) = sm (sealB l2)
  · by_cases hx : sealB l1 = sealB l2
    · exact law14same_A a1 a2 n1 n2 c1 c2 l1 l2 w h1 h2 hl1 hl2 hn1 hn2 hc1 hc2 hs1 hs2 _ hx rfl
    · exact law14same_B a1 a2 n1 n2 c1 c2 l1 l2 w h1 h2 hl1 hl2 hn1 hn2 hc1 hc2 hs1 hs2 _ _ rfl rfl he hx
  · exact law14same_C a1 a2 n1 n2 c1 c2 l1 l2 w h1 h2 hl1 hl2 hn1 hn2 hc1 hc2 hs1 hs2 _ _ rfl rfl he

end Go.Proofs.Ytfcghnkcjangmaa
