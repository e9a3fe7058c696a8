/- Several texts as one: RecentS, RecentN0. -/
import Derived.Test.YtloeabdohgdmkaaRecentWZ
import Derived.Test.YtloeabdohgdmkaaChainZ
/- The walks of package recent: what changed since. -/
namespace Go.Proofs.Ytloeabdohgdmkaa
open Go.RowKit
set_option linter.unusedVariables false

/-- of keys the first p, but for those that come again later -/
noncomputable def kp (bs : List KyR) : Nat → List KyR
  | 0 => []
  | p + 1 => match bs[p]? with
    | some k => if hasB (bs.drop (p + 1)) k = true then kp bs p else kp bs p ++ [k]
    | none => kp bs p
def Told (bs : List KyR) (w : World) (e : Ending) (w' : World) : Prop := ∃ v, e = .returned (.tuple #[v, .bool true]) ∧ w'.ownsRow w.heap.size 30 2 v (kp bs bs.length).length (kf (kp bs bs.length)) ∧ Below w.heap.size w w'

end Go.Proofs.Ytloeabdohgdmkaa

/- Layer 13's laws, walked: what is known of some runs. -/
namespace Go.Proofs.Ytloeabdohgdmkaa
open Go.RowKit
set_option linter.unusedVariables false

/-- what Since told, read -/
theorem Told.read {bs : List KyR} {w w' : World} {e : Ending} (h : Told bs w e w') {ks : List KyR} (hk : kp bs bs.length = ks) : ∃ a cap, e = .returned (.tuple #[.slice a ks.length cap, .bool true]) ∧ KAt w' a ks ∧ Below w.heap.size w w' := by
  obtain ⟨v, rfl, ho, hb⟩ := h
  rw [hk] at ho
  obtain ⟨a, cap, rfl, -, -, -, hka, -⟩ := own_readR ho
  exact ⟨a, cap, rfl, hka, hb⟩

end Go.Proofs.Ytloeabdohgdmkaa
