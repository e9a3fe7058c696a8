/- Several texts as one: RecentS, RecentN0. -/
import Derived.Test.YtkhmaaalmlnblaaRecentW
import Derived.Test.YtkhmaaalmlnblaaChain
/- The walks of package recent: what changed since. -/
namespace Go.Proofs.Ytkhmaaalmlnblaa
open Go.RowKit
set_option linter.unusedVariables false

/-- of keys the first p, but for those that come again later -/
noncomputable def kp (bs : List KyR) : Nat → List KyR
  | 0 => []
  | p + 1 => match bs[p]? with
    | some k => if hasB (bs.drop (p + 1)) k = true then kp bs p else kp bs p ++ [k]
    | none => kp bs p
theorem kp_len (bs : List KyR) (p : Nat) : (kp bs p).length ≤ p := by
  induction p with
  | zero => simp [kp]
  | succ p ih =>
    unfold kp
    split
    · split
      · omega
      · simp [ih]
    · omega
def Told (bs : List KyR) (w : World) (e : Ending) (w' : World) : Prop := ∃ v, e = .returned (.tuple #[v, .bool true]) ∧ w'.ownsRow w.heap.size 31 2 v (kp bs bs.length).length (kf (kp bs bs.length)) ∧ Below w.heap.size w w'

theorem kp_yes {bs : List KyR} {p : Nat} {k : KyR} (hk : bs[p]? = some k) (h : hasB (bs.drop (p + 1)) k = true) : kp bs (p + 1) = kp bs p := by simp [kp, hk, h]
theorem kp_no {bs : List KyR} {p : Nat} {k : KyR} (hk : bs[p]? = some k) (h : hasB (bs.drop (p + 1)) k = false) : kp bs (p + 1) = kp bs p ++ [k] := by simp [kp, hk, h]

end Go.Proofs.Ytkhmaaalmlnblaa

/- Layer 13's laws, walked: what is known of some runs. -/
namespace Go.Proofs.Ytkhmaaalmlnblaa
open Go.RowKit
set_option linter.unusedVariables false

theorem kp_one (k : KyR) : kp [k] 1 = [k] := by
  have h : hasB ([] : List KyR) k = false := hasB_no (by simp)
  simp [kp, h]
theorem kp_aba {a b : KyR} (h : a ≠ b) : kp [a, b, a] 3 = [b, a] := by
  have h1 : hasB ([a, b, a].drop 1) a = true := hasB_yes (by simp)
  have h2 : hasB ([a, b, a].drop 2) b = false := hasB_no (by simpa using Ne.symm h)
  have h3 : hasB ([a, b, a].drop 3) a = false := hasB_no (by simp)
  simp only [kp]
  simp only [List.getElem?_cons_zero, List.getElem?_cons_succ]
  rw [h1, h2, h3]
  simp
theorem ab_ne : (((⟨#[97]⟩, ⟨#[]⟩) : KyR)) ≠ (⟨#[98]⟩, ⟨#[]⟩) := by
  intro h
  have := congrArg (fun k : KyR => k.1.data.toList) h
  simp at this
/-- what Since told, read -/
theorem Told.read {bs : List KyR} {w w' : World} {e : Ending} (h : Told bs w e w') {ks : List KyR} (hk : kp bs bs.length = ks) : ∃ a cap, e = .returned (.tuple #[.slice a ks.length cap, .bool true]) ∧ KAt w' a ks ∧ Below w.heap.size w w' := by
  obtain ⟨v, rfl, ho, hb⟩ := h
  rw [hk] at ho
  obtain ⟨a, cap, rfl, -, -, -, hka, -⟩ := own_readR ho
  exact ⟨a, cap, rfl, hka, hb⟩

end Go.Proofs.Ytkhmaaalmlnblaa
