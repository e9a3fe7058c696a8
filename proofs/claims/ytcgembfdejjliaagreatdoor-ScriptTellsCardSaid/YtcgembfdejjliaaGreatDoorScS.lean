/- ScriptLines: what its walks share. -/
import Derived.Test.YtcgembfdejjliaaGreatDoorScK
namespace Go.Proofs.YtcgembfdejjliaaGreatDoor
open Go.RowKit
set_option linter.unusedVariables false
set_option linter.unusedSimpArgs false

theorem FErr.at {w : World} : ∀ {F : List (Nat × ByteArray)} {vs : List Value} {i : Nat} {v : Value}, FErr w F vs → vs[i]? = some v → ∃ f : Nat × ByteArray, FC w (.iface 39 (.int .i64 12)) [lnm f.1, f.2] v
  | [], [], i, v, _, hi => by simp at hi
  | f :: _, _ :: _, 0, v, h, hi => by
    simp only [List.getElem?_cons_zero, Option.some.injEq] at hi
    subst hi
    exact ⟨f, h.1⟩
  | _ :: _, _ :: _, i + 1, v, h, hi => FErr.at h.2 (by simpa using hi)
  | [], _ :: _, _, _, h, _ => h.elim
  | _ :: _, [], _, _, h, _ => h.elim
/-- the three parses of two texts -/
theorem lines_app (x y : ByteArray) (hx : x.size ≤ 60) (hy : y.size ≤ 60) : (pm 1 0 (nl (x ++ ⟨#[10]⟩ ++ y).data.toList)).1 = (pm 1 0 (nl x.data.toList)).1 ++ (pm 1 0 (nl y.data.toList)).1 ∧ (pm 1 0 (nl (x ++ ⟨#[10]⟩ ++ y).data.toList)).2.length = (pm 1 0 (nl x.data.toList)).2.length + (pm 1 0 (nl y.data.toList)).2.length := by
  have h1 : x.data.toList.length = x.size := rfl
  have h2 : y.data.toList.length = y.size := rfl
  have := pm_app x.data.toList y.data.toList 1 0 (by omega)
  have e : (x ++ ⟨#[10]⟩ ++ y).data.toList = x.data.toList ++ 10 :: y.data.toList := by simp
  rw [e]
  exact this
theorem act_ne (k a b op st n : Int) (app : ByteArray) (y : World) : (binOp .neq 29 (.agg #[.int .i64 k, .int .i64 a, .int .i64 b, .int .i64 op, .int .i64 st, .int .i64 n, .string app]) (.agg #[.int .i64 k, .int .i64 a, .int .i64 b, .int .i64 op, .int .i64 st, .int .i64 n, .string app])).run Tryz.prog y = .ok (.bool false) y := by
  simp [go_sem]
theorem pm_small (x : ByteArray) (hx : x.size ≤ 130) : (pm 1 0 (nl x.data.toList)).1.length ≤ 131 ∧ (pm 1 0 (nl x.data.toList)).2.length ≤ 131 := by
  have h1 : x.data.toList.length = x.size := rfl
  have h2 := nl_len x.data.toList
  have := pm_few (nl x.data.toList) 1 0 (by omega)
  omega
end Go.Proofs.YtcgembfdejjliaaGreatDoor
