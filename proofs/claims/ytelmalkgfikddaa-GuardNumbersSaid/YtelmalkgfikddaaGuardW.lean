/- Layer 11: the guard's calls, walked. -/
import Derived.Test.YtelmalkgfikddaaOpen
namespace Go.Proofs.Ytelmalkgfikddaa
open Go.RowKit
set_option linter.unusedVariables false

/-- how many renewals a window is to have -/
def needV (n : Int) : Int := (if n < 0 then 0 else if n ≤ 1048576 then n else 1048576) * 510 / 100
/-- a number brought into lo .. hi -/
def within (n lo hi : Int) : Int := if lo ≤ n ∧ n ≤ hi then n else if n.tmod (hi - lo + 1) < 0 then lo + (n.tmod (hi - lo + 1) + hi - lo + 1) else lo + n.tmod (hi - lo + 1)
theorem within_in {n lo hi : Int} (h : lo ≤ hi) : lo ≤ within n lo hi ∧ within n lo hi ≤ hi := by
  unfold within
  have h1 := Int.tmod_lt_of_pos n (b := hi - lo + 1) (by omega)
  have h2 := Int.lt_tmod_of_pos n (b := hi - lo + 1) (by omega)
  split
  · omega
  · split <;> omega

set_option maxHeartbeats 400000 in
theorem guardNeed (n : Int) (w : World) :
    Calls Try.prog 7 #[.int .i64 n] w fun e w' => e = .returned (.int .i64 (needV n)) ∧ w = w' := by
  by_cases h0 : n < 0
  · go_enter Try.func7, Try.ntmps7
    go_wp2
    all_goals (go_ret; exact ⟨by simp [needV]; omega, rfl⟩)
  · by_cases h1 : n ≤ 1048576
    · go_enter Try.func7, Try.ntmps7
      go_wp2
      all_goals (go_ret; exact ⟨by simp [needV]; omega, rfl⟩)
    · go_enter Try.func7, Try.ntmps7
      go_wp2
      all_goals (go_ret; exact ⟨by simp [needV]; omega, rfl⟩)

set_option maxHeartbeats 400000 in
theorem refNeed (n : Int) (w : World) :
    Calls Try.prog 8 #[.int .i64 n] w fun e w' => e = .returned (.int .i64 (needV n)) ∧ w = w' := by
  by_cases h0 : n < 0
  · go_enter Try.func8, Try.ntmps8
    go_wp2
    all_goals (go_ret; exact ⟨by simp [needV]; omega, rfl⟩)
  · by_cases h1 : n ≤ 1048576
    · go_enter Try.func8, Try.ntmps8
      go_wp2
      all_goals (go_ret; exact ⟨by simp [needV]; omega, rfl⟩)
    · go_enter Try.func8, Try.ntmps8
      go_wp2
      all_goals (go_ret; exact ⟨by simp [needV]; omega, rfl⟩)


set_option maxHeartbeats 800000 in
theorem bookWithin (n lo hi : Int) (w : World) (h : lo ≤ hi) (hlo : -1000000 ≤ lo) (hhi : hi ≤ 1000000) :
    Calls Try.prog 14 #[.int .i64 n, .int .i64 lo, .int .i64 hi] w fun e w' => e = .returned (.int .i64 (within n lo hi)) ∧ w = w' := by
  have h1 := Int.tmod_lt_of_pos n (b := hi - lo + 1) (by omega)
  have h2 := Int.lt_tmod_of_pos n (b := hi - lo + 1) (by omega)
  by_cases ha : lo ≤ n
  · by_cases hb : n ≤ hi
    · go_enter Try.func14, Try.ntmps14
      go_wp2
      go_ret
      exact ⟨by simp [within, ha, hb], rfl⟩
    · by_cases hc : n.tmod (hi - lo + 1) < 0
      all_goals
        go_enter Try.func14, Try.ntmps14
        go_wp2
        all_goals (go_ret; exact ⟨by simp [within, ha, hc]; omega, rfl⟩)
  · by_cases hc : n.tmod (hi - lo + 1) < 0
    all_goals
      go_enter Try.func14, Try.ntmps14
      go_wp2
      all_goals (go_ret; exact ⟨by simp [within, hc]; omega, rfl⟩)

end Go.Proofs.Ytelmalkgfikddaa
