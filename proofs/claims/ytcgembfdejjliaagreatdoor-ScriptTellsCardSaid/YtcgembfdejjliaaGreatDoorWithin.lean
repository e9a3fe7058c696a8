/- A number brought into bounds. -/
import Derived.Test.YtcgembfdejjliaaGreatDoorOwn
import Derived.Test.YtcgembfdejjliaaGreatDoorStay
namespace Go.Proofs.YtcgembfdejjliaaGreatDoor
open Go.RowKit
set_option linter.unusedVariables false

def win (k lo hi : Int) : Int := if lo ≤ k ∧ k ≤ hi then k else lo + k % (hi - lo + 1)
theorem win_lo (k lo hi : Int) (h : lo ≤ hi) : lo ≤ win k lo hi := by
  unfold win; split
  · omega
  · have := Int.emod_nonneg k (b := hi - lo + 1) (by omega); omega
theorem win_hi (k lo hi : Int) (h : lo ≤ hi) : win k lo hi ≤ hi := by
  unfold win; split
  · omega
  · have := Int.emod_lt_of_pos k (b := hi - lo + 1) (by omega); omega
theorem tmod_neg_fix (k m : Int) (hm : 0 < m) (h : k.tmod m < 0) : k.tmod m + m = k % m := by
  rw [Int.tmod_eq_emod] at *
  split at h
  · have := Int.emod_nonneg k (b := m) (by omega); omega
  · rw [if_neg (by assumption)]; omega
theorem tmod_pos_fix (k m : Int) (hm : 0 < m) (h : 0 ≤ k.tmod m) : k.tmod m = k % m := by
  rw [Int.tmod_eq_emod] at *
  split at h
  · rw [if_pos (by assumption)]; omega
  · rename_i hc
    have := Int.emod_lt_of_pos k hm
    omega

set_option maxHeartbeats 400000 in
theorem within_any (k lo hi : Int) (w : World) (h : lo ≤ hi) (h1 : -1099511627776 ≤ lo) (h2 : hi ≤ 1099511627776) (k1 : -9223372036854775808 ≤ k) (k2 : k ≤ 9223372036854775807) :
    Calls Tryz.prog 12 #[.int .i64 k, .int .i64 lo, .int .i64 hi] w fun r w' => r = .returned (.int .i64 (win k lo hi)) ∧ w = w' := by
  by_cases a1 : lo ≤ k ∧ k ≤ hi
  · obtain ⟨a2, a3⟩ := a1
    go_enter Tryz.func12, Tryz.ntmps12
    go_wp2
    all_goals (go_ret; exact ⟨by simp [win, *], rfl⟩)
  · have hp : 0 < hi - lo + 1 := by omega
    have t1 := Int.tmod_lt_of_pos k hp
    have t2 : -(hi - lo + 1) < k.tmod (hi - lo + 1) := by have := Int.lt_tmod_of_pos k hp; omega
    have f1 := tmod_neg_fix k _ hp
    have f2 := tmod_pos_fix k _ hp
    have F1 := Lib.hid f1
    have F2 := Lib.hid f2
    have A1 := Lib.hid a1
    clear f1 f2
    by_cases a2 : lo ≤ k
    · have a3 : hi < k := by omega
      clear a1
      by_cases a4 : k.tmod (hi - lo + 1) < 0
      · go_enter Tryz.func12, Tryz.ntmps12
        go_wp2
        all_goals (go_ret; refine ⟨congrArg (fun z => Ending.returned (Value.int .i64 z)) ?_, rfl⟩; have z := F1.out (by omega); rw [win, if_neg A1.out]; omega)
      · have a5 : 0 ≤ k.tmod (hi - lo + 1) := by omega
        go_enter Tryz.func12, Tryz.ntmps12
        go_wp2
        all_goals (go_ret; refine ⟨congrArg (fun z => Ending.returned (Value.int .i64 z)) ?_, rfl⟩; have z := F2.out (by omega); rw [win, if_neg A1.out]; omega)
    · have a3 : k < lo := by omega
      clear a1
      by_cases a4 : k.tmod (hi - lo + 1) < 0
      · go_enter Tryz.func12, Tryz.ntmps12
        go_wp2
        all_goals (go_ret; refine ⟨congrArg (fun z => Ending.returned (Value.int .i64 z)) ?_, rfl⟩; have z := F1.out (by omega); rw [win, if_neg A1.out]; omega)
      · have a5 : 0 ≤ k.tmod (hi - lo + 1) := by omega
        go_enter Tryz.func12, Tryz.ntmps12
        go_wp2
        all_goals (go_ret; refine ⟨congrArg (fun z => Ending.returned (Value.int .i64 z)) ?_, rfl⟩; have z := F2.out (by omega); rw [win, if_neg A1.out]; omega)

end Go.Proofs.YtcgembfdejjliaaGreatDoor
