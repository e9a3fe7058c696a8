/- The document's own gossip: stamps, the last card of a key. -/
import Derived.Test.YtmgdhgaodjkifaaGosM
namespace Go.Proofs.Ytmgdhgaodjkifaa
open Go.RowKit
set_option linter.unusedVariables false
set_option linter.unusedSimpArgs false

theorem look_snoc (ls : List Cd) (x : Cd) (k : Ky) : look (ls ++ [x]) k = (if kyc x = k then some x else look ls k) := by
  unfold look
  rw [lastU_snoc]
  unfold fput
  by_cases h : kyc x = k
  · rw [if_pos h, if_pos h.symm]
    simp
  · rw [if_neg h, if_neg (fun e => h e.symm)]
    cases hv : lastU ls k with
    | none => rfl
    | some v =>
      obtain ⟨I, y, rfl, h2, h3⟩ := lastU_spec ls k v hv
      have hlt : I < ls.length := by
        rcases Nat.lt_or_ge I ls.length with h' | h'
        · exact h'
        · rw [List.getElem?_eq_none h'] at h2; cases h2
      simp [List.getElem?_append_left hlt]
theorem look_take {ls : List Cd} {I : Nat} {x : Cd} (k : Ky) (h : ls[I]? = some x) : look (ls.take (I + 1)) k = (if kyc x = k then some x else look (ls.take I) k) := by
  rw [List.take_add_one, h, Option.toList_some, look_snoc]

set_option maxRecDepth 100000 in
set_option maxHeartbeats 1000000 in
theorem refLess (t k n t' k' n' : Int) (w : World) :
    Calls Try.prog 32 #[stv t k n, stv t' k' n'] w fun e w' => e = .returned (.bool (sLess t k n t' k' n')) ∧ Below w.heap.size w w' := by
  by_cases h1 : t = t'
  · subst h1
    by_cases h2 : n = n'
    · subst h2
      go_enter Try.func32, Try.ntmps32
      go_wp2
      go_ret
      exact ⟨by simp [sLess], by go_grown⟩
    · go_enter Try.func32, Try.ntmps32
      go_wp2
      go_ret
      exact ⟨by simp [sLess, h2], by go_grown⟩
  · go_enter Try.func32, Try.ntmps32
    go_wp2
    go_ret
    exact ⟨by simp [sLess, h1], by go_grown⟩

end Go.Proofs.Ytmgdhgaodjkifaa
