/- Package look: what the document's own answer is made of. -/
import Derived.Test.YtkblblcjkkgbeaaLookN
namespace Go.Proofs.Ytkblblcjkkgbeaa
open Go.RowKit
set_option linter.unusedVariables false
set_option linter.unusedSimpArgs false

section
variable {α : Type} (lt : α → α → Bool)
theorem insV_perm (c : α) (l : List α) : (insV lt c l).Perm (c :: l) := by
  induction l with
  | nil => exact List.Perm.refl _
  | cons x xs ih =>
    unfold insV
    split
    · exact (ih.cons x).trans (List.Perm.swap c x xs)
    · exact List.Perm.refl _

theorem insR_perm (c : α) (l : List α) : (insR lt c l).Perm (c :: l) := by
  unfold insR
  exact (List.reverse_perm _).trans ((insV_perm lt c _).trans ((List.reverse_perm l).cons c))

theorem fold_perm (ls : List α) : ∀ out : List α, (ls.foldl (fun out c => insR lt c out) out).Perm (out ++ ls) := by
  induction ls with
  | nil => intro out; simp
  | cons x xs ih =>
    intro out
    simp only [List.foldl_cons]
    refine (ih _).trans (((insR_perm lt x out).append_right xs).trans ?_)
    exact (List.perm_middle (a := x) (l₁ := out) (l₂ := xs)).symm

theorem srt_perm (ls : List α) : (srt lt ls).Perm ls := by unfold srt; simpa using fold_perm lt ls []

end
theorem cmpB_lt : ∀ a b : List UInt8, Lib.compareBytes a b < 0 → a < b
  | [], [], h => by simp [Lib.compareBytes] at h
  | [], _ :: _, _ => by simp
  | _ :: _, [], h => by simp [Lib.compareBytes] at h
  | a :: p, b :: q, h => by
    unfold Lib.compareBytes at h
    by_cases h1 : a < b
    · exact List.Lex.rel h1
    · by_cases h2 : b < a
      · simp [h1, h2] at h
      · have h3 : a = b := UInt8.le_antisymm (UInt8.not_lt.1 h2) (UInt8.not_lt.1 h1)
        subst h3
        simp [h1] at h
        exact List.Lex.cons (cmpB_lt p q h)
theorem cmpB_le_of (a b : List UInt8) (h : 0 ≤ Lib.compareBytes b a) : a ≤ b := by
  by_cases e : Lib.compareBytes b a = 0
  · rw [cmpB_eq _ _ e]; exact List.le_refl _
  · have h1 : Lib.compareBytes a b < 0 := by have := cmpB_neg b a; omega
    exact List.le_of_lt (cmpB_lt _ _ h1)
theorem seen_apps (ls : List Cd) : (seenL ls).map (fun c => c.a.data.toList) = sortS (aps ls) := by
  have hp : ((seenL ls).map (fun c => c.a.data.toList)).Perm (sortS (aps ls)) := by
    refine List.Perm.trans ?_ (List.mergeSort_perm _ _).symm
    unfold seenL aps
    exact (srt_perm klt _).map _
  refine List.Perm.eq_of_pairwise (le := fun a b => a ≤ b) (fun a b _ _ h1 h2 => List.le_antisymm h1 h2) ?_ (sortS_ord _) hp
  rw [List.pairwise_map]
  refine (srt_is klt klt_weak _).imp ?_
  intro x y h
  have h1 : ¬ kcmp y x < 0 := by
    intro e
    have : klt y x = true := by unfold klt; exact decide_eq_true e
    rw [h] at this; cases this
  unfold kcmp kc at h1
  by_cases e : y.a = x.a
  · rw [e]; exact List.le_refl _
  · rw [if_neg e] at h1
    exact cmpB_le_of _ _ (by omega)
theorem apps_seen (ls : List Cd) : cps ((seenL ls).map (fun c => c.a.data.toList)) = appsL ls := by
  rw [seen_apps]; unfold appsL; rw [compact_is]
theorem cps_len (ls : List (List UInt8)) : (cps ls).length ≤ ls.length := by rw [← compact_is]; exact compact_len ls

end Go.Proofs.Ytkblblcjkkgbeaa
