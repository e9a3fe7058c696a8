/- Putting in a card by key, or by filter and sort: the same. -/
import Derived.Test.YtkhcgopehmndgaaCnB
namespace Go.Proofs.Ytkhcgopehmndgaa
open Go.RowKit
set_option linter.unusedVariables false
set_option linter.unusedSimpArgs false

/-- strictly ascending rows of the same cards are the same -/
theorem asc_same : ∀ (l r : List Cd), l.Pairwise (fun x y => kcmp x y < 0) → r.Pairwise (fun x y => kcmp x y < 0) → (∀ x, x ∈ l ↔ x ∈ r) → l = r := by
  intro l
  induction l with
  | nil =>
    intro r _ _ h
    cases r with
    | nil => rfl
    | cons y ys => exact absurd ((h y).2 (by simp)) (by simp)
  | cons x xs ih =>
    intro r hl hr h
    cases r with
    | nil => exact absurd ((h x).1 (by simp)) (by simp)
    | cons y ys =>
      obtain ⟨l1, l2⟩ := List.pairwise_cons.1 hl
      obtain ⟨r1, r2⟩ := List.pairwise_cons.1 hr
      have irr : ∀ z : Cd, ¬ kcmp z z < 0 := fun z hz => by
        unfold kcmp at hz
        rw [kc_refl] at hz
        omega
      have e : x = y := by
        rcases List.mem_cons.1 ((h x).1 (by simp)) with h1 | h1
        · exact h1
        · rcases List.mem_cons.1 ((h y).2 (by simp)) with h2 | h2
          · exact h2.symm
          · exfalso
            have a1 := r1 x h1
            have a2 := l1 y h2
            unfold kcmp at a1 a2
            rw [kc_neg] at a1
            omega
      subst e
      congr 1
      refine ih ys l2 r2 (fun z => ⟨fun hz => ?_, fun hz => ?_⟩)
      · rcases List.mem_cons.1 ((h z).1 (by simp [hz])) with h1 | h1
        · subst h1; exact absurd (l1 z hz) (irr z)
        · exact h1
      · rcases List.mem_cons.1 ((h z).2 (by simp [hz])) with h1 | h1
        · subst h1; exact absurd (r1 z hz) (irr z)
        · exact h1
theorem asc_of {cs : List Cd} (h : Asc (cs.map zE)) : cs.Pairwise (fun x y => kcmp x y < 0) := by
  unfold Asc at h
  rw [List.pairwise_map] at h
  exact h
/-- a put, told by filter and sort -/
def dputL (cs : List Cd) (t : Cd) : List Cd := cs.filter (fun y => !kq y t) ++ (if t.g = true then [] else [t])
theorem kq_ck {x y : Cd} : kq x y = true ↔ ck x = ck y := by
  unfold kq ck
  simp
theorem putC_mem {cs : List Cd} {t x : Cd} (h : Asc (cs.map zE)) : x ∈ putC cs t ↔ (x = t ∧ t.g = false) ∨ (x ∈ cs ∧ ck x ≠ ck t) := by
  have hz : ∀ (l : List Cd), x ∈ l ↔ zE x ∈ l.map zE := fun l => by
    constructor
    · exact fun hx => List.mem_map_of_mem hx
    · intro hx
      obtain ⟨y, hy, e⟩ := List.mem_map.1 hx
      have : y = x := congrArg En.c e
      rwa [← this]
  have hk : ∀ y : Cd, enK (zE y) = ck y := fun _ => rfl
  have hzz : zE x = zE t ↔ x = t := ⟨fun e => congrArg En.c e, fun e => by rw [e]⟩
  unfold putC
  cases hin : isIn (ck t) (cs.map zE) with
  | true =>
    simp only [if_true]
    cases hg : t.g with
    | true =>
      simp only [if_true]
      rw [hz, delAt_zE, mem_del h hin, hk, ← hz]
      simp
    | false =>
      simp only [Bool.false_eq_true, if_false]
      rw [hz, List.map_set]
      have := mem_set (e := zE t) (x := zE x) h hin
      rw [hk] at this
      rw [this, hk, ← hz, hzz]
      simp
  | false =>
    simp only [Bool.false_eq_true, if_false]
    cases hg : t.g with
    | true =>
      simp only [if_true]
      constructor
      · intro hx
        exact .inr ⟨hx, fun e => isIn_none h hin ((hz cs).1 hx) (by rw [hk]; exact e)⟩
      · rintro (⟨-, h1⟩ | ⟨h1, -⟩)
        · simp at h1
        · exact h1
    | false =>
      simp only [Bool.false_eq_true, if_false]
      rw [hz, insAt_zE]
      have := mem_ins (e := zE t) (x := zE x) h hin (low (ck t) (cs.map zE))
      rw [this, hk, hk, ← hz, hzz]
      simp
theorem insV_permC {α : Type} (lt : α → α → Bool) (c : α) (l : List α) : (insV lt c l).Perm (c :: l) := by
  induction l with
  | nil => exact List.Perm.refl _
  | cons x xs ih =>
    unfold insV
    split
    · exact (ih.cons x).trans (List.Perm.swap c x xs)
    · exact List.Perm.refl _
theorem insR_permC {α : Type} (lt : α → α → Bool) (c : α) (l : List α) : (insR lt c l).Perm (c :: l) := by
  unfold insR
  exact (List.reverse_perm _).trans ((insV_permC lt c _).trans ((List.reverse_perm l).cons c))
theorem fold_permC {α : Type} (lt : α → α → Bool) (ls : List α) : ∀ out : List α, (ls.foldl (fun out c => insR lt c out) out).Perm (out ++ ls) := by
  induction ls with
  | nil => intro out; simp
  | cons x xs ih =>
    intro out
    simp only [List.foldl_cons]
    refine (ih _).trans (((insR_permC lt x out).append_right xs).trans ?_)
    simpa using (List.perm_middle (a := x) (l₁ := out) (l₂ := xs)).symm
theorem srt_permC {α : Type} (lt : α → α → Bool) (ls : List α) : (srt lt ls).Perm ls := by unfold srt; simpa using fold_permC lt ls []
theorem dput_is {cs : List Cd} {t : Cd} (h : WfC cs) (hr : CdR t) (ha : KA t.a) (hi : KI t.i) : srt klt (dputL cs t) = putC cs t := by
  refine asc_same _ _ ?_ (asc_of (h.put hr ha hi).1) (fun x => ?_)
  · have h1 : (srt klt (dputL cs t)).Pairwise (fun x y => klt y x = false) := srt_is klt klt_weak _
    have hcs := asc_of h.1
    have h2 : (dputL cs t).Pairwise (fun x y => ck x ≠ ck y) := by
      unfold dputL
      refine List.pairwise_append.2 ⟨?_, ?_, ?_⟩
      · refine List.Pairwise.filter _ (hcs.imp fun {x y} hxy e => ?_)
        unfold ck at e
        simp only [Prod.mk.injEq] at e
        unfold kcmp at hxy
        rw [e.1, e.2, kc_refl] at hxy
        omega
      · split
        · exact List.Pairwise.nil
        · exact List.pairwise_singleton _ _
      · intro x hx y hy
        have hy2 : y = t := by
          cases hg : t.g <;> rw [hg] at hy <;> simp at hy
          exact hy
        subst hy2
        have := (List.mem_filter.1 hx).2
        intro e
        rw [kq_ck.2 e] at this
        simp at this
    have h3 : (srt klt (dputL cs t)).Pairwise (fun x y => ck x ≠ ck y) := ((srt_permC klt _).pairwise_iff (fun {x y} e => Ne.symm e)).2 h2
    refine (h1.and h3).imp fun {x y} hxy => ?_
    obtain ⟨e1, e2⟩ := hxy
    unfold klt at e1
    have e3 : ¬ kcmp y x < 0 := by simpa using e1
    unfold kcmp at e3 ⊢
    rw [kc_neg] at e3
    rcases Int.lt_trichotomy (kc x.a x.i y.a y.i) 0 with h5 | h5 | h5
    · exact h5
    · obtain ⟨f1, f2⟩ := kc_zero h5
      exact absurd (Prod.ext f1 f2) e2
    · omega
  · rw [srt_mem, putC_mem h.1]
    unfold dputL
    rw [List.mem_append, List.mem_filter]
    constructor
    · rintro (⟨h1, h2⟩ | h1)
      · refine .inr ⟨h1, fun e => ?_⟩
        rw [kq_ck.2 e] at h2
        simp at h2
      · cases hg : t.g <;> rw [hg] at h1 <;> simp at h1
        exact .inl ⟨h1, rfl⟩
    · rintro (⟨rfl, h1⟩ | ⟨h1, h2⟩)
      · exact .inr (by simp [h1])
      · refine .inl ⟨h1, ?_⟩
        cases hq : kq x t
        · rfl
        · exact absurd (kq_ck.1 hq) h2
theorem filt_snocC {α : Type} (p : α → Bool) (l : List α) (x : α) : (l ++ [x]).filter p = l.filter p ++ (if p x then [x] else []) := by
  rw [List.filter_append]
  cases h : p x <;> simp [h]
end Go.Proofs.Ytkhcgopehmndgaa
