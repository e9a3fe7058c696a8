/- Several texts as one: ShfD, ShfG. -/
import Derived.Test.YtloeabdohgdmkaaBgZ
import Derived.Deep.RegionLaw
/- slices.Delete of one entry; Drop. -/
namespace Go.Proofs.Ytloeabdohgdmkaa
open Go.RowKit
set_option linter.unusedVariables false
set_option linter.unusedSimpArgs false

theorem isIn_at {k : Ky} {es : List En} (h : isIn k es = true) : ∃ x, es[low k es]? = some x ∧ x.c.a = k.1 ∧ x.c.i = k.2 := by
  unfold isIn at h
  cases hx : es[low k es]? with
  | none => rw [hx] at h; cases h
  | some x =>
    rw [hx] at h
    simp at h
    exact ⟨x, rfl, h.1, h.2⟩
theorem asc_put {es : List En} {e : En} (h : Asc es) (hi : isIn (enK e) es = true) : Asc (es.set (low (enK e) es) e) := by
  obtain ⟨x, hx, h1, h2⟩ := isIn_at hi
  have ha : ∀ l : List En, Asc l ↔ (l.map enK).Pairwise (fun a b => kc a.1 a.2 b.1 b.2 < 0) := fun l => by
    unfold Asc
    rw [List.pairwise_map]
    rfl
  rw [ha] at h ⊢
  have e1 : (es.set (low (enK e) es) e).map enK = es.map enK := by
    rw [List.map_set]
    apply List.ext_getElem?
    intro q
    rw [List.getElem?_set]
    split
    · rename_i hq
      subst hq
      rw [List.getElem?_map, hx]
      have hlt := (List.getElem?_eq_some_iff.1 hx).1
      rw [List.length_map, if_pos hlt]
      show some (enK e) = some (x.c.a, x.c.i)
      rw [h1, h2]
    · rfl
  rw [e1]
  exact h
theorem asc_ins {es : List En} {e : En} (h : Asc es) (hi : isIn (enK e) es = false) : Asc (insAt es (low (enK e) es) e) := by
  have hl := low_iff (enK e) es h
  obtain ⟨p, hp⟩ : ∃ p, low (enK e) es = p := ⟨_, rfl⟩
  have hin : ∀ x, es[p]? = some x → ¬ (x.c.a = e.c.a ∧ x.c.i = e.c.i) := by
    rintro x hx ⟨h1, h2⟩
    unfold isIn at hi
    rw [hp, hx] at hi
    simp [enK, h1, h2] at hi
  rw [hp] at hl ⊢
  have h1 : ∀ x ∈ es.take p, kc x.c.a x.c.i e.c.a e.c.i < 0 := by
    intro x hx
    obtain ⟨q, hq⟩ := List.mem_iff_getElem?.1 hx
    rw [List.getElem?_take] at hq
    split at hq
    · rename_i hlt
      have := hl q x hq
      rw [decide_eq_true hlt] at this
      exact of_decide_eq_true this
    · cases hq
  have h2 : ∀ y ∈ es.drop p, kc e.c.a e.c.i y.c.a y.c.i < 0 := by
    intro y hy
    obtain ⟨q, hq⟩ := List.mem_iff_getElem?.1 hy
    rw [List.getElem?_drop] at hq
    have h3 := hl (p + q) y hq
    rw [decide_eq_false (by omega)] at h3
    have h4 : 0 ≤ kc y.c.a y.c.i e.c.a e.c.i := by have h5 : ¬ kc y.c.a y.c.i e.c.a e.c.i < 0 := of_decide_eq_false h3; omega
    have h5 := kc_neg e.c.a e.c.i y.c.a y.c.i
    have h6 : kc y.c.a y.c.i e.c.a e.c.i ≠ 0 := by
      intro h7
      obtain ⟨e1, e2⟩ := kc_zero h7
      cases q with
      | zero => exact hin y (by simpa using hq) ⟨e1, e2⟩
      | succ q =>
        obtain ⟨x, hx⟩ : ∃ x, es[p]? = some x := ⟨_, List.getElem?_eq_getElem (by have := (List.getElem?_eq_some_iff.1 hq).1; omega)⟩
        have h8 := hl p x hx
        rw [decide_eq_false (by omega)] at h8
        have h9 : ¬ kc x.c.a x.c.i e.c.a e.c.i < 0 := of_decide_eq_false h8
        have h10 : kc x.c.a x.c.i y.c.a y.c.i < 0 := by
          obtain ⟨l1, g1⟩ := List.getElem?_eq_some_iff.1 hx
          obtain ⟨l2, g2⟩ := List.getElem?_eq_some_iff.1 hq
          have := List.pairwise_iff_getElem.1 h p (p + (q + 1)) l1 l2 (by omega)
          rwa [g1, g2] at this
        rw [e1, e2] at h10
        exact h9 h10
    omega
  unfold insAt
  rw [List.append_assoc]
  have h0 : (es.take p ++ es.drop p).Pairwise (fun x y => kc x.c.a x.c.i y.c.a y.c.i < 0) := by rw [List.take_append_drop]; exact h
  obtain ⟨p1, p2, p3⟩ := List.pairwise_append.1 h0
  refine List.pairwise_append.2 ⟨p1, List.pairwise_append.2 ⟨List.pairwise_singleton _ _, p2, fun x hx y hy => ?_⟩, fun x hx y hy => ?_⟩
  · simp at hx; subst hx; exact h2 y hy
  · rcases List.mem_append.1 hy with hy | hy
    · simp at hy; subst hy; exact h1 x hx
    · exact p3 x hx y hy

end Go.Proofs.Ytloeabdohgdmkaa

/- Package shelf: Get. -/
namespace Go.Proofs.Ytloeabdohgdmkaa
open Go.RowKit
set_option linter.unusedVariables false
set_option linter.unusedSimpArgs false

end Go.Proofs.Ytloeabdohgdmkaa
