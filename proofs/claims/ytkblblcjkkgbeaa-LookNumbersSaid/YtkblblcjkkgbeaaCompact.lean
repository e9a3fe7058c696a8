/- Neighbours that are the same, once: over lists, no model. -/
import Derived.Lib.SlicesCompact
namespace Go.Proofs.Ytkblblcjkkgbeaa
set_option linter.unusedVariables false
set_option linter.unusedSimpArgs false
set_option linter.unusedSectionVars false

section
variable {α : Type} [Inhabited α] [DecidableEq α]
def apS (out : List α) (s : α) : List α := match out.getLast? with
  | none => [s]
  | some y => if y = s then out else out ++ [s]
theorem apS_nil (s : α) : apS [] s = [s] := rfl
theorem apS_same (out : List α) (s : α) : apS (out ++ [s]) s = out ++ [s] := by
  unfold apS
  rw [List.getLast?_append]
  simp
theorem apS_other (out : List α) (y s : α) (h : y ≠ s) : apS (out ++ [y]) s = out ++ [y] ++ [s] := by
  unfold apS
  rw [List.getLast?_append]
  simp [h]
def cps (ls : List α) : List α := ls.foldl apS []
theorem cps_snoc (ls : List α) (x : α) : cps (ls ++ [x]) = apS (cps ls) x := by simp [cps]
theorem apS_last (out : List α) (s : α) : (apS out s).getLast? = some s := by
  rcases List.eq_nil_or_concat out with rfl | ⟨o, y, rfl⟩
  · rfl
  · rw [List.concat_eq_append]
    by_cases h : y = s
    · subst h; rw [apS_same]; simp
    · rw [apS_other _ _ _ h]; simp
theorem cps_last (ls : List α) : (cps ls).getLast? = ls.getLast? := by
  rcases List.eq_nil_or_concat ls with rfl | ⟨o, y, rfl⟩
  · rfl
  · rw [List.concat_eq_append, cps_snoc, apS_last]; simp
theorem upTo_pre (zs : List α) (x : α) : ∀ m, m ≤ zs.length → Go.Lib.compactUpTo (zs ++ [x]).toArray m = Go.Lib.compactUpTo zs.toArray m := by
  intro m hm
  have get : ∀ j, j < zs.length → (zs ++ [x]).toArray[j]! = zs.toArray[j]! := fun j hj => by
    rw [getElem!_pos _ j (by simp; omega), getElem!_pos _ j (by simpa using hj)]
    simp [hj]
  induction m with
  | zero => rfl
  | succ m ih =>
    rw [Go.Lib.compactUpTo_succ, Go.Lib.compactUpTo_succ, ih (by omega)]
    have e : Go.Lib.keeps (zs ++ [x]).toArray m = Go.Lib.keeps zs.toArray m := by
      unfold Go.Lib.keeps
      rw [get m (by omega), get (m - 1) (by omega)]
    rw [e, get m (by omega)]
theorem compact_is (ls : List α) : Go.Lib.compact ls = cps ls := by
  have key : ∀ n (ls : List α), ls.length = n → Go.Lib.compact ls = cps ls := by
    intro n
    induction n with
    | zero => intro ls h; rw [List.eq_nil_of_length_eq_zero h]; rfl
    | succ n ih =>
      intro ls h
      rcases List.eq_nil_or_concat ls with rfl | ⟨o, x, rfl⟩
      · simp at h
      · rw [List.concat_eq_append] at h ⊢
        have ho : o.length = n := by simpa using h
        rw [cps_snoc, ← ih o ho]
        have e : Go.Lib.compact (o ++ [x]) = Go.Lib.compact o ++ (if Go.Lib.keeps (o ++ [x]).toArray n then [x] else []) := by
          unfold Go.Lib.compact
          rw [h, Go.Lib.compactUpTo_succ, upTo_pre o x n (by omega), ho]
          have g : (o ++ [x]).toArray[n]! = x := by
            rw [getElem!_pos _ n (by simp; omega)]
            simp [← ho]
          rw [g]
        rw [e]
        rcases List.eq_nil_or_concat o with rfl | ⟨p, y, rfl⟩
        · have h0 : n = 0 := by simpa using ho.symm
          subst h0
          rfl
        · rw [List.concat_eq_append] at ho ⊢
          have hn : n = p.length + 1 := by simpa using ho.symm
          have hl : (Go.Lib.compact (p ++ [y])).getLast? = some y := by
            rw [ih _ ho, cps_last]; simp
          obtain ⟨q, hq⟩ : ∃ q, Go.Lib.compact (p ++ [y]) = q ++ [y] := by
            rcases List.eq_nil_or_concat (Go.Lib.compact (p ++ [y])) with h1 | ⟨q, z, h1⟩
            · rw [h1] at hl; cases hl
            · rw [List.concat_eq_append] at h1
              rw [h1] at hl
              have : z = y := by simpa using hl
              subst this
              exact ⟨q, h1⟩
          rw [hq]
          have g1 : (p ++ [y] ++ [x]).toArray[n]! = x := by
            rw [getElem!_pos _ n (by simp; omega)]
            simp [hn]
          have g2 : (p ++ [y] ++ [x]).toArray[n - 1]! = y := by
            rw [getElem!_pos _ (n - 1) (by simp; omega)]
            simp [hn]
          by_cases hxy : y = x
          · subst hxy
            rw [apS_same, Go.Lib.keeps_neg (by omega) (by rw [g1, g2])]
            simp
          · rw [apS_other _ _ _ hxy, Go.Lib.keeps_pos (by rw [g1, g2]; exact fun e => hxy e.symm)]
            simp
  exact key _ ls rfl
theorem apS_mem (out : List α) (s y : α) : y ∈ apS out s ↔ y ∈ out ∨ y = s := by
  rcases List.eq_nil_or_concat out with rfl | ⟨o, z, rfl⟩
  · simp [apS_nil]
  · rw [List.concat_eq_append]
    by_cases h : z = s
    · subst h; rw [apS_same]; simp
    · rw [apS_other _ _ _ h]; simp [or_assoc]
theorem cps_mem (ls : List α) (y : α) : y ∈ cps ls ↔ y ∈ ls := by
  have key : ∀ (ls out : List α), y ∈ ls.foldl apS out ↔ y ∈ out ∨ y ∈ ls := by
    intro ls
    induction ls with
    | nil => intro out; simp
    | cons x xs ih => intro out; simp only [List.foldl_cons]; rw [ih, apS_mem]; simp [or_assoc]
  simpa [cps] using key ls []
/-- of a row in order each comes once -/
theorem cps_nodup (le : α → α → Prop) (hanti : ∀ a b, le a b → le b a → a = b) (ls : List α) (h : ls.Pairwise le) : (cps ls).Nodup := by
  have key : ∀ (ls out : List α), (out ++ ls).Pairwise le → out.Nodup → (ls.foldl apS out).Nodup := by
    intro ls
    induction ls with
    | nil => intro out _ hn; simpa using hn
    | cons x xs ih =>
      intro out hp hn
      simp only [List.foldl_cons]
      rcases List.eq_nil_or_concat out with rfl | ⟨o, z, rfl⟩
      · exact ih _ (by simpa [apS_nil] using hp) (by simp [apS_nil])
      · rw [List.concat_eq_append] at *
        by_cases hz : z = x
        · subst hz
          rw [apS_same]
          refine ih _ ?_ hn
          refine hp.sublist ?_
          exact List.Sublist.append (List.Sublist.refl _) (List.sublist_cons_self _ _)
        · rw [apS_other _ _ _ hz]
          refine ih _ (by simpa using hp) ?_
          rw [List.nodup_append]
          refine ⟨hn, by simp, ?_⟩
          intro a ha b hb e
          have hb' : b = x := by simpa using hb
          rw [hb'] at e
          subst e
          rw [List.pairwise_append] at hp
          obtain ⟨h1, h2, h3⟩ := hp
          rw [List.pairwise_append] at h1
          rcases List.mem_append.1 ha with ha' | ha'
          · have l1 : le a z := h1.2.2 a ha' z (by simp)
            have l2 : le z a := h3 z (by simp) a (by simp)
            exact hz (hanti _ _ l2 l1)
          · exact hz (by have e' : a = z := by simpa using ha'
                         exact e'.symm)
  exact key ls [] (by simpa using h) (by simp)
/-- counted by a name, name by name -/
theorem sum_by {β : Type} (f : β → α) (A : List α) (hA : A.Nodup) (ls : List β) (h : ∀ x ∈ ls, f x ∈ A) : (A.map fun a => (ls.filter (fun x => decide (f x = a))).length).sum = ls.length := by
  induction ls with
  | nil => clear h hA; induction A with
    | nil => rfl
    | cons a A ih => simpa using ih
  | cons x xs ih =>
    have ih' := ih (fun y hy => h y (List.mem_cons_of_mem _ hy))
    have hx := h x (by simp)
    rw [List.length_cons, ← ih']
    clear ih ih' h
    induction A with
    | nil => cases hx
    | cons a A ihA =>
      obtain ⟨h1, h2⟩ := List.nodup_cons.1 hA
      simp only [List.map_cons, List.sum_cons]
      by_cases e : f x = a
      · have hrest : (A.map fun a => ((x :: xs).filter (fun x => decide (f x = a))).length) = (A.map fun a => (xs.filter (fun x => decide (f x = a))).length) := by
          apply List.map_congr_left
          intro b hb
          have : f x ≠ b := fun e' => h1 (by rw [← e, e']; exact hb)
          simp [this]
        rw [hrest]
        simp [e]
        omega
      · have hx' : f x ∈ A := by
          rcases List.mem_cons.1 hx with h' | h'
          · exact absurd h' e
          · exact h'
        have := ihA h2 hx'
        simp [e] at this ⊢
        omega
end

end Go.Proofs.Ytkblblcjkkgbeaa
