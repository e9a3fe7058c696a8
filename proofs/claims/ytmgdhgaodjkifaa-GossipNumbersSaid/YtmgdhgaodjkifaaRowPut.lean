/- A row of structs in which one is written over. -/
import Derived.Test.YtmgdhgaodjkifaaCardSl
namespace Go.Proofs.Ytmgdhgaodjkifaa
open Go.RowKit
set_option linter.unusedVariables false

section
variable {α : Type} {enc : α → List Value} {k : Nat} {T : TypeId}
def setL : List Value → Nat → List Value → List Value
  | l, _, [] => l
  | l, o, v :: vs => setL (l.set o v) (o + 1) vs
theorem setL_len (l : List Value) (o : Nat) (vs : List Value) : (setL l o vs).length = l.length := by
  induction vs generalizing l o with
  | nil => rfl
  | cons v vs ih => unfold setL; rw [ih]; simp
theorem setL_out (l : List Value) (o : Nat) (vs : List Value) (h : l.length ≤ o) : setL l o vs = l := by
  induction vs generalizing l o with
  | nil => rfl
  | cons v vs ih =>
    unfold setL
    rw [List.set_eq_of_length_le h]
    exact ih l (o + 1) (by omega)
theorem setL_eq (l : List Value) (o : Nat) (vs : List Value) (h : o + vs.length ≤ l.length) : setL l o vs = l.take o ++ vs ++ l.drop (o + vs.length) := by
  induction vs generalizing l o with
  | nil => simp [setL]
  | cons v vs ih =>
    unfold setL
    rw [List.length_cons] at h
    rw [ih _ _ (by simp; omega), List.take_set, List.drop_set_of_lt (by omega)]
    rw [show (l.take (o + 1)).set o v = l.take o ++ [v] from by
      apply List.ext_getElem?
      intro i
      rw [List.getElem?_set]
      rcases Nat.lt_trichotomy i o with h' | h' | h'
      · rw [if_neg (by omega), List.getElem?_take_of_lt (by omega), List.getElem?_append_left (by simp; omega), List.getElem?_take_of_lt (by omega)]
      · subst h'
        rw [if_pos rfl, if_pos (by simp; omega), List.getElem?_append_right (by simp; omega)]
        rw [List.length_take, show i - min i l.length = 0 from by omega]
        rfl
      · rw [if_neg (by omega), List.getElem?_eq_none (by simp; omega), List.getElem?_eq_none (by simp; omega)]]
    simp [show o + 1 + vs.length = o + (vs.length + 1) from by omega]
theorem own_set1 {base size n m c g o : Nat} {w : World} {xs : List Value} (h : w.ownsRow base T size (.slice (some ⟨g, 0, none⟩) n c) m xs) (v : Value) : (w.setCell ⟨g, o, none⟩ v).ownsRow base T size (.slice (some ⟨g, 0, none⟩) n c) m (xs.set o v) := by
  rcases h with ⟨h1, ⟨e, _⟩ | ⟨g', cap, cur, e, hg, hh, hnc, hcm, hcs, ht⟩⟩
  · cases e
  · simp only [Value.slice.injEq, Option.some.injEq, Addr.mk.injEq] at e
    obtain ⟨⟨rfl, -⟩, rfl, rfl⟩ := e
    refine ⟨by simpa using h1, .inr ⟨g, c, cur.setIfInBounds o v, rfl, hg, blk_set hh rfl, hnc, hcm, by simpa using hcs, ?_⟩⟩
    rw [Array.toList_setIfInBounds, List.take_set, ht]
theorem own_sets {base size n m c g : Nat} (vs : List Value) {o : Nat} {w : World} {xs : List Value} (h : w.ownsRow base T size (.slice (some ⟨g, 0, none⟩) n c) m xs) : (w.setCells g o vs).ownsRow base T size (.slice (some ⟨g, 0, none⟩) n c) m (setL xs o vs) := by
  induction vs generalizing w o xs with
  | nil => exact h
  | cons v vs ih => exact ih (own_set1 h v)
theorem kept_sets {g : Nat} (vs : List Value) {o : Nat} {u w : World} (h : Kept g u w) : Kept g u (w.setCells g o vs) := by
  induction vs generalizing w o with
  | nil => exact h
  | cons v vs ih => exact ih (h.setCell o v)
theorem OwnR.num {base n c g : Nat} {w : World} {ls : List α} (h : OwnR enc k T base w (.slice (some ⟨g, 0, none⟩) n c) ls) : n = ls.length ∧ n ≤ c ∧ c ≤ maxLen ∧ ∃ cur, w.heap[g]? = some (.cells cur T (0, 0)) ∧ cur.size = c * k ∧ base ≤ g := by
  rcases h.2 with ⟨e, _⟩ | ⟨g', cap, cur, e, hg, hh, hnc, hcm, hcs, ht⟩
  · cases e
  · simp only [Value.slice.injEq, Option.some.injEq, Addr.mk.injEq] at e
    obtain ⟨⟨rfl, -⟩, rfl, rfl⟩ := e
    exact ⟨rfl, hnc, hcm, cur, hh, hcs, hg⟩
theorem OwnR.put (hk : ∀ x, (enc x).length = k) {base n c g i : Nat} {w : World} {ls : List α} (h : OwnR enc k T base w (.slice (some ⟨g, 0, none⟩) n c) ls) (hi : i < ls.length) (y : α) : OwnR enc k T base (w.setCells g (i * k) (enc y)) (.slice (some ⟨g, 0, none⟩) n c) (ls.set i y) := by
  have h1 := own_sets (enc y) (o := i * k) h
  have h2 : i * k + k ≤ ls.length * k := by rw [← Nat.succ_mul]; exact Nat.mul_le_mul_right k hi
  rw [setL_eq _ _ _ (by rw [hk, flat_len hk]; exact h2), hk, ← Nat.succ_mul, ← flat_set hk ls i y hi] at h1
  unfold OwnR
  rwa [List.length_set]
theorem OwnR.behind (hk : ∀ x, (enc x).length = k) {base n c g o : Nat} {w : World} {ls : List α} (vs : List Value) (h : OwnR enc k T base w (.slice (some ⟨g, 0, none⟩) n c) ls) (ho : ls.length * k ≤ o) : OwnR enc k T base (w.setCells g o vs) (.slice (some ⟨g, 0, none⟩) n c) ls := by
  have h1 := own_sets vs (o := o) h
  rwa [setL_out _ _ _ (by rw [flat_len hk]; exact ho)] at h1
end

end Go.Proofs.Ytmgdhgaodjkifaa
