/- Rows of structs, whatever their cells. -/
import Derived.Test.YtcgembfdejjliaaGreatDoorRim
import Derived.Laws.AppendOwn
namespace Go.Proofs.YtcgembfdejjliaaGreatDoor
open Go.RowKit
set_option linter.unusedVariables false

section
variable {α : Type} {enc : α → List Value} {k : Nat} {T : TypeId}

/-- the cells of a row -/
def flat (enc : α → List Value) (ls : List α) : List Value := ls.flatMap enc
theorem flat_nil : flat enc ([] : List α) = [] := rfl
theorem flat_cons (x : α) (ls : List α) : flat enc (x :: ls) = enc x ++ flat enc ls := by simp [flat]
theorem flat_app (xs ys : List α) : flat enc (xs ++ ys) = flat enc xs ++ flat enc ys := by simp [flat]
theorem flat_snoc (xs : List α) (x : α) : flat enc (xs ++ [x]) = flat enc xs ++ enc x := by simp [flat]
theorem flat_len (hk : ∀ x, (enc x).length = k) (ls : List α) : (flat enc ls).length = ls.length * k := by
  induction ls with
  | nil => simp [flat]
  | cons x xs ih => rw [flat_cons, List.length_append, ih, hk, List.length_cons, Nat.succ_mul]; omega
theorem flat_take (hk : ∀ x, (enc x).length = k) (ls : List α) (i : Nat) : (flat enc ls).take (i * k) = flat enc (ls.take i) := by
  induction ls generalizing i with
  | nil => simp [flat]
  | cons x xs ih =>
    cases i with
    | zero => simp [flat]
    | succ i =>
      rw [flat_cons, List.take_succ_cons, flat_cons, ← ih i, Nat.succ_mul, List.take_append, hk, List.take_of_length_le (by rw [hk]; omega)]
      congr 2
      omega
theorem flat_drop (hk : ∀ x, (enc x).length = k) (ls : List α) (i : Nat) : (flat enc ls).drop (i * k) = flat enc (ls.drop i) := by
  induction ls generalizing i with
  | nil => simp [flat]
  | cons x xs ih =>
    cases i with
    | zero => simp [flat]
    | succ i =>
      rw [flat_cons, List.drop_succ_cons, ← ih i, Nat.succ_mul, List.drop_append, hk, List.drop_of_length_le (by rw [hk]; omega), List.nil_append]
      congr 1
      omega
theorem flat_at (hk : ∀ x, (enc x).length = k) (ls : List α) (i : Nat) (x : α) (hi : ls[i]? = some x) (q : Nat) (hq : q < k) : (flat enc ls)[i * k + q]? = (enc x)[q]? := by
  have h := flat_drop hk ls i
  have hd : ls.drop i = x :: ls.drop (i + 1) := by
    have hlt : i < ls.length := by
      rcases Nat.lt_or_ge i ls.length with h | h
      · exact h
      · rw [List.getElem?_eq_none h] at hi; cases hi
    rw [List.drop_eq_getElem_cons hlt]
    rw [List.getElem?_eq_getElem hlt] at hi
    cases hi
    rfl
  rw [hd, flat_cons] at h
  rw [← List.getElem?_drop, h, List.getElem?_append_left (by rw [hk]; exact hq)]
theorem flat_one (h1 : ∀ x, ∀ u ∈ enc x, u.oneCell' = true) (ls : List α) : ∀ u ∈ flat enc ls, u.oneCell' = true := by
  intro u hu
  simp only [flat, List.mem_flatMap] at hu
  obtain ⟨x, _, h⟩ := hu
  exact h1 x u h
theorem flat_set (hk : ∀ x, (enc x).length = k) (ls : List α) (i : Nat) (y : α) (hi : i < ls.length) : flat enc (ls.set i y) = (flat enc ls).take (i * k) ++ enc y ++ (flat enc ls).drop ((i + 1) * k) := by
  rw [flat_take hk, flat_drop hk, List.set_eq_take_append_cons_drop, if_pos hi, flat_app, flat_cons, List.append_assoc]

/-- a row in blocks of its own -/
def OwnR (enc : α → List Value) (k : Nat) (T : TypeId) (base : Nat) (w : World) (v : Value) (ls : List α) : Prop := w.ownsRow base T k v ls.length (flat enc ls)
theorem OwnR.form {base : Nat} {w : World} {v : Value} {ls : List α} (h : OwnR enc k T base w v ls) : ∃ a c, v = .slice a ls.length c ∧ ls.length ≤ c ∧ c ≤ maxLen ∧ ((a = none ∧ c = 0 ∧ ls = []) ∨ ∃ g, a = some ⟨g, 0, none⟩ ∧ base ≤ g ∧ g < w.heap.size) := by
  rcases h.2 with ⟨rfl, h0⟩ | ⟨g, cap, cur, rfl, hg, hh, hnc, hcm, hcs, ht⟩
  · exact ⟨none, 0, by rw [h0], by omega, by simp [maxLen], .inl ⟨rfl, rfl, List.eq_nil_of_length_eq_zero h0⟩⟩
  · exact ⟨_, _, rfl, hnc, hcm, .inr ⟨g, rfl, hg, blk_lt hh⟩⟩
theorem OwnR.addr {base n c : Nat} {a : Option Addr} {w : World} {ls : List α} (h : OwnR enc k T base w (.slice a n c) ls) (hl : ls.length = n) (hn : 0 < n) : ∃ g, a = some ⟨g, 0, none⟩ ∧ base ≤ g ∧ g < w.heap.size ∧ n ≤ c ∧ c ≤ maxLen := by
  obtain ⟨a', c', e, h1, h2, h3⟩ := h.form
  simp only [Value.slice.injEq] at e
  obtain ⟨rfl, rfl, rfl⟩ := e
  rcases h3 with ⟨-, -, e⟩ | ⟨g, e, h4, h5⟩
  · rw [e] at hn; simp at hn
  · exact ⟨g, e, h4, h5, h1, h2⟩
theorem own_rd (hk : ∀ x, (enc x).length = k) {base : Nat} {w : World} {g n c : Nat} {ls : List α} (h : OwnR enc k T base w (.slice (some ⟨g, 0, none⟩) n c) ls) {q : Nat} {u : Value} (hq : (flat enc ls)[q]? = some u) : w.cell? ⟨g, q, none⟩ = some u := by
  rcases h.2 with ⟨e, _⟩ | ⟨g', cap, cur, e, hg, hh, hnc, hcm, hcs, ht⟩
  · cases e
  · simp only [Value.slice.injEq, Option.some.injEq, Addr.mk.injEq] at e
    obtain ⟨⟨rfl, -⟩, rfl, rfl⟩ := e
    rw [← ht] at hq
    have hq1 : q < ls.length * k := by
      rcases Nat.lt_or_ge q (ls.length * k) with h | h
      · exact h
      · rw [List.getElem?_eq_none (by simp; omega)] at hq; cases hq
    rw [List.getElem?_take_of_lt hq1] at hq
    simp only [World.cell?, hh]
    simpa using hq
theorem OwnR.at (hk : ∀ x, (enc x).length = k) {base : Nat} {w : World} {g n c i : Nat} {ls : List α} {x : α} (h : OwnR enc k T base w (.slice (some ⟨g, 0, none⟩) n c) ls) (hi : ls[i]? = some x) (q : Nat) (u : Value) (hq : (enc x)[q]? = some u) : w.cell? ⟨g, i * k + q, none⟩ = some u := by
  refine own_rd hk h ?_
  rw [flat_at hk ls i x hi q ?_]
  · exact hq
  · rcases Nat.lt_or_ge q k with h' | h'
    · exact h'
    · rw [List.getElem?_eq_none (by rw [hk]; exact h')] at hq; cases hq
theorem OwnR.ext {base : Nat} {w w' : World} {v : Value} {ls : List α} (h : OwnR enc k T base w v ls) (hb : Below w.heap.size w w') : OwnR enc k T base w' v ls := ownsRow_ext h hb
theorem OwnR.base {base base' : Nat} {w : World} {v : Value} {ls : List α} (h : OwnR enc k T base w v ls) (hb : base' ≤ base) : OwnR enc k T base' w v ls := ownsRow_base h hb
theorem OwnR.nil (base : Nat) (w : World) : OwnR enc k T base w (.slice none 0 0) [] := by
  refine ⟨by simp [flat], .inl ⟨rfl, rfl⟩⟩
theorem OwnR.made (base : Nat) (w : World) (h : base ≤ w.heap.size) : OwnR enc k T base (w.alloc (.cells #[] T)) (.slice (some ⟨w.heap.size, 0, none⟩) 0 0) [] := by
  have := World.ownsRow_made (size := k) (e := T) w #[] 0 h (by unfold maxLen; omega) (by simp)
  simpa [OwnR, flat] using this
theorem OwnR.take (hk : ∀ x, (enc x).length = k) {base : Nat} {w : World} {g n c i : Nat} {ls : List α} (h : OwnR enc k T base w (.slice (some ⟨g, 0, none⟩) n c) ls) (hi : i ≤ ls.length) : OwnR enc k T base w (.slice (some ⟨g, 0, none⟩) i c) (ls.take i) := by
  rcases h.2 with ⟨e, _⟩ | ⟨g', cap, cur, e, hg, hh, hnc, hcm, hcs, ht⟩
  · cases e
  · simp only [Value.slice.injEq, Option.some.injEq, Addr.mk.injEq] at e
    obtain ⟨⟨rfl, -⟩, rfl, rfl⟩ := e
    have hl : (ls.take i).length = i := by rw [List.length_take]; omega
    refine ⟨flat_len hk _, .inr ⟨_, _, cur, by rw [hl], hg, hh, by omega, hcm, hcs, ?_⟩⟩
    rw [hl, ← flat_take hk, ← ht, List.take_take]
    congr 1
    exact (Nat.min_eq_left (Nat.mul_le_mul_right k hi)).symm
theorem add_off (g q j : Nat) : (⟨g, q, none⟩ : Addr).add j = ⟨g, q + j, none⟩ := by
  by_cases h0 : j = 0
  · subst h0; simp [Addr.add]
  · simp [Addr.add, h0]
theorem own_form {w : World} {base size n : Nat} {e : TypeId} {v : Value} {vs : List Value} (h : w.ownsRow base e size v n vs) : ∃ a n c, v = .slice a n c := by
  rcases h.2 with ⟨e, _⟩ | ⟨g, cp, cur, e, _⟩
  · exact ⟨_, _, _, e⟩
  · exact ⟨_, _, _, e⟩
end

end Go.Proofs.YtcgembfdejjliaaGreatDoor
