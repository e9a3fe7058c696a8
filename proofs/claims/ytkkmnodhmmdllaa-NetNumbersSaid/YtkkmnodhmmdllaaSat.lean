/- Rows of structs as they lie in memory. -/
import Derived.Test.YtkkmnodhmmdllaaRowGen
namespace Go.Proofs.Ytkkmnodhmmdllaa
open Go.RowKit
set_option linter.unusedVariables false
set_option linter.unusedSimpArgs false

section
variable {α : Type} {enc : α → List Value} {k : Nat} {T : TypeId}
/-- behind the address a the things ls lie -/
def SAt (enc : α → List Value) (k : Nat) (T : TypeId) (w : World) (a : Option Addr) (ls : List α) : Prop := ls = [] ∨ ∃ b o, a = some ⟨b, o, none⟩ ∧ (∃ cur, w.heap[b]? = some (.cells cur T (0, 0))) ∧ ∀ q u, (flat enc ls)[q]? = some u → w.cell? ⟨b, o + q, none⟩ = some u
theorem SAt.nil (w : World) (a : Option Addr) : SAt enc k T w a [] := .inl rfl
theorem SAt.keep {w w' : World} {a : Option Addr} {ls : List α} (h : SAt enc k T w a ls) (hk : ∀ (b : Nat) (cur : Array Value), w.heap[b]? = some (.cells cur T (0, 0)) → (∃ o, a = some ⟨b, o, none⟩) → w'.heap[b]? = w.heap[b]?) : SAt enc k T w' a ls := by
  rcases h with h | ⟨b, o, e, ⟨cur, hb⟩, h⟩
  · exact .inl h
  · have e1 := hk b cur hb ⟨o, e⟩
    exact .inr ⟨b, o, e, ⟨cur, e1.trans hb⟩, fun q u hq => (World.cell?_of_block (w := w) e1).trans (h q u hq)⟩
theorem SAt.ext {w w' : World} {a : Option Addr} {ls : List α} (h : SAt enc k T w a ls) (hb : Below w.heap.size w w') : SAt enc k T w' a ls :=
  h.keep fun b cur hc _ => hb.block b (blk_lt hc)
theorem SAt.drop (hk : ∀ x, (enc x).length = k) {w : World} {b o : Nat} {ls : List α} (n : Nat) (h : SAt enc k T w (some ⟨b, o, none⟩) ls) : SAt enc k T w (some ⟨b, o + n * k, none⟩) (ls.drop n) := by
  rcases h with h | ⟨b', o', e, hb, h⟩
  · left; simp [h]
  · simp at e
    obtain ⟨rfl, rfl⟩ := e
    refine .inr ⟨_, _, rfl, hb, fun q u hq => ?_⟩
    rw [← flat_drop hk, List.getElem?_drop] at hq
    rw [Nat.add_assoc]
    exact h _ _ hq
theorem SAt.take (hk : ∀ x, (enc x).length = k) {w : World} {a : Option Addr} {ls : List α} (n : Nat) (h : SAt enc k T w a ls) : SAt enc k T w a (ls.take n) := by
  rcases h with h | ⟨b, o, e, hb, h⟩
  · left; simp [h]
  · refine .inr ⟨b, o, e, hb, fun q u hq => h q u ?_⟩
    rw [← flat_take hk] at hq
    rcases Nat.lt_or_ge q (n * k) with h' | h'
    · rwa [List.getElem?_take_of_lt h'] at hq
    · rw [List.getElem?_eq_none (by simp; omega)] at hq; cases hq
/-- one cell of one of them -/
theorem SAt.get (hk : ∀ x, (enc x).length = k) {w : World} {b o i : Nat} {ls : List α} {x : α} (h : SAt enc k T w (some ⟨b, o, none⟩) ls) (hi : ls[i]? = some x) (q : Nat) (u : Value) (hq : (enc x)[q]? = some u) : w.cell? ⟨b, o + i * k + q, none⟩ = some u := by
  rcases h with h | ⟨b', o', e, hb, h⟩
  · rw [h] at hi; simp at hi
  · simp at e
    obtain ⟨rfl, rfl⟩ := e
    have hlt : q < k := by
      rcases Nat.lt_or_ge q k with h' | h'
      · exact h'
      · rw [List.getElem?_eq_none (by rw [hk]; exact h')] at hq; cases hq
    rw [Nat.add_assoc]
    exact h _ _ ((flat_at hk ls i x hi q hlt).trans hq)
/-- an own row, read -/
theorem OwnR.read (hk : ∀ x, (enc x).length = k) {base : Nat} {w : World} {v : Value} {ls : List α} (h : OwnR enc k T base w v ls) : ∃ a c, v = .slice a ls.length c ∧ ls.length ≤ c ∧ c ≤ maxLen ∧ SAt enc k T w a ls ∧ (∀ b o, a = some ⟨b, o, none⟩ → base ≤ b ∧ b < w.heap.size ∧ o = 0) ∧ ((a = none ∧ c = 0 ∧ ls = []) ∨ ∃ g, a = some ⟨g, 0, none⟩) := by
  obtain ⟨a, c, rfl, h1, h2, h3⟩ := h.form
  rcases h3 with ⟨rfl, rfl, e⟩ | ⟨g, rfl, h4, h5⟩
  · exact ⟨none, 0, rfl, h1, h2, .inl e, fun b o e => (by cases e), .inl ⟨rfl, rfl, e⟩⟩
  · refine ⟨_, c, rfl, h1, h2, .inr ⟨g, 0, rfl, ?_, fun q u hq => by rw [Nat.zero_add]; exact own_rdR hk h hq⟩, fun b o e => (by cases e; exact ⟨h4, h5, rfl⟩), .inr ⟨g, rfl⟩⟩
    rcases h.2 with ⟨e, _⟩ | ⟨g', cap, cur, e, hg, hh, _⟩
    · cases e
    · simp only [Value.slice.injEq, Option.some.injEq, Addr.mk.injEq] at e
      obtain ⟨⟨rfl, -⟩, -⟩ := e
      exact ⟨cur, hh⟩
end

end Go.Proofs.Ytkkmnodhmmdllaa
