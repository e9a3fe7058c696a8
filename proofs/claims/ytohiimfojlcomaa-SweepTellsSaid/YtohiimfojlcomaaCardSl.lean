/- Rows of cards: read, copied. -/
import Derived.Test.YtohiimfojlcomaaCardRow
import Derived.Test.YtohiimfojlcomaaRawCards
import Derived.Test.YtohiimfojlcomaaBytes
import Derived.Test.YtohiimfojlcomaaRim
import Derived.Lib.SliceRun
import Derived.Lib.MinMax
namespace Go.Proofs.Ytohiimfojlcomaa
open Go.RowKit
set_option linter.unusedVariables false

/-- a slice of cards that may be read -/
def SlC (w : World) (v : Value) (cs : List Cd) : Prop := ∃ a c, v = .slice a cs.length c ∧ cs.length ≤ c ∧ c ≤ maxLen ∧ CAt w a cs ∧ ((a = none ∧ c = 0) ∨ ∃ b o, a = some ⟨b, o, none⟩)
theorem SlC.ext {w w' : World} {v : Value} {cs : List Cd} (h : SlC w v cs) (hb : Below w.heap.size w w') : SlC w' v cs := by
  obtain ⟨a, c, h1, h2, h3, h4, h5⟩ := h
  exact ⟨a, c, h1, h2, h3, h4.ext hb, h5⟩
theorem OwnC.sl {base : Nat} {w : World} {v : Value} {ls : List Cd} (h : OwnC base w v ls) : SlC w v ls := by
  obtain ⟨a, c, h1, h2, h3, h4, h5, h6⟩ := h.read
  refine ⟨a, c, h1, h2, h3, h4, ?_⟩
  rcases h6 with ⟨e1, e2, _⟩ | ⟨g, e⟩
  · exact .inl ⟨e1, e2⟩
  · exact .inr ⟨g, 0, e⟩
/-- have the cards one key? -/
def kq (x y : Cd) : Bool := decide (x.a = y.a) && decide (x.i = y.i)
theorem kq_yes {x y : Cd} (h : x.a = y.a) (h1 : x.i = y.i) : kq x y = true := by simp [kq, h, h1]
theorem kq_no {x y : Cd} (h : x.a ≠ y.a ∨ x.i ≠ y.i) : kq x y = false := by
  simp [kq]
  intro e
  rcases h with h | h
  · exact absurd e h
  · exact h
theorem drop_at {α : Type} {l : List α} {i : Nat} {x : α} (h : l[i]? = some x) : l.drop i = x :: l.drop (i + 1) := by
  have hlt : i < l.length := by
    rcases Nat.lt_or_ge i l.length with h' | h'
    · exact h'
    · rw [List.getElem?_eq_none h'] at h; cases h
  rw [List.drop_eq_getElem_cons hlt]
  rw [List.getElem?_eq_getElem hlt] at h
  cases h
  rfl
theorem Rim.grown' {b : Nat} {u w w' : World} {row : Option Nat} (h : Rim b u w) (hg : w.grownBy w' row) (hr : ∀ q, row = some q → u.heap.size ≤ q) : Rim b u w' :=
  ⟨hg.os.trans h.os, hg.tape.trans h.tape, hg.output.trans h.output, Nat.le_trans h.size hg.size, fun k hk hl => (hg.block k (Nat.lt_of_lt_of_le hl h.size) (fun e => by have := hr k e.symm; omega)).trans (h.block k hk hl)⟩
theorem cat_cells {w : World} {b o : Nat} {cs : List Cd} (h : CAt w (some ⟨b, o, none⟩) cs) (j : Nat) (u : Value) (hj : (flat cc cs)[j]? = some u) : w.cell? ⟨b, o + j, none⟩ = some u := by
  rcases h with h | ⟨b', o', e, _, h⟩
  · rw [h] at hj; simp [flat] at hj
  · simp at e
    obtain ⟨rfl, rfl⟩ := e
    exact h j u hj
theorem run_append_nil (w : World) (ty : TypeId) (a : Option Addr) (n c : Nat) (h : n ≤ c) : (Builtin.append_ #[48, 48] ty #[.slice a n c, .slice none 0 0]).run Try.prog w = .ok (.slice a n c) w := by
  obtain ⟨i0, hi, hz0, hz1, hz2⟩ := info_parts' info_card
  cases a <;> simp [Builtin.append_, run_underlying Try.underlying48, sizeOf, typeInfo, hi, Builtin.lenOf, h, Builtin.firstCells, storeCells]


end Go.Proofs.Ytohiimfojlcomaa
