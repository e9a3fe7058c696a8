/- Rows of cards wherever they lie. -/
import Derived.Test.YtmgdhgaodjkifaaCardRow
namespace Go.Proofs.Ytmgdhgaodjkifaa
open Go.RowKit
set_option linter.unusedVariables false

/-- behind the address a the cards cs lie, in memory of whatever kind -/
def RAt (w : World) (a : Option Addr) (cs : List Cd) : Prop := cs = [] ∨ ∃ b o, a = some ⟨b, o, none⟩ ∧ ∀ q u, (flat cc cs)[q]? = some u → w.cell? ⟨b, o + q, none⟩ = some u
theorem RAt.ext {w w' : World} {a : Option Addr} {cs : List Cd} (h : RAt w a cs) (hb : Below w.heap.size w w') : RAt w' a cs := by
  rcases h with h | ⟨b, o, e, h⟩
  · exact .inl h
  · exact .inr ⟨b, o, e, fun q u hq => ext_cell hb (h q u hq)⟩
theorem CAt.raw {w : World} {a : Option Addr} {cs : List Cd} (h : CAt w a cs) : RAt w a cs := by
  rcases h with h | ⟨b, o, e, -, h⟩
  · exact .inl h
  · exact .inr ⟨b, o, e, h⟩
theorem RAt.take {w : World} {a : Option Addr} {cs : List Cd} (k : Nat) (h : RAt w a cs) : RAt w a (cs.take k) := by
  rcases h with h | ⟨b, o, e, h⟩
  · left; simp [h]
  · refine .inr ⟨b, o, e, fun q u hq => h q u ?_⟩
    rw [← flat_take cc_len] at hq
    rcases Nat.lt_or_ge q (k * 9) with h' | h'
    · rwa [List.getElem?_take_of_lt h'] at hq
    · rw [List.getElem?_eq_none (by simp; omega)] at hq; cases hq
theorem RAt.at {w : World} {b o i : Nat} {cs : List Cd} {x : Cd} (h : RAt w (some ⟨b, o, none⟩) cs) (hi : cs[i]? = some x) :
    w.cell? ⟨b, o + i * 9, none⟩ = some (.string x.a) ∧ w.cell? ⟨b, o + i * 9 + 1, none⟩ = some (.string x.i) ∧ w.cell? ⟨b, o + i * 9 + 2, none⟩ = some (.int .i64 x.s) ∧ w.cell? ⟨b, o + i * 9 + 3, none⟩ = some (.int .i64 x.o) ∧ w.cell? ⟨b, o + i * 9 + 4, none⟩ = some (.int .i64 x.l) ∧
    w.cell? ⟨b, o + i * 9 + 5, none⟩ = some (.int .i64 x.t) ∧ w.cell? ⟨b, o + i * 9 + 6, none⟩ = some (.int .i64 x.k) ∧ w.cell? ⟨b, o + i * 9 + 7, none⟩ = some (.int .i64 x.n) ∧ w.cell? ⟨b, o + i * 9 + 8, none⟩ = some (.bool x.g) := by
  rcases h with h | ⟨b', o', e, h⟩
  · rw [h] at hi; simp at hi
  · simp at e
    obtain ⟨rfl, rfl⟩ := e
    have g : ∀ q u, q < 9 → (cc x)[q]? = some u → w.cell? ⟨b, o + i * 9 + q, none⟩ = some u := fun q u hq hu => by rw [Nat.add_assoc]; exact h _ _ ((flat_at cc_len cs i x hi q hq).trans hu)
    exact ⟨g 0 _ (by omega) rfl, g 1 _ (by omega) rfl, g 2 _ (by omega) rfl, g 3 _ (by omega) rfl, g 4 _ (by omega) rfl, g 5 _ (by omega) rfl, g 6 _ (by omega) rfl, g 7 _ (by omega) rfl, g 8 _ (by omega) rfl⟩
theorem rat_of {w : World} {b o : Nat} {cs : List Cd} (h : ∀ i x, cs[i]? = some x → ∀ q u, (cc x)[q]? = some u → w.cell? ⟨b, o + (i * 9 + q), none⟩ = some u) : RAt w (some ⟨b, o, none⟩) cs := by
  refine .inr ⟨b, o, rfl, fun q u hq => ?_⟩
  have hl : q < cs.length * 9 := by
    rcases Nat.lt_or_ge q (cs.length * 9) with h' | h'
    · exact h'
    · rw [List.getElem?_eq_none (by rw [flat_len cc_len]; exact h')] at hq; cases hq
  have hi : q / 9 < cs.length := Nat.div_lt_of_lt_mul (by omega)
  have hx : cs[q / 9]? = some cs[q / 9] := List.getElem?_eq_getElem hi
  have e : q = q / 9 * 9 + q % 9 := by omega
  rw [e, flat_at cc_len cs (q / 9) _ hx (q % 9) (by omega)] at hq
  have := h _ _ hx _ _ hq
  rwa [← e] at this

end Go.Proofs.Ytmgdhgaodjkifaa
