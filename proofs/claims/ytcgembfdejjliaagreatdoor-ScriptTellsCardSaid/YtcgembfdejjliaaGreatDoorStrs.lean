/- Rows of texts that came in. -/
import Derived.Test.YtcgembfdejjliaaGreatDoorOpen
import Derived.Deep.Strs
namespace Go.Proofs.YtcgembfdejjliaaGreatDoor
open Go.ChangeShapes Go.WideShapes Go.ChangeAt Go.RowKit
set_option linter.unusedVariables false

/-- a slice of texts that came in -/
def IsTexts (w : World) (a : Option Addr) (len cap : Nat) (ss : Nat → ByteArray) : Prop :=
  len ≤ cap ∧ cap ≤ maxLen ∧ (∀ i, i < len → (ss i).size ≤ maxLen) ∧
  (len = 0 ∨ ∃ b o, a = some ⟨b, o, none⟩ ∧ ∀ i, i < len → w.cell? ⟨b, o + i, none⟩ = some (.string (ss i)))
theorem IsTexts.ext {w w' : World} {a : Option Addr} {len cap : Nat} {ss : Nat → ByteArray} (h : IsTexts w a len cap ss) (hb : Below w.heap.size w w') : IsTexts w' a len cap ss := by
  obtain ⟨h1, h2, h3, h4⟩ := h
  refine ⟨h1, h2, h3, ?_⟩
  rcases h4 with h4 | ⟨b, o, e, h4⟩
  · exact .inl h4
  · exact .inr ⟨b, o, e, fun i hi => ext_cell hb (h4 i hi)⟩

theorem open_texts {H : Type} {enc : TypeId × Value → H} {w : World} {base : Nat} {spare : Nat → Bool} {held : Bool} {t e : TypeId} {a : Option Addr} {len cap : Nat} {d : DataW H} {p : List MemPlace}
    (ht : Tryz.prog.underlying t = some (.slice e)) (he : Tryz.prog.underlying e = some .string) (hc : Tryz.prog.cellsOf e = 1) (h : DataW.Trod enc Tryz.prog w base spare held t (.slice a len cap) d p) :
    ∃ ss, IsTexts w a len cap ss ∧ (len = 0 ∨ ∃ el sp, d = .slice el sp ∧ len ≤ el.length + sp.length) := by
  obtain ⟨fuel, hf⟩ := h
  rcases Go.Deep.open_strs ht he hc hf with ⟨hcs, _⟩ | ⟨x, l, c, m, Sx, hcs, _, hl, hm, hmm, hd, hcell⟩
  · simp [Value.cells] at hcs
    obtain ⟨rfl, rfl, rfl⟩ := hcs
    exact ⟨fun _ => ⟨#[]⟩, ⟨Nat.le_refl _, Nat.zero_le _, fun i hi => by omega, .inl rfl⟩, .inl rfl⟩
  · simp [Value.cells] at hcs
    obtain ⟨rfl, rfl, rfl⟩ := hcs
    have hlm : len ≤ m := by rw [hmm]; split <;> omega
    simp only [Prod.mk.injEq] at hd
    refine ⟨Sx, ⟨hl, hm, fun i hi => (hcell i (by omega)).2, ?_⟩, .inr ⟨_, _, hd.1, by simp⟩⟩
    by_cases h0 : len = 0
    · exact .inl h0
    · obtain ⟨b, o, s⟩ := x
      have h1 := (hcell 0 (by omega)).1
      have hs : s = none := by simpa [Addr.add] using World.cell?_spot h1
      subst hs
      refine .inr ⟨b, o, rfl, fun i hi => ?_⟩
      have h2 := (hcell i (by omega)).1
      have e : (⟨b, o, none⟩ : Addr).add i = ⟨b, o + i, none⟩ := by
        by_cases hi0 : i = 0
        · subst hi0; simp [Addr.add]
        · simp [Addr.add, hi0]
      rw [e] at h2
      exact h2

end Go.Proofs.YtcgembfdejjliaaGreatDoor
