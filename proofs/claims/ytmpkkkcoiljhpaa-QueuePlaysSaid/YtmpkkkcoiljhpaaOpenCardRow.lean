/- What comes in, opened: rows of cards. -/
import Derived.Test.YtmpkkkcoiljhpaaOpenCard
import Derived.Test.YtmpkkkcoiljhpaaRawCards
import Derived.Deep.Slices
namespace Go.Proofs.Ytmpkkkcoiljhpaa
open Go.ChangeShapes Go.WideShapes Go.ChangeAt Go.RowKit
set_option linter.unusedVariables false

theorem open_cardrow {H : Type} {enc : TypeId × Value → H} {w : World} {base : Nat} {spare : Nat → Bool} {held : Bool} {a : Option Addr} {len cap : Nat} {d : DataW H} {p : List MemPlace}
    (h : DataW.Trod enc Try.prog w base spare held 25 (.slice a len cap) d p) : ∃ cs : List Cd, cs.length = len ∧ len ≤ cap ∧ cap ≤ maxLen ∧ RAt w a cs := by
  obtain ⟨fuel, hf⟩ := h
  rcases Go.Deep.open_slice Try.underlying25 hf with ⟨hcs, _⟩ | ⟨x, l, c, m, n, D, Pl, hcs, hb, hl, hm, hmm, hx, hi⟩
  · simp [Value.cells] at hcs
    obtain ⟨rfl, rfl, rfl⟩ := hcs
    exact ⟨[], rfl, Nat.le_refl _, Nat.zero_le _, .inl rfl⟩
  · simp [Value.cells] at hcs
    obtain ⟨rfl, rfl, rfl⟩ := hcs
    have hlm : len ≤ m := by rw [hmm]; split <;> omega
    rw [show Try.prog.cellsOf 39 = 9 from by kernel_rfl] at hi
    have hk : ∀ i, ∃ k : Cd, i < len → ∀ q u, (cc k)[q]? = some u → w.cell? ((x.add (i * 9)).add q) = some u := by
      intro i
      by_cases h : i < len
      · obtain ⟨cs', hc, ht⟩ := hi i (by omega)
        obtain ⟨a, i', s, o, l, t, k, n, g, rfl, -⟩ := open_card_cells ht
        obtain ⟨_, _, hat⟩ := World.cells?_some hc
        refine ⟨⟨a, i', s, o, l, t, k, n, g⟩, fun _ q u hu => ?_⟩
        have hq : q < 9 := by
          rcases Nat.lt_or_ge q 9 with h' | h'
          · exact h'
          · rw [List.getElem?_eq_none (by simpa [cc] using h')] at hu; cases hu
        exact (hat q hq).trans hu
      · exact ⟨Cd.zero, fun h' => absurd h' h⟩
    obtain ⟨f, hf'⟩ := Classical.axiomOfChoice hk
    refine ⟨(List.range len).map f, by simp, hl, hm, ?_⟩
    by_cases h0 : len = 0
    · left; subst h0; rfl
    · obtain ⟨b, o, s⟩ := x
      have h1 := hf' 0 (by omega) 0 _ rfl
      have hs : s = none := by simpa [Addr.add] using World.cell?_spot h1
      subst hs
      refine rat_of fun i y hi' q u hu => ?_
      have hil : i < len := by
        rcases Nat.lt_or_ge i len with h | h
        · exact h
        · rw [List.getElem?_eq_none (by simpa using h)] at hi'; cases hi'
      have e : f i = y := by simpa [hil] using hi'
      have h2 := hf' i hil q u (by rw [e]; exact hu)
      rw [add_off, add_off, Nat.add_assoc] at h2
      exact h2

end Go.Proofs.Ytmpkkkcoiljhpaa
