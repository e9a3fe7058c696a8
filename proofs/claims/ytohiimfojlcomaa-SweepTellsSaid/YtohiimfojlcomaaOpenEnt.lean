/- What comes in, opened: rows of entries. -/
import Derived.Test.YtohiimfojlcomaaOpenCard
import Derived.Test.YtohiimfojlcomaaTdS
import Derived.Deep.Slices
namespace Go.Proofs.Ytohiimfojlcomaa
open Go.ChangeShapes Go.WideShapes Go.ChangeAt Go.RowKit
set_option linter.unusedVariables false
set_option linter.unusedSimpArgs false

theorem open_ent_cells {H : Type} {enc : TypeId × Value → H} {w : World} {base fuel : Nat} {spare : Nat → Bool} {held : Bool} {cs : List Value} {x : DataW H × List MemPlace} (h : DataW.trod enc Try.prog w base spare held fuel 36 cs = some x) :
    ∃ y : En, cs = ec y := by
  obtain ⟨xs, m, -, -, hl, hx, hf⟩ := DataW.trod_struct Try.underlying36 h
  rw [show Try.prog.cellsOf 36 = 10 from by kernel_rfl] at hl
  match cs, hl with
  | [c0, c1, c2, c3, c4, c5, c6, c7, c8, c9], _ =>
  match xs, hx with
  | [x0, x1], _ =>
  have h0 := (hf 0 _ rfl).trans (show [x0, x1][0]? = some x0 from rfl)
  have h1 := (hf 1 _ rfl).trans (show [x0, x1][1]? = some x1 from rfl)
  have k0 : Try.prog.cellsOf 34 = 9 := by kernel_rfl
  obtain ⟨a, i, s, o, l, t, k, n, g, e0, -⟩ := open_card_cells h0
  simp [k0] at e0
  obtain ⟨rfl, rfl, rfl, rfl, rfl, rfl, rfl, rfl, rfl⟩ := e0
  have k1 : Try.prog.cellsOf 2 = 1 := by kernel_rfl
  obtain ⟨sn, e1, _, w_s⟩ := DataW.trod_int (k := .i64) Try.underlying2 h1
  simp [k1] at e1
  subst e1
  exact ⟨⟨⟨a, i, s, o, l, t, k, n, g⟩, sn⟩, rfl⟩

theorem eat_of {w : World} {b o : Nat} {cs : List En} (hb : b < w.heap.size) (h : ∀ i x, cs[i]? = some x → ∀ q u, (ec x)[q]? = some u → w.cell? ⟨b, o + (i * 10 + q), none⟩ = some u) : EAt w (some ⟨b, o, none⟩) cs := by
  refine .inr ⟨b, o, rfl, hb, fun q u hq => ?_⟩
  have hl : q < cs.length * 10 := by
    rcases Nat.lt_or_ge q (cs.length * 10) with h' | h'
    · exact h'
    · rw [List.getElem?_eq_none (by rw [flat_len ec_len]; exact h')] at hq; cases hq
  have hi : q / 10 < cs.length := Nat.div_lt_of_lt_mul (by omega)
  have hx : cs[q / 10]? = some cs[q / 10] := List.getElem?_eq_getElem hi
  have e : q = q / 10 * 10 + q % 10 := by omega
  rw [e, flat_at ec_len cs (q / 10) _ hx (q % 10) (by omega)] at hq
  have := h _ _ hx _ _ hq
  rwa [← e] at this

theorem open_entrow {H : Type} {enc : TypeId × Value → H} {w : World} {base : Nat} {spare : Nat → Bool} {held : Bool} {a : Option Addr} {len cap : Nat} {d : DataW H} {p : List MemPlace}
    (h : DataW.Trod enc Try.prog w base spare held 23 (.slice a len cap) d p) : ∃ cs : List En, cs.length = len ∧ len ≤ cap ∧ cap ≤ maxLen ∧ EAt w a cs := by
  obtain ⟨fuel, hf⟩ := h
  rcases Go.Deep.open_slice Try.underlying23 hf with ⟨hcs, _⟩ | ⟨x, l, c, m, n, D, Pl, hcs, hb, hl, hm, hmm, hx, hi⟩
  · simp [Value.cells] at hcs
    obtain ⟨rfl, rfl, rfl⟩ := hcs
    exact ⟨[], rfl, Nat.le_refl _, Nat.zero_le _, .inl rfl⟩
  · simp [Value.cells] at hcs
    obtain ⟨rfl, rfl, rfl⟩ := hcs
    have hlm : len ≤ m := by rw [hmm]; split <;> omega
    rw [show Try.prog.cellsOf 36 = 10 from by kernel_rfl] at hi
    have hk : ∀ i, ∃ k : En, i < len → ∀ q u, (ec k)[q]? = some u → w.cell? ((x.add (i * 10)).add q) = some u := by
      intro i
      by_cases h : i < len
      · obtain ⟨cs', hc, ht⟩ := hi i (by omega)
        obtain ⟨y, rfl⟩ := open_ent_cells ht
        obtain ⟨_, _, hat⟩ := World.cells?_some hc
        refine ⟨y, fun _ q u hu => ?_⟩
        have hq : q < 10 := by
          rcases Nat.lt_or_ge q 10 with h' | h'
          · exact h'
          · rw [List.getElem?_eq_none (by simpa [ec] using h')] at hu; cases hu
        exact (hat q hq).trans hu
      · exact ⟨⟨Cd.zero, 0⟩, fun h' => absurd h' h⟩
    obtain ⟨f, hf'⟩ := Classical.axiomOfChoice hk
    refine ⟨(List.range len).map f, by simp, hl, hm, ?_⟩
    by_cases h0 : len = 0
    · left; subst h0; rfl
    · obtain ⟨b, o, s⟩ := x
      have h1 := hf' 0 (by omega) 0 _ rfl
      have hs : s = none := by simpa [Addr.add] using World.cell?_spot h1
      subst hs
      have hlt : b < w.heap.size := by
        have := h1
        rw [add_off, add_off] at this
        exact cell_lt this
      refine eat_of hlt fun i y hi' q u hu => ?_
      have hil : i < len := by
        rcases Nat.lt_or_ge i len with h | h
        · exact h
        · rw [List.getElem?_eq_none (by simpa using h)] at hi'; cases hi'
      have e : f i = y := by simpa [hil] using hi'
      have h2 := hf' i hil q u (by rw [e]; exact hu)
      rw [add_off, add_off, Nat.add_assoc] at h2
      exact h2

end Go.Proofs.Ytohiimfojlcomaa
