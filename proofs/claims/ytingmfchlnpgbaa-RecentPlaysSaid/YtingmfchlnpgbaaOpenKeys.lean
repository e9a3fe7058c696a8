/- What comes in, opened: keys. -/
import Derived.Test.YtingmfchlnpgbaaRows
import Derived.Test.YtingmfchlnpgbaaOpen
import Derived.Test.YtingmfchlnpgbaaKeys
import Derived.Deep.Slices
import Derived.ProofKit
import Derived.OpenShut
import Derived.ShutString
import Derived.ChangeOld
import Derived.Below
import Derived.Lib.SmallJoins
import Derived.ChangeArms
namespace Go.Proofs.Ytingmfchlnpgbaa
open Go.ChangeShapes Go.WideShapes Go.ChangeAt Go.RowKit
set_option linter.unusedVariables false

theorem open_key_cells {H : Type} {enc : TypeId × Value → H} {w : World} {base fuel : Nat} {spare : Nat → Bool} {held : Bool} {cs : List Value} {x : DataW H × List MemPlace} (h : DataW.trod enc Try.prog w base spare held fuel 34 cs = some x) :
    ∃ (a : ByteArray) (i : ByteArray), cs = [.string a, .string i] ∧ a.size ≤ maxLen ∧ i.size ≤ maxLen := by
  obtain ⟨xs, m, -, -, hl, hx, hf⟩ := DataW.trod_struct Try.underlying34 h
  rw [show Try.prog.cellsOf 34 = 2 from by kernel_rfl] at hl
  match cs, hl with
  | [c0, c1], _ =>
  match xs, hx with
  | [x0, x1], _ =>
  have h0 := (hf 0 _ rfl).trans (show [x0, x1][0]? = some x0 from rfl)
  have h1 := (hf 1 _ rfl).trans (show [x0, x1][1]? = some x1 from rfl)
  have k0 : Try.prog.cellsOf 9 = 1 := by kernel_rfl
  obtain ⟨a, e0, _, w_a⟩ := DataW.trod_string Try.underlying9 h0
  simp [k0] at e0
  subst e0
  have k1 : Try.prog.cellsOf 9 = 1 := by kernel_rfl
  obtain ⟨i, e1, _, w_i⟩ := DataW.trod_string Try.underlying9 h1
  simp [k1] at e1
  subst e1
  exact ⟨a, i, rfl, w_a, w_i⟩

theorem open_keyrow {H : Type} {enc : TypeId × Value → H} {w : World} {base : Nat} {spare : Nat → Bool} {held : Bool} {a : Option Addr} {len cap : Nat} {d : DataW H} {p : List MemPlace}
    (h : DataW.Trod enc Try.prog w base spare held 24 (.slice a len cap) d p) : ∃ ks : List Ky, ks.length = len ∧ len ≤ maxLen ∧ KAt w a ks := by
  obtain ⟨fuel, hf⟩ := h
  rcases Go.Deep.open_slice Try.underlying24 hf with ⟨hcs, _⟩ | ⟨x, l, c, m, n, D, Pl, hcs, hb, hl, hm, hmm, hx, hi⟩
  · simp [Value.cells] at hcs
    obtain ⟨rfl, rfl, rfl⟩ := hcs
    exact ⟨[], rfl, Nat.zero_le _, .inl rfl⟩
  · simp [Value.cells] at hcs
    obtain ⟨rfl, rfl, rfl⟩ := hcs
    have hlm : len ≤ m := by rw [hmm]; split <;> omega
    rw [show Try.prog.cellsOf 34 = 2 from by kernel_rfl] at hi
    have hk : ∀ i, ∃ k : Ky, i < len → w.cell? ((x.add (i * 2)).add 0) = some (.string k.1) ∧ w.cell? ((x.add (i * 2)).add 1) = some (.string k.2) := by
      intro i
      by_cases h : i < len
      · obtain ⟨cs', hc, ht⟩ := hi i (by omega)
        obtain ⟨s1, s2, rfl, _, _⟩ := open_key_cells ht
        obtain ⟨_, _, hat⟩ := World.cells?_some hc
        exact ⟨(s1, s2), fun _ => ⟨hat 0 (by omega), hat 1 (by omega)⟩⟩
      · exact ⟨(⟨#[]⟩, ⟨#[]⟩), fun h' => absurd h' h⟩
    obtain ⟨f, hf'⟩ := Classical.axiomOfChoice hk
    refine ⟨(List.range len).map f, by simp, by omega, ?_⟩
    by_cases h0 : len = 0
    · left; subst h0; rfl
    · obtain ⟨b, o, s⟩ := x
      have h1 := (hf' 0 (by omega)).1
      have hs : s = none := by simpa [Addr.add] using World.cell?_spot h1
      subst hs
      have ad : ∀ q, (⟨b, o, none⟩ : Addr).add q = ⟨b, o + q, none⟩ := fun q => by
        by_cases hq : q = 0
        · subst hq; simp [Addr.add]
        · simp [Addr.add, hq]
      have ad2 : ∀ q r, ((⟨b, o, none⟩ : Addr).add q).add r = ⟨b, o + q + r, none⟩ := fun q r => by
        rw [ad]
        by_cases hr : r = 0
        · subst hr; simp [Addr.add]
        · simp [Addr.add, hr]
      refine .inr ⟨b, o, rfl, fun i k hi' => ?_⟩
      have hil : i < len := by
        rcases Nat.lt_or_ge i len with h | h
        · exact h
        · rw [List.getElem?_eq_none (by simpa using h)] at hi'; cases hi'
      have e : f i = k := by simpa [hil] using hi'
      have h2 := hf' i hil
      rw [ad2, ad2, e] at h2
      exact ⟨by simpa using h2.1, h2.2⟩

end Go.Proofs.Ytingmfchlnpgbaa
