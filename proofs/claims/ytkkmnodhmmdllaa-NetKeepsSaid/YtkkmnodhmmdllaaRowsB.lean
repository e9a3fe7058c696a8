/- Rows of rows of bytes that came in. -/
import Derived.Test.YtkkmnodhmmdllaaBytes
import Derived.Deep.Matrix
namespace Go.Proofs.Ytkkmnodhmmdllaa
open Go.ChangeShapes Go.WideShapes Go.ChangeAt Go.RowKit
set_option linter.unusedVariables false

/-- a slice of slices of bytes that came in -/
def IsRows (w : World) (a : Option Addr) (len cap : Nat) (ro : Nat → Option Addr) (rl rc : Nat → Nat) (rx : Nat → List Int) : Prop :=
  len ≤ cap ∧ cap ≤ maxLen ∧ (∀ i, i < len → BAt w (ro i) (rx i) ∧ (rx i).length = rl i ∧ rl i ≤ rc i ∧ rc i ≤ maxLen ∧ Wb (rx i)) ∧
  (len = 0 ∨ ∃ b o, a = some ⟨b, o, none⟩ ∧ ∀ i, i < len → w.cell? ⟨b, o + i, none⟩ = some (.slice (ro i) (rl i) (rc i)))

theorem open_rows {H : Type} {enc : TypeId × Value → H} {w : World} {base : Nat} {held : Bool} {t e q : TypeId} {a : Option Addr} {len cap : Nat} {d : DataW H} {p : List MemPlace}
    (ht : Try.prog.underlying t = some (.slice e)) (he : Try.prog.underlying e = some (.slice q)) (hq : Try.prog.underlying q = some (.int .u8)) (ce : Try.prog.cellsOf e = 1) (cq : Try.prog.cellsOf q = 1)
    (h : DataW.Trod enc Try.prog w base (fun _ => true) held t (.slice a len cap) d p) :
    ∃ ro rl rc rx, IsRows w a len cap ro rl rc rx := by
  obtain ⟨fuel, hf⟩ := h
  rcases Go.Deep.open_int_rows ht he hq ce cq hf with ⟨hcs, _⟩ | ⟨x, l, c, A, L, C, Z, hcs, _, hl, hm, _, hr⟩
  · simp [Value.cells] at hcs
    obtain ⟨rfl, rfl, rfl⟩ := hcs
    exact ⟨fun _ => none, fun _ => 0, fun _ => 0, fun _ => [], Nat.le_refl _, Nat.zero_le _, fun i hi => by omega, .inl rfl⟩
  · simp [Value.cells] at hcs
    obtain ⟨rfl, rfl, rfl⟩ := hcs
    refine ⟨A, L, C, fun r => (Z r).take (L r), hl, hm, fun i hi => ?_, ?_⟩
    · obtain ⟨h1, h2, h3, h4, h5, h6, h7⟩ := hr i (by omega)
      have hlen : ((Z i).take (L i)).length = L i := by rw [List.length_take]; omega
      refine ⟨?_, hlen, h2, h3, fun n hn => ?_⟩
      · by_cases h0 : L i = 0
        · left; exact List.eq_nil_of_length_eq_zero (hlen.trans h0)
        · cases hA : A i with
          | none => have := h6 hA; omega
          | some a' =>
            obtain ⟨_, h8⟩ := h7 a' hA
            obtain ⟨b, o, s⟩ := a'
            have h9 := h8 0 (by omega)
            have hs : s = none := by simpa [Addr.add] using World.cell?_spot h9
            subst hs
            refine .inr ⟨b, o, rfl, fun j n hj => ?_⟩
            have hj : ((Z i).take (L i))[j]? = some n := hj
            have hj1 : j < L i := by
              rcases Nat.lt_or_ge j (L i) with h | h
              · exact h
              · rw [List.getElem?_eq_none (by rw [hlen]; exact h)] at hj; cases hj
            rw [List.getElem?_take_of_lt hj1] at hj
            have h10 := h8 j (by omega)
            have e : (⟨b, o, none⟩ : Addr).add j = ⟨b, o + j, none⟩ := by
              by_cases hi0 : j = 0
              · subst hi0; simp [Addr.add]
              · simp [Addr.add, hi0]
            rw [e] at h10
            rw [h10]
            simp [List.getD, hj]
      · have := bounds_u8 (h5 n (List.mem_of_mem_take hn))
        omega
    · by_cases h0 : len = 0
      · exact .inl h0
      · obtain ⟨b, o, s⟩ := x
        have h1 := (hr 0 (by omega)).1
        have hs : s = none := by simpa [Addr.add] using World.cell?_spot h1
        subst hs
        refine .inr ⟨b, o, rfl, fun i hi => ?_⟩
        have h2 := (hr i (by omega)).1
        have e : (⟨b, o, none⟩ : Addr).add i = ⟨b, o + i, none⟩ := by
          by_cases hi0 : i = 0
          · subst hi0; simp [Addr.add]
          · simp [Addr.add, hi0]
        rw [e] at h2
        exact h2

end Go.Proofs.Ytkkmnodhmmdllaa
