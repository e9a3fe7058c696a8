/- Rows of rows of bytes that came in: each is within reach. -/
import Derived.Test.YtkkmnodhmmdllaaRowsB
import Derived.SizedLaws
namespace Go.Proofs.Ytkkmnodhmmdllaa
open Go.ChangeShapes Go.WideShapes Go.ChangeAt Go.RowKit Go.Deep
set_option linter.unusedVariables false

theorem weights_all_mem {H : Type} {P : Program} {e : TypeId} : ∀ {l : List (DataW H)} {d : DataW H}, d ∈ l → ∀ n ∈ d.weights P e, n ∈ DataW.weightsAll P e l
  | x :: l, d, hd, n, hn => by
    simp only [DataW.weightsAll, List.mem_append]
    rcases List.mem_cons.1 hd with rfl | hd
    · exact .inl hn
    · exact .inr (weights_all_mem hd n hn)
  | [], _, hd, _, _ => by cases hd
theorem open_rows_w {H : Type} {enc : TypeId × Value → H} {w : World} {base : Nat} {held : Bool} {t e q : TypeId} {a : Option Addr} {len cap : Nat} {d : DataW H} {p : List MemPlace}
    (ht : Try.prog.underlying t = some (.slice e)) (he : Try.prog.underlying e = some (.slice q)) (hq : Try.prog.underlying q = some (.int .u8)) (ce : Try.prog.cellsOf e = 1) (cq : Try.prog.cellsOf q = 1)
    (bq : Try.prog.bytesOf q = 1) (hw : ∀ n ∈ d.weights Try.prog t, n ≤ reachBytes) (h : DataW.Trod enc Try.prog w base (fun _ => true) held t (.slice a len cap) d p) :
    ∃ ro rl rc rx, IsRows w a len cap ro rl rc rx ∧ ∀ i, i < len → rl i ≤ reachBytes := by
  obtain ⟨fuel, hf⟩ := h
  rcases Go.Deep.open_int_rows ht he hq ce cq hf with ⟨hcs, _⟩ | ⟨x, l, c, A, L, C, Z, hcs, _, hl, hm, hdx, hr⟩
  · simp [Value.cells] at hcs
    obtain ⟨rfl, rfl, rfl⟩ := hcs
    exact ⟨fun _ => none, fun _ => 0, fun _ => 0, fun _ => [], ⟨Nat.le_refl _, Nat.zero_le _, fun i hi => by omega, .inl rfl⟩, fun i hi => by omega⟩
  · simp [Value.cells] at hcs
    obtain ⟨rfl, rfl, rfl⟩ := hcs
    refine ⟨A, L, C, fun r => (Z r).take (L r), ⟨hl, hm, fun i hi => ?_, ?_⟩, fun i hi => ?_⟩
    rotate_left 2
    · obtain ⟨h1, h2, h3, h4, h5, h6, h7⟩ := hr i (by omega)
      simp only [Prod.mk.injEq] at hdx
      have hmem : intRow .u8 (A i) (L i) (Z i) ∈ ((List.range len).map fun r => intRow .u8 (A r) (L r) (Z r) : List (DataW H)) := List.mem_map.2 ⟨i, List.mem_range.2 hi, rfl⟩
      have hall : ∀ n ∈ (intRow .u8 (A i) (L i) (Z i) : DataW H).weights Try.prog e, n ≤ reachBytes := fun n hn => by
        refine hw n ?_
        rw [hdx.1]
        simp only [DataW.weights, ht, List.mem_cons, List.mem_append]
        exact .inr (.inl (weights_all_mem hmem n hn))
      cases hA : A i with
      | none => have := h6 hA; omega
      | some a' =>
        have h9 : (lits .u8 ((Z i).take (L i)) : List (DataW H)).length + (lits .u8 ((Z i).drop (L i)) : List (DataW H)).length = (Z i).length := by simp [lits]; omega
        have h8 := hall ((Z i).length) (by simp only [intRow, hA, DataW.weights, he, bq, List.mem_cons]; left; omega)
        omega
    · obtain ⟨h1, h2, h3, h4, h5, h6, h7⟩ := hr i (by omega)
      have hlen : ((Z i).take (L i)).length = L i := by rw [List.length_take]; omega
      refine ⟨?_, hlen, h2, h3, fun n hn => ?_⟩
      · by_cases h0 : L i = 0
        · left; exact List.eq_nil_of_length_eq_zero (hlen.trans h0)
        · cases hA : A i with
          | none => have := h6 hA; omega
          | some a' =>
            obtain ⟨_, h8⟩ := h7 a' hA
            obtain ⟨b, o, s⟩ := a'
            have h9 := h8 0 (by omega)
            have hs : s = none := by simpa [Addr.add] using World.cell?_spot h9
            subst hs
            refine .inr ⟨b, o, rfl, fun j n hj => ?_⟩
            have hj : ((Z i).take (L i))[j]? = some n := hj
            have hj1 : j < L i := by
              rcases Nat.lt_or_ge j (L i) with h | h
              · exact h
              · rw [List.getElem?_eq_none (by rw [hlen]; exact h)] at hj; cases hj
            rw [List.getElem?_take_of_lt hj1] at hj
            have h10 := h8 j (by omega)
            have e : (⟨b, o, none⟩ : Addr).add j = ⟨b, o + j, none⟩ := by
              by_cases hi0 : j = 0
              · subst hi0; simp [Addr.add]
              · simp [Addr.add, hi0]
            rw [e] at h10
            rw [h10]
            simp [List.getD, hj]
      · have := bounds_u8 (h5 n (List.mem_of_mem_take hn))
        omega
    · by_cases h0 : len = 0
      · exact .inl h0
      · obtain ⟨b, o, s⟩ := x
        have h1 := (hr 0 (by omega)).1
        have hs : s = none := by simpa [Addr.add] using World.cell?_spot h1
        subst hs
        refine .inr ⟨b, o, rfl, fun i hi => ?_⟩
        have h2 := (hr i (by omega)).1
        have e : (⟨b, o, none⟩ : Addr).add i = ⟨b, o + i, none⟩ := by
          by_cases hi0 : i = 0
          · subst hi0; simp [Addr.add]
          · simp [Addr.add, hi0]
        rw [e] at h2
        exact h2

end Go.Proofs.Ytkkmnodhmmdllaa
