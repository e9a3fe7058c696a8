/- A row that the call has gathered itself, read as a row. -/
import Derived.Test.YtcgembfdejjliaaGreatDoorOpen
namespace Go.Proofs.YtcgembfdejjliaaGreatDoor
open Go.RowKit
set_option linter.unusedVariables false

theorem isRow_of_owns {w : World} {base n : Nat} {e : TypeId} {k : IntKind} {v : Value} {xs : List Int} (h : w.ownsRow base e 1 v n (xs.map (Value.int k))) (hl : xs.length = n) (hw : ∀ x ∈ xs, (Lit.int k x).wf = true) :
    ∃ a cap, v = .slice a n cap ∧ IsRow k w a n cap xs := by
  obtain ⟨h1, h2⟩ := h
  rcases h2 with ⟨rfl, rfl⟩ | ⟨g, cap, cur, rfl, hg, hh, hnc, hcm, hcs, ht⟩
  · exact ⟨none, 0, rfl, Nat.le_refl _, Nat.zero_le _, hl, hw, .inl rfl⟩
  · refine ⟨_, _, rfl, hnc, hcm, hl, hw, .inr ⟨g, 0, rfl, fun i hi => ?_⟩⟩
    have h3 : (cur.toList.take (n * 1))[i]? = (xs.map (Value.int k))[i]? := by rw [ht]
    simp only [World.cell?, hh]
    simp [hi, hl] at h3
    simp [h3, hi, hl, List.getD]

theorem own_ge {w : World} {base n size : Nat} {e : TypeId} {v : Value} {xs : List Value} (h : w.ownsRow base e size v n xs) {k : Nat} (hk : v.ownBlock = some k) : base ≤ k := by
  obtain ⟨_, h2⟩ := h
  rcases h2 with ⟨rfl, _⟩ | ⟨g, cap, cur, rfl, hg, _⟩
  · simp [Value.ownBlock] at hk
  · simp [Value.ownBlock] at hk; omega
theorem IsRow.ext {k : IntKind} {w w' : World} {a : Option Addr} {len cap : Nat} {zs : List Int} (h : IsRow k w a len cap zs) (hb : Below w.heap.size w w') : IsRow k w' a len cap zs := by
  obtain ⟨h1, h2, h3, h4, h5⟩ := h
  refine ⟨h1, h2, h3, h4, ?_⟩
  rcases h5 with h5 | ⟨b, o, h6, h7⟩
  · exact .inl h5
  · exact .inr ⟨b, o, h6, fun i hi => ext_cell hb (h7 i hi)⟩

theorem getD_wf {zs : List Int} {j : Nat} (h : ∀ x ∈ zs, (Lit.int .i64 x).wf = true) : (Lit.int .i64 (zs.getD j 0)).wf = true := by
  by_cases hj : j < zs.length
  · exact h _ (by simp [List.getD, hj])
  · simp [List.getD, List.getElem?_eq_none (Nat.le_of_not_lt hj)]; decide

/-- a row that was just built -/
theorem row_new {k : IntKind} (w : World) (xs : List Int) (e : TypeId) (hl : xs.length ≤ maxLen) (hw : ∀ x ∈ xs, (Lit.int k x).wf = true) :
    IsRow k (w.alloc (.cells (xs.map (Value.int k)).toArray e)) (some ⟨w.heap.size, 0, none⟩) xs.length xs.length xs := by
  refine ⟨Nat.le_refl _, hl, rfl, hw, .inr ⟨_, _, rfl, fun i hi => ?_⟩⟩
  have h : (w.alloc (.cells (xs.map (Value.int k)).toArray e)).heap[w.heap.size]? = some (.cells (xs.map (Value.int k)).toArray e) := by
    show (w.heap.push _)[w.heap.size]? = _
    simp
  simp only [World.cell?, h]
  simp [hi, List.getD]

end Go.Proofs.YtcgembfdejjliaaGreatDoor
