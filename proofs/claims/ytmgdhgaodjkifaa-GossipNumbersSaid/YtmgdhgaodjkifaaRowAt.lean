/- Rows of structs as they lie in memory, whatever their cells; own rows that are put in order. -/
import Derived.Test.YtmgdhgaodjkifaaRowGen
import Derived.Test.YtmgdhgaodjkifaaIns
import Derived.Shelf.SlSortCmp.InsertionK
namespace Go.Proofs.Ytmgdhgaodjkifaa
open Go.RowKit
set_option linter.unusedVariables false
set_option linter.unusedSimpArgs false

section
variable {α : Type} {enc : α → List Value} {k : Nat} {T : TypeId}
/-- behind the address a the things ls lie -/
def SAt (enc : α → List Value) (k : Nat) (T : TypeId) (w : World) (a : Option Addr) (ls : List α) : Prop := ls = [] ∨ ∃ b o, a = some ⟨b, o, none⟩ ∧ (∃ cur, w.heap[b]? = some (.cells cur T (0, 0))) ∧ ∀ q u, (flat enc ls)[q]? = some u → w.cell? ⟨b, o + q, none⟩ = some u
theorem SAt.nil (w : World) (a : Option Addr) : SAt enc k T w a [] := .inl rfl
theorem SAt.keep {w w' : World} {a : Option Addr} {ls : List α} (h : SAt enc k T w a ls) (hk : ∀ (b : Nat) (cur : Array Value), w.heap[b]? = some (.cells cur T (0, 0)) → (∃ o, a = some ⟨b, o, none⟩) → w'.heap[b]? = w.heap[b]?) : SAt enc k T w' a ls := by
  rcases h with h | ⟨b, o, e, ⟨cur, hb⟩, h⟩
  · exact .inl h
  · have e1 := hk b cur hb ⟨o, e⟩
    exact .inr ⟨b, o, e, ⟨cur, e1.trans hb⟩, fun q u hq => (World.cell?_of_block (w := w) e1).trans (h q u hq)⟩
theorem SAt.ext {w w' : World} {a : Option Addr} {ls : List α} (h : SAt enc k T w a ls) (hb : Below w.heap.size w w') : SAt enc k T w' a ls :=
  h.keep fun b cur hc _ => hb.block b (blk_lt hc)
theorem SAt.drop (hk : ∀ x, (enc x).length = k) {w : World} {b o : Nat} {ls : List α} (n : Nat) (h : SAt enc k T w (some ⟨b, o, none⟩) ls) : SAt enc k T w (some ⟨b, o + n * k, none⟩) (ls.drop n) := by
  rcases h with h | ⟨b', o', e, hb, h⟩
  · left; simp [h]
  · simp at e
    obtain ⟨rfl, rfl⟩ := e
    refine .inr ⟨_, _, rfl, hb, fun q u hq => ?_⟩
    rw [← flat_drop hk, List.getElem?_drop] at hq
    rw [Nat.add_assoc]
    exact h _ _ hq
theorem SAt.take (hk : ∀ x, (enc x).length = k) {w : World} {a : Option Addr} {ls : List α} (n : Nat) (h : SAt enc k T w a ls) : SAt enc k T w a (ls.take n) := by
  rcases h with h | ⟨b, o, e, hb, h⟩
  · left; simp [h]
  · refine .inr ⟨b, o, e, hb, fun q u hq => h q u ?_⟩
    rw [← flat_take hk] at hq
    rcases Nat.lt_or_ge q (n * k) with h' | h'
    · rwa [List.getElem?_take_of_lt h'] at hq
    · rw [List.getElem?_eq_none (by simp; omega)] at hq; cases hq
/-- one cell of one of them -/
theorem SAt.get (hk : ∀ x, (enc x).length = k) {w : World} {b o i : Nat} {ls : List α} {x : α} (h : SAt enc k T w (some ⟨b, o, none⟩) ls) (hi : ls[i]? = some x) (q : Nat) (u : Value) (hq : (enc x)[q]? = some u) : w.cell? ⟨b, o + i * k + q, none⟩ = some u := by
  rcases h with h | ⟨b', o', e, hb, h⟩
  · rw [h] at hi; simp at hi
  · simp at e
    obtain ⟨rfl, rfl⟩ := e
    have hlt : q < k := by
      rcases Nat.lt_or_ge q k with h' | h'
      · exact h'
      · rw [List.getElem?_eq_none (by rw [hk]; exact h')] at hq; cases hq
    rw [Nat.add_assoc]
    exact h _ _ ((flat_at hk ls i x hi q hlt).trans hq)
/-- an own row, read -/
theorem OwnR.read (hk : ∀ x, (enc x).length = k) {base : Nat} {w : World} {v : Value} {ls : List α} (h : OwnR enc k T base w v ls) : ∃ a c, v = .slice a ls.length c ∧ ls.length ≤ c ∧ c ≤ maxLen ∧ SAt enc k T w a ls ∧ (∀ b o, a = some ⟨b, o, none⟩ → base ≤ b ∧ b < w.heap.size ∧ o = 0) ∧ ((a = none ∧ c = 0 ∧ ls = []) ∨ ∃ g, a = some ⟨g, 0, none⟩) := by
  obtain ⟨a, c, rfl, h1, h2, h3⟩ := h.form
  rcases h3 with ⟨rfl, rfl, e⟩ | ⟨g, rfl, h4, h5⟩
  · exact ⟨none, 0, rfl, h1, h2, .inl e, fun b o e => (by cases e), .inl ⟨rfl, rfl, e⟩⟩
  · refine ⟨_, c, rfl, h1, h2, .inr ⟨g, 0, rfl, ?_, fun q u hq => by rw [Nat.zero_add]; exact own_rd hk h hq⟩, fun b o e => (by cases e; exact ⟨h4, h5, rfl⟩), .inr ⟨g, rfl⟩⟩
    rcases h.2 with ⟨e, _⟩ | ⟨g', cap, cur, e, hg, hh, _⟩
    · cases e
    · simp only [Value.slice.injEq, Option.some.injEq, Addr.mk.injEq] at e
      obtain ⟨⟨rfl, -⟩, -⟩ := e
      exact ⟨cur, hh⟩
end

section
variable {α : Type} [Inhabited α] {enc : α → List Value} {k : Nat} {T : TypeId}
theorem flatG_list (hk : ∀ x, (enc x).length = k) (hk0 : 0 < k) (d : Array α) : (Go.Sort.flatK enc k d).toList = flat enc d.toList := by
  apply List.ext_getElem?
  intro t
  rw [Array.getElem?_toList]
  rcases Nat.lt_or_ge t (d.size * k) with h | h
  · have hi : t / k < d.toList.length := by rw [Array.length_toList]; exact Nat.div_lt_of_lt_mul (by rw [Nat.mul_comm]; exact h)
    have hm : t % k < k := Nat.mod_lt _ hk0
    have e : t = t / k * k + t % k := by rw [Nat.mul_comm]; exact (Nat.div_add_mod t k).symm
    have h1 : (flat enc d.toList)[t]? = (enc (d.toList[t / k]))[t % k]? := by
      conv => lhs; rw [e]
      exact flat_at hk d.toList (t / k) _ (List.getElem?_eq_getElem hi) (t % k) hm
    rw [h1]
    have h2 : t < (Go.Sort.flatK enc k d).size := by rw [Go.Sort.size_flatK]; exact h
    rw [Array.getElem?_eq_getElem h2]
    have h3 := Go.Sort.get_flatK enc k d t h
    rw [getElem!_pos _ t h2] at h3
    rw [h3]
    have h4 : d[t / k]! = d.toList[t / k] := by
      rw [Array.length_toList] at hi
      rw [getElem!_pos d (t / k) hi, Array.getElem_toList]
    rw [h4]
    have h5 : t % k < (enc (d.toList[t / k])).length := by rw [hk]; exact hm
    rw [getElem!_pos (enc (d.toList[t / k])) (t % k) h5, List.getElem?_eq_getElem h5]
  · rw [Array.getElem?_eq_none (by rw [Go.Sort.size_flatK]; exact h), List.getElem?_eq_none (by rw [flat_len hk, Array.length_toList]; exact h)]
theorem ownG_holds (hk : ∀ x, (enc x).length = k) (hk0 : 0 < k) {base : Nat} {w : World} {g n c : Nat} {ls : List α} (h : OwnR enc k T base w (.slice (some ⟨g, 0, none⟩) n c) ls) : Go.Sort.HoldsK enc k w g 0 ls.toArray ∧ g < w.heap.size := by
  have h0 := h
  rcases h.2 with ⟨e, _⟩ | ⟨g', cap, cur, e, hg, hh, hnc, hcm, hcs, ht⟩
  · cases e
  · simp only [Value.slice.injEq, Option.some.injEq, Addr.mk.injEq] at e
    obtain ⟨⟨rfl, -⟩, rfl, rfl⟩ := e
    refine ⟨fun j hj => ⟨?_, blk_free hh _⟩, blk_lt hh⟩
    rw [Nat.zero_add]
    refine own_rd hk h0 ?_
    have e1 := flatG_list hk hk0 ls.toArray
    rw [← e1, Array.getElem?_toList, Array.getElem?_eq_getElem hj, getElem!_pos (Go.Sort.flatK enc k ls.toArray) j hj]
    rfl
theorem putG_take (F cur : Array Value) (h : F.size ≤ cur.size) : (Go.Sort.putCells id 0 F cur).toList.take F.size = F.toList := by
  apply List.ext_getElem?
  intro t
  rcases Nat.lt_or_ge t F.size with h1 | h1
  · rw [List.getElem?_take_of_lt h1, Array.getElem?_toList, Array.getElem?_toList]
    unfold Go.Sort.putCells
    rw [Array.getElem?_mapIdx, Array.getElem?_eq_getElem (show t < cur.size from by omega), Option.map_some, if_pos ⟨by omega, by omega⟩, Array.getElem?_eq_getElem h1, Nat.sub_zero, getElem!_pos F t h1]
    rfl
  · rw [List.getElem?_eq_none (by simp; omega), List.getElem?_eq_none (by simpa using h1)]
theorem sortG_own (hk : ∀ x, (enc x).length = k) (hk0 : 0 < k) {base : Nat} {w : World} {g n c : Nat} {ls ms : List α} (h : OwnR enc k T base w (.slice (some ⟨g, 0, none⟩) n c) ls) (hn : ls.length = n) (hm : ms.length = n) (q : Nat) (os : Array Obj) (d : Array α) (hd : d.toList = ms) :
    OwnR enc k T base (sortWorldK enc k w g 0 q d os) (.slice (some ⟨g, 0, none⟩) n c) ms ∧ Rim g w (sortWorldK enc k w g 0 q d os) := by
  rcases h.2 with ⟨e, _⟩ | ⟨g', cap, cur, e, hg, hh, hnc, hcm, hcs, ht⟩
  · cases e
  · simp only [Value.slice.injEq, Option.some.injEq, Addr.mk.injEq] at e
    obtain ⟨⟨rfl, -⟩, -, rfl⟩ := e
    have hlt := blk_lt hh
    have hF : (Go.Sort.flatK enc k d).size = n * k := by rw [Go.Sort.size_flatK, ← Array.length_toList, hd, hm]
    have hb : (sortWorldK enc k w g 0 q d os).heap[g]? = some (.cells (Go.Sort.putCells id 0 (Go.Sort.flatK enc k d) cur) T (0, 0)) := by
      show (((w.heap.modify g _)) ++ os)[g]? = _
      rw [Array.getElem?_append_left (by simpa using hlt), Array.getElem?_modify, if_pos rfl, hh]
      rfl
    have hkk : ∀ j, j ≠ g → j < w.heap.size → (sortWorldK enc k w g 0 q d os).heap[j]? = w.heap[j]? := fun j hne hj => by
      show (((w.heap.modify g _)) ++ os)[j]? = _
      rw [Array.getElem?_append_left (by simpa using hj), Array.getElem?_modify, if_neg (fun e => hne e.symm)]
    rw [hn] at hnc
    refine ⟨⟨by rw [flat_len hk, hm], .inr ⟨g, c, _, by rw [hm], hg, hb, by rw [hm]; exact hnc, hcm, by rw [Go.Sort.putCells, Array.size_mapIdx]; exact hcs, ?_⟩⟩, ⟨rfl, rfl, rfl, ?_, hkk⟩⟩
    · rw [hm, ← hF, putG_take _ _ (by rw [hF, hcs]; exact Nat.mul_le_mul_right k hnc), flatG_list hk hk0, hd]
    · show _ ≤ (((w.heap.modify g _)) ++ os).size
      simp
end

end Go.Proofs.Ytmgdhgaodjkifaa
