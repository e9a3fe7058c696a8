/- Cards by key: the library's stable sort, of rows that are short. -/
import Derived.Test.YtohiimfojlcomaaSortC
namespace Go.Proofs.Ytohiimfojlcomaa
open Go.RowKit
set_option linter.unusedVariables false
set_option linter.unusedSimpArgs false

instance : Inhabited Cd := ⟨Cd.zero⟩
theorem flatK_list (d : Array Cd) : (Go.Sort.flatK cc 9 d).toList = flat cc d.toList := by
  apply List.ext_getElem?
  intro t
  rw [Array.getElem?_toList]
  rcases Nat.lt_or_ge t (d.size * 9) with h | h
  · have hi : t / 9 < d.toList.length := by rw [Array.length_toList]; exact Nat.div_lt_of_lt_mul (by omega)
    have e : t = t / 9 * 9 + t % 9 := by omega
    have h1 : (flat cc d.toList)[t]? = (cc (d.toList[t / 9]))[t % 9]? := by
      conv => lhs; rw [e]
      exact flat_at cc_len d.toList (t / 9) _ (List.getElem?_eq_getElem hi) (t % 9) (by omega)
    rw [h1]
    have h2 : t < (Go.Sort.flatK cc 9 d).size := by rw [Go.Sort.size_flatK]; exact h
    rw [Array.getElem?_eq_getElem h2]
    have h3 := Go.Sort.get_flatK cc 9 d t h
    rw [getElem!_pos _ t h2] at h3
    rw [h3]
    have h4 : d[t / 9]! = d.toList[t / 9] := by
      rw [Array.length_toList] at hi
      rw [getElem!_pos d (t / 9) hi, Array.getElem_toList]
    rw [h4]
    have h5 : t % 9 < (cc (d.toList[t / 9])).length := by rw [cc_len]; omega
    rw [getElem!_pos (cc (d.toList[t / 9])) (t % 9) h5, List.getElem?_eq_getElem h5]
  · rw [Array.getElem?_eq_none (by rw [Go.Sort.size_flatK]; exact h), List.getElem?_eq_none (by rw [flat_len cc_len, Array.length_toList]; exact h)]
theorem own_holds {base : Nat} {w : World} {g n c : Nat} {ls : List Cd} (h : OwnC base w (.slice (some ⟨g, 0, none⟩) n c) ls) : Go.Sort.HoldsK cc 9 w g 0 ls.toArray ∧ g < w.heap.size := by
  have h0 := h
  rcases h.2 with ⟨e, _⟩ | ⟨g', cap, cur, e, hg, hh, hnc, hcm, hcs, ht⟩
  · cases e
  · simp only [Value.slice.injEq, Option.some.injEq, Addr.mk.injEq] at e
    obtain ⟨⟨rfl, -⟩, rfl, rfl⟩ := e
    refine ⟨fun j hj => ⟨?_, blk_free hh _⟩, blk_lt hh⟩
    rw [Nat.zero_add]
    refine own_rd cc_len h0 ?_
    have e1 := flatK_list ls.toArray
    rw [← e1, Array.getElem?_toList, Array.getElem?_eq_getElem hj, getElem!_pos (Go.Sort.flatK cc 9 ls.toArray) j hj]
    rfl
theorem put_take (F cur : Array Value) (h : F.size ≤ cur.size) : (Go.Sort.putCells id 0 F cur).toList.take F.size = F.toList := by
  apply List.ext_getElem?
  intro t
  rcases Nat.lt_or_ge t F.size with h1 | h1
  · rw [List.getElem?_take_of_lt h1, Array.getElem?_toList, Array.getElem?_toList]
    unfold Go.Sort.putCells
    rw [Array.getElem?_mapIdx, Array.getElem?_eq_getElem (show t < cur.size from by omega), Option.map_some, if_pos ⟨by omega, by omega⟩, Array.getElem?_eq_getElem h1, Nat.sub_zero, getElem!_pos F t h1]
    rfl
  · rw [List.getElem?_eq_none (by simp; omega), List.getElem?_eq_none (by simpa using h1)]
theorem sort_own {base : Nat} {w : World} {g n c : Nat} {ls ms : List Cd} (h : OwnC base w (.slice (some ⟨g, 0, none⟩) n c) ls) (hn : ls.length = n) (hm : ms.length = n) (q : Nat) (os : Array Obj) (d : Array Cd) (hd : d.toList = ms) :
    OwnC base (sortWorldK cc 9 w g 0 q d os) (.slice (some ⟨g, 0, none⟩) n c) ms ∧ Rim g w (sortWorldK cc 9 w g 0 q d os) := by
  rcases h.2 with ⟨e, _⟩ | ⟨g', cap, cur, e, hg, hh, hnc, hcm, hcs, ht⟩
  · cases e
  · simp only [Value.slice.injEq, Option.some.injEq, Addr.mk.injEq] at e
    obtain ⟨⟨rfl, -⟩, -, rfl⟩ := e
    have hlt := blk_lt hh
    have hF : (Go.Sort.flatK cc 9 d).size = n * 9 := by rw [Go.Sort.size_flatK, ← Array.length_toList, hd, hm]
    have hb : (sortWorldK cc 9 w g 0 q d os).heap[g]? = some (.cells (Go.Sort.putCells id 0 (Go.Sort.flatK cc 9 d) cur) 34 (0, 0)) := by
      show (((w.heap.modify g _)) ++ os)[g]? = _
      rw [Array.getElem?_append_left (by simpa using hlt), Array.getElem?_modify, if_pos rfl, hh]
      rfl
    have hk : ∀ k, k ≠ g → k < w.heap.size → (sortWorldK cc 9 w g 0 q d os).heap[k]? = w.heap[k]? := fun k hne hk => by
      show (((w.heap.modify g _)) ++ os)[k]? = _
      rw [Array.getElem?_append_left (by simpa using hk), Array.getElem?_modify, if_neg (fun e => hne e.symm)]
    rw [hn] at hnc
    refine ⟨⟨by rw [flat_len cc_len, hm], .inr ⟨g, c, _, by rw [hm], hg, hb, by rw [hm]; exact hnc, hcm, by rw [Go.Sort.putCells, Array.size_mapIdx]; exact hcs, ?_⟩⟩, ⟨rfl, rfl, rfl, ?_, hk⟩⟩
    · rw [hm, ← hF, put_take _ _ (by rw [hF, hcs]; exact Nat.mul_le_mul_right 9 hnc), flatK_list, hd]
    · show _ ≤ (((w.heap.modify g _)) ++ os).size
      simp
end Go.Proofs.Ytohiimfojlcomaa
