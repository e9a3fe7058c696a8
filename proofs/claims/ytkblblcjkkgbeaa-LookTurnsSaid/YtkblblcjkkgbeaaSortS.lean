/- Rows of texts: put in order, and each once. -/
import Derived.Test.YtkblblcjkkgbeaaRowAt
import Derived.Test.YtkblblcjkkgbeaaRawCards
import Derived.Test.YtkblblcjkkgbeaaSortC
import Derived.Shelf.Sort.Plain
import Derived.Shelf.Slices.CompactS
import Derived.Shelf.Slices.In.SortNone
import Derived.Sort.KeysCollected
namespace Go.Proofs.Ytkblblcjkkgbeaa
open Go.RowKit
set_option linter.unusedVariables false
set_option linter.unusedSimpArgs false

def str_lays190_ren : Go.Shelf.Ren := ⟨fun | 190 => 23 | 125 => 34 | 258 => 33 | 128 => 46 | 129 => 47 | 302 => 37 | 303 => 38 | 304 => 39 | 305 => 40 | 306 => 41 | 307 => 42 | 308 => 43 | 309 => 44 | 310 => 45 | 333 => 51 | 329 => 52 | 330 => 53 | 334 => 54 | 335 => 55 | 336 => 56 | 344 => 59 | n => n, fun | 31 => 28 | 9 => 9 | 3 => 3 | 46 => 63 | 0 => 0 | 51 => 76 | 53 => 78 | 4 => 4 | 183 => 68 | 182 => 67 | 131 => 73 | 5 => 5 | 218 => 81 | 222 => 85 | 228 => 88 | 229 => 89 | n => n, fun | n => n⟩
theorem str_lays190 : Go.Proofs.Lays.n190 Try.prog str_lays190_ren := {
  mixed := by kernel_rfl
  f125 := Try.func34.trans (congrArg some (by kernel_rfl))
  f128 := Try.func46.trans (congrArg some (by kernel_rfl))
  f129 := Try.func47.trans (congrArg some (by kernel_rfl))
  f190 := Try.func23.trans (congrArg some (by kernel_rfl))
  f258 := Try.func33.trans (congrArg some (by kernel_rfl))
  f302 := Try.func37.trans (congrArg some (by kernel_rfl))
  f303 := Try.func38.trans (congrArg some (by kernel_rfl))
  f304 := Try.func39.trans (congrArg some (by kernel_rfl))
  f305 := Try.func40.trans (congrArg some (by kernel_rfl))
  f306 := Try.func41.trans (congrArg some (by kernel_rfl))
  f307 := Try.func42.trans (congrArg some (by kernel_rfl))
  f308 := Try.func43.trans (congrArg some (by kernel_rfl))
  f309 := Try.func44.trans (congrArg some (by kernel_rfl))
  f310 := Try.func45.trans (congrArg some (by kernel_rfl))
  f329 := Try.func52.trans (congrArg some (by kernel_rfl))
  f330 := Try.func53.trans (congrArg some (by kernel_rfl))
  f333 := Try.func51.trans (congrArg some (by kernel_rfl))
  f334 := Try.func54.trans (congrArg some (by kernel_rfl))
  f335 := Try.func55.trans (congrArg some (by kernel_rfl))
  f336 := Try.func56.trans (congrArg some (by kernel_rfl))
  f344 := Try.func59.trans (congrArg some (by kernel_rfl))
  t0 := Try.underlying0
  a0 := Try.isAgg0
  z0 := Try.sizeOf0
  v0 := Try.zeroValue0
  t3 := Try.underlying3
  a3 := Try.isAgg3
  z3 := Try.sizeOf3
  v3 := Try.zeroValue3
  t4 := Try.underlying4
  a4 := Try.isAgg4
  z4 := Try.sizeOf4
  v4 := Try.zeroValue4
  t5 := Try.underlying5
  a5 := Try.isAgg5
  z5 := Try.sizeOf5
  v5 := Try.zeroValue5
  t9 := Try.underlying9
  a9 := Try.isAgg9
  z9 := Try.sizeOf9
  v9 := Try.zeroValue9
  t31 := Try.underlying28
  a31 := Try.isAgg28
  z31 := Try.sizeOf28
  v31 := Try.zeroValue28
  t46 := Try.underlying63
  a46 := Try.isAgg63
  z46 := Try.sizeOf63
  v46 := Try.zeroValue63
  t51 := Try.underlying76
  a51 := Try.isAgg76
  z51 := Try.sizeOf76
  v51 := Try.zeroValue76
  t53 := Try.underlying78
  a53 := Try.isAgg78
  z53 := Try.sizeOf78
  v53 := Try.zeroValue78
  t131 := Try.underlying73
  a131 := Try.isAgg73
  z131 := Try.sizeOf73
  v131 := Try.zeroValue73
  t182 := Try.underlying67
  a182 := Try.isAgg67
  z182 := Try.sizeOf67
  v182 := Try.zeroValue67
  t183 := Try.underlying68
  a183 := Try.isAgg68
  z183 := Try.sizeOf68
  v183 := Try.zeroValue68
  t218 := Try.underlying81
  a218 := Try.isAgg81
  z218 := Try.sizeOf81
  v218 := Try.zeroValue81
  t222 := Try.underlying85
  a222 := Try.isAgg85
  z222 := Try.sizeOf85
  v222 := Try.zeroValue85
  t228 := Try.underlying88
  a228 := Try.isAgg88
  z228 := Try.sizeOf88
  v228 := Try.zeroValue88
  t229 := Try.underlying89
  a229 := Try.isAgg89
  z229 := Try.sizeOf89
  v229 := Try.zeroValue89 }
def str_lays194_ren : Go.Shelf.Ren := ⟨fun | 194 => 24 | n => n, fun | 31 => 28 | 9 => 9 | 3 => 3 | 4 => 4 | 0 => 0 | n => n, fun | n => n⟩
theorem str_lays194 : Go.Proofs.Lays.n194 Try.prog str_lays194_ren := {
  mixed := by kernel_rfl
  f194 := Try.func24.trans (congrArg some (by kernel_rfl))
  t0 := Try.underlying0
  a0 := Try.isAgg0
  z0 := Try.sizeOf0
  v0 := Try.zeroValue0
  t3 := Try.underlying3
  a3 := Try.isAgg3
  z3 := Try.sizeOf3
  v3 := Try.zeroValue3
  t4 := Try.underlying4
  a4 := Try.isAgg4
  z4 := Try.sizeOf4
  v4 := Try.zeroValue4
  t9 := Try.underlying9
  a9 := Try.isAgg9
  z9 := Try.sizeOf9
  v9 := Try.zeroValue9
  t31 := Try.underlying28
  a31 := Try.isAgg28
  z31 := Try.sizeOf28
  v31 := Try.zeroValue28 }

/-- a text's cell -/
def es (l : List UInt8) : List Value := [encStr l]
theorem es_len (l : List UInt8) : (es l).length = 1 := rfl
theorem es_one (l : List UInt8) : ∀ u ∈ es l, u.oneCell' = true := by
  intro u hu
  simp only [es, List.mem_cons, List.not_mem_nil, or_false] at hu
  subst hu; rfl
theorem es_of (s : ByteArray) : es s.data.toList = [.string s] := by
  obtain ⟨⟨l⟩⟩ := s
  rfl
theorem info_str : (Try.prog.info? 9).map (fun i => (i.zero, i.size, i.bytes)) = some (some (.string ⟨#[]⟩), 1, 16) := by kernel_rfl
abbrev OwnS (base : Nat) (w : World) (v : Value) (ls : List (List UInt8)) : Prop := OwnR es 1 9 base w v ls
abbrev StAt (w : World) (a : Option Addr) (ls : List (List UInt8)) : Prop := SAt es 1 9 w a ls
theorem flat_es (ls : List (List UInt8)) : flat es ls = ls.map encStr := by
  induction ls with
  | nil => rfl
  | cons x xs ih => rw [flat_cons, ih]; rfl
theorem StAt.at {w : World} {b o i : Nat} {ls : List (List UInt8)} {s : ByteArray} (h : StAt w (some ⟨b, o, none⟩) ls) (hi : ls[i]? = some s.data.toList) : w.cell? ⟨b, o + i, none⟩ = some (.string s) := by
  have := SAt.get es_len h hi 0 _ (by rw [es_of]; rfl)
  rwa [Nat.mul_one, Nat.add_zero] at this
theorem own_sholds {base : Nat} {w : World} {g n c : Nat} {ls : List (List UInt8)} (h : OwnS base w (.slice (some ⟨g, 0, none⟩) n c) ls) : Go.Sort.Holds encStr w g 0 ls.toArray ∧ g < w.heap.size := by
  have h0 := h
  rcases h.2 with ⟨e, _⟩ | ⟨g', cap, cur, e, hg, hh, hnc, hcm, hcs, ht⟩
  · cases e
  · simp only [Value.slice.injEq, Option.some.injEq, Addr.mk.injEq] at e
    obtain ⟨⟨rfl, -⟩, rfl, rfl⟩ := e
    refine ⟨fun j hj => ⟨?_, blk_free hh _⟩, blk_lt hh⟩
    rw [Nat.zero_add]
    refine own_rd es_len h0 ?_
    have hj' : j < ls.length := by simpa using hj
    rw [flat_es, List.getElem?_map, List.getElem?_eq_getElem hj', getElem!_pos ls.toArray j hj]
    rfl
theorem putS_take (d : Array (List UInt8)) (cur : Array Value) (h : d.size ≤ cur.size) : (Go.Sort.putCells encStr 0 d cur).toList.take d.size = d.toList.map encStr := by
  apply List.ext_getElem?
  intro t
  rcases Nat.lt_or_ge t d.size with h1 | h1
  · rw [List.getElem?_take_of_lt h1, Array.getElem?_toList, List.getElem?_map, Array.getElem?_toList]
    unfold Go.Sort.putCells
    rw [Array.getElem?_mapIdx, Array.getElem?_eq_getElem (show t < cur.size from by omega), Option.map_some, if_pos ⟨by omega, by omega⟩, Array.getElem?_eq_getElem h1, Nat.sub_zero, getElem!_pos d t h1]
    rfl
  · rw [List.getElem?_eq_none (by simp; omega), List.getElem?_eq_none (by simpa using h1)]
theorem grow_nil (w : World) : Go.Sort.grow w #[] = w := by
  unfold Go.Sort.grow
  simp
theorem putS_own {base : Nat} {w : World} {g n c : Nat} {ls ms : List (List UInt8)} (h : OwnS base w (.slice (some ⟨g, 0, none⟩) n c) ls) (hn : ls.length = n) (hm : ms.length = n) (q : Nat) (os : Array Obj) :
    OwnS base (Go.Sort.grow (Go.Sort.putRow encStr (Go.Sort.ahead w q) g 0 ms.toArray) os) (.slice (some ⟨g, 0, none⟩) n c) ms ∧ Rim g w (Go.Sort.grow (Go.Sort.putRow encStr (Go.Sort.ahead w q) g 0 ms.toArray) os) := by
  rcases h.2 with ⟨e, _⟩ | ⟨g', cap, cur, e, hg, hh, hnc, hcm, hcs, ht⟩
  · cases e
  · simp only [Value.slice.injEq, Option.some.injEq, Addr.mk.injEq] at e
    obtain ⟨⟨rfl, -⟩, -, rfl⟩ := e
    have hlt := blk_lt hh
    have hF : ms.toArray.size = n := by simpa using hm
    have hb : (Go.Sort.grow (Go.Sort.putRow encStr (Go.Sort.ahead w q) g 0 ms.toArray) os).heap[g]? = some (.cells (Go.Sort.putCells encStr 0 ms.toArray cur) 9 (0, 0)) := by
      show (((w.heap.modify g _)) ++ os)[g]? = _
      rw [Array.getElem?_append_left (by simpa using hlt), Array.getElem?_modify, if_pos rfl, hh]
      rfl
    have hkk : ∀ j, j ≠ g → j < w.heap.size → (Go.Sort.grow (Go.Sort.putRow encStr (Go.Sort.ahead w q) g 0 ms.toArray) os).heap[j]? = w.heap[j]? := fun j hne hj => by
      show (((w.heap.modify g _)) ++ os)[j]? = _
      rw [Array.getElem?_append_left (by simpa using hj), Array.getElem?_modify, if_neg (fun e => hne e.symm)]
    rw [hn] at hnc
    refine ⟨⟨by rw [flat_len es_len, hm], .inr ⟨g, c, _, by rw [hm], hg, hb, by rw [hm]; exact hnc, hcm, by rw [Go.Sort.putCells, Array.size_mapIdx]; exact hcs, ?_⟩⟩, ⟨rfl, rfl, rfl, ?_, hkk⟩⟩
    · rw [hm, Nat.mul_one, ← hF, putS_take _ _ (by rw [hF, hcs]; omega), flat_es]
    · show _ ≤ (((w.heap.modify g _)) ++ os).size
      simp

theorem compact_len (ls : List (List UInt8)) : (Lib.compact ls).length ≤ ls.length := by
  unfold Lib.compact Lib.compactUpTo
  rw [List.length_map]
  exact Nat.le_trans (List.length_filter_le _ _) (by simp)
/-- texts in order -/
def sortS (ls : List (List UInt8)) : List (List UInt8) := ls.mergeSort fun x y => decide (x ≤ y)
theorem sortS_len (ls : List (List UInt8)) : (sortS ls).length = ls.length := by unfold sortS; exact List.length_mergeSort _
set_option maxRecDepth 100000 in
set_option maxHeartbeats 1000000 in
theorem strSort (base g n c : Nat) (ls : List (List UInt8)) (w : World) (h : OwnS base w (.slice (some ⟨g, 0, none⟩) n c) ls) (hn : ls.length = n) (h20 : n ≤ 1000) :
    Calls Try.prog 23 #[.slice (some ⟨g, 0, none⟩) n c] w fun e w' => e = .returned (.tuple #[]) ∧ OwnS base w' (.slice (some ⟨g, 0, none⟩) n c) (sortS ls) ∧ Rim g w w' := by
  obtain ⟨hH, hlt⟩ := own_sholds h
  have hcon := Any.slices_Sort_string str_lays190 g 0 c ls w hH hlt (by omega)
  rw [hn] at hcon
  refine Calls.mono hcon ?_
  rintro e w' ⟨rfl, q, os, rfl⟩
  exact ⟨rfl, putS_own h hn ((sortS_len ls).trans hn) q os⟩

set_option maxRecDepth 100000 in
set_option maxHeartbeats 1000000 in
theorem strSortNil (p : Option Addr) (c : Nat) (w : World) :
    Calls Try.prog 23 #[.slice p 0 c] w fun e w' => e = .returned (.tuple #[]) ∧ w' = w := by
  exact Any.slices_Sort_string_none str_lays190 p c w

set_option maxRecDepth 100000 in
set_option maxHeartbeats 1000000 in
theorem strCompact (base g n c : Nat) (ls : List (List UInt8)) (w : World) (h : OwnS base w (.slice (some ⟨g, 0, none⟩) n c) ls) (hn : ls.length = n) (h20 : n ≤ 1000) :
    Calls Try.prog 24 #[.slice (some ⟨g, 0, none⟩) n c] w fun e w' => e = .returned (.slice (some ⟨g, 0, none⟩) (Lib.compact ls).length c) ∧ OwnS base w' (.slice (some ⟨g, 0, none⟩) (Lib.compact ls).length c) (Lib.compact ls) ∧ Rim g w w' := by
  obtain ⟨hH, hlt⟩ := own_sholds h
  obtain ⟨a', c', e, hnc, hcm, -⟩ := OwnR.form h
  simp only [Value.slice.injEq] at e
  obtain ⟨-, -, rfl⟩ := e
  have hcon := Any.slices_Compact_string str_lays194 g 0 c ls w hH (by omega) hnc
  rw [hn] at hcon
  refine Calls.mono hcon ?_
  rintro e w' ⟨rfl, q, rfl⟩
  have hle := compact_len ls
  have hml : (Lib.compact ls ++ List.replicate (n - (Lib.compact ls).length) []).length = n := by rw [List.length_append, List.length_replicate]; omega
  obtain ⟨h1, h2⟩ := putS_own (ms := Lib.compact ls ++ List.replicate (n - (Lib.compact ls).length) []) h hn hml q #[]
  rw [grow_nil] at h1 h2
  refine ⟨rfl, ?_, h2⟩
  have h3 := OwnR.take es_len (i := (Lib.compact ls).length) h1 (by rw [List.length_append]; omega)
  rw [List.take_left' rfl] at h3
  exact h3

set_option maxRecDepth 100000 in
set_option maxHeartbeats 1000000 in
theorem strCompactNil (a : Option Addr) (c : Nat) (w : World) :
    Calls Try.prog 24 #[.slice a 0 c] w fun e w' => e = .returned (.slice a 0 c) ∧ w' = w := by
  exact Any.slices_Compact_string_empty str_lays194 a c w

end Go.Proofs.Ytkblblcjkkgbeaa
