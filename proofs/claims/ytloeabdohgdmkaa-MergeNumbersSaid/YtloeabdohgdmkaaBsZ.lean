/- Several texts as one: SortC, SortD. -/
import Derived.Test.YtloeabdohgdmkaaInsZ
import Derived.Test.YtloeabdohgdmkaaBbZ
import Derived.Shelf.SlSortCmp.InsertionK
import Derived.Lib.Bytealg
/- Cards by key: compared, and put in order. -/
namespace Go.Proofs.Ytloeabdohgdmkaa
open Go.RowKit
set_option linter.unusedVariables false

/-- two keys, compared -/
def kc (a i b j : ByteArray) : Int := if a = b then Lib.compareBytes i.data.toList j.data.toList else Lib.compareBytes a.data.toList b.data.toList
def kcmp (x y : Cd) : Int := kc x.a x.i y.a y.i
/-- is x ahead of y? -/
def klt (x y : Cd) : Bool := decide (kcmp x y < 0)
theorem ba_eq {a b : ByteArray} (h : a.data.toList = b.data.toList) : a = b := by
  obtain ⟨⟨la⟩⟩ := a
  obtain ⟨⟨lb⟩⟩ := b
  simp at h
  subst h
  rfl
theorem kc_neg (a i b j : ByteArray) : kc b j a i = - kc a i b j := by
  unfold kc
  by_cases h : a = b
  · rw [if_pos h, if_pos h.symm]; exact cmpB_neg _ _
  · rw [if_neg h, if_neg (fun e => h e.symm)]; exact cmpB_neg _ _
theorem kc_zero {a i b j : ByteArray} (h : kc a i b j = 0) : a = b ∧ i = j := by
  unfold kc at h
  by_cases e : a = b
  · rw [if_pos e] at h; exact ⟨e, ba_eq (cmpB_eq _ _ h)⟩
  · rw [if_neg e] at h; exact absurd (ba_eq (cmpB_eq _ _ h)) e
theorem kc_le {a i b j c k : ByteArray} (h1 : kc a i b j ≤ 0) (h2 : kc b j c k ≤ 0) : kc a i c k ≤ 0 := by
  unfold kc at *
  by_cases e1 : a = b
  · subst e1
    by_cases e2 : a = c
    · subst e2
      simp only [if_true] at h1 h2 ⊢
      exact cmpB_le _ _ _ h1 h2
    · simp only [if_neg e2] at h2 ⊢
      exact h2
  · by_cases e2 : b = c
    · subst e2
      simp only [if_neg e1] at h1 ⊢
      exact h1
    · rw [if_neg e1] at h1
      rw [if_neg e2] at h2
      by_cases e3 : a = c
      · subst e3
        exfalso
        have h3 := cmpB_neg a.data.toList b.data.toList
        exact e1 (ba_eq (cmpB_eq _ _ (by omega)))
      · rw [if_neg e3]
        exact cmpB_le _ _ _ h1 h2
theorem klt_no {x y : Cd} (h : 0 ≤ kcmp x y) : klt x y = false := decide_eq_false (by omega)
theorem klt_of {x y : Cd} (h : klt x y = true) : kcmp x y < 0 := of_decide_eq_true h
theorem klt_nof {x y : Cd} (h : klt x y = false) : 0 ≤ kcmp x y := by have := of_decide_eq_false h; omega
theorem kcmp_neg (x y : Cd) : kcmp y x = - kcmp x y := kc_neg _ _ _ _
theorem kcmp_le {x y z : Cd} (h1 : kcmp x y ≤ 0) (h2 : kcmp y z ≤ 0) : kcmp x z ≤ 0 := kc_le h1 h2
theorem klt_weak : Weak klt where
  asym x y h := by
    have h1 := klt_of h
    have h2 := kcmp_neg x y
    exact klt_no (by omega)
  ntr x y z h1 h2 := by
    have e1 := klt_nof h1
    have e2 := klt_nof h2
    have n1 := kcmp_neg x y
    have n2 := kcmp_neg y z
    have n3 := kcmp_neg x z
    have := kcmp_le (x := x) (y := y) (z := z) (by omega) (by omega)
    exact klt_no (by omega)

set_option maxRecDepth 100000 in
set_option maxHeartbeats 1000000 in
theorem cmpString (a b : ByteArray) (w : World) :
    Calls Try.prog 83 #[.string a, .string b] w fun e w' => e = .returned (.int .i64 (Lib.compareBytes a.data.toList b.data.toList)) ∧ w = w' := by
  go_enter Try.func83, Try.ntmps83
  go_wp2
  rw [run_callFunc_extern Try.func86 (by kernel_rfl) (by kernel_rfl) (by kernel_rfl) (e := Extern.BytealgCompare.compare) (by kernel_rfl), Lib.run_compareString]
  simp only [Result.andThen]
  rw [Oper.upon_value]
  go_wp2
  go_ret
  exact ⟨rfl, rfl⟩

set_option maxRecDepth 100000 in
set_option maxHeartbeats 1000000 in
theorem strCompare (a b : ByteArray) (w : World) :
    Calls Try.prog 76 #[.string a, .string b] w fun e w' => e = .returned (.int .i64 (Lib.compareBytes a.data.toList b.data.toList)) ∧ w = w' := by
  go_enter Try.func76, Try.ntmps76
  go_wp2_with fail
  refine (cmpString a b _).mono ?_
  rintro e w1 ⟨rfl, rfl⟩
  go_wp2
  go_ret
  exact ⟨rfl, rfl⟩

set_option maxRecDepth 100000 in
set_option maxHeartbeats 1000000 in
theorem cardCompare (a i b j : ByteArray) (w : World) :
    Calls Try.prog 54 #[.agg #[.string a, .string i], .agg #[.string b, .string j]] w fun e w' => e = .returned (.int .i64 (kc a i b j)) ∧ ∃ q os, w' = Go.Sort.grow (w.drewN q) os := by
  by_cases h : a = b
  · have e : kc a i b j = Lib.compareBytes i.data.toList j.data.toList := if_pos h
    rw [e]
    subst h
    clear e
    go_enter Try.func54, Try.ntmps54
    go_wp2_with fail
    refine (strCompare i j _).mono ?_
    rintro e w1 ⟨rfl, rfl⟩
    go_wp2
    go_ret
    exact ⟨rfl, 0, _, by rw [Go.Sort.alloc_eq_grow, Go.Sort.alloc_eq_grow, Go.Sort.grow_grow]; rfl⟩
  · have e : kc a i b j = Lib.compareBytes a.data.toList b.data.toList := if_neg h
    rw [e]
    have h3 : ¬ a.toList = b.toList := fun e => h (str_inj e)
    have h4 : (a.toList == b.toList) = false := by simpa using h3
    have h5 : (@BEq.beq _ instBEqOfDecidableEq a.toList b.toList) = false := by simpa using h3
    clear e h
    go_enter Try.func54, Try.ntmps54
    go_wp2_with fail
    refine (strCompare a b _).mono ?_
    rintro e w1 ⟨rfl, rfl⟩
    go_wp2
    go_ret
    exact ⟨rfl, 0, _, by rw [Go.Sort.alloc_eq_grow, Go.Sort.alloc_eq_grow, Go.Sort.grow_grow]; rfl⟩

set_option maxRecDepth 100000 in
set_option maxHeartbeats 1000000 in
theorem sortClosure (x y : Cd) (w : World) :
    Calls Try.prog 53 #[.agg #[.string x.a, .string x.i, .int .i64 x.s, .int .i64 x.o, .int .i64 x.l, .int .i64 x.t, .int .i64 x.k, .int .i64 x.n, .bool x.g], .agg #[.string y.a, .string y.i, .int .i64 y.s, .int .i64 y.o, .int .i64 y.l, .int .i64 y.t, .int .i64 y.k, .int .i64 y.n, .bool y.g]] w fun e w' => e = .returned (.int .i64 (kcmp x y)) ∧ ∃ q os, w' = Go.Sort.grow (w.drewN q) os := by
  go_enter Try.func53, Try.ntmps53
  go_wp2_with fail
  refine (cardCompare x.a x.i y.a y.i _).mono ?_
  rintro e w1 ⟨rfl, q, os, rfl⟩
  go_wp2
  go_ret
  exact ⟨rfl, q, _, by rw [Go.Sort.alloc_eq_grow, Go.Sort.alloc_eq_grow, Go.Sort.grow_grow]; show Go.Sort.grow (Go.Sort.grow (w.drewN q) _) os = _; rw [Go.Sort.grow_grow]⟩

end Go.Proofs.Ytloeabdohgdmkaa

/- Cards by key: the library's stable sort, of rows that are short. -/
namespace Go.Proofs.Ytloeabdohgdmkaa
open Go.RowKit
set_option linter.unusedVariables false
set_option linter.unusedSimpArgs false

instance : Inhabited Cd := ⟨Cd.zero⟩
theorem flatK_list (d : Array Cd) : (Go.Sort.flatK cc 9 d).toList = flat cc d.toList := by
  apply List.ext_getElem?
  intro t
  rw [Array.getElem?_toList]
  rcases Nat.lt_or_ge t (d.size * 9) with h | h
  · have hi : t / 9 < d.toList.length := by rw [Array.length_toList]; exact Nat.div_lt_of_lt_mul (by omega)
    have e : t = t / 9 * 9 + t % 9 := by omega
    have h1 : (flat cc d.toList)[t]? = (cc (d.toList[t / 9]))[t % 9]? := by
      conv => lhs; rw [e]
      exact flat_at cc_len d.toList (t / 9) _ (List.getElem?_eq_getElem hi) (t % 9) (by omega)
    rw [h1]
    have h2 : t < (Go.Sort.flatK cc 9 d).size := by rw [Go.Sort.size_flatK]; exact h
    rw [Array.getElem?_eq_getElem h2]
    have h3 := Go.Sort.get_flatK cc 9 d t h
    rw [getElem!_pos _ t h2] at h3
    rw [h3]
    have h4 : d[t / 9]! = d.toList[t / 9] := by
      rw [Array.length_toList] at hi
      rw [getElem!_pos d (t / 9) hi, Array.getElem_toList]
    rw [h4]
    have h5 : t % 9 < (cc (d.toList[t / 9])).length := by rw [cc_len]; omega
    rw [getElem!_pos (cc (d.toList[t / 9])) (t % 9) h5, List.getElem?_eq_getElem h5]
  · rw [Array.getElem?_eq_none (by rw [Go.Sort.size_flatK]; exact h), List.getElem?_eq_none (by rw [flat_len cc_len, Array.length_toList]; exact h)]
theorem own_holds {base : Nat} {w : World} {g n c : Nat} {ls : List Cd} (h : OwnC base w (.slice (some ⟨g, 0, none⟩) n c) ls) : Go.Sort.HoldsK cc 9 w g 0 ls.toArray ∧ g < w.heap.size := by
  have h0 := h
  rcases h.2 with ⟨e, _⟩ | ⟨g', cap, cur, e, hg, hh, hnc, hcm, hcs, ht⟩
  · cases e
  · simp only [Value.slice.injEq, Option.some.injEq, Addr.mk.injEq] at e
    obtain ⟨⟨rfl, -⟩, rfl, rfl⟩ := e
    refine ⟨fun j hj => ⟨?_, blk_free hh _⟩, blk_lt hh⟩
    rw [Nat.zero_add]
    refine own_rd cc_len h0 ?_
    have e1 := flatK_list ls.toArray
    rw [← e1, Array.getElem?_toList, Array.getElem?_eq_getElem hj, getElem!_pos (Go.Sort.flatK cc 9 ls.toArray) j hj]
    rfl
theorem put_take (F cur : Array Value) (h : F.size ≤ cur.size) : (Go.Sort.putCells id 0 F cur).toList.take F.size = F.toList := by
  apply List.ext_getElem?
  intro t
  rcases Nat.lt_or_ge t F.size with h1 | h1
  · rw [List.getElem?_take_of_lt h1, Array.getElem?_toList, Array.getElem?_toList]
    unfold Go.Sort.putCells
    rw [Array.getElem?_mapIdx, Array.getElem?_eq_getElem (show t < cur.size from by omega), Option.map_some, if_pos ⟨by omega, by omega⟩, Array.getElem?_eq_getElem h1, Nat.sub_zero, getElem!_pos F t h1]
    rfl
  · rw [List.getElem?_eq_none (by simp; omega), List.getElem?_eq_none (by simpa using h1)]
theorem sort_own {base : Nat} {w : World} {g n c : Nat} {ls ms : List Cd} (h : OwnC base w (.slice (some ⟨g, 0, none⟩) n c) ls) (hn : ls.length = n) (hm : ms.length = n) (q : Nat) (os : Array Obj) (d : Array Cd) (hd : d.toList = ms) :
    OwnC base (sortWorldK cc 9 w g 0 q d os) (.slice (some ⟨g, 0, none⟩) n c) ms ∧ Rim g w (sortWorldK cc 9 w g 0 q d os) := by
  rcases h.2 with ⟨e, _⟩ | ⟨g', cap, cur, e, hg, hh, hnc, hcm, hcs, ht⟩
  · cases e
  · simp only [Value.slice.injEq, Option.some.injEq, Addr.mk.injEq] at e
    obtain ⟨⟨rfl, -⟩, -, rfl⟩ := e
    have hlt := blk_lt hh
    have hF : (Go.Sort.flatK cc 9 d).size = n * 9 := by rw [Go.Sort.size_flatK, ← Array.length_toList, hd, hm]
    have hb : (sortWorldK cc 9 w g 0 q d os).heap[g]? = some (.cells (Go.Sort.putCells id 0 (Go.Sort.flatK cc 9 d) cur) 34 (0, 0)) := by
      show (((w.heap.modify g _)) ++ os)[g]? = _
      rw [Array.getElem?_append_left (by simpa using hlt), Array.getElem?_modify, if_pos rfl, hh]
      rfl
    have hk : ∀ k, k ≠ g → k < w.heap.size → (sortWorldK cc 9 w g 0 q d os).heap[k]? = w.heap[k]? := fun k hne hk => by
      show (((w.heap.modify g _)) ++ os)[k]? = _
      rw [Array.getElem?_append_left (by simpa using hk), Array.getElem?_modify, if_neg (fun e => hne e.symm)]
    rw [hn] at hnc
    refine ⟨⟨by rw [flat_len cc_len, hm], .inr ⟨g, c, _, by rw [hm], hg, hb, by rw [hm]; exact hnc, hcm, by rw [Go.Sort.putCells, Array.size_mapIdx]; exact hcs, ?_⟩⟩, ⟨rfl, rfl, rfl, ?_, hk⟩⟩
    · rw [hm, ← hF, put_take _ _ (by rw [hF, hcs]; exact Nat.mul_le_mul_right 9 hnc), flatK_list, hd]
    · show _ ≤ (((w.heap.modify g _)) ++ os).size
      simp
set_option maxRecDepth 100000 in
set_option maxHeartbeats 1000000 in
theorem insNil (w : World) :
    Calls Try.prog 81 #[.slice none 0 0, .int .i64 0, .int .i64 0, .func (.func 53) #[] #[]] w fun e w' => e = .returned (.tuple #[]) ∧ Below w.heap.size w w' := by
  go_enter Try.func81, Try.ntmps81
  go_wp2_with fail
  go_loopw [8] (fun i wr => i = .int .i64 1 ∧ Below w.heap.size w wr) (fun _ _ => 0)
  case atStart => exact ⟨rfl, Below.refl _ _⟩
  case round =>
    obtain ⟨rfl, hb⟩ := hrel
    go_wp2
    go_end0
    exact ⟨rfl, hb⟩

set_option maxRecDepth 100000 in
set_option maxHeartbeats 1000000 in
theorem stbNil (w : World) :
    Calls Try.prog 75 #[.slice none 0 0, .int .i64 0, .func (.func 53) #[] #[]] w fun e w' => e = .returned (.tuple #[]) ∧ Below w.heap.size w w' := by
  go_enter Try.func75, Try.ntmps75
  go_wp2_with fail
  go_loopw [7, 8] (fun a b wr => a = .int .i64 0 ∧ b = .int .i64 20 ∧ Below w.heap.size w wr) (fun _ _ _ => 0)
  case atStart => exact ⟨rfl, rfl, Below.refl _ _⟩
  case round =>
    obtain ⟨rfl, rfl, hb⟩ := hrel
    go_wp2_with fail
    refine (insNil _).mono ?_
    rintro e w2 ⟨rfl, hb2⟩
    go_wp2_with fail
    go_loopw [6] (fun s wr => s = .int .i64 20 ∧ Below w2.heap.size w2 wr) (fun _ _ => 0)
    case atStart => exact ⟨rfl, Below.refl _ _⟩
    case round =>
      obtain ⟨rfl, hb3⟩ := hrel
      go_wp2
      go_end0
      exact ⟨rfl, ext_trans hb (ext_trans hb2 hb3)⟩

set_option maxRecDepth 100000 in
set_option maxHeartbeats 1000000 in
theorem ssfNil (w : World) :
    Calls Try.prog 52 #[.slice none 0 0, .func (.func 53) #[] #[]] w fun e w' => e = .returned (.tuple #[]) ∧ Below w.heap.size w w' := by
  go_enter Try.func52, Try.ntmps52
  go_wp2_with fail
  refine (stbNil _).mono ?_
  rintro e w2 ⟨rfl, hb2⟩
  go_wp2
  go_end0
  exact ⟨rfl, hb2⟩

end Go.Proofs.Ytloeabdohgdmkaa
