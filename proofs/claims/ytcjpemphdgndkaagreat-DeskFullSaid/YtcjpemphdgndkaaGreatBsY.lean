/- Several texts as one: SortC, SortD. -/
import Derived.Test.YtcjpemphdgndkaaGreatInsY
import Derived.Test.YtcjpemphdgndkaaGreatBbY
import Derived.Shelf.SlSortCmp.InsertionK
import Derived.Lib.Bytealg
/- Cards by key: compared, and put in order. -/
namespace Go.Proofs.YtcjpemphdgndkaaGreat
open Go.RowKit
set_option linter.unusedVariables false

/-- two keys, compared -/
def kc (a i b j : ByteArray) : Int := if a = b then Lib.compareBytes i.data.toList j.data.toList else Lib.compareBytes a.data.toList b.data.toList
theorem ba_eq {a b : ByteArray} (h : a.data.toList = b.data.toList) : a = b := by
  obtain ⟨⟨la⟩⟩ := a
  obtain ⟨⟨lb⟩⟩ := b
  simp at h
  subst h
  rfl
theorem kc_neg (a i b j : ByteArray) : kc b j a i = - kc a i b j := by
  unfold kc
  by_cases h : a = b
  · rw [if_pos h, if_pos h.symm]; exact cmpB_neg _ _
  · rw [if_neg h, if_neg (fun e => h e.symm)]; exact cmpB_neg _ _
theorem kc_zero {a i b j : ByteArray} (h : kc a i b j = 0) : a = b ∧ i = j := by
  unfold kc at h
  by_cases e : a = b
  · rw [if_pos e] at h; exact ⟨e, ba_eq (cmpB_eq _ _ h)⟩
  · rw [if_neg e] at h; exact absurd (ba_eq (cmpB_eq _ _ h)) e
theorem kc_le {a i b j c k : ByteArray} (h1 : kc a i b j ≤ 0) (h2 : kc b j c k ≤ 0) : kc a i c k ≤ 0 := by
  unfold kc at *
  by_cases e1 : a = b
  · subst e1
    by_cases e2 : a = c
    · subst e2
      simp only [if_true] at h1 h2 ⊢
      exact cmpB_le _ _ _ h1 h2
    · simp only [if_neg e2] at h2 ⊢
      exact h2
  · by_cases e2 : b = c
    · subst e2
      simp only [if_neg e1] at h1 ⊢
      exact h1
    · rw [if_neg e1] at h1
      rw [if_neg e2] at h2
      by_cases e3 : a = c
      · subst e3
        exfalso
        have h3 := cmpB_neg a.data.toList b.data.toList
        exact e1 (ba_eq (cmpB_eq _ _ (by omega)))
      · rw [if_neg e3]
        exact cmpB_le _ _ _ h1 h2
set_option maxRecDepth 100000 in
set_option maxHeartbeats 1000000 in
theorem cmpString (a b : ByteArray) (w : World) :
    Calls Tryz.prog 175 #[.string a, .string b] w fun e w' => e = .returned (.int .i64 (Lib.compareBytes a.data.toList b.data.toList)) ∧ w = w' := by
  go_enter Tryz.func175, Tryz.ntmps175
  go_wp2
  rw [run_callFunc_extern Tryz.func179 (by kernel_rfl) (by kernel_rfl) (by kernel_rfl) (e := Extern.BytealgCompare.compare) (by kernel_rfl), Lib.run_compareString]
  simp only [Result.andThen]
  rw [Oper.upon_value]
  go_wp2
  go_ret
  exact ⟨rfl, rfl⟩

set_option maxRecDepth 100000 in
set_option maxHeartbeats 1000000 in
theorem strCompare (a b : ByteArray) (w : World) :
    Calls Tryz.prog 160 #[.string a, .string b] w fun e w' => e = .returned (.int .i64 (Lib.compareBytes a.data.toList b.data.toList)) ∧ w = w' := by
  go_enter Tryz.func160, Tryz.ntmps160
  go_wp2_with fail
  refine (cmpString a b _).mono ?_
  rintro e w1 ⟨rfl, rfl⟩
  go_wp2
  go_ret
  exact ⟨rfl, rfl⟩

set_option maxRecDepth 100000 in
set_option maxHeartbeats 1000000 in
theorem cardCompare (a i b j : ByteArray) (w : World) :
    Calls Tryz.prog 142 #[.agg #[.string a, .string i], .agg #[.string b, .string j]] w fun e w' => e = .returned (.int .i64 (kc a i b j)) ∧ ∃ q os, w' = Go.Sort.grow (w.drewN q) os := by
  by_cases h : a = b
  · have e : kc a i b j = Lib.compareBytes i.data.toList j.data.toList := if_pos h
    rw [e]
    subst h
    clear e
    go_enter Tryz.func142, Tryz.ntmps142
    go_wp2_with fail
    refine (strCompare i j _).mono ?_
    rintro e w1 ⟨rfl, rfl⟩
    go_wp2
    go_ret
    exact ⟨rfl, 0, _, by rw [Go.Sort.alloc_eq_grow, Go.Sort.alloc_eq_grow, Go.Sort.grow_grow]; rfl⟩
  · have e : kc a i b j = Lib.compareBytes a.data.toList b.data.toList := if_neg h
    rw [e]
    have h3 : ¬ a.toList = b.toList := fun e => h (str_inj e)
    have h4 : (a.toList == b.toList) = false := by simpa using h3
    have h5 : (@BEq.beq _ instBEqOfDecidableEq a.toList b.toList) = false := by simpa using h3
    clear e h
    go_enter Tryz.func142, Tryz.ntmps142
    go_wp2_with fail
    refine (strCompare a b _).mono ?_
    rintro e w1 ⟨rfl, rfl⟩
    go_wp2
    go_ret
    exact ⟨rfl, 0, _, by rw [Go.Sort.alloc_eq_grow, Go.Sort.alloc_eq_grow, Go.Sort.grow_grow]; rfl⟩

end Go.Proofs.YtcjpemphdgndkaaGreat

/- Cards by key: the library's stable sort, of rows that are short. -/
namespace Go.Proofs.YtcjpemphdgndkaaGreat
open Go.RowKit
set_option linter.unusedVariables false
set_option linter.unusedSimpArgs false

instance : Inhabited Cd := ⟨Cd.zero⟩
end Go.Proofs.YtcjpemphdgndkaaGreat
