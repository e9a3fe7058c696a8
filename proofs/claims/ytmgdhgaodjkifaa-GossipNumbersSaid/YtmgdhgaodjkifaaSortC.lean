/- Cards by key: compared, and put in order. -/
import Derived.Test.YtmgdhgaodjkifaaIns
import Derived.Test.YtmgdhgaodjkifaaCardSl
import Derived.Shelf.SlSortCmp.InsertionK
import Derived.Lib.Bytealg
namespace Go.Proofs.Ytmgdhgaodjkifaa
open Go.RowKit
set_option linter.unusedVariables false

/-- two keys, compared -/
def kc (a i b j : ByteArray) : Int := if a = b then Lib.compareBytes i.data.toList j.data.toList else Lib.compareBytes a.data.toList b.data.toList
def kcmp (x y : Cd) : Int := kc x.a x.i y.a y.i
/-- is x ahead of y? -/
def klt (x y : Cd) : Bool := decide (kcmp x y < 0)
theorem ba_eq {a b : ByteArray} (h : a.data.toList = b.data.toList) : a = b := by
  obtain ⟨⟨la⟩⟩ := a
  obtain ⟨⟨lb⟩⟩ := b
  simp at h
  subst h
  rfl
theorem kc_neg (a i b j : ByteArray) : kc b j a i = - kc a i b j := by
  unfold kc
  by_cases h : a = b
  · rw [if_pos h, if_pos h.symm]; exact cmpB_neg _ _
  · rw [if_neg h, if_neg (fun e => h e.symm)]; exact cmpB_neg _ _
theorem kc_zero {a i b j : ByteArray} (h : kc a i b j = 0) : a = b ∧ i = j := by
  unfold kc at h
  by_cases e : a = b
  · rw [if_pos e] at h; exact ⟨e, ba_eq (cmpB_eq _ _ h)⟩
  · rw [if_neg e] at h; exact absurd (ba_eq (cmpB_eq _ _ h)) e
theorem kc_le {a i b j c k : ByteArray} (h1 : kc a i b j ≤ 0) (h2 : kc b j c k ≤ 0) : kc a i c k ≤ 0 := by
  unfold kc at *
  by_cases e1 : a = b
  · subst e1
    by_cases e2 : a = c
    · subst e2
      simp only [if_true] at h1 h2 ⊢
      exact cmpB_le _ _ _ h1 h2
    · simp only [if_neg e2] at h2 ⊢
      exact h2
  · by_cases e2 : b = c
    · subst e2
      simp only [if_neg e1] at h1 ⊢
      exact h1
    · rw [if_neg e1] at h1
      rw [if_neg e2] at h2
      by_cases e3 : a = c
      · subst e3
        exfalso
        have h3 := cmpB_neg a.data.toList b.data.toList
        exact e1 (ba_eq (cmpB_eq _ _ (by omega)))
      · rw [if_neg e3]
        exact cmpB_le _ _ _ h1 h2
theorem klt_yes {x y : Cd} (h : kcmp x y < 0) : klt x y = true := decide_eq_true h
theorem klt_no {x y : Cd} (h : 0 ≤ kcmp x y) : klt x y = false := decide_eq_false (by omega)
theorem klt_of {x y : Cd} (h : klt x y = true) : kcmp x y < 0 := of_decide_eq_true h
theorem klt_nof {x y : Cd} (h : klt x y = false) : 0 ≤ kcmp x y := by have := of_decide_eq_false h; omega
theorem kcmp_neg (x y : Cd) : kcmp y x = - kcmp x y := kc_neg _ _ _ _
theorem kcmp_le {x y z : Cd} (h1 : kcmp x y ≤ 0) (h2 : kcmp y z ≤ 0) : kcmp x z ≤ 0 := kc_le h1 h2
theorem klt_weak : Weak klt where
  asym x y h := by
    have h1 := klt_of h
    have h2 := kcmp_neg x y
    exact klt_no (by omega)
  ntr x y z h1 h2 := by
    have e1 := klt_nof h1
    have e2 := klt_nof h2
    have n1 := kcmp_neg x y
    have n2 := kcmp_neg y z
    have n3 := kcmp_neg x z
    have := kcmp_le (x := x) (y := y) (z := z) (by omega) (by omega)
    exact klt_no (by omega)

set_option maxRecDepth 100000 in
set_option maxHeartbeats 1000000 in
theorem cmpString (a b : ByteArray) (w : World) :
    Calls Try.prog 41 #[.string a, .string b] w fun e w' => e = .returned (.int .i64 (Lib.compareBytes a.data.toList b.data.toList)) ∧ w = w' := by
  go_enter Try.func41, Try.ntmps41
  go_wp2
  rw [run_callFunc_extern Try.func44 (by kernel_rfl) (by kernel_rfl) (by kernel_rfl) (e := Extern.BytealgCompare.compare) (by kernel_rfl), Lib.run_compareString]
  simp only [Result.andThen]
  rw [Oper.upon_value]
  go_wp2
  go_ret
  exact ⟨rfl, rfl⟩

set_option maxRecDepth 100000 in
set_option maxHeartbeats 1000000 in
theorem strCompare (a b : ByteArray) (w : World) :
    Calls Try.prog 39 #[.string a, .string b] w fun e w' => e = .returned (.int .i64 (Lib.compareBytes a.data.toList b.data.toList)) ∧ w = w' := by
  go_enter Try.func39, Try.ntmps39
  go_wp2_with fail
  refine (cmpString a b _).mono ?_
  rintro e w1 ⟨rfl, rfl⟩
  go_wp2
  go_ret
  exact ⟨rfl, rfl⟩

set_option maxRecDepth 100000 in
set_option maxHeartbeats 1000000 in
theorem cardCompare (a i b j : ByteArray) (w : World) :
    Calls Try.prog 35 #[.agg #[.string a, .string i], .agg #[.string b, .string j]] w fun e w' => e = .returned (.int .i64 (kc a i b j)) ∧ ∃ q os, w' = Go.Sort.grow (w.drewN q) os := by
  by_cases h : a = b
  · have e : kc a i b j = Lib.compareBytes i.data.toList j.data.toList := if_pos h
    rw [e]
    subst h
    clear e
    go_enter Try.func35, Try.ntmps35
    go_wp2_with fail
    refine (strCompare i j _).mono ?_
    rintro e w1 ⟨rfl, rfl⟩
    go_wp2
    go_ret
    exact ⟨rfl, 0, _, by rw [Go.Sort.alloc_eq_grow, Go.Sort.alloc_eq_grow, Go.Sort.grow_grow]; rfl⟩
  · have e : kc a i b j = Lib.compareBytes a.data.toList b.data.toList := if_neg h
    rw [e]
    have h3 : ¬ a.toList = b.toList := fun e => h (str_inj e)
    have h4 : (a.toList == b.toList) = false := by simpa using h3
    have h5 : (@BEq.beq _ instBEqOfDecidableEq a.toList b.toList) = false := by simpa using h3
    clear e h
    go_enter Try.func35, Try.ntmps35
    go_wp2_with fail
    refine (strCompare a b _).mono ?_
    rintro e w1 ⟨rfl, rfl⟩
    go_wp2
    go_ret
    exact ⟨rfl, 0, _, by rw [Go.Sort.alloc_eq_grow, Go.Sort.alloc_eq_grow, Go.Sort.grow_grow]; rfl⟩

set_option maxRecDepth 100000 in
set_option maxHeartbeats 1000000 in
theorem sortClosure (x y : Cd) (w : World) :
    Calls Try.prog 38 #[.agg #[.string x.a, .string x.i, .int .i64 x.s, .int .i64 x.o, .int .i64 x.l, .int .i64 x.t, .int .i64 x.k, .int .i64 x.n, .bool x.g], .agg #[.string y.a, .string y.i, .int .i64 y.s, .int .i64 y.o, .int .i64 y.l, .int .i64 y.t, .int .i64 y.k, .int .i64 y.n, .bool y.g]] w fun e w' => e = .returned (.int .i64 (kcmp x y)) ∧ ∃ q os, w' = Go.Sort.grow (w.drewN q) os := by
  go_enter Try.func38, Try.ntmps38
  go_wp2_with fail
  refine (cardCompare x.a x.i y.a y.i _).mono ?_
  rintro e w1 ⟨rfl, q, os, rfl⟩
  go_wp2
  go_ret
  exact ⟨rfl, q, _, by rw [Go.Sort.alloc_eq_grow, Go.Sort.alloc_eq_grow, Go.Sort.grow_grow]; show Go.Sort.grow (Go.Sort.grow (w.drewN q) _) os = _; rw [Go.Sort.grow_grow]⟩

end Go.Proofs.Ytmgdhgaodjkifaa
