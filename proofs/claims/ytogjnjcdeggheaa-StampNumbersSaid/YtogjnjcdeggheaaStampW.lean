/- The walks of package stamp and of the reference's stamps: what each call answers, in numbers; it makes new memory alone. -/
import Derived.Test.YtogjnjcdeggheaaRows
import Derived.Test.YtogjnjcdeggheaaOpenStamp
namespace Go.Proofs.Ytogjnjcdeggheaa
open Go.RowKit
set_option linter.unusedVariables false

def sLess (t k n t' k' n' : Int) : Bool := if t = t' then (if n = n' then decide (k < k') else decide (n < n')) else decide (t < t')

set_option maxHeartbeats 400000 in
theorem stampLess (t k n t' k' n' : Int) (w : World) :
    Calls Try.prog 11 #[stv t k n, stv t' k' n'] w fun e w' => e = .returned (.bool (sLess t k n t' k' n')) ∧ Below w.heap.size w w' := by
  by_cases h1 : t = t'
  · subst h1
    by_cases h2 : n = n'
    · subst h2
      go_enter Try.func11, Try.ntmps11
      go_wp2
      go_ret
      exact ⟨by simp [sLess], by go_grown⟩
    · go_enter Try.func11, Try.ntmps11
      go_wp2
      go_ret
      exact ⟨by simp [sLess, h2], by go_grown⟩
  · go_enter Try.func11, Try.ntmps11
    go_wp2
    go_ret
    exact ⟨by simp [sLess, h1], by go_grown⟩


set_option maxHeartbeats 400000 in
theorem refLess (t k n t' k' n' : Int) (w : World) :
    Calls Try.prog 14 #[stv t k n, stv t' k' n'] w fun e w' => e = .returned (.bool (sLess t k n t' k' n')) ∧ Below w.heap.size w w' := by
  by_cases h1 : t = t'
  · subst h1
    by_cases h2 : n = n'
    · subst h2
      go_enter Try.func14, Try.ntmps14
      go_wp2
      go_ret
      exact ⟨by simp [sLess], by go_grown⟩
    · go_enter Try.func14, Try.ntmps14
      go_wp2
      go_ret
      exact ⟨by simp [sLess, h2], by go_grown⟩
  · go_enter Try.func14, Try.ntmps14
    go_wp2
    go_ret
    exact ⟨by simp [sLess, h1], by go_grown⟩

/-- the later of two -/
def sMax (t k n t' k' n' : Int) : Int × Int × Int := if sLess t k n t' k' n' then (t', k', n') else (t, k, n)
@[reducible] def stp (p : Int × Int × Int) : Value := stv p.1 p.2.1 p.2.2

set_option maxHeartbeats 400000 in
theorem stampMax (t k n t' k' n' : Int) (w : World) :
    Calls Try.prog 12 #[stv t k n, stv t' k' n'] w fun e w' => e = .returned (stp (sMax t k n t' k' n')) ∧ Below w.heap.size w w' := by
  cases hs : sLess t k n t' k' n'
  all_goals
    have H := Lib.hid hs
    go_enter Try.func12, Try.ntmps12
    go_wp2_with fail
    refine (stampLess _ _ _ _ _ _ _).mono ?_
    rintro e w' ⟨rfl, hb⟩
    rw [hs]
    clear hs
    have c0 := ext_cell hb (b := w.heap.size + 1 + 1) (o := 0) (v := .int .i64 0) (by go_cell)
    have c1 := ext_cell hb (b := w.heap.size + 1 + 1) (o := 1) (v := .int .i64 0) (by go_cell)
    have c2 := ext_cell hb (b := w.heap.size + 1 + 1) (o := 2) (v := .int .i64 0) (by go_cell)
    have f0 := ext_frozen hb (b := w.heap.size + 1 + 1) (o := 0) (v := .int .i64 0) (by go_cell) (by go_cell)
    have f1 := ext_frozen hb (b := w.heap.size + 1 + 1) (o := 1) (v := .int .i64 0) (by go_cell) (by go_cell)
    have f2 := ext_frozen hb (b := w.heap.size + 1 + 1) (o := 2) (v := .int .i64 0) (by go_cell) (by go_cell)
    have d0 := ext_cell hb (b := w.heap.size) (o := 0) (v := .int .i64 t) (by go_cell)
    have d1 := ext_cell hb (b := w.heap.size) (o := 1) (v := .int .i64 k) (by go_cell)
    have d2 := ext_cell hb (b := w.heap.size) (o := 2) (v := .int .i64 n) (by go_cell)
    have e0 := ext_cell hb (b := w.heap.size + 1) (o := 0) (v := .int .i64 t') (by go_cell)
    have e1 := ext_cell hb (b := w.heap.size + 1) (o := 1) (v := .int .i64 k') (by go_cell)
    have e2 := ext_cell hb (b := w.heap.size + 1) (o := 2) (v := .int .i64 n') (by go_cell)
    have B := ext_trans (a := w) (by go_grown) hb
    go_wp2
    exact bodyPost_ret (v := stp (sMax t k n t' k' n')) (by simp [results, Try.results12, go_sem, c0, c1, c2, sMax, H.out]) rfl ⟨rfl, by go_grown⟩

theorem stampMax_no (t k n t' k' n' : Int) (w : World) (h : sLess t k n t' k' n' = false) :
    Calls Try.prog 12 #[stv t k n, stv t' k' n'] w fun e w' => e = .returned (stv t k n) ∧ Below w.heap.size w w' :=
  (stampMax t k n t' k' n' w).mono fun _ _ ⟨he, hb⟩ => ⟨by rw [he]; simp [sMax, h], hb⟩
theorem stampMax_yes (t k n t' k' n' : Int) (w : World) (h : sLess t k n t' k' n' = true) :
    Calls Try.prog 12 #[stv t k n, stv t' k' n'] w fun e w' => e = .returned (stv t' k' n') ∧ Below w.heap.size w w' :=
  (stampMax t k n t' k' n' w).mono fun _ _ ⟨he, hb⟩ => ⟨by rw [he]; simp [sMax, h], hb⟩

def sNext (t n now node : Int) : Int × Int × Int := (if t < now then now else t, node, if n < 9223372036854775807 then n + 1 else n)
def sRight (t k n : Int) : Bool := decide (0 ≤ t ∧ 0 ≤ n ∧ 0 ≤ k ∧ k < 6)

set_option maxHeartbeats 400000 in
theorem stampNext (t k n now node : Int) (w : World) (hn : n ≤ 9223372036854775807) (hn0 : -9223372036854775808 ≤ n) :
    Calls Try.prog 10 #[stv t k n, .int .i64 now, .int .i64 node] w fun e w' => e = .returned (stp (sNext t n now node)) ∧ Below w.heap.size w w' := by
  by_cases h : n < 9223372036854775807
  · go_enter Try.func10, Try.ntmps10
    go_wp2
    all_goals exact bodyPost_ret (v := stp (sNext t n now node)) (by simp [results, Try.results10, go_sem, sNext]; omega) rfl ⟨rfl, by go_grown⟩
  · go_enter Try.func10, Try.ntmps10
    go_wp2
    all_goals exact bodyPost_ret (v := stp (sNext t n now node)) (by simp [results, Try.results10, go_sem, sNext]; omega) rfl ⟨rfl, by go_grown⟩

set_option maxHeartbeats 400000 in
theorem refNext (t k n now node : Int) (w : World) (hn : n ≤ 9223372036854775807) (hn0 : -9223372036854775808 ≤ n) :
    Calls Try.prog 15 #[stv t k n, .int .i64 now, .int .i64 node] w fun e w' => e = .returned (stp (sNext t n now node)) ∧ Below w.heap.size w w' := by
  by_cases h : n < 9223372036854775807
  · go_enter Try.func15, Try.ntmps15
    go_wp2
    all_goals exact bodyPost_ret (v := stp (sNext t n now node)) (by simp [results, Try.results15, go_sem, sNext]; omega) rfl ⟨rfl, by go_grown⟩
  · go_enter Try.func15, Try.ntmps15
    go_wp2
    all_goals exact bodyPost_ret (v := stp (sNext t n now node)) (by simp [results, Try.results15, go_sem, sNext]; omega) rfl ⟨rfl, by go_grown⟩

set_option maxHeartbeats 400000 in
theorem stampRight (t k n : Int) (w : World) :
    Calls Try.prog 13 #[stv t k n] w fun e w' => e = .returned (.bool (sRight t k n)) ∧ Below w.heap.size w w' := by
  by_cases h1 : t < 0
  · go_enter Try.func13, Try.ntmps13
    go_wp2
    all_goals (go_ret; refine ⟨?_, by go_grown⟩; first | (simp [sRight]; omega) | simp [sRight, *])
  · by_cases h2 : n < 0
    · go_enter Try.func13, Try.ntmps13
      go_wp2
      all_goals (go_ret; refine ⟨?_, by go_grown⟩; first | (simp [sRight]; omega) | simp [sRight, *])
    · by_cases h3 : k < 0
      · go_enter Try.func13, Try.ntmps13
        go_wp2
        all_goals (go_ret; refine ⟨?_, by go_grown⟩; first | (simp [sRight]; omega) | simp [sRight, *])
      · by_cases h4 : 6 ≤ k
        all_goals
          go_enter Try.func13, Try.ntmps13
          go_wp2
          all_goals (go_ret; refine ⟨?_, by go_grown⟩; first | (simp [sRight]; omega) | simp [sRight, *])

set_option maxHeartbeats 400000 in
theorem refStamp (t k n : Int) (w : World) :
    Calls Try.prog 16 #[stv t k n] w fun e w' => e = .returned (.bool (sRight t k n)) ∧ Below w.heap.size w w' := by
  by_cases h1 : t < 0
  · go_enter Try.func16, Try.ntmps16
    go_wp2
    all_goals (go_ret; refine ⟨?_, by go_grown⟩; first | (simp [sRight]; omega) | simp [sRight, *])
  · by_cases h2 : n < 0
    · go_enter Try.func16, Try.ntmps16
      go_wp2
      all_goals (go_ret; refine ⟨?_, by go_grown⟩; first | (simp [sRight]; omega) | simp [sRight, *])
    · by_cases h3 : k < 0
      · go_enter Try.func16, Try.ntmps16
        go_wp2
        all_goals (go_ret; refine ⟨?_, by go_grown⟩; first | (simp [sRight]; omega) | simp [sRight, *])
      · by_cases h4 : 6 ≤ k
        all_goals
          go_enter Try.func16, Try.ntmps16
          go_wp2
          all_goals (go_ret; refine ⟨?_, by go_grown⟩; first | (simp [sRight]; omega) | simp [sRight, *])

theorem stampNext_later (t k n now node : Int) (w : World) (hn : n < 9223372036854775807) (hn0 : 0 ≤ n) :
    Calls Try.prog 10 #[stv t k n, .int .i64 now, .int .i64 node] w fun e w' => ∃ T, e = .returned (stv T node (n + 1)) ∧ t ≤ T ∧ now ≤ T ∧ Below w.heap.size w w' :=
  (stampNext t k n now node w (by omega) (by omega)).mono fun e w' ⟨he, hb⟩ => ⟨if t < now then now else t, by rw [he]; simp [sNext, hn], by split <;> omega, by split <;> omega, hb⟩
theorem sLess_later {t k n T k' : Int} (h : t ≤ T) : sLess t k n T k' (n + 1) = true := by
  unfold sLess
  have h1 : ¬ n = n + 1 := by omega
  by_cases e : t = T
  · simp [e, h1]; omega
  · simp [e]; omega
theorem sRight_later {t k n : Int} (ht : 0 ≤ t) (hk : 0 ≤ k) (hk6 : k < 6) (hn : 0 ≤ n) : sRight t k n = true := by simp [sRight, *]

end Go.Proofs.Ytogjnjcdeggheaa
