/- Stamps, for a desk. -/
import Derived.Test.YtcjpemphdgndkaaGreatBeY
import Derived.Test.YtcjpemphdgndkaaGreatDkNY
namespace Go.Proofs.YtcjpemphdgndkaaGreat
open Go.RowKit
set_option linter.unusedVariables false
set_option linter.unusedSimpArgs false

@[reducible] def stp (p : Int × Int × Int) : Value := stv p.1 p.2.1 p.2.2
/-- the later of two -/
def sMax (t k n t' k' n' : Int) : Int × Int × Int := if sLess t k n t' k' n' then (t', k', n') else (t, k, n)
set_option maxHeartbeats 400000 in
theorem stampMax (t k n t' k' n' : Int) (w : World) :
    Calls Tryz.prog 138 #[stv t k n, stv t' k' n'] w fun e w' => e = .returned (stp (sMax t k n t' k' n')) ∧ Below w.heap.size w w' := by
  cases hs : sLess t k n t' k' n'
  all_goals
    have H := Lib.hid hs
    go_enter Tryz.func138, Tryz.ntmps138
    go_wp2_with fail
    refine (stampLess _ _ _ _ _ _ _).mono ?_
    rintro e w' ⟨rfl, hb⟩
    rw [hs]
    clear hs
    have c0 := ext_cell hb (b := w.heap.size + 1 + 1) (o := 0) (v := .int .i64 0) (by go_cell)
    have c1 := ext_cell hb (b := w.heap.size + 1 + 1) (o := 1) (v := .int .i64 0) (by go_cell)
    have c2 := ext_cell hb (b := w.heap.size + 1 + 1) (o := 2) (v := .int .i64 0) (by go_cell)
    have f0 := ext_frozen hb (b := w.heap.size + 1 + 1) (o := 0) (v := .int .i64 0) (by go_cell) (by go_cell)
    have f1 := ext_frozen hb (b := w.heap.size + 1 + 1) (o := 1) (v := .int .i64 0) (by go_cell) (by go_cell)
    have f2 := ext_frozen hb (b := w.heap.size + 1 + 1) (o := 2) (v := .int .i64 0) (by go_cell) (by go_cell)
    have d0 := ext_cell hb (b := w.heap.size) (o := 0) (v := .int .i64 t) (by go_cell)
    have d1 := ext_cell hb (b := w.heap.size) (o := 1) (v := .int .i64 k) (by go_cell)
    have d2 := ext_cell hb (b := w.heap.size) (o := 2) (v := .int .i64 n) (by go_cell)
    have e0 := ext_cell hb (b := w.heap.size + 1) (o := 0) (v := .int .i64 t') (by go_cell)
    have e1 := ext_cell hb (b := w.heap.size + 1) (o := 1) (v := .int .i64 k') (by go_cell)
    have e2 := ext_cell hb (b := w.heap.size + 1) (o := 2) (v := .int .i64 n') (by go_cell)
    have B := ext_trans (a := w) (by go_grown) hb
    go_wp2
    exact bodyPost_ret (v := stp (sMax t k n t' k' n')) (by simp [results, Tryz.results138, go_sem, c0, c1, c2, sMax, H.out]) rfl ⟨rfl, by go_grown⟩
def sNext (t n now node : Int) : Int × Int × Int := (if t < now then now else t, node, if n < 9223372036854775807 then n + 1 else n)
set_option maxHeartbeats 400000 in
theorem stampNext (t k n now node : Int) (w : World) (hn : n ≤ 9223372036854775807) (hn0 : -9223372036854775808 ≤ n) :
    Calls Tryz.prog 139 #[stv t k n, .int .i64 now, .int .i64 node] w fun e w' => e = .returned (stp (sNext t n now node)) ∧ Below w.heap.size w w' := by
  by_cases h : n < 9223372036854775807
  · go_enter Tryz.func139, Tryz.ntmps139
    go_wp2
    all_goals exact bodyPost_ret (v := stp (sNext t n now node)) (by simp [results, Tryz.results139, go_sem, sNext]; omega) rfl ⟨rfl, by go_grown⟩
  · go_enter Tryz.func139, Tryz.ntmps139
    go_wp2
    all_goals exact bodyPost_ret (v := stp (sNext t n now node)) (by simp [results, Tryz.results139, go_sem, sNext]; omega) rfl ⟨rfl, by go_grown⟩
end Go.Proofs.YtcjpemphdgndkaaGreat
