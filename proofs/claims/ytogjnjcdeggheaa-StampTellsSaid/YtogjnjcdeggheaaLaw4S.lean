/- Layer 4's laws, walked: 'same' and 'known' answer true, whatever the stamps. -/
import Derived.Test.YtogjnjcdeggheaaStampW
namespace Go.Proofs.Ytogjnjcdeggheaa
open Go.RowKit
set_option linter.unusedVariables false

set_option maxRecDepth 100000 in
set_option maxHeartbeats 4000000 in
theorem law4same (t k n t' k' n' now node : Int) (w : World) (hn : n ≤ 9223372036854775807) (hn0 : -9223372036854775808 ≤ n) :
    Calls Try.prog 8 #[stv t k n, stv t' k' n', .int .i64 now, .int .i64 node] w fun e w' => e = .returned (.bool true) ∧ Below w.heap.size w w' := by
  cases hs : sLess t k n t' k' n'
  · have H := Lib.hid hs
    go_enter Try.func8, Try.ntmps8
    go_wp2_with fail
    refine (refLess _ _ _ _ _ _ _).mono ?_
    rintro e w' ⟨rfl, hb⟩
    rw [hs]
    clear hs
    have x0 := ext_cell hb (b := w.heap.size) (o := 0) (v := .int .i64 t) (by go_cell)
    have x1 := ext_cell hb (b := w.heap.size) (o := 1) (v := .int .i64 k) (by go_cell)
    have x2 := ext_cell hb (b := w.heap.size) (o := 2) (v := .int .i64 n) (by go_cell)
    have x3 := ext_cell hb (b := w.heap.size + 1) (o := 0) (v := .int .i64 t') (by go_cell)
    have x4 := ext_cell hb (b := w.heap.size + 1) (o := 1) (v := .int .i64 k') (by go_cell)
    have x5 := ext_cell hb (b := w.heap.size + 1) (o := 2) (v := .int .i64 n') (by go_cell)
    have x6 := ext_cell hb (b := w.heap.size + 1 + 1) (o := 0) (v := .int .i64 t) (by go_cell)
    have x7 := ext_cell hb (b := w.heap.size + 1 + 1) (o := 1) (v := .int .i64 k) (by go_cell)
    have x8 := ext_cell hb (b := w.heap.size + 1 + 1) (o := 2) (v := .int .i64 n) (by go_cell)
    have f0 := ext_frozen hb (b := w.heap.size + 1 + 1) (o := 0) (v := .int .i64 t) (by go_cell) (by go_cell)
    have f1 := ext_frozen hb (b := w.heap.size + 1 + 1) (o := 1) (v := .int .i64 k) (by go_cell) (by go_cell)
    have f2 := ext_frozen hb (b := w.heap.size + 1 + 1) (o := 2) (v := .int .i64 n) (by go_cell) (by go_cell)
    have B := ext_trans (a := w) (by go_grown) hb
    clear hb
    go_wp2_with fail
    have hS : Below w.heap.size w w' ∧ w'.cell? ⟨w.heap.size, 0, none⟩ = some (.int .i64 t) ∧ w'.cell? ⟨w.heap.size, 1, none⟩ = some (.int .i64 k) ∧ w'.cell? ⟨w.heap.size, 2, none⟩ = some (.int .i64 n) ∧ w'.cell? ⟨w.heap.size + 1, 0, none⟩ = some (.int .i64 t') ∧ w'.cell? ⟨w.heap.size + 1, 1, none⟩ = some (.int .i64 k') ∧ w'.cell? ⟨w.heap.size + 1, 2, none⟩ = some (.int .i64 n') ∧ w'.cell? ⟨w.heap.size + 1 + 1, 0, none⟩ = some (.int .i64 t) ∧ w'.cell? ⟨w.heap.size + 1 + 1, 1, none⟩ = some (.int .i64 k) ∧ w'.cell? ⟨w.heap.size + 1 + 1, 2, none⟩ = some (.int .i64 n) := by refine ⟨?_, ?_, ?_, ?_, ?_, ?_, ?_, ?_, ?_, ?_⟩ <;> first | (with_reducible assumption) | (with_reducible (refine ext_cell ((Below.refl _ _).alloc (Nat.le_refl _) _) ?_; assumption)) | (go_cell; done) | (go_grown; done) | (go_keep; done)
    have HS : Stay (fun w' => Below w.heap.size w w' ∧ w'.cell? ⟨w.heap.size, 0, none⟩ = some (.int .i64 t) ∧ w'.cell? ⟨w.heap.size, 1, none⟩ = some (.int .i64 k) ∧ w'.cell? ⟨w.heap.size, 2, none⟩ = some (.int .i64 n) ∧ w'.cell? ⟨w.heap.size + 1, 0, none⟩ = some (.int .i64 t') ∧ w'.cell? ⟨w.heap.size + 1, 1, none⟩ = some (.int .i64 k') ∧ w'.cell? ⟨w.heap.size + 1, 2, none⟩ = some (.int .i64 n') ∧ w'.cell? ⟨w.heap.size + 1 + 1, 0, none⟩ = some (.int .i64 t) ∧ w'.cell? ⟨w.heap.size + 1 + 1, 1, none⟩ = some (.int .i64 k) ∧ w'.cell? ⟨w.heap.size + 1 + 1, 2, none⟩ = some (.int .i64 n)) := by repeat' (first | exact stay_cell | exact stay_below | refine stay_and ?_ ?_)
    go_region_held3 (fun w' => Below w.heap.size w w' ∧ w'.cell? ⟨w.heap.size, 0, none⟩ = some (.int .i64 t) ∧ w'.cell? ⟨w.heap.size, 1, none⟩ = some (.int .i64 k) ∧ w'.cell? ⟨w.heap.size, 2, none⟩ = some (.int .i64 n) ∧ w'.cell? ⟨w.heap.size + 1, 0, none⟩ = some (.int .i64 t') ∧ w'.cell? ⟨w.heap.size + 1, 1, none⟩ = some (.int .i64 k') ∧ w'.cell? ⟨w.heap.size + 1, 2, none⟩ = some (.int .i64 n') ∧ w'.cell? ⟨w.heap.size + 1 + 1, 0, none⟩ = some (.int .i64 t) ∧ w'.cell? ⟨w.heap.size + 1 + 1, 1, none⟩ = some (.int .i64 k) ∧ w'.cell? ⟨w.heap.size + 1 + 1, 2, none⟩ = some (.int .i64 n)) (first | exact HS.drew hS | exact HS.on ‹_› ‹_›)
      (first | (go_at_call 11; refine (stampLess _ _ _ _ _ _ _).mono ?_; rintro e w1 ⟨rfl, hb⟩) | (go_at_call 14; refine (refLess _ _ _ _ _ _ _).mono ?_; rintro e w1 ⟨rfl, hb⟩) | (go_at_call 12; refine (stampMax_no _ _ _ _ _ _ _ H.out).mono ?_; rintro e w1 ⟨rfl, hb⟩) | (go_at_call 10; refine (stampNext _ _ _ _ _ _ hn hn0).mono ?_; rintro e w1 ⟨rfl, hb⟩) | (go_at_call 15; refine (refNext _ _ _ _ _ _ hn hn0).mono ?_; rintro e w1 ⟨rfl, hb⟩) | (go_at_call 13; refine (stampRight _ _ _ _).mono ?_; rintro e w1 ⟨rfl, hb⟩) | (go_at_call 16; refine (refStamp _ _ _ _).mono ?_; rintro e w1 ⟨rfl, hb⟩))
    go_wp2
    go_ret
    exact ⟨rfl, by go_split_ands; assumption⟩
  · have H := Lib.hid hs
    go_enter Try.func8, Try.ntmps8
    go_wp2_with fail
    refine (refLess _ _ _ _ _ _ _).mono ?_
    rintro e w' ⟨rfl, hb⟩
    rw [hs]
    clear hs
    have x0 := ext_cell hb (b := w.heap.size) (o := 0) (v := .int .i64 t) (by go_cell)
    have x1 := ext_cell hb (b := w.heap.size) (o := 1) (v := .int .i64 k) (by go_cell)
    have x2 := ext_cell hb (b := w.heap.size) (o := 2) (v := .int .i64 n) (by go_cell)
    have x3 := ext_cell hb (b := w.heap.size + 1) (o := 0) (v := .int .i64 t') (by go_cell)
    have x4 := ext_cell hb (b := w.heap.size + 1) (o := 1) (v := .int .i64 k') (by go_cell)
    have x5 := ext_cell hb (b := w.heap.size + 1) (o := 2) (v := .int .i64 n') (by go_cell)
    have x6 := ext_cell hb (b := w.heap.size + 1 + 1) (o := 0) (v := .int .i64 t) (by go_cell)
    have x7 := ext_cell hb (b := w.heap.size + 1 + 1) (o := 1) (v := .int .i64 k) (by go_cell)
    have x8 := ext_cell hb (b := w.heap.size + 1 + 1) (o := 2) (v := .int .i64 n) (by go_cell)
    have f0 := ext_frozen hb (b := w.heap.size + 1 + 1) (o := 0) (v := .int .i64 t) (by go_cell) (by go_cell)
    have f1 := ext_frozen hb (b := w.heap.size + 1 + 1) (o := 1) (v := .int .i64 k) (by go_cell) (by go_cell)
    have f2 := ext_frozen hb (b := w.heap.size + 1 + 1) (o := 2) (v := .int .i64 n) (by go_cell) (by go_cell)
    have B := ext_trans (a := w) (by go_grown) hb
    clear hb
    go_wp2_with fail
    have hS : Below w.heap.size w (((w'.setCell ⟨w.heap.size + 1 + 1, 0, none⟩ (.int .i64 t')).setCell ⟨w.heap.size + 1 + 1, 1, none⟩ (.int .i64 k')).setCell ⟨w.heap.size + 1 + 1, 2, none⟩ (.int .i64 n')) ∧ (((w'.setCell ⟨w.heap.size + 1 + 1, 0, none⟩ (.int .i64 t')).setCell ⟨w.heap.size + 1 + 1, 1, none⟩ (.int .i64 k')).setCell ⟨w.heap.size + 1 + 1, 2, none⟩ (.int .i64 n')).cell? ⟨w.heap.size, 0, none⟩ = some (.int .i64 t) ∧ (((w'.setCell ⟨w.heap.size + 1 + 1, 0, none⟩ (.int .i64 t')).setCell ⟨w.heap.size + 1 + 1, 1, none⟩ (.int .i64 k')).setCell ⟨w.heap.size + 1 + 1, 2, none⟩ (.int .i64 n')).cell? ⟨w.heap.size, 1, none⟩ = some (.int .i64 k) ∧ (((w'.setCell ⟨w.heap.size + 1 + 1, 0, none⟩ (.int .i64 t')).setCell ⟨w.heap.size + 1 + 1, 1, none⟩ (.int .i64 k')).setCell ⟨w.heap.size + 1 + 1, 2, none⟩ (.int .i64 n')).cell? ⟨w.heap.size, 2, none⟩ = some (.int .i64 n) ∧ (((w'.setCell ⟨w.heap.size + 1 + 1, 0, none⟩ (.int .i64 t')).setCell ⟨w.heap.size + 1 + 1, 1, none⟩ (.int .i64 k')).setCell ⟨w.heap.size + 1 + 1, 2, none⟩ (.int .i64 n')).cell? ⟨w.heap.size + 1, 0, none⟩ = some (.int .i64 t') ∧ (((w'.setCell ⟨w.heap.size + 1 + 1, 0, none⟩ (.int .i64 t')).setCell ⟨w.heap.size + 1 + 1, 1, none⟩ (.int .i64 k')).setCell ⟨w.heap.size + 1 + 1, 2, none⟩ (.int .i64 n')).cell? ⟨w.heap.size + 1, 1, none⟩ = some (.int .i64 k') ∧ (((w'.setCell ⟨w.heap.size + 1 + 1, 0, none⟩ (.int .i64 t')).setCell ⟨w.heap.size + 1 + 1, 1, none⟩ (.int .i64 k')).setCell ⟨w.heap.size + 1 + 1, 2, none⟩ (.int .i64 n')).cell? ⟨w.heap.size + 1, 2, none⟩ = some (.int .i64 n') ∧ (((w'.setCell ⟨w.heap.size + 1 + 1, 0, none⟩ (.int .i64 t')).setCell ⟨w.heap.size + 1 + 1, 1, none⟩ (.int .i64 k')).setCell ⟨w.heap.size + 1 + 1, 2, none⟩ (.int .i64 n')).cell? ⟨w.heap.size + 1 + 1, 0, none⟩ = some (.int .i64 t') ∧ (((w'.setCell ⟨w.heap.size + 1 + 1, 0, none⟩ (.int .i64 t')).setCell ⟨w.heap.size + 1 + 1, 1, none⟩ (.int .i64 k')).setCell ⟨w.heap.size + 1 + 1, 2, none⟩ (.int .i64 n')).cell? ⟨w.heap.size + 1 + 1, 1, none⟩ = some (.int .i64 k') ∧ (((w'.setCell ⟨w.heap.size + 1 + 1, 0, none⟩ (.int .i64 t')).setCell ⟨w.heap.size + 1 + 1, 1, none⟩ (.int .i64 k')).setCell ⟨w.heap.size + 1 + 1, 2, none⟩ (.int .i64 n')).cell? ⟨w.heap.size + 1 + 1, 2, none⟩ = some (.int .i64 n') := by refine ⟨?_, ?_, ?_, ?_, ?_, ?_, ?_, ?_, ?_, ?_⟩ <;> first | (with_reducible assumption) | (with_reducible (refine ext_cell ((Below.refl _ _).alloc (Nat.le_refl _) _) ?_; assumption)) | (go_cell; done) | (go_grown; done) | (go_keep; done)
    have HS : Stay (fun w' => Below w.heap.size w w' ∧ w'.cell? ⟨w.heap.size, 0, none⟩ = some (.int .i64 t) ∧ w'.cell? ⟨w.heap.size, 1, none⟩ = some (.int .i64 k) ∧ w'.cell? ⟨w.heap.size, 2, none⟩ = some (.int .i64 n) ∧ w'.cell? ⟨w.heap.size + 1, 0, none⟩ = some (.int .i64 t') ∧ w'.cell? ⟨w.heap.size + 1, 1, none⟩ = some (.int .i64 k') ∧ w'.cell? ⟨w.heap.size + 1, 2, none⟩ = some (.int .i64 n') ∧ w'.cell? ⟨w.heap.size + 1 + 1, 0, none⟩ = some (.int .i64 t') ∧ w'.cell? ⟨w.heap.size + 1 + 1, 1, none⟩ = some (.int .i64 k') ∧ w'.cell? ⟨w.heap.size + 1 + 1, 2, none⟩ = some (.int .i64 n')) := by repeat' (first | exact stay_cell | exact stay_below | refine stay_and ?_ ?_)
    go_region_held3 (fun w' => Below w.heap.size w w' ∧ w'.cell? ⟨w.heap.size, 0, none⟩ = some (.int .i64 t) ∧ w'.cell? ⟨w.heap.size, 1, none⟩ = some (.int .i64 k) ∧ w'.cell? ⟨w.heap.size, 2, none⟩ = some (.int .i64 n) ∧ w'.cell? ⟨w.heap.size + 1, 0, none⟩ = some (.int .i64 t') ∧ w'.cell? ⟨w.heap.size + 1, 1, none⟩ = some (.int .i64 k') ∧ w'.cell? ⟨w.heap.size + 1, 2, none⟩ = some (.int .i64 n') ∧ w'.cell? ⟨w.heap.size + 1 + 1, 0, none⟩ = some (.int .i64 t') ∧ w'.cell? ⟨w.heap.size + 1 + 1, 1, none⟩ = some (.int .i64 k') ∧ w'.cell? ⟨w.heap.size + 1 + 1, 2, none⟩ = some (.int .i64 n')) (first | exact HS.drew hS | exact HS.on ‹_› ‹_›)
      (first | (go_at_call 11; refine (stampLess _ _ _ _ _ _ _).mono ?_; rintro e w1 ⟨rfl, hb⟩) | (go_at_call 14; refine (refLess _ _ _ _ _ _ _).mono ?_; rintro e w1 ⟨rfl, hb⟩) | (go_at_call 12; refine (stampMax_yes _ _ _ _ _ _ _ H.out).mono ?_; rintro e w1 ⟨rfl, hb⟩) | (go_at_call 10; refine (stampNext _ _ _ _ _ _ hn hn0).mono ?_; rintro e w1 ⟨rfl, hb⟩) | (go_at_call 15; refine (refNext _ _ _ _ _ _ hn hn0).mono ?_; rintro e w1 ⟨rfl, hb⟩) | (go_at_call 13; refine (stampRight _ _ _ _).mono ?_; rintro e w1 ⟨rfl, hb⟩) | (go_at_call 16; refine (refStamp _ _ _ _).mono ?_; rintro e w1 ⟨rfl, hb⟩))
    go_wp2
    go_ret
    exact ⟨rfl, by go_split_ands; assumption⟩

end Go.Proofs.Ytogjnjcdeggheaa
