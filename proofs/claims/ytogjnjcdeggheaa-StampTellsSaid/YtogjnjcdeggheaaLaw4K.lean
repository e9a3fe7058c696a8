/- Layer 4's laws, walked: 'same' and 'known' answer true, whatever the stamps. -/
import Derived.Test.YtogjnjcdeggheaaStampW
namespace Go.Proofs.Ytogjnjcdeggheaa
open Go.RowKit
set_option linter.unusedVariables false


set_option maxRecDepth 100000 in
set_option maxHeartbeats 4000000 in
theorem law4known (w : World) :
    Calls Try.prog 9 #[] w fun e w' => e = .returned (.bool true) ∧ Below w.heap.size w w' := by
  go_enter Try.func9, Try.ntmps9
  go_wp2_with fail
  refine (stampNext _ _ _ _ _ _ (by decide) (by decide)).mono ?_
  rintro e w1 ⟨rfl, hb⟩
  rw [show sNext 5 3 2 4 = (5, 4, 4) from by decide]
  have x0 := ext_cell hb (b := w.heap.size) (o := 0) (v := .int .i64 5) (by go_cell)
  have x1 := ext_cell hb (b := w.heap.size) (o := 1) (v := .int .i64 0) (by go_cell)
  have x2 := ext_cell hb (b := w.heap.size) (o := 2) (v := .int .i64 3) (by go_cell)
  have B := ext_trans (a := w) (by go_grown) hb
  have hz : w.heap.size + 1 ≤ w1.heap.size := by have := hb.size; simpa using this
  clear hb
  go_wp2_with fail
  have hS : Below w.heap.size w (w1.alloc (.cells #[.int .i64 5, .int .i64 4, .int .i64 4] 25)) ∧ (w1.alloc (.cells #[.int .i64 5, .int .i64 4, .int .i64 4] 25)).cell? ⟨w.heap.size, 0, none⟩ = some (.int .i64 5) ∧ (w1.alloc (.cells #[.int .i64 5, .int .i64 4, .int .i64 4] 25)).cell? ⟨w.heap.size, 1, none⟩ = some (.int .i64 0) ∧ (w1.alloc (.cells #[.int .i64 5, .int .i64 4, .int .i64 4] 25)).cell? ⟨w.heap.size, 2, none⟩ = some (.int .i64 3) ∧ (w1.alloc (.cells #[.int .i64 5, .int .i64 4, .int .i64 4] 25)).cell? ⟨w1.heap.size, 0, none⟩ = some (.int .i64 5) ∧ (w1.alloc (.cells #[.int .i64 5, .int .i64 4, .int .i64 4] 25)).cell? ⟨w1.heap.size, 1, none⟩ = some (.int .i64 4) ∧ (w1.alloc (.cells #[.int .i64 5, .int .i64 4, .int .i64 4] 25)).cell? ⟨w1.heap.size, 2, none⟩ = some (.int .i64 4) := by refine ⟨?_, ?_, ?_, ?_, ?_, ?_, ?_⟩ <;> first | (with_reducible assumption) | (with_reducible (refine ext_cell ((Below.refl _ _).alloc (Nat.le_refl _) _) ?_; assumption)) | (go_cell; done) | (go_grown; done) | (go_keep; done)
  have HS : Stay (fun w' => Below w.heap.size w w' ∧ w'.cell? ⟨w.heap.size, 0, none⟩ = some (.int .i64 5) ∧ w'.cell? ⟨w.heap.size, 1, none⟩ = some (.int .i64 0) ∧ w'.cell? ⟨w.heap.size, 2, none⟩ = some (.int .i64 3) ∧ w'.cell? ⟨w1.heap.size, 0, none⟩ = some (.int .i64 5) ∧ w'.cell? ⟨w1.heap.size, 1, none⟩ = some (.int .i64 4) ∧ w'.cell? ⟨w1.heap.size, 2, none⟩ = some (.int .i64 4)) := by repeat' (first | exact stay_cell | exact stay_below | refine stay_and ?_ ?_)
  go_region_held3 (fun w' => Below w.heap.size w w' ∧ w'.cell? ⟨w.heap.size, 0, none⟩ = some (.int .i64 5) ∧ w'.cell? ⟨w.heap.size, 1, none⟩ = some (.int .i64 0) ∧ w'.cell? ⟨w.heap.size, 2, none⟩ = some (.int .i64 3) ∧ w'.cell? ⟨w1.heap.size, 0, none⟩ = some (.int .i64 5) ∧ w'.cell? ⟨w1.heap.size, 1, none⟩ = some (.int .i64 4) ∧ w'.cell? ⟨w1.heap.size, 2, none⟩ = some (.int .i64 4)) (first | exact HS.drew hS | exact HS.on ‹_› ‹_›)
    (first | (go_at_call 11; refine (stampLess _ _ _ _ _ _ _).mono ?_; rintro e w1 ⟨rfl, hb⟩; rw [show sLess 5 0 3 5 0 3 = false from by decide]) | (go_at_call 12; refine (stampMax _ _ _ _ _ _ _).mono ?_; rintro e w1 ⟨rfl, hb⟩; rw [show sMax 5 0 3 5 4 4 = (5, 4, 4) from by decide]) | (go_at_call 13; refine (stampRight _ _ _ _).mono ?_; rintro e w1 ⟨rfl, hb⟩; rw [show sRight 5 0 3 = true from by decide]) | (go_at_call 13; refine (stampRight _ _ _ _).mono ?_; rintro e w1 ⟨rfl, hb⟩; rw [show sRight 0 6 0 = false from by decide]))
  go_wp2
  go_ret
  exact ⟨rfl, by go_split_ands; assumption⟩

end Go.Proofs.Ytogjnjcdeggheaa
