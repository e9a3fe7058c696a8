/- Layer 4's laws, walked: 'same' and 'known' answer true, whatever the stamps. -/
import Derived.Test.YtogjnjcdeggheaaStampW
namespace Go.Proofs.Ytogjnjcdeggheaa
open Go.RowKit
set_option linter.unusedVariables false


set_option maxRecDepth 100000 in
set_option maxHeartbeats 4000000 in
theorem law4known (w : World) :
    Calls Try.prog 9 #[] w fun e w' => e = .returned (.bool true) ∧ Below w.heap.size w w' := by
  go_enter Try.func9, Try.ntmps9
  go_wp2_with fail
  refine (stampNext _ _ _ _ _ _ (by decide) (by decide)).mono ?_
  rintro e w1 ⟨rfl, hb⟩
  rw [show sNext 5 3 2 4 = (5, 4, 4) from by decide]
  have x0 := ext_cell hb (b := w.heap.size) (o := 0) (v := .int .i64 5) (by go_cell)
  have x1 := ext_cell hb (b := w.heap.size) (o := 1) (v := .int .i64 0) (by go_cell)
  have x2 := ext_cell hb (b := w.heap.size) (o := 2) (v := .int .i64 3) (by go_cell)
  have B := ext_trans (a := w) (by go_grown) hb
  have hz : w.heap.size + 1 ≤ w1.heap.size := by have := hb.size; simpa using this
  clear hb
  go_wp2_with fail
  have B2 : Below w.heap.size w (w1.alloc (.cells #[.int .i64 5, .int .i64 4, .int .i64 4] 25)) := by go_grown
  have HS : ∀ u', Below (w1.alloc (.cells #[.int .i64 5, .int .i64 4, .int .i64 4] 25)).heap.size (w1.alloc (.cells #[.int .i64 5, .int .i64 4, .int .i64 4] 25)) u' → Below (w1.alloc (.cells #[.int .i64 5, .int .i64 4, .int .i64 4] 25)).heap.size (w1.alloc (.cells #[.int .i64 5, .int .i64 4, .int .i64 4] 25)) u' ∧ u'.cell? ⟨w.heap.size, 0, none⟩ = some (.int .i64 5) ∧ u'.cell? ⟨w.heap.size, 1, none⟩ = some (.int .i64 0) ∧ u'.cell? ⟨w.heap.size, 2, none⟩ = some (.int .i64 3) ∧ u'.cell? ⟨w1.heap.size, 0, none⟩ = some (.int .i64 5) ∧ u'.cell? ⟨w1.heap.size, 1, none⟩ = some (.int .i64 4) ∧ u'.cell? ⟨w1.heap.size, 2, none⟩ = some (.int .i64 4) := fun u' h => ⟨h, ext_cell h (b := w.heap.size) (o := 0) (v := .int .i64 5) (by first | (with_reducible assumption) | (with_reducible (refine ext_cell ((Below.refl _ _).alloc (Nat.le_refl _) _) ?_; assumption)) | (go_cell; done) | (go_keep; done)), ext_cell h (b := w.heap.size) (o := 1) (v := .int .i64 0) (by first | (with_reducible assumption) | (with_reducible (refine ext_cell ((Below.refl _ _).alloc (Nat.le_refl _) _) ?_; assumption)) | (go_cell; done) | (go_keep; done)), ext_cell h (b := w.heap.size) (o := 2) (v := .int .i64 3) (by first | (with_reducible assumption) | (with_reducible (refine ext_cell ((Below.refl _ _).alloc (Nat.le_refl _) _) ?_; assumption)) | (go_cell; done) | (go_keep; done)), ext_cell h (b := w1.heap.size) (o := 0) (v := .int .i64 5) (by first | (with_reducible assumption) | (with_reducible (refine ext_cell ((Below.refl _ _).alloc (Nat.le_refl _) _) ?_; assumption)) | (go_cell; done) | (go_keep; done)), ext_cell h (b := w1.heap.size) (o := 1) (v := .int .i64 4) (by first | (with_reducible assumption) | (with_reducible (refine ext_cell ((Below.refl _ _).alloc (Nat.le_refl _) _) ?_; assumption)) | (go_cell; done) | (go_keep; done)), ext_cell h (b := w1.heap.size) (o := 2) (v := .int .i64 4) (by first | (with_reducible assumption) | (with_reducible (refine ext_cell ((Below.refl _ _).alloc (Nat.le_refl _) _) ?_; assumption)) | (go_cell; done) | (go_keep; done))⟩
  go_region_held3 (fun u' => Below (w1.alloc (.cells #[.int .i64 5, .int .i64 4, .int .i64 4] 25)).heap.size (w1.alloc (.cells #[.int .i64 5, .int .i64 4, .int .i64 4] 25)) u' ∧ u'.cell? ⟨w.heap.size, 0, none⟩ = some (.int .i64 5) ∧ u'.cell? ⟨w.heap.size, 1, none⟩ = some (.int .i64 0) ∧ u'.cell? ⟨w.heap.size, 2, none⟩ = some (.int .i64 3) ∧ u'.cell? ⟨w1.heap.size, 0, none⟩ = some (.int .i64 5) ∧ u'.cell? ⟨w1.heap.size, 1, none⟩ = some (.int .i64 4) ∧ u'.cell? ⟨w1.heap.size, 2, none⟩ = some (.int .i64 4)) (exact HS _ (by go_grown))
    (first | (go_at_call 11; refine (stampLess _ _ _ _ _ _ _).mono ?_; rintro e u1 ⟨rfl, hb⟩; have hB1 := ext_trans (a := (w1.alloc (.cells #[.int .i64 5, .int .i64 4, .int .i64 4] 25))) (And.left (by assumption)) hb; have hz1 := hB1.size; rw [show sLess 5 0 3 5 0 3 = false from by decide]) | (go_at_call 12; refine (stampMax _ _ _ _ _ _ _).mono ?_; rintro e u1 ⟨rfl, hb⟩; have hB1 := ext_trans (a := (w1.alloc (.cells #[.int .i64 5, .int .i64 4, .int .i64 4] 25))) (And.left (by assumption)) hb; have hz1 := hB1.size; rw [show sMax 5 0 3 5 4 4 = (5, 4, 4) from by decide]) | (go_at_call 13; refine (stampRight _ _ _ _).mono ?_; rintro e u1 ⟨rfl, hb⟩; have hB1 := ext_trans (a := (w1.alloc (.cells #[.int .i64 5, .int .i64 4, .int .i64 4] 25))) (And.left (by assumption)) hb; have hz1 := hB1.size; rw [show sRight 5 0 3 = true from by decide]) | (go_at_call 13; refine (stampRight _ _ _ _).mono ?_; rintro e u1 ⟨rfl, hb⟩; have hB1 := ext_trans (a := (w1.alloc (.cells #[.int .i64 5, .int .i64 4, .int .i64 4] 25))) (And.left (by assumption)) hb; have hz1 := hB1.size; rw [show sRight 0 6 0 = false from by decide]))
  go_wp2
  go_ret
  exact ⟨rfl, ext_trans B2 (by go_split_ands; assumption)⟩

end Go.Proofs.Ytogjnjcdeggheaa
