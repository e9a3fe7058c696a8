/- Layer 4's laws, walked: StampNexts. -/
import Derived.Test.YtogjnjcdeggheaaLaw4S
import Derived.Test.YtogjnjcdeggheaaLaw4K
import Derived.OpenShut
namespace Go.Proofs.Ytogjnjcdeggheaa
open Go.RowKit
set_option linter.unusedVariables false

set_option maxRecDepth 100000 in
set_option maxHeartbeats 4000000 in
theorem stampNexts_walk (a : Option Addr) (len cap : Nat) (zs : List Int) (node : Int) (w : World) (h0 : IsRow .i64 w a len cap zs) (w1 : (Lit.int .i64 node).wf = true) :
    Calls Try.prog 6 #[.slice a len cap, .int .i64 node] w fun e w' => e = .returned (.bool true) ∧ Below w.heap.size w w' := by
  obtain ⟨hlc, hcm, hzl, hwz, hcell⟩ := h0
  unfold maxLen at hcm
  have hb1 := i64_hi w1
  by_cases hn : 0 < node
  · have hk0 : 0 ≤ node % 6 := by omega
    have hk6 : node % 6 < 6 := by omega
    go_enter Try.func6, Try.ntmps6
    go_wp2
    generalize node % 6 = k at *
    go_loopw [7] (fun i wr => ∃ (j : Nat) (t : Int), j ≤ len ∧ j ≤ 30 ∧ 0 ≤ t ∧ i = .int .i64 j ∧ Below w.heap.size w wr ∧ wr.cell? ⟨w.heap.size, 0, none⟩ = some (.int .i64 t) ∧ wr.cell? ⟨w.heap.size, 1, none⟩ = some (.int .i64 k) ∧ wr.cell? ⟨w.heap.size, 2, none⟩ = some (.int .i64 j) ∧ wr.frozen? ⟨w.heap.size, 0, none⟩ = false ∧ wr.frozen? ⟨w.heap.size, 1, none⟩ = false ∧ wr.frozen? ⟨w.heap.size, 2, none⟩ = false) (fun i _ => 30 - (intOf i).toNat)
    case atStart => exact ⟨0, 0, by omega, by omega, by omega, rfl, by go_grown, by go_cell, by go_cell, by go_cell, by go_cell, by go_cell, by go_cell⟩
    case round =>
      obtain ⟨j, t, hj, hj30, ht0, rfl, B, x0, x1, x2, f0, f1, f2⟩ := hrel
      by_cases hlt : j < len
      · by_cases h30 : j < 30
        · obtain ⟨b, o, rfl, hc⟩ := hcell.resolve_left (by omega)
          have hcw := ext_cell B (hc j hlt)
          have hnum := hcw
          clear hc hcw hcell
          generalize zs.getD j 0 = x at hnum
          go_wp2
          have HS : ∀ u', Below wr.heap.size wr u' → Below wr.heap.size wr u' ∧ u'.cell? ⟨w.heap.size, 0, none⟩ = some (.int .i64 t) ∧ u'.cell? ⟨w.heap.size, 1, none⟩ = some (.int .i64 k) ∧ u'.cell? ⟨w.heap.size, 2, none⟩ = some (.int .i64 j) ∧ u'.cell? ⟨b, o + j, none⟩ = some (.int .i64 x) := fun u' h => ⟨h, ext_cell h (b := w.heap.size) (o := 0) (v := .int .i64 t) (by first | (with_reducible assumption) | (with_reducible (refine ext_cell ((Below.refl _ _).alloc (Nat.le_refl _) _) ?_; assumption)) | (go_cell; done) | (go_keep; done)), ext_cell h (b := w.heap.size) (o := 1) (v := .int .i64 k) (by first | (with_reducible assumption) | (with_reducible (refine ext_cell ((Below.refl _ _).alloc (Nat.le_refl _) _) ?_; assumption)) | (go_cell; done) | (go_keep; done)), ext_cell h (b := w.heap.size) (o := 2) (v := .int .i64 j) (by first | (with_reducible assumption) | (with_reducible (refine ext_cell ((Below.refl _ _).alloc (Nat.le_refl _) _) ?_; assumption)) | (go_cell; done) | (go_keep; done)), ext_cell h (b := b) (o := o + j) (v := .int .i64 x) (by first | (with_reducible assumption) | (with_reducible (refine ext_cell ((Below.refl _ _).alloc (Nat.le_refl _) _) ?_; assumption)) | (go_cell; done) | (go_keep; done))⟩
          go_region_held3 (fun u' => Below wr.heap.size wr u' ∧ u'.cell? ⟨w.heap.size, 0, none⟩ = some (.int .i64 t) ∧ u'.cell? ⟨w.heap.size, 1, none⟩ = some (.int .i64 k) ∧ u'.cell? ⟨w.heap.size, 2, none⟩ = some (.int .i64 j) ∧ u'.cell? ⟨b, o + j, none⟩ = some (.int .i64 x)) (exact HS _ (by go_grown))
            (first | (go_at_call 10; refine (stampNext_later _ _ _ _ _ _ (by omega) (by omega)).mono ?_; rintro e u1 ⟨T, rfl, hT1, hT2, hb⟩; have hB1 := ext_trans (a := wr) (And.left (by assumption)) hb; have hz1 := hB1.size; obtain ⟨hcc, hff⟩ := bcell hb))
          · have hlw : w.heap.size < wr.heap.size := cell_lt x0
            have hlb : b < wr.heap.size := cell_lt hnum
            have hBX : Below wr.heap.size wr (u1.alloc (.cells #[.int .i64 T, .int .i64 k, .int .i64 (j + 1)] 25)) := by go_grown
            go_wp2_with fail
            have hwj : IntKind.i64.wrap ((j : Int) + 1) = (j : Int) + 1 := IntWalk.i64_in _ (by omega)
            have hd1 : decide (T < x) = false := by simpa using hT2
            have hd3 : decide (T < t) = false := by simpa using hT1
            have hless := Lib.hid (sLess_later (t := t) (k := k) (n := j) (T := T) (k' := k) hT1)
            have hright := Lib.hid (sRight_later (t := T) (k := k) (n := (j : Int) + 1) (by omega) (by omega) (by omega) (by omega))
            have HS : ∀ u', Below (u1.alloc (.cells #[.int .i64 T, .int .i64 k, .int .i64 (j + 1)] 25)).heap.size (u1.alloc (.cells #[.int .i64 T, .int .i64 k, .int .i64 (j + 1)] 25)) u' → Below (u1.alloc (.cells #[.int .i64 T, .int .i64 k, .int .i64 (j + 1)] 25)).heap.size (u1.alloc (.cells #[.int .i64 T, .int .i64 k, .int .i64 (j + 1)] 25)) u' ∧ u'.cell? ⟨w.heap.size, 0, none⟩ = some (.int .i64 t) ∧ u'.cell? ⟨w.heap.size, 1, none⟩ = some (.int .i64 k) ∧ u'.cell? ⟨w.heap.size, 2, none⟩ = some (.int .i64 j) ∧ u'.cell? ⟨u1.heap.size, 0, none⟩ = some (.int .i64 T) ∧ u'.cell? ⟨u1.heap.size, 1, none⟩ = some (.int .i64 k) ∧ u'.cell? ⟨u1.heap.size, 2, none⟩ = some (.int .i64 (j + 1)) ∧ u'.cell? ⟨b, o + j, none⟩ = some (.int .i64 x) := fun u' h => ⟨h, ext_cell h (b := w.heap.size) (o := 0) (v := .int .i64 t) (by first | (with_reducible assumption) | (exact ext_cell hBX (by first | (with_reducible assumption) | (go_cell; done))) | (go_cell; done) | (go_keep; done)), ext_cell h (b := w.heap.size) (o := 1) (v := .int .i64 k) (by first | (with_reducible assumption) | (exact ext_cell hBX (by first | (with_reducible assumption) | (go_cell; done))) | (go_cell; done) | (go_keep; done)), ext_cell h (b := w.heap.size) (o := 2) (v := .int .i64 j) (by first | (with_reducible assumption) | (exact ext_cell hBX (by first | (with_reducible assumption) | (go_cell; done))) | (go_cell; done) | (go_keep; done)), ext_cell h (b := u1.heap.size) (o := 0) (v := .int .i64 T) (by first | (with_reducible assumption) | (exact ext_cell hBX (by first | (with_reducible assumption) | (go_cell; done))) | (go_cell; done) | (go_keep; done)), ext_cell h (b := u1.heap.size) (o := 1) (v := .int .i64 k) (by first | (with_reducible assumption) | (exact ext_cell hBX (by first | (with_reducible assumption) | (go_cell; done))) | (go_cell; done) | (go_keep; done)), ext_cell h (b := u1.heap.size) (o := 2) (v := .int .i64 (j + 1)) (by first | (with_reducible assumption) | (exact ext_cell hBX (by first | (with_reducible assumption) | (go_cell; done))) | (go_cell; done) | (go_keep; done)), ext_cell h (b := b) (o := o + j) (v := .int .i64 x) (by first | (with_reducible assumption) | (exact ext_cell hBX (by first | (with_reducible assumption) | (go_cell; done))) | (go_cell; done) | (go_keep; done))⟩
            go_region_held3 (fun u' => Below (u1.alloc (.cells #[.int .i64 T, .int .i64 k, .int .i64 (j + 1)] 25)).heap.size (u1.alloc (.cells #[.int .i64 T, .int .i64 k, .int .i64 (j + 1)] 25)) u' ∧ u'.cell? ⟨w.heap.size, 0, none⟩ = some (.int .i64 t) ∧ u'.cell? ⟨w.heap.size, 1, none⟩ = some (.int .i64 k) ∧ u'.cell? ⟨w.heap.size, 2, none⟩ = some (.int .i64 j) ∧ u'.cell? ⟨u1.heap.size, 0, none⟩ = some (.int .i64 T) ∧ u'.cell? ⟨u1.heap.size, 1, none⟩ = some (.int .i64 k) ∧ u'.cell? ⟨u1.heap.size, 2, none⟩ = some (.int .i64 (j + 1)) ∧ u'.cell? ⟨b, o + j, none⟩ = some (.int .i64 x)) (exact HS _ (by go_grown))
              (first | (go_at_call 11; refine (stampLess _ _ _ _ _ _ _).mono ?_; rintro e u2 ⟨rfl, hb⟩; have hB1 := ext_trans (a := (u1.alloc (.cells #[.int .i64 T, .int .i64 k, .int .i64 (j + 1)] 25))) (And.left (by assumption)) hb; have hz1 := hB1.size; rw [hless.out]) | (go_at_call 12; refine (stampMax_yes _ _ _ _ _ _ _ hless.out).mono ?_; rintro e u2 ⟨rfl, hb⟩; have hB1 := ext_trans (a := (u1.alloc (.cells #[.int .i64 T, .int .i64 k, .int .i64 (j + 1)] 25))) (And.left (by assumption)) hb; have hz1 := hB1.size) | (go_at_call 13; refine (stampRight _ _ _ _).mono ?_; rintro e u2 ⟨rfl, hb⟩; have hB1 := ext_trans (a := (u1.alloc (.cells #[.int .i64 T, .int .i64 k, .int .i64 (j + 1)] 25))) (And.left (by assumption)) hb; have hz1 := hB1.size; rw [hright.out]))
            have hB3 := ext_trans hBX hB1
            have hB4 := ext_trans B hB3
            have y0 := ext_cell hB3 x0
            have y1 := ext_cell hB3 x1
            have y2 := ext_cell hB3 x2
            have g0 := ext_frozen hB3 x0 f0
            have g1 := ext_frozen hB3 x1 f1
            have g2 := ext_frozen hB3 x2 f2
            clear hwj hd1 hd3
            go_wp2
            go_roundw
            case rel => exact ⟨j + 1, T, by omega, by omega, by omega, by go_num, by go_grown, by go_cell, by go_cell, by go_cell, by go_cell, by go_cell, by go_cell⟩
            case measure => simp [intOf]; omega
          · have hlw : w.heap.size < wr.heap.size := cell_lt x0
            have hlb : b < wr.heap.size := cell_lt hnum
            have hBX : Below wr.heap.size wr (((u1.setCell ⟨wr.heap.size, 0, none⟩ (.int .i64 T)).setCell ⟨wr.heap.size, 1, none⟩ (.int .i64 k)).setCell ⟨wr.heap.size, 2, none⟩ (.int .i64 (j + 1))) := by go_grown
            go_wp2_with fail
            have hwj : IntKind.i64.wrap ((j : Int) + 1) = (j : Int) + 1 := IntWalk.i64_in _ (by omega)
            have hd1 : decide (T < x) = false := by simpa using hT2
            have hd3 : decide (T < t) = false := by simpa using hT1
            have hless := Lib.hid (sLess_later (t := t) (k := k) (n := j) (T := T) (k' := k) hT1)
            have hright := Lib.hid (sRight_later (t := T) (k := k) (n := (j : Int) + 1) (by omega) (by omega) (by omega) (by omega))
            have HS : ∀ u', Below (((u1.setCell ⟨wr.heap.size, 0, none⟩ (.int .i64 T)).setCell ⟨wr.heap.size, 1, none⟩ (.int .i64 k)).setCell ⟨wr.heap.size, 2, none⟩ (.int .i64 (j + 1))).heap.size (((u1.setCell ⟨wr.heap.size, 0, none⟩ (.int .i64 T)).setCell ⟨wr.heap.size, 1, none⟩ (.int .i64 k)).setCell ⟨wr.heap.size, 2, none⟩ (.int .i64 (j + 1))) u' → Below (((u1.setCell ⟨wr.heap.size, 0, none⟩ (.int .i64 T)).setCell ⟨wr.heap.size, 1, none⟩ (.int .i64 k)).setCell ⟨wr.heap.size, 2, none⟩ (.int .i64 (j + 1))).heap.size (((u1.setCell ⟨wr.heap.size, 0, none⟩ (.int .i64 T)).setCell ⟨wr.heap.size, 1, none⟩ (.int .i64 k)).setCell ⟨wr.heap.size, 2, none⟩ (.int .i64 (j + 1))) u' ∧ u'.cell? ⟨w.heap.size, 0, none⟩ = some (.int .i64 t) ∧ u'.cell? ⟨w.heap.size, 1, none⟩ = some (.int .i64 k) ∧ u'.cell? ⟨w.heap.size, 2, none⟩ = some (.int .i64 j) ∧ u'.cell? ⟨wr.heap.size, 0, none⟩ = some (.int .i64 T) ∧ u'.cell? ⟨wr.heap.size, 1, none⟩ = some (.int .i64 k) ∧ u'.cell? ⟨wr.heap.size, 2, none⟩ = some (.int .i64 (j + 1)) ∧ u'.cell? ⟨b, o + j, none⟩ = some (.int .i64 x) := fun u' h => ⟨h, ext_cell h (b := w.heap.size) (o := 0) (v := .int .i64 t) (by first | (with_reducible assumption) | (exact ext_cell hBX (by first | (with_reducible assumption) | (go_cell; done))) | (go_cell; done) | (go_keep; done)), ext_cell h (b := w.heap.size) (o := 1) (v := .int .i64 k) (by first | (with_reducible assumption) | (exact ext_cell hBX (by first | (with_reducible assumption) | (go_cell; done))) | (go_cell; done) | (go_keep; done)), ext_cell h (b := w.heap.size) (o := 2) (v := .int .i64 j) (by first | (with_reducible assumption) | (exact ext_cell hBX (by first | (with_reducible assumption) | (go_cell; done))) | (go_cell; done) | (go_keep; done)), ext_cell h (b := wr.heap.size) (o := 0) (v := .int .i64 T) (by first | (with_reducible assumption) | (exact ext_cell hBX (by first | (with_reducible assumption) | (go_cell; done))) | (go_cell; done) | (go_keep; done)), ext_cell h (b := wr.heap.size) (o := 1) (v := .int .i64 k) (by first | (with_reducible assumption) | (exact ext_cell hBX (by first | (with_reducible assumption) | (go_cell; done))) | (go_cell; done) | (go_keep; done)), ext_cell h (b := wr.heap.size) (o := 2) (v := .int .i64 (j + 1)) (by first | (with_reducible assumption) | (exact ext_cell hBX (by first | (with_reducible assumption) | (go_cell; done))) | (go_cell; done) | (go_keep; done)), ext_cell h (b := b) (o := o + j) (v := .int .i64 x) (by first | (with_reducible assumption) | (exact ext_cell hBX (by first | (with_reducible assumption) | (go_cell; done))) | (go_cell; done) | (go_keep; done))⟩
            go_region_held3 (fun u' => Below (((u1.setCell ⟨wr.heap.size, 0, none⟩ (.int .i64 T)).setCell ⟨wr.heap.size, 1, none⟩ (.int .i64 k)).setCell ⟨wr.heap.size, 2, none⟩ (.int .i64 (j + 1))).heap.size (((u1.setCell ⟨wr.heap.size, 0, none⟩ (.int .i64 T)).setCell ⟨wr.heap.size, 1, none⟩ (.int .i64 k)).setCell ⟨wr.heap.size, 2, none⟩ (.int .i64 (j + 1))) u' ∧ u'.cell? ⟨w.heap.size, 0, none⟩ = some (.int .i64 t) ∧ u'.cell? ⟨w.heap.size, 1, none⟩ = some (.int .i64 k) ∧ u'.cell? ⟨w.heap.size, 2, none⟩ = some (.int .i64 j) ∧ u'.cell? ⟨wr.heap.size, 0, none⟩ = some (.int .i64 T) ∧ u'.cell? ⟨wr.heap.size, 1, none⟩ = some (.int .i64 k) ∧ u'.cell? ⟨wr.heap.size, 2, none⟩ = some (.int .i64 (j + 1)) ∧ u'.cell? ⟨b, o + j, none⟩ = some (.int .i64 x)) (exact HS _ (by go_grown))
              (first | (go_at_call 11; refine (stampLess _ _ _ _ _ _ _).mono ?_; rintro e u2 ⟨rfl, hb⟩; have hB1 := ext_trans (a := (((u1.setCell ⟨wr.heap.size, 0, none⟩ (.int .i64 T)).setCell ⟨wr.heap.size, 1, none⟩ (.int .i64 k)).setCell ⟨wr.heap.size, 2, none⟩ (.int .i64 (j + 1)))) (And.left (by assumption)) hb; have hz1 := hB1.size; rw [hless.out]) | (go_at_call 12; refine (stampMax_yes _ _ _ _ _ _ _ hless.out).mono ?_; rintro e u2 ⟨rfl, hb⟩; have hB1 := ext_trans (a := (((u1.setCell ⟨wr.heap.size, 0, none⟩ (.int .i64 T)).setCell ⟨wr.heap.size, 1, none⟩ (.int .i64 k)).setCell ⟨wr.heap.size, 2, none⟩ (.int .i64 (j + 1)))) (And.left (by assumption)) hb; have hz1 := hB1.size) | (go_at_call 13; refine (stampRight _ _ _ _).mono ?_; rintro e u2 ⟨rfl, hb⟩; have hB1 := ext_trans (a := (((u1.setCell ⟨wr.heap.size, 0, none⟩ (.int .i64 T)).setCell ⟨wr.heap.size, 1, none⟩ (.int .i64 k)).setCell ⟨wr.heap.size, 2, none⟩ (.int .i64 (j + 1)))) (And.left (by assumption)) hb; have hz1 := hB1.size; rw [hright.out]))
            have hB3 := ext_trans hBX hB1
            have hB4 := ext_trans B hB3
            have y0 := ext_cell hB3 x0
            have y1 := ext_cell hB3 x1
            have y2 := ext_cell hB3 x2
            have g0 := ext_frozen hB3 x0 f0
            have g1 := ext_frozen hB3 x1 f1
            have g2 := ext_frozen hB3 x2 f2
            clear hwj hd1 hd3
            go_wp2
            go_roundw
            case rel => exact ⟨j + 1, T, by omega, by omega, by omega, by go_num, by go_grown, by go_cell, by go_cell, by go_cell, by go_cell, by go_cell, by go_cell⟩
            case measure => simp [intOf]; omega
        · go_wp2_with fail
          refine (law4known _).mono ?_
          rintro e w3 ⟨rfl, hb⟩
          have B3 := ext_trans B hb
          go_wp2_with fail
          go_ret
          exact ⟨rfl, B3⟩
      · go_wp2_with fail
        refine (law4known _).mono ?_
        rintro e w3 ⟨rfl, hb⟩
        have B3 := ext_trans B hb
        go_wp2_with fail
        go_ret
        exact ⟨rfl, B3⟩
  · have hk0 : (0 : Int) ≤ 0 := by omega
    have hk6 : (0 : Int) < 6 := by omega
    go_enter Try.func6, Try.ntmps6
    go_wp2
    go_loopw [7] (fun i wr => ∃ (j : Nat) (t : Int), j ≤ len ∧ j ≤ 30 ∧ 0 ≤ t ∧ i = .int .i64 j ∧ Below w.heap.size w wr ∧ wr.cell? ⟨w.heap.size, 0, none⟩ = some (.int .i64 t) ∧ wr.cell? ⟨w.heap.size, 1, none⟩ = some (.int .i64 0) ∧ wr.cell? ⟨w.heap.size, 2, none⟩ = some (.int .i64 j) ∧ wr.frozen? ⟨w.heap.size, 0, none⟩ = false ∧ wr.frozen? ⟨w.heap.size, 1, none⟩ = false ∧ wr.frozen? ⟨w.heap.size, 2, none⟩ = false) (fun i _ => 30 - (intOf i).toNat)
    case atStart => exact ⟨0, 0, by omega, by omega, by omega, rfl, by go_grown, by go_cell, by go_cell, by go_cell, by go_cell, by go_cell, by go_cell⟩
    case round =>
      obtain ⟨j, t, hj, hj30, ht0, rfl, B, x0, x1, x2, f0, f1, f2⟩ := hrel
      by_cases hlt : j < len
      · by_cases h30 : j < 30
        · obtain ⟨b, o, rfl, hc⟩ := hcell.resolve_left (by omega)
          have hcw := ext_cell B (hc j hlt)
          have hnum := hcw
          clear hc hcw hcell
          generalize zs.getD j 0 = x at hnum
          go_wp2
          have HS : ∀ u', Below wr.heap.size wr u' → Below wr.heap.size wr u' ∧ u'.cell? ⟨w.heap.size, 0, none⟩ = some (.int .i64 t) ∧ u'.cell? ⟨w.heap.size, 1, none⟩ = some (.int .i64 0) ∧ u'.cell? ⟨w.heap.size, 2, none⟩ = some (.int .i64 j) ∧ u'.cell? ⟨b, o + j, none⟩ = some (.int .i64 x) := fun u' h => ⟨h, ext_cell h (b := w.heap.size) (o := 0) (v := .int .i64 t) (by first | (with_reducible assumption) | (with_reducible (refine ext_cell ((Below.refl _ _).alloc (Nat.le_refl _) _) ?_; assumption)) | (go_cell; done) | (go_keep; done)), ext_cell h (b := w.heap.size) (o := 1) (v := .int .i64 0) (by first | (with_reducible assumption) | (with_reducible (refine ext_cell ((Below.refl _ _).alloc (Nat.le_refl _) _) ?_; assumption)) | (go_cell; done) | (go_keep; done)), ext_cell h (b := w.heap.size) (o := 2) (v := .int .i64 j) (by first | (with_reducible assumption) | (with_reducible (refine ext_cell ((Below.refl _ _).alloc (Nat.le_refl _) _) ?_; assumption)) | (go_cell; done) | (go_keep; done)), ext_cell h (b := b) (o := o + j) (v := .int .i64 x) (by first | (with_reducible assumption) | (with_reducible (refine ext_cell ((Below.refl _ _).alloc (Nat.le_refl _) _) ?_; assumption)) | (go_cell; done) | (go_keep; done))⟩
          go_region_held3 (fun u' => Below wr.heap.size wr u' ∧ u'.cell? ⟨w.heap.size, 0, none⟩ = some (.int .i64 t) ∧ u'.cell? ⟨w.heap.size, 1, none⟩ = some (.int .i64 0) ∧ u'.cell? ⟨w.heap.size, 2, none⟩ = some (.int .i64 j) ∧ u'.cell? ⟨b, o + j, none⟩ = some (.int .i64 x)) (exact HS _ (by go_grown))
            (first | (go_at_call 10; refine (stampNext_later _ _ _ _ _ _ (by omega) (by omega)).mono ?_; rintro e u1 ⟨T, rfl, hT1, hT2, hb⟩; have hB1 := ext_trans (a := wr) (And.left (by assumption)) hb; have hz1 := hB1.size; obtain ⟨hcc, hff⟩ := bcell hb))
          · have hlw : w.heap.size < wr.heap.size := cell_lt x0
            have hlb : b < wr.heap.size := cell_lt hnum
            have hBX : Below wr.heap.size wr (u1.alloc (.cells #[.int .i64 T, .int .i64 0, .int .i64 (j + 1)] 25)) := by go_grown
            go_wp2_with fail
            have hwj : IntKind.i64.wrap ((j : Int) + 1) = (j : Int) + 1 := IntWalk.i64_in _ (by omega)
            have hd1 : decide (T < x) = false := by simpa using hT2
            have hd3 : decide (T < t) = false := by simpa using hT1
            have hless := Lib.hid (sLess_later (t := t) (k := 0) (n := j) (T := T) (k' := 0) hT1)
            have hright := Lib.hid (sRight_later (t := T) (k := 0) (n := (j : Int) + 1) (by omega) (by omega) (by omega) (by omega))
            have HS : ∀ u', Below (u1.alloc (.cells #[.int .i64 T, .int .i64 0, .int .i64 (j + 1)] 25)).heap.size (u1.alloc (.cells #[.int .i64 T, .int .i64 0, .int .i64 (j + 1)] 25)) u' → Below (u1.alloc (.cells #[.int .i64 T, .int .i64 0, .int .i64 (j + 1)] 25)).heap.size (u1.alloc (.cells #[.int .i64 T, .int .i64 0, .int .i64 (j + 1)] 25)) u' ∧ u'.cell? ⟨w.heap.size, 0, none⟩ = some (.int .i64 t) ∧ u'.cell? ⟨w.heap.size, 1, none⟩ = some (.int .i64 0) ∧ u'.cell? ⟨w.heap.size, 2, none⟩ = some (.int .i64 j) ∧ u'.cell? ⟨u1.heap.size, 0, none⟩ = some (.int .i64 T) ∧ u'.cell? ⟨u1.heap.size, 1, none⟩ = some (.int .i64 0) ∧ u'.cell? ⟨u1.heap.size, 2, none⟩ = some (.int .i64 (j + 1)) ∧ u'.cell? ⟨b, o + j, none⟩ = some (.int .i64 x) := fun u' h => ⟨h, ext_cell h (b := w.heap.size) (o := 0) (v := .int .i64 t) (by first | (with_reducible assumption) | (exact ext_cell hBX (by first | (with_reducible assumption) | (go_cell; done))) | (go_cell; done) | (go_keep; done)), ext_cell h (b := w.heap.size) (o := 1) (v := .int .i64 0) (by first | (with_reducible assumption) | (exact ext_cell hBX (by first | (with_reducible assumption) | (go_cell; done))) | (go_cell; done) | (go_keep; done)), ext_cell h (b := w.heap.size) (o := 2) (v := .int .i64 j) (by first | (with_reducible assumption) | (exact ext_cell hBX (by first | (with_reducible assumption) | (go_cell; done))) | (go_cell; done) | (go_keep; done)), ext_cell h (b := u1.heap.size) (o := 0) (v := .int .i64 T) (by first | (with_reducible assumption) | (exact ext_cell hBX (by first | (with_reducible assumption) | (go_cell; done))) | (go_cell; done) | (go_keep; done)), ext_cell h (b := u1.heap.size) (o := 1) (v := .int .i64 0) (by first | (with_reducible assumption) | (exact ext_cell hBX (by first | (with_reducible assumption) | (go_cell; done))) | (go_cell; done) | (go_keep; done)), ext_cell h (b := u1.heap.size) (o := 2) (v := .int .i64 (j + 1)) (by first | (with_reducible assumption) | (exact ext_cell hBX (by first | (with_reducible assumption) | (go_cell; done))) | (go_cell; done) | (go_keep; done)), ext_cell h (b := b) (o := o + j) (v := .int .i64 x) (by first | (with_reducible assumption) | (exact ext_cell hBX (by first | (with_reducible assumption) | (go_cell; done))) | (go_cell; done) | (go_keep; done))⟩
            go_region_held3 (fun u' => Below (u1.alloc (.cells #[.int .i64 T, .int .i64 0, .int .i64 (j + 1)] 25)).heap.size (u1.alloc (.cells #[.int .i64 T, .int .i64 0, .int .i64 (j + 1)] 25)) u' ∧ u'.cell? ⟨w.heap.size, 0, none⟩ = some (.int .i64 t) ∧ u'.cell? ⟨w.heap.size, 1, none⟩ = some (.int .i64 0) ∧ u'.cell? ⟨w.heap.size, 2, none⟩ = some (.int .i64 j) ∧ u'.cell? ⟨u1.heap.size, 0, none⟩ = some (.int .i64 T) ∧ u'.cell? ⟨u1.heap.size, 1, none⟩ = some (.int .i64 0) ∧ u'.cell? ⟨u1.heap.size, 2, none⟩ = some (.int .i64 (j + 1)) ∧ u'.cell? ⟨b, o + j, none⟩ = some (.int .i64 x)) (exact HS _ (by go_grown))
              (first | (go_at_call 11; refine (stampLess _ _ _ _ _ _ _).mono ?_; rintro e u2 ⟨rfl, hb⟩; have hB1 := ext_trans (a := (u1.alloc (.cells #[.int .i64 T, .int .i64 0, .int .i64 (j + 1)] 25))) (And.left (by assumption)) hb; have hz1 := hB1.size; rw [hless.out]) | (go_at_call 12; refine (stampMax_yes _ _ _ _ _ _ _ hless.out).mono ?_; rintro e u2 ⟨rfl, hb⟩; have hB1 := ext_trans (a := (u1.alloc (.cells #[.int .i64 T, .int .i64 0, .int .i64 (j + 1)] 25))) (And.left (by assumption)) hb; have hz1 := hB1.size) | (go_at_call 13; refine (stampRight _ _ _ _).mono ?_; rintro e u2 ⟨rfl, hb⟩; have hB1 := ext_trans (a := (u1.alloc (.cells #[.int .i64 T, .int .i64 0, .int .i64 (j + 1)] 25))) (And.left (by assumption)) hb; have hz1 := hB1.size; rw [hright.out]))
            have hB3 := ext_trans hBX hB1
            have hB4 := ext_trans B hB3
            have y0 := ext_cell hB3 x0
            have y1 := ext_cell hB3 x1
            have y2 := ext_cell hB3 x2
            have g0 := ext_frozen hB3 x0 f0
            have g1 := ext_frozen hB3 x1 f1
            have g2 := ext_frozen hB3 x2 f2
            clear hwj hd1 hd3
            go_wp2
            go_roundw
            case rel => exact ⟨j + 1, T, by omega, by omega, by omega, by go_num, by go_grown, by go_cell, by go_cell, by go_cell, by go_cell, by go_cell, by go_cell⟩
            case measure => simp [intOf]; omega
          · have hlw : w.heap.size < wr.heap.size := cell_lt x0
            have hlb : b < wr.heap.size := cell_lt hnum
            have hBX : Below wr.heap.size wr (((u1.setCell ⟨wr.heap.size, 0, none⟩ (.int .i64 T)).setCell ⟨wr.heap.size, 1, none⟩ (.int .i64 0)).setCell ⟨wr.heap.size, 2, none⟩ (.int .i64 (j + 1))) := by go_grown
            go_wp2_with fail
            have hwj : IntKind.i64.wrap ((j : Int) + 1) = (j : Int) + 1 := IntWalk.i64_in _ (by omega)
            have hd1 : decide (T < x) = false := by simpa using hT2
            have hd3 : decide (T < t) = false := by simpa using hT1
            have hless := Lib.hid (sLess_later (t := t) (k := 0) (n := j) (T := T) (k' := 0) hT1)
            have hright := Lib.hid (sRight_later (t := T) (k := 0) (n := (j : Int) + 1) (by omega) (by omega) (by omega) (by omega))
            have HS : ∀ u', Below (((u1.setCell ⟨wr.heap.size, 0, none⟩ (.int .i64 T)).setCell ⟨wr.heap.size, 1, none⟩ (.int .i64 0)).setCell ⟨wr.heap.size, 2, none⟩ (.int .i64 (j + 1))).heap.size (((u1.setCell ⟨wr.heap.size, 0, none⟩ (.int .i64 T)).setCell ⟨wr.heap.size, 1, none⟩ (.int .i64 0)).setCell ⟨wr.heap.size, 2, none⟩ (.int .i64 (j + 1))) u' → Below (((u1.setCell ⟨wr.heap.size, 0, none⟩ (.int .i64 T)).setCell ⟨wr.heap.size, 1, none⟩ (.int .i64 0)).setCell ⟨wr.heap.size, 2, none⟩ (.int .i64 (j + 1))).heap.size (((u1.setCell ⟨wr.heap.size, 0, none⟩ (.int .i64 T)).setCell ⟨wr.heap.size, 1, none⟩ (.int .i64 0)).setCell ⟨wr.heap.size, 2, none⟩ (.int .i64 (j + 1))) u' ∧ u'.cell? ⟨w.heap.size, 0, none⟩ = some (.int .i64 t) ∧ u'.cell? ⟨w.heap.size, 1, none⟩ = some (.int .i64 0) ∧ u'.cell? ⟨w.heap.size, 2, none⟩ = some (.int .i64 j) ∧ u'.cell? ⟨wr.heap.size, 0, none⟩ = some (.int .i64 T) ∧ u'.cell? ⟨wr.heap.size, 1, none⟩ = some (.int .i64 0) ∧ u'.cell? ⟨wr.heap.size, 2, none⟩ = some (.int .i64 (j + 1)) ∧ u'.cell? ⟨b, o + j, none⟩ = some (.int .i64 x) := fun u' h => ⟨h, ext_cell h (b := w.heap.size) (o := 0) (v := .int .i64 t) (by first | (with_reducible assumption) | (exact ext_cell hBX (by first | (with_reducible assumption) | (go_cell; done))) | (go_cell; done) | (go_keep; done)), ext_cell h (b := w.heap.size) (o := 1) (v := .int .i64 0) (by first | (with_reducible assumption) | (exact ext_cell hBX (by first | (with_reducible assumption) | (go_cell; done))) | (go_cell; done) | (go_keep; done)), ext_cell h (b := w.heap.size) (o := 2) (v := .int .i64 j) (by first | (with_reducible assumption) | (exact ext_cell hBX (by first | (with_reducible assumption) | (go_cell; done))) | (go_cell; done) | (go_keep; done)), ext_cell h (b := wr.heap.size) (o := 0) (v := .int .i64 T) (by first | (with_reducible assumption) | (exact ext_cell hBX (by first | (with_reducible assumption) | (go_cell; done))) | (go_cell; done) | (go_keep; done)), ext_cell h (b := wr.heap.size) (o := 1) (v := .int .i64 0) (by first | (with_reducible assumption) | (exact ext_cell hBX (by first | (with_reducible assumption) | (go_cell; done))) | (go_cell; done) | (go_keep; done)), ext_cell h (b := wr.heap.size) (o := 2) (v := .int .i64 (j + 1)) (by first | (with_reducible assumption) | (exact ext_cell hBX (by first | (with_reducible assumption) | (go_cell; done))) | (go_cell; done) | (go_keep; done)), ext_cell h (b := b) (o := o + j) (v := .int .i64 x) (by first | (with_reducible assumption) | (exact ext_cell hBX (by first | (with_reducible assumption) | (go_cell; done))) | (go_cell; done) | (go_keep; done))⟩
            go_region_held3 (fun u' => Below (((u1.setCell ⟨wr.heap.size, 0, none⟩ (.int .i64 T)).setCell ⟨wr.heap.size, 1, none⟩ (.int .i64 0)).setCell ⟨wr.heap.size, 2, none⟩ (.int .i64 (j + 1))).heap.size (((u1.setCell ⟨wr.heap.size, 0, none⟩ (.int .i64 T)).setCell ⟨wr.heap.size, 1, none⟩ (.int .i64 0)).setCell ⟨wr.heap.size, 2, none⟩ (.int .i64 (j + 1))) u' ∧ u'.cell? ⟨w.heap.size, 0, none⟩ = some (.int .i64 t) ∧ u'.cell? ⟨w.heap.size, 1, none⟩ = some (.int .i64 0) ∧ u'.cell? ⟨w.heap.size, 2, none⟩ = some (.int .i64 j) ∧ u'.cell? ⟨wr.heap.size, 0, none⟩ = some (.int .i64 T) ∧ u'.cell? ⟨wr.heap.size, 1, none⟩ = some (.int .i64 0) ∧ u'.cell? ⟨wr.heap.size, 2, none⟩ = some (.int .i64 (j + 1)) ∧ u'.cell? ⟨b, o + j, none⟩ = some (.int .i64 x)) (exact HS _ (by go_grown))
              (first | (go_at_call 11; refine (stampLess _ _ _ _ _ _ _).mono ?_; rintro e u2 ⟨rfl, hb⟩; have hB1 := ext_trans (a := (((u1.setCell ⟨wr.heap.size, 0, none⟩ (.int .i64 T)).setCell ⟨wr.heap.size, 1, none⟩ (.int .i64 0)).setCell ⟨wr.heap.size, 2, none⟩ (.int .i64 (j + 1)))) (And.left (by assumption)) hb; have hz1 := hB1.size; rw [hless.out]) | (go_at_call 12; refine (stampMax_yes _ _ _ _ _ _ _ hless.out).mono ?_; rintro e u2 ⟨rfl, hb⟩; have hB1 := ext_trans (a := (((u1.setCell ⟨wr.heap.size, 0, none⟩ (.int .i64 T)).setCell ⟨wr.heap.size, 1, none⟩ (.int .i64 0)).setCell ⟨wr.heap.size, 2, none⟩ (.int .i64 (j + 1)))) (And.left (by assumption)) hb; have hz1 := hB1.size) | (go_at_call 13; refine (stampRight _ _ _ _).mono ?_; rintro e u2 ⟨rfl, hb⟩; have hB1 := ext_trans (a := (((u1.setCell ⟨wr.heap.size, 0, none⟩ (.int .i64 T)).setCell ⟨wr.heap.size, 1, none⟩ (.int .i64 0)).setCell ⟨wr.heap.size, 2, none⟩ (.int .i64 (j + 1)))) (And.left (by assumption)) hb; have hz1 := hB1.size; rw [hright.out]))
            have hB3 := ext_trans hBX hB1
            have hB4 := ext_trans B hB3
            have y0 := ext_cell hB3 x0
            have y1 := ext_cell hB3 x1
            have y2 := ext_cell hB3 x2
            have g0 := ext_frozen hB3 x0 f0
            have g1 := ext_frozen hB3 x1 f1
            have g2 := ext_frozen hB3 x2 f2
            clear hwj hd1 hd3
            go_wp2
            go_roundw
            case rel => exact ⟨j + 1, T, by omega, by omega, by omega, by go_num, by go_grown, by go_cell, by go_cell, by go_cell, by go_cell, by go_cell, by go_cell⟩
            case measure => simp [intOf]; omega
        · go_wp2_with fail
          refine (law4known _).mono ?_
          rintro e w3 ⟨rfl, hb⟩
          have B3 := ext_trans B hb
          go_wp2_with fail
          go_ret
          exact ⟨rfl, B3⟩
      · go_wp2_with fail
        refine (law4known _).mono ?_
        rintro e w3 ⟨rfl, hb⟩
        have B3 := ext_trans B hb
        go_wp2_with fail
        go_ret
        exact ⟨rfl, B3⟩

end Go.Proofs.Ytogjnjcdeggheaa
