/- A guard inside a desk. -/
import Derived.Test.YtcjpemphdgndkaaGreatBmY
import Derived.Test.YtcjpemphdgndkaaGreatBaY
namespace Go.Proofs.YtcjpemphdgndkaaGreat
open Go.RowKit
set_option linter.unusedVariables false

/-- a guard's three numbers, in block b -/
structure GIsD (b : Nat) (g l t : Int) (w : World) : Prop where
  c0 : w.cell? ⟨b, 6, none⟩ = some (.int .i64 g)
  c1 : w.cell? ⟨b, 7, none⟩ = some (.int .i64 l)
  c2 : w.cell? ⟨b, 8, none⟩ = some (.int .i64 t)
  f0 : w.frozen? ⟨b, 6, none⟩ = false
  f1 : w.frozen? ⟨b, 7, none⟩ = false
  f2 : w.frozen? ⟨b, 8, none⟩ = false
set_option maxHeartbeats 400000 in
theorem guardNew (now : Int) (w : World) :
    Calls Tryz.prog 42 #[.int .i64 now] w fun e w' => e = .returned (.pointer (some ⟨w.heap.size, 0, none⟩)) ∧ w' = w.alloc (.cells #[.int .i64 now, .int .i64 0, .int .i64 0] 94) := by
  go_enter Tryz.func42, Tryz.ntmps42
  go_wp2
  go_ret
  exact ⟨rfl, rfl⟩
set_option maxHeartbeats 400000 in
theorem guardRenewD (b : Nat) (t : Int) (w : World) (h : w.cell? ⟨b, 8, none⟩ = some (.int .i64 t)) (hf : w.frozen? ⟨b, 8, none⟩ = false) (h0 : 0 ≤ t) (h1 : t ≤ 1048576) :
    Calls Tryz.prog 134 #[.pointer (some ⟨b, 6, none⟩)] w fun e w' => e = .returned (.tuple #[]) ∧ w' = w.setCell ⟨b, 8, none⟩ (.int .i64 (if t + 1 ≤ 1048576 then t + 1 else 1048576)) := by
  by_cases h2 : t + 1 ≤ 1048576
  · go_enter Tryz.func134, Tryz.ntmps134
    go_wp2
    go_end0
    exact ⟨rfl, by first | (simp; done) | (rw [show (min (t + 1) 1048576 : Int) = t + 1 from by omega]) | (rw [show (min (t + 1) 1048576 : Int) = 1048576 from by omega])⟩
  · go_enter Tryz.func134, Tryz.ntmps134
    go_wp2
    go_end0
    exact ⟨rfl, by first | (simp; done) | (rw [show (min (t + 1) 1048576 : Int) = t + 1 from by omega]) | (rw [show (min (t + 1) 1048576 : Int) = 1048576 from by omega])⟩
theorem GIsD.ext {b : Nat} {g l t : Int} {w w' : World} (h : GIsD b g l t w) (hb : Below w.heap.size w w') : GIsD b g l t w' :=
  ⟨ext_cell hb h.c0, ext_cell hb h.c1, ext_cell hb h.c2, ext_frozen hb h.c0 h.f0, ext_frozen hb h.c1 h.f1, ext_frozen hb h.c2 h.f2⟩
theorem GIsD.kept {b b' : Nat} {g l t : Int} {w w' : World} (h : GIsD b g l t w) (hk : Kept b' w w') (hn : b ≠ b') : GIsD b g l t w' :=
  ⟨hk.cell hn h.c0, hk.cell hn h.c1, hk.cell hn h.c2, hk.frozen hn h.f0, hk.frozen hn h.f1, hk.frozen hn h.f2⟩
theorem GIsD.lt {b : Nat} {g l t : Int} {w : World} (h : GIsD b g l t w) : b < w.heap.size := cell_lt h.c0
theorem GIsD.set {b : Nat} {g l t : Int} {w : World} (h : GIsD b g l t w) (t' : Int) : GIsD b g l t' (w.setCell ⟨b, 8, none⟩ (.int .i64 t')) := by
  obtain ⟨c0, c1, c2, f0, f1, f2⟩ := h
  exact ⟨by go_cell, by go_cell, by go_cell, by go_cell, by go_cell, by go_cell⟩
end Go.Proofs.YtcjpemphdgndkaaGreat
