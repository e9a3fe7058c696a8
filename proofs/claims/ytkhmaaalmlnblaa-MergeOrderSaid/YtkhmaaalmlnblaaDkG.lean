/- A guard inside a desk. -/
import Derived.Test.YtkhmaaalmlnblaaBm
import Derived.Test.YtkhmaaalmlnblaaBa
namespace Go.Proofs.Ytkhmaaalmlnblaa
open Go.RowKit
set_option linter.unusedVariables false

/-- how many renewals a window is to have -/
def needV (n : Int) : Int := (if n < 0 then 0 else if n ≤ 1048576 then n else 1048576) * 510 / 100
/-- a guard's three numbers, in block b -/
structure GIsD (b : Nat) (g l t : Int) (w : World) : Prop where
  c0 : w.cell? ⟨b, 6, none⟩ = some (.int .i64 g)
  c1 : w.cell? ⟨b, 7, none⟩ = some (.int .i64 l)
  c2 : w.cell? ⟨b, 8, none⟩ = some (.int .i64 t)
  f0 : w.frozen? ⟨b, 6, none⟩ = false
  f1 : w.frozen? ⟨b, 7, none⟩ = false
  f2 : w.frozen? ⟨b, 8, none⟩ = false
/-- what a tick makes of them -/
def gT (g l t now : Int) : Int × Int × Int := if now - g < 60 then (g, l, t) else (now - (now - g) % 60, (if 120 ≤ now - g then 0 else t), 0)
set_option maxHeartbeats 400000 in
theorem guardNew (now : Int) (w : World) :
    Calls Try.prog 24 #[.int .i64 now] w fun e w' => e = .returned (.pointer (some ⟨w.heap.size, 0, none⟩)) ∧ w' = w.alloc (.cells #[.int .i64 now, .int .i64 0, .int .i64 0] 67) := by
  go_enter Try.func24, Try.ntmps24
  go_wp2
  go_ret
  exact ⟨rfl, rfl⟩
theorem GIsD.ext {b : Nat} {g l t : Int} {w w' : World} (h : GIsD b g l t w) (hb : Below w.heap.size w w') : GIsD b g l t w' :=
  ⟨ext_cell hb h.c0, ext_cell hb h.c1, ext_cell hb h.c2, ext_frozen hb h.c0 h.f0, ext_frozen hb h.c1 h.f1, ext_frozen hb h.c2 h.f2⟩
theorem GIsD.kept {b b' : Nat} {g l t : Int} {w w' : World} (h : GIsD b g l t w) (hk : Kept b' w w') (hn : b ≠ b') : GIsD b g l t w' :=
  ⟨hk.cell hn h.c0, hk.cell hn h.c1, hk.cell hn h.c2, hk.frozen hn h.f0, hk.frozen hn h.f1, hk.frozen hn h.f2⟩
theorem GIsD.lt {b : Nat} {g l t : Int} {w : World} (h : GIsD b g l t w) : b < w.heap.size := cell_lt h.c0
theorem GIsD.set {b : Nat} {g l t : Int} {w : World} (h : GIsD b g l t w) (t' : Int) : GIsD b g l t' (w.setCell ⟨b, 8, none⟩ (.int .i64 t')) := by
  obtain ⟨c0, c1, c2, f0, f1, f2⟩ := h
  exact ⟨by go_cell, by go_cell, by go_cell, by go_cell, by go_cell, by go_cell⟩
theorem gT_60 (g l t : Int) : gT g l t (g + 60) = (g + 60, t, 0) := by
  have h : g + 60 - g = 60 := by omega
  unfold gT
  rw [h]
  simp
theorem gT_wf {g l t now g2 l2 t2 : Int} (h : gT g l t now = (g2, l2, t2)) (hg : (Lit.int .i64 g).wf = true) (hn : (Lit.int .i64 now).wf = true) (h0 : 0 ≤ t) (h1 : t ≤ 1048576) : (Lit.int .i64 g2).wf = true ∧ 0 ≤ t2 ∧ t2 ≤ 1048576 := by
  have b1 := bounds_i64 hg
  have b2 := bounds_i64 hn
  unfold gT at h
  split at h
  · simp only [Prod.mk.injEq] at h
    obtain ⟨rfl, rfl, rfl⟩ := h
    exact ⟨hg, h0, h1⟩
  · simp only [Prod.mk.injEq] at h
    obtain ⟨rfl, rfl, rfl⟩ := h
    exact ⟨WalkArith.wf_i64 (by omega), by omega, by omega⟩
end Go.Proofs.Ytkhmaaalmlnblaa
