/- A guard inside a desk. -/
import Derived.Test.YtcjpemphdgndkaaGreatBm
import Derived.Test.YtcjpemphdgndkaaGreatBa
namespace Go.Proofs.YtcjpemphdgndkaaGreat
open Go.RowKit
set_option linter.unusedVariables false

/-- how many renewals a window is to have -/
def needV (n : Int) : Int := (if n < 0 then 0 else if n ≤ 1048576 then n else 1048576) * 510 / 100
set_option maxHeartbeats 400000 in
theorem guardNeed (n : Int) (w : World) :
    Calls Tryz.prog 91 #[.int .i64 n] w fun e w' => e = .returned (.int .i64 (needV n)) ∧ w = w' := by
  by_cases h0 : n < 0
  · go_enter Tryz.func91, Tryz.ntmps91
    go_wp2
    all_goals (go_ret; exact ⟨by simp [needV]; omega, rfl⟩)
  · by_cases h1 : n ≤ 1048576
    · go_enter Tryz.func91, Tryz.ntmps91
      go_wp2
      all_goals (go_ret; exact ⟨by simp [needV]; omega, rfl⟩)
    · go_enter Tryz.func91, Tryz.ntmps91
      go_wp2
      all_goals (go_ret; exact ⟨by simp [needV]; omega, rfl⟩)
/-- a guard's three numbers, in block b -/
structure GIsD (b : Nat) (g l t : Int) (w : World) : Prop where
  c0 : w.cell? ⟨b, 6, none⟩ = some (.int .i64 g)
  c1 : w.cell? ⟨b, 7, none⟩ = some (.int .i64 l)
  c2 : w.cell? ⟨b, 8, none⟩ = some (.int .i64 t)
  f0 : w.frozen? ⟨b, 6, none⟩ = false
  f1 : w.frozen? ⟨b, 7, none⟩ = false
  f2 : w.frozen? ⟨b, 8, none⟩ = false
/-- what a tick makes of them -/
def gT (g l t now : Int) : Int × Int × Int := if now - g < 60 then (g, l, t) else (now - (now - g) % 60, (if 120 ≤ now - g then 0 else t), 0)
set_option maxHeartbeats 400000 in
theorem guardNew (now : Int) (w : World) :
    Calls Tryz.prog 42 #[.int .i64 now] w fun e w' => e = .returned (.pointer (some ⟨w.heap.size, 0, none⟩)) ∧ w' = w.alloc (.cells #[.int .i64 now, .int .i64 0, .int .i64 0] 94) := by
  go_enter Tryz.func42, Tryz.ntmps42
  go_wp2
  go_ret
  exact ⟨rfl, rfl⟩
set_option maxHeartbeats 400000 in
theorem guardRenewD (b : Nat) (t : Int) (w : World) (h : w.cell? ⟨b, 8, none⟩ = some (.int .i64 t)) (hf : w.frozen? ⟨b, 8, none⟩ = false) (h0 : 0 ≤ t) (h1 : t ≤ 1048576) :
    Calls Tryz.prog 134 #[.pointer (some ⟨b, 6, none⟩)] w fun e w' => e = .returned (.tuple #[]) ∧ w' = w.setCell ⟨b, 8, none⟩ (.int .i64 (if t + 1 ≤ 1048576 then t + 1 else 1048576)) := by
  by_cases h2 : t + 1 ≤ 1048576
  · go_enter Tryz.func134, Tryz.ntmps134
    go_wp2
    go_end0
    exact ⟨rfl, by first | (simp; done) | (rw [show (min (t + 1) 1048576 : Int) = t + 1 from by omega]) | (rw [show (min (t + 1) 1048576 : Int) = 1048576 from by omega])⟩
  · go_enter Tryz.func134, Tryz.ntmps134
    go_wp2
    go_end0
    exact ⟨rfl, by first | (simp; done) | (rw [show (min (t + 1) 1048576 : Int) = t + 1 from by omega]) | (rw [show (min (t + 1) 1048576 : Int) = 1048576 from by omega])⟩
set_option maxHeartbeats 400000 in
theorem guardThisD (b : Nat) (t : Int) (w : World) (h : w.cell? ⟨b, 8, none⟩ = some (.int .i64 t)) :
    Calls Tryz.prog 75 #[.pointer (some ⟨b, 6, none⟩)] w fun e w' => e = .returned (.int .i64 t) ∧ w = w' := by
  go_enter Tryz.func75, Tryz.ntmps75
  go_wp2
  go_ret
  exact ⟨rfl, rfl⟩
set_option maxHeartbeats 400000 in
theorem guardLastD (b : Nat) (t : Int) (w : World) (h : w.cell? ⟨b, 7, none⟩ = some (.int .i64 t)) :
    Calls Tryz.prog 74 #[.pointer (some ⟨b, 6, none⟩)] w fun e w' => e = .returned (.int .i64 t) ∧ w = w' := by
  go_enter Tryz.func74, Tryz.ntmps74
  go_wp2
  go_ret
  exact ⟨rfl, rfl⟩
set_option maxHeartbeats 1600000 in
theorem guardTickD (b : Nat) (g l t now : Int) (w : World) (hs : GIsD b g l t w) (hg : (Lit.int .i64 g).wf = true) (hn : (Lit.int .i64 now).wf = true) :
    Calls Tryz.prog 17 #[.pointer (some ⟨b, 6, none⟩), .int .i64 now] w fun e w' => e = .returned (.tuple #[]) ∧ Kept b w w' ∧ GIsD b (gT g l t now).1 (gT g l t now).2.1 (gT g l t now).2.2 w' := by
  obtain ⟨c0, c1, c2, f0, f1, f2⟩ := hs
  have b1 := bounds_i64 hg
  have b2 := bounds_i64 hn
  by_cases h0 : now - g < 60
  · have hv : gT g l t now = (g, l, t) := by simp [gT, h0]
    rw [hv]
    by_cases h1 : now < g
    · go_enter Tryz.func17, Tryz.ntmps17
      go_wp2
      all_goals first | go_end0 | go_returns
      all_goals exact ⟨rfl, Kept.refl _ _, ⟨c0, c1, c2, f0, f1, f2⟩⟩
    · have hU : IntKind.u64.wrap (IntKind.u64.wrap now - IntKind.u64.wrap g) = now - g := by rw [IntKind.wrap_u64, IntKind.wrap_u64, IntKind.wrap_u64]; omega
      have hU1 : IntKind.u64.wrap (IntKind.u64.wrap now - IntKind.u64.wrap g) < 60 := by omega
      clear hU
      go_enter Tryz.func17, Tryz.ntmps17
      go_wp2
      all_goals first | go_end0 | go_returns
      all_goals exact ⟨rfl, Kept.refl _ _, ⟨c0, c1, c2, f0, f1, f2⟩⟩
  · have hU : IntKind.u64.wrap (IntKind.u64.wrap now - IntKind.u64.wrap g) = now - g := by rw [IntKind.wrap_u64, IntKind.wrap_u64, IntKind.wrap_u64]; omega
    have he : now - IntKind.u64.wrap (IntKind.u64.wrap now - IntKind.u64.wrap g) % 60 = now - (now - g) % 60 := by rw [hU]
    have hv : gT g l t now = (now - (now - g) % 60, (if 120 ≤ now - g then 0 else t), 0) := by simp [gT, h0]
    rw [hv]
    by_cases h1 : 120 ≤ now - g
    · have hU1 : 60 ≤ IntKind.u64.wrap (IntKind.u64.wrap now - IntKind.u64.wrap g) := by omega
      have hU2 : 120 ≤ IntKind.u64.wrap (IntKind.u64.wrap now - IntKind.u64.wrap g) := by omega
      have he := Lib.hid he
      clear hU hv
      go_enter Tryz.func17, Tryz.ntmps17
      go_wp2
      all_goals first | go_end0 | go_returns
      all_goals (have he := he.out; exact ⟨rfl, Kept.setCell (Kept.setCell (Kept.setCell (Kept.setCell (Kept.refl _ _) _ _) _ _) _ _) _ _, ⟨by rw [← he]; go_cell, by go_cell, by go_cell, by go_cell, by go_cell, by go_cell⟩⟩)
    · have hU1 : 60 ≤ IntKind.u64.wrap (IntKind.u64.wrap now - IntKind.u64.wrap g) := by omega
      have hU2 : IntKind.u64.wrap (IntKind.u64.wrap now - IntKind.u64.wrap g) < 120 := by omega
      have he := Lib.hid he
      clear hU hv
      go_enter Tryz.func17, Tryz.ntmps17
      go_wp2
      all_goals first | go_end0 | go_returns
      all_goals (have he := he.out; exact ⟨rfl, Kept.setCell (Kept.setCell (Kept.setCell (Kept.refl _ _) _ _) _ _) _ _, ⟨by rw [← he]; go_cell, by go_cell, by go_cell, by go_cell, by go_cell, by go_cell⟩⟩)
theorem GIsD.ext {b : Nat} {g l t : Int} {w w' : World} (h : GIsD b g l t w) (hb : Below w.heap.size w w') : GIsD b g l t w' :=
  ⟨ext_cell hb h.c0, ext_cell hb h.c1, ext_cell hb h.c2, ext_frozen hb h.c0 h.f0, ext_frozen hb h.c1 h.f1, ext_frozen hb h.c2 h.f2⟩
theorem GIsD.kept {b b' : Nat} {g l t : Int} {w w' : World} (h : GIsD b g l t w) (hk : Kept b' w w') (hn : b ≠ b') : GIsD b g l t w' :=
  ⟨hk.cell hn h.c0, hk.cell hn h.c1, hk.cell hn h.c2, hk.frozen hn h.f0, hk.frozen hn h.f1, hk.frozen hn h.f2⟩
theorem GIsD.lt {b : Nat} {g l t : Int} {w : World} (h : GIsD b g l t w) : b < w.heap.size := cell_lt h.c0
theorem GIsD.set {b : Nat} {g l t : Int} {w : World} (h : GIsD b g l t w) (t' : Int) : GIsD b g l t' (w.setCell ⟨b, 8, none⟩ (.int .i64 t')) := by
  obtain ⟨c0, c1, c2, f0, f1, f2⟩ := h
  exact ⟨by go_cell, by go_cell, by go_cell, by go_cell, by go_cell, by go_cell⟩
set_option maxHeartbeats 800000 in
theorem guardProtectsD (b : Nat) (g l t n : Int) (w : World) (hs : GIsD b g l t w) :
    Calls Tryz.prog 48 #[.pointer (some ⟨b, 6, none⟩), .int .i64 n] w fun e w' => e = .returned (.bool (decide (l < needV n))) ∧ Below w.heap.size w w' := by
  obtain ⟨c0, c1, c2, f0, f1, f2⟩ := hs
  go_enter Tryz.func48, Tryz.ntmps48
  go_wp2_with fail
  have HS : ∀ u', Below w.heap.size w u' → Below w.heap.size w u' ∧ u'.cell? ⟨b, 7, none⟩ = some (.int .i64 l) := fun u' h => ⟨h, ext_cell h (b := b) (o := 7) (v := .int .i64 l) (by first | (with_reducible assumption) | (with_reducible (refine ext_cell ((Below.refl _ _).alloc (Nat.le_refl _) _) ?_; assumption)) | (go_cell; done) | (go_keep; done))⟩
  go_region_held3 (fun u' => Below w.heap.size w u' ∧ u'.cell? ⟨b, 7, none⟩ = some (.int .i64 l)) (first | exact HS _ (by go_grown) | exact HS _ (And.left ‹_›))
    (first | (go_at_call 91; refine (guardNeed _ _).mono ?_; rintro e u1 ⟨rfl, rfl⟩))
  go_wp2
  go_ret
  exact ⟨rfl, by go_split_ands; assumption⟩
theorem guardRenewKD (b : Nat) (g l t : Int) (w : World) (hs : GIsD b g l t w) (h0 : 0 ≤ t) (h1 : t ≤ 1048576) :
    Calls Tryz.prog 134 #[.pointer (some ⟨b, 6, none⟩)] w fun e w' => ∃ t', e = .returned (.tuple #[]) ∧ Kept b w w' ∧ GIsD b g l t' w' ∧ t' = (if t + 1 ≤ 1048576 then t + 1 else 1048576) :=
  (guardRenewD b t w hs.c2 hs.f2 h0 h1).mono fun e w' ⟨he, hw⟩ => ⟨_, he, by rw [hw]; exact (Kept.refl _ _).setCell _ _, by rw [hw]; exact hs.set _, rfl⟩
theorem gT_60 (g l t : Int) : gT g l t (g + 60) = (g + 60, t, 0) := by
  have h : g + 60 - g = 60 := by omega
  unfold gT
  rw [h]
  simp
theorem gT_wf {g l t now g2 l2 t2 : Int} (h : gT g l t now = (g2, l2, t2)) (hg : (Lit.int .i64 g).wf = true) (hn : (Lit.int .i64 now).wf = true) (h0 : 0 ≤ t) (h1 : t ≤ 1048576) : (Lit.int .i64 g2).wf = true ∧ 0 ≤ t2 ∧ t2 ≤ 1048576 := by
  have b1 := bounds_i64 hg
  have b2 := bounds_i64 hn
  unfold gT at h
  split at h
  · simp only [Prod.mk.injEq] at h
    obtain ⟨rfl, rfl, rfl⟩ := h
    exact ⟨hg, h0, h1⟩
  · simp only [Prod.mk.injEq] at h
    obtain ⟨rfl, rfl, rfl⟩ := h
    exact ⟨WalkArith.wf_i64 (by omega), by omega, by omega⟩
end Go.Proofs.YtcjpemphdgndkaaGreat
