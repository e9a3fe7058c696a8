/- Layer 11: a guard, walked: what each call does to its three numbers. -/
import Derived.Test.YtelmalkgfikddaaGuardW
namespace Go.Proofs.Ytelmalkgfikddaa
open Go.RowKit
set_option linter.unusedVariables false

/-- a guard's three numbers, in block b -/
structure GIs (b : Nat) (g l t : Int) (w : World) : Prop where
  c0 : w.cell? ⟨b, 0, none⟩ = some (.int .i64 g)
  c1 : w.cell? ⟨b, 1, none⟩ = some (.int .i64 l)
  c2 : w.cell? ⟨b, 2, none⟩ = some (.int .i64 t)
  f0 : w.frozen? ⟨b, 0, none⟩ = false
  f1 : w.frozen? ⟨b, 1, none⟩ = false
  f2 : w.frozen? ⟨b, 2, none⟩ = false
/-- what a tick makes of them -/
def gT (g l t now : Int) : Int × Int × Int := if now - g < 60 then (g, l, t) else (now - (now - g) % 60, (if 120 ≤ now - g then 0 else t), 0)

set_option maxHeartbeats 400000 in
theorem guardNew (now : Int) (w : World) :
    Calls Try.prog 10 #[.int .i64 now] w fun e w' => e = .returned (.pointer (some ⟨w.heap.size, 0, none⟩)) ∧ w' = w.alloc (.cells #[.int .i64 now, .int .i64 0, .int .i64 0] 39) := by
  go_enter Try.func10, Try.ntmps10
  go_wp2
  go_ret
  exact ⟨rfl, rfl⟩

set_option maxHeartbeats 400000 in
theorem guardRenew (b : Nat) (t : Int) (w : World) (h : w.cell? ⟨b, 2, none⟩ = some (.int .i64 t)) (hf : w.frozen? ⟨b, 2, none⟩ = false) (h0 : 0 ≤ t) (h1 : t ≤ 1048576) :
    Calls Try.prog 11 #[.pointer (some ⟨b, 0, none⟩)] w fun e w' => e = .returned (.tuple #[]) ∧ w' = w.setCell ⟨b, 2, none⟩ (.int .i64 (if t + 1 ≤ 1048576 then t + 1 else 1048576)) := by
  by_cases h2 : t + 1 ≤ 1048576
  · go_enter Try.func11, Try.ntmps11
    go_wp2
    go_end0
    exact ⟨rfl, by simp⟩
  · go_enter Try.func11, Try.ntmps11
    go_wp2
    go_end0
    exact ⟨rfl, by simp⟩

set_option maxHeartbeats 400000 in
theorem refRenew (b : Nat) (t : Int) (w : World) (h : w.cell? ⟨b, 2, none⟩ = some (.int .i64 t)) (hf : w.frozen? ⟨b, 2, none⟩ = false) (h0 : 0 ≤ t) (h1 : t ≤ 1048576) :
    Calls Try.prog 19 #[.pointer (some ⟨b, 0, none⟩)] w fun e w' => e = .returned (.tuple #[]) ∧ w' = w.setCell ⟨b, 2, none⟩ (.int .i64 (if t + 1 ≤ 1048576 then t + 1 else 1048576)) := by
  by_cases h2 : t + 1 ≤ 1048576
  · go_enter Try.func19, Try.ntmps19
    go_wp2
    go_end0
    exact ⟨rfl, by simp⟩
  · go_enter Try.func19, Try.ntmps19
    go_wp2
    go_end0
    exact ⟨rfl, by simp⟩

set_option maxHeartbeats 400000 in
theorem guardThis (b : Nat) (t : Int) (w : World) (h : w.cell? ⟨b, 2, none⟩ = some (.int .i64 t)) :
    Calls Try.prog 12 #[.pointer (some ⟨b, 0, none⟩)] w fun e w' => e = .returned (.int .i64 t) ∧ w = w' := by
  go_enter Try.func12, Try.ntmps12
  go_wp2
  go_ret
  exact ⟨rfl, rfl⟩

set_option maxHeartbeats 400000 in
theorem guardLast (b : Nat) (t : Int) (w : World) (h : w.cell? ⟨b, 1, none⟩ = some (.int .i64 t)) :
    Calls Try.prog 17 #[.pointer (some ⟨b, 0, none⟩)] w fun e w' => e = .returned (.int .i64 t) ∧ w = w' := by
  go_enter Try.func17, Try.ntmps17
  go_wp2
  go_ret
  exact ⟨rfl, rfl⟩

set_option maxHeartbeats 1600000 in
theorem guardTick (b : Nat) (g l t now : Int) (w : World) (hs : GIs b g l t w) (hg : (Lit.int .i64 g).wf = true) (hn : (Lit.int .i64 now).wf = true) :
    Calls Try.prog 15 #[.pointer (some ⟨b, 0, none⟩), .int .i64 now] w fun e w' => e = .returned (.tuple #[]) ∧ Kept b w w' ∧ GIs b (gT g l t now).1 (gT g l t now).2.1 (gT g l t now).2.2 w' := by
  obtain ⟨c0, c1, c2, f0, f1, f2⟩ := hs
  have b1 := bounds_i64 hg
  have b2 := bounds_i64 hn
  by_cases h0 : now - g < 60
  · have hv : gT g l t now = (g, l, t) := by simp [gT, h0]
    rw [hv]
    by_cases h1 : now < g
    · go_enter Try.func15, Try.ntmps15
      go_wp2
      all_goals first | go_end0 | go_returns
      all_goals exact ⟨rfl, Kept.refl _ _, ⟨c0, c1, c2, f0, f1, f2⟩⟩
    · have hU : IntKind.u64.wrap (IntKind.u64.wrap now - IntKind.u64.wrap g) = now - g := by rw [IntKind.wrap_u64, IntKind.wrap_u64, IntKind.wrap_u64]; omega
      have hU1 : IntKind.u64.wrap (IntKind.u64.wrap now - IntKind.u64.wrap g) < 60 := by omega
      clear hU
      go_enter Try.func15, Try.ntmps15
      go_wp2
      all_goals first | go_end0 | go_returns
      all_goals exact ⟨rfl, Kept.refl _ _, ⟨c0, c1, c2, f0, f1, f2⟩⟩
  · have hU : IntKind.u64.wrap (IntKind.u64.wrap now - IntKind.u64.wrap g) = now - g := by rw [IntKind.wrap_u64, IntKind.wrap_u64, IntKind.wrap_u64]; omega
    have he : now - IntKind.u64.wrap (IntKind.u64.wrap now - IntKind.u64.wrap g) % 60 = now - (now - g) % 60 := by rw [hU]
    have hv : gT g l t now = (now - (now - g) % 60, (if 120 ≤ now - g then 0 else t), 0) := by simp [gT, h0]
    rw [hv]
    by_cases h1 : 120 ≤ now - g
    · have hU1 : 60 ≤ IntKind.u64.wrap (IntKind.u64.wrap now - IntKind.u64.wrap g) := by omega
      have hU2 : 120 ≤ IntKind.u64.wrap (IntKind.u64.wrap now - IntKind.u64.wrap g) := by omega
      have he := Lib.hid he
      clear hU hv
      go_enter Try.func15, Try.ntmps15
      go_wp2
      all_goals first | go_end0 | go_returns
      all_goals (have he := he.out; exact ⟨rfl, Kept.setCell (Kept.setCell (Kept.setCell (Kept.setCell (Kept.refl _ _) _ _) _ _) _ _) _ _, ⟨by rw [← he]; go_cell, by go_cell, by go_cell, by go_cell, by go_cell, by go_cell⟩⟩)
    · have hU1 : 60 ≤ IntKind.u64.wrap (IntKind.u64.wrap now - IntKind.u64.wrap g) := by omega
      have hU2 : IntKind.u64.wrap (IntKind.u64.wrap now - IntKind.u64.wrap g) < 120 := by omega
      have he := Lib.hid he
      clear hU hv
      go_enter Try.func15, Try.ntmps15
      go_wp2
      all_goals first | go_end0 | go_returns
      all_goals (have he := he.out; exact ⟨rfl, Kept.setCell (Kept.setCell (Kept.setCell (Kept.refl _ _) _ _) _ _) _ _, ⟨by rw [← he]; go_cell, by go_cell, by go_cell, by go_cell, by go_cell, by go_cell⟩⟩)

set_option maxHeartbeats 1600000 in
theorem refTick (b : Nat) (g l t now : Int) (w : World) (hs : GIs b g l t w) (hg : (Lit.int .i64 g).wf = true) (hn : (Lit.int .i64 now).wf = true) :
    Calls Try.prog 18 #[.pointer (some ⟨b, 0, none⟩), .int .i64 now] w fun e w' => e = .returned (.tuple #[]) ∧ Kept b w w' ∧ GIs b (gT g l t now).1 (gT g l t now).2.1 (gT g l t now).2.2 w' := by
  obtain ⟨c0, c1, c2, f0, f1, f2⟩ := hs
  have b1 := bounds_i64 hg
  have b2 := bounds_i64 hn
  by_cases h0 : now - g < 60
  · have hv : gT g l t now = (g, l, t) := by simp [gT, h0]
    rw [hv]
    by_cases h1 : now < g
    · go_enter Try.func18, Try.ntmps18
      go_wp2
      all_goals first | go_end0 | go_returns
      all_goals exact ⟨rfl, Kept.refl _ _, ⟨c0, c1, c2, f0, f1, f2⟩⟩
    · have hU : IntKind.u64.wrap (IntKind.u64.wrap now - IntKind.u64.wrap g) = now - g := by rw [IntKind.wrap_u64, IntKind.wrap_u64, IntKind.wrap_u64]; omega
      have hU1 : IntKind.u64.wrap (IntKind.u64.wrap now - IntKind.u64.wrap g) < 60 := by omega
      clear hU
      go_enter Try.func18, Try.ntmps18
      go_wp2
      all_goals first | go_end0 | go_returns
      all_goals exact ⟨rfl, Kept.refl _ _, ⟨c0, c1, c2, f0, f1, f2⟩⟩
  · have hU : IntKind.u64.wrap (IntKind.u64.wrap now - IntKind.u64.wrap g) = now - g := by rw [IntKind.wrap_u64, IntKind.wrap_u64, IntKind.wrap_u64]; omega
    have he : wrap64 (g + wrap64 (IntKind.u64.wrap (IntKind.u64.wrap ((IntKind.u64.wrap (IntKind.u64.wrap now - IntKind.u64.wrap g)).tdiv 60) * 60))) = now - (now - g) % 60 := by rw [hU]; simp only [wrap64, IntKind.wrap_u64]; rw [Int.tdiv_eq_ediv_of_nonneg (by omega)]; omega
    have hv : gT g l t now = (now - (now - g) % 60, (if 120 ≤ now - g then 0 else t), 0) := by simp [gT, h0]
    rw [hv]
    by_cases h1 : 120 ≤ now - g
    · have hU1 : 60 ≤ IntKind.u64.wrap (IntKind.u64.wrap now - IntKind.u64.wrap g) := by omega
      have hU2 : 2 ≤ IntKind.u64.wrap ((IntKind.u64.wrap (IntKind.u64.wrap now - IntKind.u64.wrap g)).tdiv 60) := by rw [hU, IntKind.wrap_u64, Int.tdiv_eq_ediv_of_nonneg (by omega)]; omega
      have he := Lib.hid he
      clear hU hv
      go_enter Try.func18, Try.ntmps18
      go_wp2
      all_goals first | go_end0 | go_returns
      all_goals (have he := he.out; exact ⟨rfl, Kept.setCell (Kept.setCell (Kept.setCell (Kept.setCell (Kept.refl _ _) _ _) _ _) _ _) _ _, ⟨by rw [← he]; go_cell, by go_cell, by go_cell, by go_cell, by go_cell, by go_cell⟩⟩)
    · have hU1 : 60 ≤ IntKind.u64.wrap (IntKind.u64.wrap now - IntKind.u64.wrap g) := by omega
      have hU2 : IntKind.u64.wrap ((IntKind.u64.wrap (IntKind.u64.wrap now - IntKind.u64.wrap g)).tdiv 60) < 2 := by rw [hU, IntKind.wrap_u64, Int.tdiv_eq_ediv_of_nonneg (by omega)]; omega
      have he := Lib.hid he
      clear hU hv
      go_enter Try.func18, Try.ntmps18
      go_wp2
      all_goals first | go_end0 | go_returns
      all_goals (have he := he.out; exact ⟨rfl, Kept.setCell (Kept.setCell (Kept.setCell (Kept.refl _ _) _ _) _ _) _ _, ⟨by rw [← he]; go_cell, by go_cell, by go_cell, by go_cell, by go_cell, by go_cell⟩⟩)

end Go.Proofs.Ytelmalkgfikddaa
