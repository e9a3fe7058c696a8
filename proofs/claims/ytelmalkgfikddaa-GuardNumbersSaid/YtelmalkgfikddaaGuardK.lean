/- Layer 11: Protects, 'known' and GuardNeeds, walked. -/
import Derived.Test.YtelmalkgfikddaaGuardM
namespace Go.Proofs.Ytelmalkgfikddaa
open Go.RowKit
set_option linter.unusedVariables false

theorem GIs.ext {b : Nat} {g l t : Int} {w w' : World} (h : GIs b g l t w) (hb : Below w.heap.size w w') : GIs b g l t w' :=
  ⟨ext_cell hb h.c0, ext_cell hb h.c1, ext_cell hb h.c2, ext_frozen hb h.c0 h.f0, ext_frozen hb h.c1 h.f1, ext_frozen hb h.c2 h.f2⟩
theorem GIs.kept {b b' : Nat} {g l t : Int} {w w' : World} (h : GIs b g l t w) (hk : Kept b' w w') (hn : b ≠ b') : GIs b g l t w' :=
  ⟨hk.cell hn h.c0, hk.cell hn h.c1, hk.cell hn h.c2, hk.frozen hn h.f0, hk.frozen hn h.f1, hk.frozen hn h.f2⟩
theorem GIs.lt {b : Nat} {g l t : Int} {w : World} (h : GIs b g l t w) : b < w.heap.size := cell_lt h.c0
theorem GIs.set {b : Nat} {g l t : Int} {w : World} (h : GIs b g l t w) (t' : Int) : GIs b g l t' (w.setCell ⟨b, 2, none⟩ (.int .i64 t')) := by
  obtain ⟨c0, c1, c2, f0, f1, f2⟩ := h
  exact ⟨by go_cell, by go_cell, by go_cell, by go_cell, by go_cell, by go_cell⟩
theorem GIs.made (now : Int) (w : World) (e : TypeId) : GIs w.heap.size now 0 0 (w.alloc (.cells #[.int .i64 now, .int .i64 0, .int .i64 0] e)) :=
  ⟨by go_cell, by go_cell, by go_cell, by go_cell, by go_cell, by go_cell⟩

set_option maxHeartbeats 800000 in
theorem guardProtects (b : Nat) (g l t n : Int) (w : World) (hs : GIs b g l t w) :
    Calls Try.prog 16 #[.pointer (some ⟨b, 0, none⟩), .int .i64 n] w fun e w' => e = .returned (.bool (decide (l < needV n))) ∧ Below w.heap.size w w' := by
  obtain ⟨c0, c1, c2, f0, f1, f2⟩ := hs
  go_enter Try.func16, Try.ntmps16
  go_wp2_with fail
  have HS : ∀ u', Below w.heap.size w u' → Below w.heap.size w u' ∧ u'.cell? ⟨b, 1, none⟩ = some (.int .i64 l) := fun u' h => ⟨h, ext_cell h (b := b) (o := 1) (v := .int .i64 l) (by first | (with_reducible assumption) | (with_reducible (refine ext_cell ((Below.refl _ _).alloc (Nat.le_refl _) _) ?_; assumption)) | (go_cell; done) | (go_keep; done))⟩
  go_region_held3 (fun u' => Below w.heap.size w u' ∧ u'.cell? ⟨b, 1, none⟩ = some (.int .i64 l)) (first | exact HS _ (by go_grown) | exact HS _ (And.left ‹_›))
    (first | (go_at_call 7; refine (guardNeed _ _).mono ?_; rintro e u1 ⟨rfl, rfl⟩))
  go_wp2
  go_ret
  exact ⟨rfl, by go_split_ands; assumption⟩

set_option maxRecDepth 100000 in
set_option maxHeartbeats 4000000 in
theorem law11known (w : World) :
    Calls Try.prog 13 #[] w fun e w' => e = .returned (.bool true) ∧ Below w.heap.size w w' := by
  go_enter Try.func13, Try.ntmps13
  go_wp2_with fail
  refine (guardNew _ _).mono ?_
  rintro e u0 ⟨rfl, rfl⟩
  have hs := GIs.made 0 w 39
  have B0 : Below w.heap.size w (w.alloc (.cells #[.int .i64 0, .int .i64 0, .int .i64 0] 39)) := by go_grown
  go_wp2_with fail
  refine (guardProtects _ _ _ _ _ _ hs).mono ?_
  rintro e u1 ⟨rfl, hb⟩
  have hs1 := hs.ext hb
  have B1 := ext_trans B0 hb
  rw [show decide ((0 : Int) < needV 1) = true from by decide]
  clear hs hb B0
  go_wp2_with fail
  go_loopw [3] (fun i wr => ∃ j : Nat, j ≤ 10 ∧ i = .int .i64 j ∧ Below w.heap.size w wr ∧ GIs w.heap.size 0 0 j wr) (fun i _ => 10 - (intOf i).toNat)
  case atStart => exact ⟨0, by omega, rfl, B1, hs1⟩
  case round =>
    obtain ⟨j, hj, rfl, B, hs⟩ := hrel
    by_cases hlt : j < 10
    · go_wp2_with fail
      refine (guardRenew _ _ _ hs.c2 hs.f2 (by omega) (by omega)).mono ?_
      rintro e u2 ⟨rfl, rfl⟩
      have hs2 := hs.set ((j : Int) + 1)
      rw [if_pos (by omega)]
      have B2 : Below w.heap.size w (wr.setCell ⟨w.heap.size, 2, none⟩ (.int .i64 ((j : Int) + 1))) := by go_grown
      go_wp2
      go_roundw
      case rel => exact ⟨j + 1, by omega, by go_num, B2, by simpa using hs2⟩
      case measure => simp [intOf]; omega
    · obtain rfl : j = 10 := by omega
      have hs : GIs w.heap.size 0 0 10 wr := by simpa using hs
      clear hlt hj hs1 B1
      go_wp2_with fail
      refine (guardThis _ _ _ hs.c2).mono ?_
      rintro e u2 ⟨rfl, rfl⟩
      go_wp2_with fail
      refine (guardTick _ _ _ _ _ _ hs (by decide) (by decide)).mono ?_
      rintro e u2 ⟨rfl, hk, hs2⟩
      rw [show gT 0 0 10 59 = (0, 0, 10) from by decide] at hs2
      have B2 := B.trans (hk.below (Nat.le_refl _))
      clear hk hs B
      go_wp2_with fail
      refine (guardLast _ _ _ hs2.c1).mono ?_
      rintro e u3 ⟨rfl, rfl⟩
      go_wp2_with fail
      refine (guardTick _ _ _ _ _ _ hs2 (by decide) (by decide)).mono ?_
      rintro e u3 ⟨rfl, hk, hs3⟩
      rw [show gT 0 0 10 60 = (60, 10, 0) from by decide] at hs3
      have B3 := B2.trans (hk.below (Nat.le_refl _))
      clear hk hs2 B2
      go_wp2_with fail
      refine (guardNeed _ _).mono ?_
      rintro e u4 ⟨rfl, rfl⟩
      rw [show needV 2 = 10 from by decide]
      go_wp2_with fail
      refine (guardLast _ _ _ hs3.c1).mono ?_
      rintro e u4 ⟨rfl, rfl⟩
      go_wp2_with fail
      refine (guardThis _ _ _ hs3.c2).mono ?_
      rintro e u4 ⟨rfl, rfl⟩
      go_wp2_with fail
      refine (guardProtects _ _ _ _ _ _ hs3).mono ?_
      rintro e u4 ⟨rfl, hb⟩
      rw [show decide ((10 : Int) < needV 2) = false from by decide]
      have hs4 := hs3.ext hb
      have B4 := ext_trans B3 hb
      clear hb hs3 B3
      go_wp2_with fail
      refine (guardProtects _ _ _ _ _ _ hs4).mono ?_
      rintro e u5 ⟨rfl, hb⟩
      rw [show decide ((10 : Int) < needV 3) = true from by decide]
      have hs5 := hs4.ext hb
      have B5 := ext_trans B4 hb
      clear hb hs4 B4
      go_wp2_with fail
      refine (guardProtects _ _ _ _ _ _ hs5).mono ?_
      rintro e u6 ⟨rfl, hb⟩
      rw [show decide ((10 : Int) < needV 0) = false from by decide]
      have hs6 := hs5.ext hb
      have B6 := ext_trans B5 hb
      clear hb hs5 B5
      go_wp2_with fail
      refine (guardProtects _ _ _ _ _ _ hs6).mono ?_
      rintro e u7 ⟨rfl, hb⟩
      rw [show decide ((10 : Int) < needV (-5)) = false from by decide]
      have hs7 := hs6.ext hb
      have B7 := ext_trans B6 hb
      clear hb hs6 B6
      go_wp2_with fail
      go_ret
      exact ⟨rfl, B7⟩

set_option maxRecDepth 100000 in
set_option maxHeartbeats 4000000 in
theorem guardNeeds_walk (a b : Int) (w : World) (_ : (Lit.int .i64 a).wf = true) (_ : (Lit.int .i64 b).wf = true) :
    Calls Try.prog 6 #[.int .i64 a, .int .i64 b] w fun e w' => e = .returned (.bool true) ∧ Below w.heap.size w w' := by
  have hx := within_in (n := a) (lo := 0) (hi := 5000) (by omega)
  have hy := within_in (n := b) (lo := 0) (hi := 5000) (by omega)
  go_enter Try.func6, Try.ntmps6
  go_wp2_with fail
  refine (bookWithin _ _ _ _ (by omega) (by omega) (by omega)).mono ?_
  rintro e u1 ⟨rfl, rfl⟩
  go_wp2_with fail
  refine (bookWithin _ _ _ _ (by omega) (by omega) (by omega)).mono ?_
  rintro e u1 ⟨rfl, rfl⟩
  generalize within a 0 5000 = x at *
  generalize within b 0 5000 = y at *
  have n1 : needV x = x * 510 / 100 := by simp [needV]; omega
  have n2 : needV y = y * 510 / 100 := by simp [needV]; omega
  have n3 : needV (x + y) = (x + y) * 510 / 100 := by simp [needV]; omega
  have m1 : decide (needV x ≤ needV (x + y)) = true := by rw [n1, n3]; simp; omega
  have m2 : decide (needV x + needV y ≤ needV (x + y)) = true := by rw [n1, n2, n3]; simp; omega
  have m3 : decide (needV x ≤ x * 6) = true := by rw [n1]; simp; omega
  have m4 : x ≠ 0 → decide (5 * x ≤ needV x) = true := by intro _; rw [n1]; simp; omega
  have q1 : 0 ≤ needV x ∧ needV x ≤ 100000 := by rw [n1]; omega
  have q2 : 0 ≤ needV y ∧ needV y ≤ 100000 := by rw [n2]; omega
  have N1 := Lib.hid n1
  clear n1 n2 n3
  go_wp2_with (first | (go_at_call 7; refine (guardNeed _ _).mono ?_; rintro e u1 ⟨rfl, rfl⟩))
  · subst_vars
    refine (law11known _).mono ?_
    rintro e u1 ⟨rfl, hb⟩
    go_wp2_with fail
    go_ret
    exact ⟨rfl, hb⟩
  · have m5 := m4 (by assumption)
    clear m4
    refine (law11known _).mono ?_
    rintro e u1 ⟨rfl, hb⟩
    go_wp2_with fail
    go_ret
    exact ⟨rfl, hb⟩

end Go.Proofs.Ytelmalkgfikddaa
