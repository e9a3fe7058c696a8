/- Layer 7: 'known' and ClockRefuses, walked. -/
import Derived.Test.YtjnkchilgdhlaaaClockM
namespace Go.Proofs.Ytjnkchilgdhlaaa
open Go.RowKit
set_option linter.unusedVariables false

theorem CIs.alike {b : Nat} {n : Int} {xs ys : List Int} {w : World} (h : CIs b n xs w) (e : xs = ys) : CIs b n ys w := e ▸ h

set_option maxRecDepth 100000 in
set_option maxHeartbeats 4000000 in
theorem law7known (w : World) :
    Calls Try.prog 8 #[] w fun e w' => e = .returned (.bool true) ∧ Below w.heap.size w w' := by
  go_enter Try.func8, Try.ntmps8
  go_wp2_with fail
  refine (clockNew _ _ (by decide) (by decide)).mono ?_
  rintro e u1 ⟨rfl, B1, h1⟩
  go_wp2_with fail
  refine (clockNew_no _ _ (by decide)).mono ?_
  rintro e u2 ⟨rfl, rfl⟩
  go_wp2_with fail
  refine (clockNew_no _ _ (by decide)).mono ?_
  rintro e u2 ⟨rfl, rfl⟩
  go_wp2_with fail
  refine (clockTick _ _ _ _ _ _ h1 (by decide) (by decide) (by decide) (by decide) (by decide)).mono ?_
  rintro e u2 ⟨rfl, k2, h2⟩
  have h2 := h2.alike (ys := [5, 0, 0, 0, 0, 0]) (by decide)
  have B2 := B1.trans (k2.below (Nat.le_refl _))
  clear h1 k2 B1
  go_wp2_with fail
  refine (clockTick_arg _ _ _ _ _ _ h2 (by decide) (by decide)).mono ?_
  rintro e u3 ⟨rfl, rfl⟩
  go_wp2_with fail
  refine (clockTick_no _ _ _ _ _ _ h2 (by decide)).mono ?_
  rintro e u3 ⟨rfl, rfl⟩
  go_wp2_with fail
  refine (clockApart _ _ _ _ h2).mono ?_
  rintro e u3 ⟨rfl, hb⟩
  have h3 := h2.ext hb
  have B3 := ext_trans B2 hb
  rw [show mxTo (List.take (Int.toNat 2) [5, 0, 0, 0, 0, 0]) (Int.toNat 2 - 1) - mnTo (List.take (Int.toNat 2) [5, 0, 0, 0, 0, 0]) (Int.toNat 2 - 1) = 5 from by decide]
  clear h2 hb B2
  go_wp2_with fail
  refine (clockNow _ _ _ _ _ h3).mono ?_
  rintro e u4 ⟨rfl, rfl⟩
  rw [show (if (0 : Int) ≤ 0 ∧ (0 : Int) < 2 then [5, 0, 0, 0, 0, 0].getD (Int.toNat 0) 0 else (0 : Int)) = 5 from by decide]
  go_wp2_with fail
  refine (clockNow _ _ _ _ _ h3).mono ?_
  rintro e u4 ⟨rfl, rfl⟩
  rw [show (if (0 : Int) ≤ -1 ∧ (-1 : Int) < 2 then [5, 0, 0, 0, 0, 0].getD (Int.toNat (-1)) 0 else (0 : Int)) = 0 from by decide]
  go_wp2_with fail
  go_ret
  exact ⟨rfl, B3⟩

set_option maxRecDepth 100000 in
set_option maxHeartbeats 4000000 in
theorem clockRefuses_walk (k t : Int) (w : World) (_ : (Lit.int .i64 k).wf = true) (_ : (Lit.int .i64 t).wf = true) :
    Calls Try.prog 6 #[.int .i64 k, .int .i64 t] w fun e w' => e = .returned (.bool true) ∧ Below w.heap.size w w' := by
  by_cases hin : (0 ≤ k ∧ k < 3) ∧ 1 ≤ t ∧ t ≤ 1024
  · obtain ⟨⟨hk0, hk3⟩, ht1, ht2⟩ := hin
    obtain ⟨x, hx0, hx1⟩ : ∃ x : Int, [0, 7, 0, 0, 0, 0].getD k.toNat 0 = x ∧ 0 ≤ x ∧ x ≤ 7 := by
      refine ⟨_, rfl, ?_⟩
      have : k = 0 ∨ k = 1 ∨ k = 2 := by omega
      rcases this with rfl | rfl | rfl <;> decide
    go_enter Try.func6, Try.ntmps6
    go_wp2_with fail
    refine (clockNew _ _ (by decide) (by decide)).mono ?_
    rintro e u1 ⟨rfl, B1, h1⟩
    go_wp2_with fail
    refine (clockTick _ _ _ _ _ _ h1 (by decide) (by decide) (by decide) (by decide) (by decide)).mono ?_
    rintro e u2 ⟨rfl, k2, h2⟩
    have h2 := h2.alike (ys := [0, 7, 0, 0, 0, 0]) (by decide)
    have B2 := B1.trans (k2.below (Nat.le_refl _))
    clear h1 k2 B1
    go_wp2_with fail
    refine (clockTick _ _ _ _ _ _ h2 hk0 hk3 ht1 ht2 (by rw [hx0]; omega)).mono ?_
    rintro e u3 ⟨rfl, k3, h3⟩
    have B3 := B2.trans (k3.below (Nat.le_refl _))
    rw [hx0] at h3
    clear h2 k3 B2
    go_wp2_with fail
    refine (clockNow _ _ _ _ _ h3).mono ?_
    rintro e u4 ⟨rfl, rfl⟩
    rw [if_pos ⟨hk0, hk3⟩, getD_set (by simp; omega), if_pos rfl]
    have hge : decide (t ≤ x + t) = true := by simp; omega
    clear hx0
    go_wp2_with fail
    refine (law7known _).mono ?_
    rintro e u5 ⟨rfl, hb⟩
    have B5 := ext_trans B3 hb
    go_wp2_with fail
    go_ret
    exact ⟨rfl, B5⟩
  · have h4 : k < 0 ∨ (0 ≤ k ∧ 3 ≤ k) ∨ (0 ≤ k ∧ k < 3 ∧ t < 1) ∨ (0 ≤ k ∧ k < 3 ∧ 1 ≤ t ∧ 1024 < t) := by omega
    clear hin
    rcases h4 with hk | ⟨hk, hk2⟩ | ⟨hk, hk2, ht⟩ | ⟨hk, hk2, ht, ht2⟩
    · go_enter Try.func6, Try.ntmps6
      go_wp2_with fail
      refine (clockNew _ _ (by decide) (by decide)).mono ?_
      rintro e u1 ⟨rfl, B1, h1⟩
      go_wp2_with fail
      refine (clockTick _ _ _ _ _ _ h1 (by decide) (by decide) (by decide) (by decide) (by decide)).mono ?_
      rintro e u2 ⟨rfl, k2, h2⟩
      have h2 := h2.alike (ys := [0, 7, 0, 0, 0, 0]) (by decide)
      have B2 := B1.trans (k2.below (Nat.le_refl _))
      clear h1 k2 B1
      go_wp2_with fail
      refine (clockTick_no _ _ _ _ _ _ h2 (by omega)).mono ?_
      rintro e u3 ⟨rfl, rfl⟩
      go_wp2_with fail
      refine (clockNow _ _ _ _ _ h2).mono ?_
      rintro e u4 ⟨rfl, rfl⟩
      rw [show (if (0 : Int) ≤ 0 ∧ (0 : Int) < 3 then [0, 7, 0, 0, 0, 0].getD (Int.toNat 0) 0 else (0 : Int)) = 0 from by decide]
      go_wp2_with fail
      refine (clockNow _ _ _ _ _ h2).mono ?_
      rintro e u4 ⟨rfl, rfl⟩
      rw [show (if (0 : Int) ≤ 1 ∧ (1 : Int) < 3 then [0, 7, 0, 0, 0, 0].getD (Int.toNat 1) 0 else (0 : Int)) = 7 from by decide]
      go_wp2_with fail
      refine (clockNow _ _ _ _ _ h2).mono ?_
      rintro e u4 ⟨rfl, rfl⟩
      rw [show (if (0 : Int) ≤ 2 ∧ (2 : Int) < 3 then [0, 7, 0, 0, 0, 0].getD (Int.toNat 2) 0 else (0 : Int)) = 0 from by decide]
      go_wp2_with fail
      refine (clockApart _ _ _ _ h2).mono ?_
      rintro e u3 ⟨rfl, hb⟩
      have B3 := ext_trans B2 hb
      rw [show mxTo (List.take (Int.toNat 3) [0, 7, 0, 0, 0, 0]) (Int.toNat 3 - 1) - mnTo (List.take (Int.toNat 3) [0, 7, 0, 0, 0, 0]) (Int.toNat 3 - 1) = 7 from by decide]
      go_wp2_with fail
      refine (law7known _).mono ?_
      rintro e u5 ⟨rfl, hb⟩
      have B5 := ext_trans B3 hb
      go_wp2_with fail
      go_ret
      exact ⟨rfl, B5⟩
    · go_enter Try.func6, Try.ntmps6
      go_wp2_with fail
      refine (clockNew _ _ (by decide) (by decide)).mono ?_
      rintro e u1 ⟨rfl, B1, h1⟩
      go_wp2_with fail
      refine (clockTick _ _ _ _ _ _ h1 (by decide) (by decide) (by decide) (by decide) (by decide)).mono ?_
      rintro e u2 ⟨rfl, k2, h2⟩
      have h2 := h2.alike (ys := [0, 7, 0, 0, 0, 0]) (by decide)
      have B2 := B1.trans (k2.below (Nat.le_refl _))
      clear h1 k2 B1
      go_wp2_with fail
      refine (clockTick_no _ _ _ _ _ _ h2 (by omega)).mono ?_
      rintro e u3 ⟨rfl, rfl⟩
      go_wp2_with fail
      refine (clockNow _ _ _ _ _ h2).mono ?_
      rintro e u4 ⟨rfl, rfl⟩
      rw [show (if (0 : Int) ≤ 0 ∧ (0 : Int) < 3 then [0, 7, 0, 0, 0, 0].getD (Int.toNat 0) 0 else (0 : Int)) = 0 from by decide]
      go_wp2_with fail
      refine (clockNow _ _ _ _ _ h2).mono ?_
      rintro e u4 ⟨rfl, rfl⟩
      rw [show (if (0 : Int) ≤ 1 ∧ (1 : Int) < 3 then [0, 7, 0, 0, 0, 0].getD (Int.toNat 1) 0 else (0 : Int)) = 7 from by decide]
      go_wp2_with fail
      refine (clockNow _ _ _ _ _ h2).mono ?_
      rintro e u4 ⟨rfl, rfl⟩
      rw [show (if (0 : Int) ≤ 2 ∧ (2 : Int) < 3 then [0, 7, 0, 0, 0, 0].getD (Int.toNat 2) 0 else (0 : Int)) = 0 from by decide]
      go_wp2_with fail
      refine (clockApart _ _ _ _ h2).mono ?_
      rintro e u3 ⟨rfl, hb⟩
      have B3 := ext_trans B2 hb
      rw [show mxTo (List.take (Int.toNat 3) [0, 7, 0, 0, 0, 0]) (Int.toNat 3 - 1) - mnTo (List.take (Int.toNat 3) [0, 7, 0, 0, 0, 0]) (Int.toNat 3 - 1) = 7 from by decide]
      go_wp2_with fail
      refine (law7known _).mono ?_
      rintro e u5 ⟨rfl, hb⟩
      have B5 := ext_trans B3 hb
      go_wp2_with fail
      go_ret
      exact ⟨rfl, B5⟩
    · go_enter Try.func6, Try.ntmps6
      go_wp2_with fail
      refine (clockNew _ _ (by decide) (by decide)).mono ?_
      rintro e u1 ⟨rfl, B1, h1⟩
      go_wp2_with fail
      refine (clockTick _ _ _ _ _ _ h1 (by decide) (by decide) (by decide) (by decide) (by decide)).mono ?_
      rintro e u2 ⟨rfl, k2, h2⟩
      have h2 := h2.alike (ys := [0, 7, 0, 0, 0, 0]) (by decide)
      have B2 := B1.trans (k2.below (Nat.le_refl _))
      clear h1 k2 B1
      go_wp2_with fail
      refine (clockTick_arg _ _ _ _ _ _ h2 (by omega) (by omega)).mono ?_
      rintro e u3 ⟨rfl, rfl⟩
      go_wp2_with fail
      refine (clockNow _ _ _ _ _ h2).mono ?_
      rintro e u4 ⟨rfl, rfl⟩
      rw [show (if (0 : Int) ≤ 0 ∧ (0 : Int) < 3 then [0, 7, 0, 0, 0, 0].getD (Int.toNat 0) 0 else (0 : Int)) = 0 from by decide]
      go_wp2_with fail
      refine (clockNow _ _ _ _ _ h2).mono ?_
      rintro e u4 ⟨rfl, rfl⟩
      rw [show (if (0 : Int) ≤ 1 ∧ (1 : Int) < 3 then [0, 7, 0, 0, 0, 0].getD (Int.toNat 1) 0 else (0 : Int)) = 7 from by decide]
      go_wp2_with fail
      refine (clockNow _ _ _ _ _ h2).mono ?_
      rintro e u4 ⟨rfl, rfl⟩
      rw [show (if (0 : Int) ≤ 2 ∧ (2 : Int) < 3 then [0, 7, 0, 0, 0, 0].getD (Int.toNat 2) 0 else (0 : Int)) = 0 from by decide]
      go_wp2_with fail
      refine (clockApart _ _ _ _ h2).mono ?_
      rintro e u3 ⟨rfl, hb⟩
      have B3 := ext_trans B2 hb
      rw [show mxTo (List.take (Int.toNat 3) [0, 7, 0, 0, 0, 0]) (Int.toNat 3 - 1) - mnTo (List.take (Int.toNat 3) [0, 7, 0, 0, 0, 0]) (Int.toNat 3 - 1) = 7 from by decide]
      go_wp2_with fail
      refine (law7known _).mono ?_
      rintro e u5 ⟨rfl, hb⟩
      have B5 := ext_trans B3 hb
      go_wp2_with fail
      go_ret
      exact ⟨rfl, B5⟩
    · go_enter Try.func6, Try.ntmps6
      go_wp2_with fail
      refine (clockNew _ _ (by decide) (by decide)).mono ?_
      rintro e u1 ⟨rfl, B1, h1⟩
      go_wp2_with fail
      refine (clockTick _ _ _ _ _ _ h1 (by decide) (by decide) (by decide) (by decide) (by decide)).mono ?_
      rintro e u2 ⟨rfl, k2, h2⟩
      have h2 := h2.alike (ys := [0, 7, 0, 0, 0, 0]) (by decide)
      have B2 := B1.trans (k2.below (Nat.le_refl _))
      clear h1 k2 B1
      go_wp2_with fail
      refine (clockTick_arg _ _ _ _ _ _ h2 (by omega) (by omega)).mono ?_
      rintro e u3 ⟨rfl, rfl⟩
      go_wp2_with fail
      refine (clockNow _ _ _ _ _ h2).mono ?_
      rintro e u4 ⟨rfl, rfl⟩
      rw [show (if (0 : Int) ≤ 0 ∧ (0 : Int) < 3 then [0, 7, 0, 0, 0, 0].getD (Int.toNat 0) 0 else (0 : Int)) = 0 from by decide]
      go_wp2_with fail
      refine (clockNow _ _ _ _ _ h2).mono ?_
      rintro e u4 ⟨rfl, rfl⟩
      rw [show (if (0 : Int) ≤ 1 ∧ (1 : Int) < 3 then [0, 7, 0, 0, 0, 0].getD (Int.toNat 1) 0 else (0 : Int)) = 7 from by decide]
      go_wp2_with fail
      refine (clockNow _ _ _ _ _ h2).mono ?_
      rintro e u4 ⟨rfl, rfl⟩
      rw [show (if (0 : Int) ≤ 2 ∧ (2 : Int) < 3 then [0, 7, 0, 0, 0, 0].getD (Int.toNat 2) 0 else (0 : Int)) = 0 from by decide]
      go_wp2_with fail
      refine (clockApart _ _ _ _ h2).mono ?_
      rintro e u3 ⟨rfl, hb⟩
      have B3 := ext_trans B2 hb
      rw [show mxTo (List.take (Int.toNat 3) [0, 7, 0, 0, 0, 0]) (Int.toNat 3 - 1) - mnTo (List.take (Int.toNat 3) [0, 7, 0, 0, 0, 0]) (Int.toNat 3 - 1) = 7 from by decide]
      go_wp2_with fail
      refine (law7known _).mono ?_
      rintro e u5 ⟨rfl, hb⟩
      have B5 := ext_trans B3 hb
      go_wp2_with fail
      go_ret
      exact ⟨rfl, B5⟩

end Go.Proofs.Ytjnkchilgdhlaaa
