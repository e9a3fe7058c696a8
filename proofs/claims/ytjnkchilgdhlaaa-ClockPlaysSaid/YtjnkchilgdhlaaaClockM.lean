/- Layer 7: clocks, walked: times, ticks. -/
import Derived.Test.YtjnkchilgdhlaaaClockW
namespace Go.Proofs.Ytjnkchilgdhlaaa
open Go.RowKit
set_option linter.unusedVariables false

theorem mx_mn {zs : List Int} {k : Nat} (h : ∀ j, 0 ≤ zs.getD j 0 ∧ zs.getD j 0 ≤ 4611686018427387904) : (0 ≤ mxTo zs k ∧ mxTo zs k ≤ 4611686018427387904) ∧ 0 ≤ mnTo zs k ∧ mnTo zs k ≤ 4611686018427387904 := by
  induction k with
  | zero => exact ⟨h 0, h 0⟩
  | succ k ih =>
    have h1 := h (k + 1)
    simp only [mxTo, mnTo]
    constructor <;> split <;> omega

/-- one number of a row turned -/
theorem getD_set {xs : List Int} {i j : Nat} {v : Int} (hi : i < xs.length) : (xs.set i v).getD j 0 = if j = i then v else xs.getD j 0 := by
  by_cases h : j = i
  · subst h; simp [List.getD, hi]
  · simp [List.getD, h, Ne.symm h]

theorem CIs.set {b : Nat} {n : Int} {xs : List Int} {w : World} (h : CIs b n xs w) {k : Nat} (hk : k < 6) {v : Int} (h0 : 0 ≤ v) (h1 : v ≤ 4611686018427387904) : CIs b n (xs.set k v) (w.setCell ⟨b, 1 + k, none⟩ (.int .i64 v)) := by
  have hl := h.len
  refine ⟨by simpa using hl, h.n1, h.n6, ?_, ?_, ?_, ?_, ?_⟩
  · rw [World.cell?_setCell_other _ _ _ _ (by simp)]; exact h.c
  · intro j hj
    rw [getD_set (by omega)]
    by_cases e : j = k
    · subst e; rw [if_pos rfl]; exact World.cell?_setCell_same _ _ _ (h.x j hj)
    · rw [if_neg e, World.cell?_setCell_other _ _ _ _ (by simp)]; exact h.x j hj
  · intro j hj; rw [World.frozen?_setCell]; exact h.f j hj
  · intro j; rw [getD_set (by omega)]; split <;> first | exact h0 | exact h.lo j
  · intro j; rw [getD_set (by omega)]; split <;> first | exact h1 | exact h.hi j

set_option maxHeartbeats 400000 in
theorem clockNow (b : Nat) (n k : Int) (xs : List Int) (w : World) (h : CIs b n xs w) :
    Calls Try.prog 12 #[.pointer (some ⟨b, 0, none⟩), .int .i64 k] w fun e w' => e = .returned (.int .i64 (if 0 ≤ k ∧ k < n then xs.getD k.toNat 0 else 0)) ∧ w = w' := by
  have hn6 := h.n6
  by_cases hk : 0 ≤ k ∧ k < n
  · obtain ⟨k, rfl⟩ := Int.eq_ofNat_of_zero_le hk.1
    have hx := h.x k (by omega)
    have hd : decide (0 ≤ (k : Int) ∧ (k : Int) < n) = true := by simpa using hk
    have hk6 : (k : Int) < 6 := by omega
    have hkn : (k : Int) < n := hk.2
    have hc := h.c
    clear h
    go_enter Try.func12, Try.ntmps12
    go_wp2_with fail
    refine (clockHas _ _ _ _ hc).mono ?_
    rintro e u1 ⟨rfl, rfl⟩
    rw [hd]
    clear hd
    go_wp2
    go_ret
    exact ⟨by simp, rfl⟩
  · have hd : decide (0 ≤ k ∧ k < n) = false := by simpa using hk
    have hc := h.c
    go_enter Try.func12, Try.ntmps12
    go_wp2_with fail
    refine (clockHas _ _ _ _ hc).mono ?_
    rintro e u1 ⟨rfl, rfl⟩
    rw [hd]
    go_wp2
    go_ret
    exact ⟨by simp, rfl⟩

set_option maxHeartbeats 1600000 in
theorem clockTick (b : Nat) (n k t : Int) (xs : List Int) (w : World) (h : CIs b n xs w) (hk0 : 0 ≤ k) (hkn : k < n) (ht1 : 1 ≤ t) (ht2 : t ≤ 1024) (hroom : xs.getD k.toNat 0 + t ≤ 4611686018427387904) :
    Calls Try.prog 11 #[.pointer (some ⟨b, 0, none⟩), .int .i64 k, .int .i64 t] w fun e w' => e = .returned (.int .i64 0) ∧ Kept b w w' ∧ CIs b n (xs.set k.toNat (xs.getD k.toNat 0 + t)) w' := by
  have hn6 := h.n6
  obtain ⟨k, rfl⟩ := Int.eq_ofNat_of_zero_le hk0
  simp only [Int.toNat_natCast] at hroom ⊢
  have hx := h.x k (by omega)
  have hf := h.f (1 + k) (by omega)
  have hd : decide (0 ≤ (k : Int) ∧ (k : Int) < n) = true := by simp [hkn]
  have hk6 : (k : Int) < 6 := by omega
  have hc := h.c
  have hlo := h.lo k
  have H := Lib.hid h
  clear h
  generalize hy : xs.getD k 0 = y at *
  have Hy := Lib.hid hy
  clear hy
  go_enter Try.func11, Try.ntmps11
  go_wp2_with fail
  refine (clockHas _ _ _ _ hc).mono ?_
  rintro e u1 ⟨rfl, rfl⟩
  rw [hd]
  clear hd
  go_wp2
  go_region
  all_goals go_wp2
  all_goals go_ret
  all_goals (first | exact ⟨rfl, ((Kept.refl _ _).setCell _ _).drew, (H.out.set (by omega) (by omega) (by omega)).ext (Below.refl _ _).drew⟩ | exact ⟨rfl, (Kept.refl _ _).drew.setCell _ _, (H.out.ext (Below.refl _ _).drew).set (by omega) (by omega) (by omega)⟩)

set_option maxHeartbeats 400000 in
theorem clockTick_no (b : Nat) (n k t : Int) (xs : List Int) (w : World) (h : CIs b n xs w) (hk : ¬ (0 ≤ k ∧ k < n)) :
    Calls Try.prog 11 #[.pointer (some ⟨b, 0, none⟩), .int .i64 k, .int .i64 t] w fun e w' => e = .returned (.int .i64 23) ∧ w = w' := by
  have hd : decide (0 ≤ k ∧ k < n) = false := by simpa using hk
  go_enter Try.func11, Try.ntmps11
  go_wp2_with fail
  refine (clockHas _ _ _ _ h.c).mono ?_
  rintro e u1 ⟨rfl, rfl⟩
  rw [hd]
  go_wp2
  go_ret
  exact ⟨rfl, rfl⟩

set_option maxHeartbeats 400000 in
theorem clockTick_arg (b : Nat) (n k t : Int) (xs : List Int) (w : World) (h : CIs b n xs w) (hk : 0 ≤ k ∧ k < n) (ht : t < 1 ∨ 1024 < t) :
    Calls Try.prog 11 #[.pointer (some ⟨b, 0, none⟩), .int .i64 k, .int .i64 t] w fun e w' => e = .returned (.int .i64 1) ∧ w = w' := by
  have hd : decide (0 ≤ k ∧ k < n) = true := by simpa using hk
  by_cases h1 : t < 1
  · go_enter Try.func11, Try.ntmps11
    go_wp2_with fail
    refine (clockHas _ _ _ _ h.c).mono ?_
    rintro e u1 ⟨rfl, rfl⟩
    rw [hd]
    go_wp2
    go_ret
    exact ⟨rfl, rfl⟩
  · have h2 : 1024 < t := by omega
    go_enter Try.func11, Try.ntmps11
    go_wp2_with fail
    refine (clockHas _ _ _ _ h.c).mono ?_
    rintro e u1 ⟨rfl, rfl⟩
    rw [hd]
    go_wp2
    go_ret
    exact ⟨rfl, rfl⟩

set_option maxHeartbeats 1600000 in
theorem clockApart (b : Nat) (n : Int) (xs : List Int) (w : World) (h : CIs b n xs w) :
    Calls Try.prog 13 #[.pointer (some ⟨b, 0, none⟩)] w fun e w' => e = .returned (.int .i64 (mxTo (xs.take n.toNat) (n.toNat - 1) - mnTo (xs.take n.toNat) (n.toNat - 1))) ∧ Below w.heap.size w w' := by
  have hc := h.c
  have hn1 := h.n1
  have hn6 := h.n6
  have hR : IsRow .i64 w (some ⟨b, 1, none⟩) n.toNat 6 (xs.take n.toNat) := by
    refine ⟨by omega, by decide, by simp [h.len]; omega, ?_, .inr ⟨b, 1, rfl, fun i hi => ?_⟩⟩
    · intro x hx
      obtain ⟨i, hi, rfl⟩ := List.getElem_of_mem (List.mem_of_mem_take hx)
      have h1 := h.lo i
      have h2 := h.hi i
      simp [List.getD, hi] at h1 h2
      exact WalkArith.wf_i64 (by omega)
    · rw [h.x i (by omega)]
      simp [List.getD, hi]
  have HR := Lib.hid hR
  have HB : Hid (∀ j, 0 ≤ (xs.take n.toNat).getD j 0 ∧ (xs.take n.toNat).getD j 0 ≤ 4611686018427387904) := by
    intro j
    by_cases hj : j < n.toNat
    · have h1 := h.lo j
      have h2 := h.hi j
      simp [List.getD, hj] at h1 h2 ⊢
      exact ⟨h1, h2⟩
    · rw [show (xs.take n.toNat).getD j 0 = 0 from by simp only [List.getD]; rw [List.getElem?_eq_none (by simp; omega)]; rfl]; decide
  clear hR h
  obtain ⟨m, rfl⟩ := Int.eq_ofNat_of_zero_le (show 0 ≤ n by omega)
  simp only [Int.toNat_natCast] at HR HB ⊢
  go_enter Try.func13, Try.ntmps13
  go_wp2
  go_region
  go_wp2_with fail
  refine (slicesMax _ _ _ _ _ (HR.out.ext (Below.refl _ _).drew) (by omega)).mono ?_
  rintro e u1 ⟨rfl, rfl⟩
  go_wp2_with fail
  refine (slicesMin _ _ _ _ _ (HR.out.ext (Below.refl _ _).drew) (by omega)).mono ?_
  rintro e u1 ⟨rfl, rfl⟩
  have hbd := mx_mn (zs := xs.take m) (k := m - 1) HB.out
  go_wp2
  go_ret
  exact ⟨rfl, by go_grown⟩

end Go.Proofs.Ytjnkchilgdhlaaa
