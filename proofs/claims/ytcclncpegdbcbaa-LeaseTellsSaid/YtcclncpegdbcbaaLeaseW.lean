/- The walks of package lease and of its reference: what becomes of an entry. -/
import Derived.Test.YtcclncpegdbcbaaRows
import Derived.Test.YtcclncpegdbcbaaCards
import Derived.BigRegion
import Derived.RegionTactic
import Derived.ChangeAlike
namespace Go.Proofs.Ytcclncpegdbcbaa
open Go.RowKit
set_option linter.unusedVariables false

def hd (n : Int) : Int := if n < 0 then 0 else if 4611686018427387904 < n then 4611686018427387904 else n
theorem hd_lo (n : Int) : 0 ≤ hd n := by unfold hd; split <;> (try split) <;> omega
theorem hd_hi (n : Int) : hd n ≤ 4611686018427387904 := by unfold hd; split <;> (try split) <;> omega
def late (e : En) (now : Int) : Int := if e.c.g then 0 else if hd now - hd e.seen - hd e.c.l < 0 then 0 else hd now - hd e.seen - hd e.c.l

set_option maxHeartbeats 400000 in
theorem leaseRenew_no (e : En) (now : Int) (w : World) (h : e.c.g = true) :
    Calls Try.prog 14 #[e.v, .int .i64 now] w fun r w' => r = .returned (.tuple #[En.zero.v, .bool false]) ∧ Below w.heap.size w w' := by
  go_enter Try.func14, Try.ntmps14
  go_wp2
  all_goals (go_returns; exact ⟨by simp [*]; try omega, by go_grown⟩)

set_option maxHeartbeats 400000 in
theorem leaseRenew_yes (e : En) (now : Int) (w : World) (h : e.c.g = false) :
    Calls Try.prog 14 #[e.v, .int .i64 now] w fun r w' => r = .returned (.tuple #[En.v ⟨e.c, mx e.seen now⟩, .bool true]) ∧ Below w.heap.size w w' := by
  go_enter Try.func14, Try.ntmps14
  go_wp2
  all_goals (go_returns; refine ⟨?_, by go_grown⟩; simp [*, mx]; try omega)

set_option maxHeartbeats 400000 in
theorem leaseCancel_no (e : En) (t k n now : Int) (w : World) (h : e.c.g = true) :
    Calls Try.prog 18 #[e.v, stv t k n, .int .i64 now] w fun r w' => r = .returned (.tuple #[En.zero.v, .bool false]) ∧ Below w.heap.size w w' := by
  go_enter Try.func18, Try.ntmps18
  go_wp2
  all_goals (go_returns; exact ⟨by simp [*]; try omega, by go_grown⟩)

set_option maxHeartbeats 400000 in
theorem leaseCancel_yes (e : En) (t k n now : Int) (w : World) (h : e.c.g = false) :
    Calls Try.prog 18 #[e.v, stv t k n, .int .i64 now] w fun r w' => r = .returned (.tuple #[En.v ⟨{ e.c with t := t, k := k, n := n, g := true }, now⟩, .bool true]) ∧ Below w.heap.size w w' := by
  go_enter Try.func18, Try.ntmps18
  go_wp2
  go_region
  all_goals go_wp2
  all_goals (go_returns; exact ⟨by simp [*], by go_grown⟩)

set_option maxHeartbeats 400000 in
theorem leaseOverride_no (e : En) (ov t k n : Int) (w : World) (h : e.c.g = true ∨ ov < 0 ∨ 3 < ov) :
    Calls Try.prog 17 #[e.v, .int .i64 ov, stv t k n] w fun r w' => r = .returned (.tuple #[En.zero.v, .bool false]) ∧ Below w.heap.size w w' := by
  by_cases h1 : e.c.g = true
  · clear h
    go_enter Try.func17, Try.ntmps17
    go_wp2
    all_goals (go_returns; exact ⟨by simp [*], by go_grown⟩)
  · have h1 : e.c.g = false := by simpa using h1
    by_cases h2 : ov < 0
    · clear h
      go_enter Try.func17, Try.ntmps17
      go_wp2
      all_goals (go_returns; exact ⟨by simp [*], by go_grown⟩)
    · have h3 : 3 < ov := by rcases h with h | h | h; (· simp [h] at h1); (· omega); (· exact h)
      clear h
      go_enter Try.func17, Try.ntmps17
      go_wp2
      all_goals (go_returns; exact ⟨by simp [*], by go_grown⟩)

set_option maxHeartbeats 400000 in
theorem leaseOverride_yes (e : En) (ov t k n : Int) (w : World) (h : e.c.g = false) (h1 : 0 ≤ ov) (h2 : ov ≤ 3) :
    Calls Try.prog 17 #[e.v, .int .i64 ov, stv t k n] w fun r w' => r = .returned (.tuple #[En.v ⟨{ e.c with o := ov, t := t, k := k, n := n }, e.seen⟩, .bool true]) ∧ Below w.heap.size w w' := by
  go_enter Try.func17, Try.ntmps17
  go_wp2
  go_region
  all_goals go_wp2
  all_goals (go_returns; exact ⟨by simp [*], by go_grown⟩)

set_option maxHeartbeats 400000 in
theorem leaseRegister_new (e : En) (inn : Bool) (c : Cd) (now : Int) (w : World) (h : inn = false ∨ e.c.g = true) :
    Calls Try.prog 16 #[e.v, .bool inn, c.v, .int .i64 now] w fun r w' => r = .returned (En.v ⟨{ c with o := 0, g := false }, now⟩) ∧ Below w.heap.size w w' := by
  cases inn
  · clear h
    go_enter Try.func16, Try.ntmps16
    go_wp2
    all_goals (go_returns; exact ⟨by simp [*], by go_grown⟩)
  · have h1 : e.c.g = true := by simpa using h
    clear h
    go_enter Try.func16, Try.ntmps16
    go_wp2
    all_goals (go_returns; exact ⟨by simp [*], by go_grown⟩)

set_option maxHeartbeats 400000 in
theorem leaseRegister_old (e : En) (c : Cd) (now : Int) (w : World) (h : e.c.g = false) :
    Calls Try.prog 16 #[e.v, .bool true, c.v, .int .i64 now] w fun r w' => r = .returned (En.v ⟨{ c with o := e.c.o, g := false }, now⟩) ∧ Below w.heap.size w w' := by
  go_enter Try.func16, Try.ntmps16
  go_wp2
  all_goals (go_returns; exact ⟨by simp [*]; try omega, by go_grown⟩)

set_option maxHeartbeats 400000 in
theorem leaseHeld (n : Int) (w : World) :
    Calls Try.prog 24 #[.int .i64 n] w fun r w' => r = .returned (.int .i64 (hd n)) ∧ w = w' := by
  go_enter Try.func24, Try.ntmps24
  go_wp2
  all_goals (go_ret; refine ⟨?_, rfl⟩; simp [hd]; (repeat' split) <;> omega)

set_option maxHeartbeats 400000 in
theorem refHold (n : Int) (w : World) :
    Calls Try.prog 25 #[.int .i64 n] w fun r w' => r = .returned (.int .i64 (hd n)) ∧ w = w' := by
  go_enter Try.func25, Try.ntmps25
  go_wp2
  all_goals (go_ret; refine ⟨?_, rfl⟩; simp [hd]; (repeat' split) <;> omega)

set_option maxHeartbeats 400000 in
theorem leaseLate0_gone (e : En) (now : Int) (w : World) (h : e.c.g = true) :
    Calls Try.prog 15 #[e.v, .int .i64 now] w fun r w' => r = .returned (.int .i64 0) ∧ Below w.heap.size w w' := by
  go_enter Try.func15, Try.ntmps15
  go_wp2
  all_goals (go_returns; exact ⟨by simp [*]; try omega, by go_grown⟩)

set_option maxHeartbeats 400000 in
theorem refLate0_gone (e : En) (now : Int) (w : World) (h : e.c.g = true) :
    Calls Try.prog 19 #[e.v, .int .i64 now] w fun r w' => r = .returned (.int .i64 0) ∧ Below w.heap.size w w' := by
  go_enter Try.func19, Try.ntmps19
  go_wp2
  all_goals (go_returns; exact ⟨by simp [*]; try omega, by go_grown⟩)

set_option maxHeartbeats 400000 in
theorem leaseLate1 (e : En) (now : Int) (w : World) (h : e.c.g = false) (b1 : 0 ≤ hd now) (b2 : 0 ≤ hd e.seen) (b3 : 0 ≤ hd e.c.l) (c1 : hd now ≤ 4611686018427387904) (c2 : hd e.seen ≤ 4611686018427387904) (c3 : hd e.c.l ≤ 4611686018427387904) :
    Calls Try.prog 15 #[e.v, .int .i64 now] w fun r w' => r = .returned (.int .i64 (late e now)) ∧ Below w.heap.size w w' := by
  go_enter Try.func15, Try.ntmps15
  go_wp2_with fail
  haveI hIq : Nonempty (Of (w.alloc (.cells #[.string e.c.a, .string e.c.i, .int .i64 e.c.s, .int .i64 e.c.o, .int .i64 e.c.l, .int .i64 e.c.t, .int .i64 e.c.k, .int .i64 e.c.n, .bool false, .int .i64 e.seen] 30))) := of_some _
  have hFq0 := of_cell (W := (w.alloc (.cells #[.string e.c.a, .string e.c.i, .int .i64 e.c.s, .int .i64 e.c.o, .int .i64 e.c.l, .int .i64 e.c.t, .int .i64 e.c.k, .int .i64 e.c.n, .bool false, .int .i64 e.seen] 30))) (b := w.heap.size) (o := 4) (v := .int .i64 e.c.l) (by first | (with_reducible assumption) | (with_reducible (refine ext_cell ((Below.refl _ _).alloc (Nat.le_refl _) _) ?_; assumption)) | (go_cell; done) | (go_keep; done))
  have hFq1 := of_cell (W := (w.alloc (.cells #[.string e.c.a, .string e.c.i, .int .i64 e.c.s, .int .i64 e.c.o, .int .i64 e.c.l, .int .i64 e.c.t, .int .i64 e.c.k, .int .i64 e.c.n, .bool false, .int .i64 e.seen] 30))) (b := w.heap.size) (o := 9) (v := .int .i64 e.seen) (by first | (with_reducible assumption) | (with_reducible (refine ext_cell ((Below.refl _ _).alloc (Nat.le_refl _) _) ?_; assumption)) | (go_cell; done) | (go_keep; done))
  first | (refine wp_region_stay (w.alloc (.cells #[.string e.c.a, .string e.c.i, .int .i64 e.c.s, .int .i64 e.c.o, .int .i64 e.c.l, .int .i64 e.c.t, .int .i64 e.c.k, .int .i64 e.c.n, .bool false, .int .i64 e.seen] 30)) (by kernel_rfl) (by kernel_rfl) (by go_grown) ?_) | (refine wp_region_stay_seq (w.alloc (.cells #[.string e.c.a, .string e.c.i, .int .i64 e.c.s, .int .i64 e.c.o, .int .i64 e.c.l, .int .i64 e.c.t, .int .i64 e.c.k, .int .i64 e.c.n, .bool false, .int .i64 e.seen] 30)) (by go_grown) ?_)
  repeat (go_big_quiet_step ((first | (go_at_call 24; refine stay_same (leaseHeld _ _)))))
  refine wpQuiet_nil ?_
  intro wq hq
  have Bq : Below w.heap.size w wq := ext_trans (a := w) (by go_grown) hq
  clear hIq hFq0 hFq1
  go_wp2
  all_goals (go_ret; refine ⟨?_, Bq⟩; simp [late, *]; try omega)

set_option maxHeartbeats 400000 in
theorem refLate1 (e : En) (now : Int) (w : World) (h : e.c.g = false) (b1 : 0 ≤ hd now) (b2 : 0 ≤ hd e.seen) (b3 : 0 ≤ hd e.c.l) (c1 : hd now ≤ 4611686018427387904) (c2 : hd e.seen ≤ 4611686018427387904) (c3 : hd e.c.l ≤ 4611686018427387904) :
    Calls Try.prog 19 #[e.v, .int .i64 now] w fun r w' => r = .returned (.int .i64 (late e now)) ∧ Below w.heap.size w w' := by
  go_enter Try.func19, Try.ntmps19
  go_wp2_with fail
  haveI hIq : Nonempty (Of (w.alloc (.cells #[.string e.c.a, .string e.c.i, .int .i64 e.c.s, .int .i64 e.c.o, .int .i64 e.c.l, .int .i64 e.c.t, .int .i64 e.c.k, .int .i64 e.c.n, .bool false, .int .i64 e.seen] 53))) := of_some _
  have hFq0 := of_cell (W := (w.alloc (.cells #[.string e.c.a, .string e.c.i, .int .i64 e.c.s, .int .i64 e.c.o, .int .i64 e.c.l, .int .i64 e.c.t, .int .i64 e.c.k, .int .i64 e.c.n, .bool false, .int .i64 e.seen] 53))) (b := w.heap.size) (o := 4) (v := .int .i64 e.c.l) (by first | (with_reducible assumption) | (with_reducible (refine ext_cell ((Below.refl _ _).alloc (Nat.le_refl _) _) ?_; assumption)) | (go_cell; done) | (go_keep; done))
  have hFq1 := of_cell (W := (w.alloc (.cells #[.string e.c.a, .string e.c.i, .int .i64 e.c.s, .int .i64 e.c.o, .int .i64 e.c.l, .int .i64 e.c.t, .int .i64 e.c.k, .int .i64 e.c.n, .bool false, .int .i64 e.seen] 53))) (b := w.heap.size) (o := 9) (v := .int .i64 e.seen) (by first | (with_reducible assumption) | (with_reducible (refine ext_cell ((Below.refl _ _).alloc (Nat.le_refl _) _) ?_; assumption)) | (go_cell; done) | (go_keep; done))
  first | (refine wp_region_stay (w.alloc (.cells #[.string e.c.a, .string e.c.i, .int .i64 e.c.s, .int .i64 e.c.o, .int .i64 e.c.l, .int .i64 e.c.t, .int .i64 e.c.k, .int .i64 e.c.n, .bool false, .int .i64 e.seen] 53)) (by kernel_rfl) (by kernel_rfl) (by go_grown) ?_) | (refine wp_region_stay_seq (w.alloc (.cells #[.string e.c.a, .string e.c.i, .int .i64 e.c.s, .int .i64 e.c.o, .int .i64 e.c.l, .int .i64 e.c.t, .int .i64 e.c.k, .int .i64 e.c.n, .bool false, .int .i64 e.seen] 53)) (by go_grown) ?_)
  repeat (go_big_quiet_step ((first | (go_at_call 25; refine stay_same (refHold _ _)))))
  refine wpQuiet_nil ?_
  intro wq hq
  have Bq : Below w.heap.size w wq := ext_trans (a := w) (by go_grown) hq
  clear hIq hFq0 hFq1
  go_wp2
  all_goals (go_ret; refine ⟨?_, Bq⟩; simp [late, *]; try omega)

theorem leaseLate (e : En) (now : Int) (w : World) :
    Calls Try.prog 15 #[e.v, .int .i64 now] w fun r w' => r = .returned (.int .i64 (late e now)) ∧ Below w.heap.size w w' := by
  cases h : e.c.g
  · exact leaseLate1 e now w h (hd_lo _) (hd_lo _) (hd_lo _) (hd_hi _) (hd_hi _) (hd_hi _)
  · exact (leaseLate0_gone e now w h).mono fun _ _ ⟨he, hb⟩ => ⟨by rw [he]; simp [late, h], hb⟩

theorem refLate (e : En) (now : Int) (w : World) :
    Calls Try.prog 19 #[e.v, .int .i64 now] w fun r w' => r = .returned (.int .i64 (late e now)) ∧ Below w.heap.size w w' := by
  cases h : e.c.g
  · exact refLate1 e now w h (hd_lo _) (hd_lo _) (hd_lo _) (hd_hi _) (hd_hi _) (hd_hi _)
  · exact (refLate0_gone e now w h).mono fun _ _ ⟨he, hb⟩ => ⟨by rw [he]; simp [late, h], hb⟩

set_option maxHeartbeats 400000 in
theorem law9plain (e : En) (w : World)  :
    Calls Try.prog 20 #[e.v] w fun r w' => r = .returned (e.v) ∧ Below w.heap.size w w' := by
  go_enter Try.func20, Try.ntmps20
  go_wp2
  all_goals (go_returns; exact ⟨by simp [*]; try omega, by go_grown⟩)


end Go.Proofs.Ytcclncpegdbcbaa
