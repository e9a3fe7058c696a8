/- Layer 9's laws, walked: what is known of some runs. -/
import Derived.Test.YtcclncpegdbcbaaLeaseW
import Derived.Test.YtcclncpegdbcbaaBlk
namespace Go.Proofs.Ytcclncpegdbcbaa
open Go.RowKit
set_option linter.unusedVariables false

set_option maxRecDepth 100000 in
set_option maxHeartbeats 1000000 in
theorem leaseEqual_one (e : En) (b1 b2 : Nat) (w : World) (h1 : w.heap[b1]? = some (.cells #[.string e.c.a, .string e.c.i, .int .i64 e.c.s, .int .i64 e.c.o, .int .i64 e.c.l, .int .i64 e.c.t, .int .i64 e.c.k, .int .i64 e.c.n, .bool e.c.g, .int .i64 e.seen] 30 (0, 0))) (h2 : w.heap[b2]? = some (.cells #[.string e.c.a, .string e.c.i, .int .i64 e.c.s, .int .i64 e.c.o, .int .i64 e.c.l, .int .i64 e.c.t, .int .i64 e.c.k, .int .i64 e.c.n, .bool e.c.g, .int .i64 e.seen] 30 (0, 0))) :
    Calls Try.prog 21 #[.slice (some ⟨b1, 0, none⟩) 1 1, .slice (some ⟨b2, 0, none⟩) 1 1] w fun r w' => r = .returned (.bool true) ∧ Below w.heap.size w w' := by
  have H1 := Lib.hid h1
  have H2 := Lib.hid h2
  clear h1 h2
  go_enter Try.func21, Try.ntmps21
  go_wp2_with fail
  refine wp_loop_rounds 2 ?_
  rw [rounds_succ]
  go_wp2_with fail
  haveI hIq : Nonempty (Of w) := of_some _
  have hF0 := blk_of H1.out
  have hF1 := blk_of H2.out
  refine wp_region_stay w (by kernel_rfl) (by kernel_rfl) (by go_grown) ?_
  repeat (go_big_quiet_step (fail))
  refine wpQuiet_nil ?_
  intro w1 hb
  clear hIq hF0 hF1
  go_wp2_with fail
  rw [rounds_succ]
  go_wp2
  go_ret
  exact ⟨rfl, hb⟩

theorem leaseSame_one (e : En) (b1 b2 : Nat) (w : World) (h1 : w.heap[b1]? = some (.cells #[.string e.c.a, .string e.c.i, .int .i64 e.c.s, .int .i64 e.c.o, .int .i64 e.c.l, .int .i64 e.c.t, .int .i64 e.c.k, .int .i64 e.c.n, .bool e.c.g, .int .i64 e.seen] 30 (0, 0))) (h2 : w.heap[b2]? = some (.cells #[.string e.c.a, .string e.c.i, .int .i64 e.c.s, .int .i64 e.c.o, .int .i64 e.c.l, .int .i64 e.c.t, .int .i64 e.c.k, .int .i64 e.c.n, .bool e.c.g, .int .i64 e.seen] 30 (0, 0))) :
    Calls Try.prog 9 #[.slice (some ⟨b1, 0, none⟩) 1 1, .slice (some ⟨b2, 0, none⟩) 1 1] w fun r w' => r = .returned (.bool true) ∧ Below w.heap.size w w' := by
  go_enter Try.func9, Try.ntmps9
  go_wp2_with fail
  refine (leaseEqual_one e b1 b2 _ h1 h2).mono ?_
  rintro _ w1 ⟨rfl, hb⟩
  go_wp2
  go_ret
  exact ⟨rfl, hb⟩

set_option maxRecDepth 100000 in
set_option maxHeartbeats 4000000 in
theorem law9known (w : World) :
    Calls Try.prog 10 #[] w fun r w' => r = .returned (.bool true) ∧ Below w.heap.size w w' := by
  go_enter Try.func10, Try.ntmps10
  go_wp2_with fail
  refine (leaseCancel_yes ⟨⟨⟨#[]⟩, ⟨#[]⟩, 1, 0, 5, 0, 0, 0, false⟩, 0⟩ 3 0 0 7 _ rfl).mono ?_
  rintro e w1 ⟨rfl, hb⟩
  have z1_r0 : w1.heap[w.heap.size]? = some (.cells #[.string ⟨#[]⟩, .string ⟨#[]⟩, .int .i64 1, .int .i64 0, .int .i64 5, .int .i64 0, .int .i64 0, .int .i64 0, .bool false, .int .i64 0] 30 (0, 0)) := blk_ext hb (by repeat (first | (with_reducible assumption) | (with_reducible refine blk_new_at ?_ _ _; first | (with_reducible rfl) | (simp; done)) | (with_reducible refine blk_alloc ?_ _) | (with_reducible refine blk_drew ?_) | (with_reducible apply blk_set) | (show Array.setIfInBounds _ _ _ = _; first | (simp; done) | (simp; rfl)) | (with_reducible refine blk_set_other ?_ ?_; omega)))
  have z1_B : Below w.heap.size w w1 := ext_trans (a := w) (by go_grown) hb
  clear  hb
  have z1_c0 := blk_cell z1_r0
  have z1_l0 := blk_lt z1_r0
  have z1_k0_0 : w.heap.size ≤ w1.heap.size := by omega
  have z1_k0_1 : w.heap.size ≤ w1.heap.size + 1 := by omega
  have z1_h0 := Lib.hid z1_r0
  clear z1_r0
  go_wp2_with fail
  refine (leaseRenew_no ⟨⟨⟨#[]⟩, ⟨#[]⟩, 1, 0, 5, 3, 0, 0, true⟩, 7⟩ 9 _ rfl).mono ?_
  rintro e w2 ⟨rfl, hb⟩
  have z1_s0 := z1_h0.out
  have z2_r0 : w2.heap[w.heap.size]? = some (.cells #[.string ⟨#[]⟩, .string ⟨#[]⟩, .int .i64 1, .int .i64 0, .int .i64 5, .int .i64 0, .int .i64 0, .int .i64 0, .bool false, .int .i64 0] 30 (0, 0)) := blk_ext hb (by repeat (first | (with_reducible assumption) | (with_reducible refine blk_new_at ?_ _ _; first | (with_reducible rfl) | (simp; done)) | (with_reducible refine blk_alloc ?_ _) | (with_reducible refine blk_drew ?_) | (with_reducible apply blk_set) | (show Array.setIfInBounds _ _ _ = _; first | (simp; done) | (simp; rfl)) | (with_reducible refine blk_set_other ?_ ?_; omega)))
  have z2_r1 : w2.heap[w1.heap.size]? = some (.cells #[.string ⟨#[]⟩, .string ⟨#[]⟩, .int .i64 1, .int .i64 0, .int .i64 5, .int .i64 3, .int .i64 0, .int .i64 0, .bool true, .int .i64 7] 30 (0, 0)) := blk_ext hb (by repeat (first | (with_reducible assumption) | (with_reducible refine blk_new_at ?_ _ _; first | (with_reducible rfl) | (simp; done)) | (with_reducible refine blk_alloc ?_ _) | (with_reducible refine blk_drew ?_) | (with_reducible apply blk_set) | (show Array.setIfInBounds _ _ _ = _; first | (simp; done) | (simp; rfl)) | (with_reducible refine blk_set_other ?_ ?_; omega)))
  have z2_B : Below w.heap.size w w2 := ext_trans (a := w) (by go_grown) hb
  clear z1_B z1_c0 z1_l0 z1_k0_0 z1_k0_1 z1_h0 z1_s0 hb
  have z2_c0 := blk_cell z2_r0
  have z2_l0 := blk_lt z2_r0
  have z2_k0_0 : w.heap.size ≤ w2.heap.size := by omega
  have z2_k0_1 : w.heap.size ≤ w2.heap.size + 1 := by omega
  have z2_c1 := blk_cell z2_r1
  have z2_l1 := blk_lt z2_r1
  have z2_k1_0 : w1.heap.size ≤ w2.heap.size := by omega
  have z2_k1_1 : w1.heap.size ≤ w2.heap.size + 1 := by omega
  have z2_h0 := Lib.hid z2_r0
  have z2_h1 := Lib.hid z2_r1
  clear z2_r0 z2_r1
  go_wp2_with fail
  refine (leaseOverride_no ⟨⟨⟨#[]⟩, ⟨#[]⟩, 1, 0, 5, 0, 0, 0, false⟩, 0⟩ 4 0 0 0 _ (.inr (.inr (by omega)))).mono ?_
  rintro e w3 ⟨rfl, hb⟩
  have z2_s0 := z2_h0.out
  have z2_s1 := z2_h1.out
  have z3_r0 : w3.heap[w.heap.size]? = some (.cells #[.string ⟨#[]⟩, .string ⟨#[]⟩, .int .i64 1, .int .i64 0, .int .i64 5, .int .i64 0, .int .i64 0, .int .i64 0, .bool false, .int .i64 0] 30 (0, 0)) := blk_ext hb (by repeat (first | (with_reducible assumption) | (with_reducible refine blk_new_at ?_ _ _; first | (with_reducible rfl) | (simp; done)) | (with_reducible refine blk_alloc ?_ _) | (with_reducible refine blk_drew ?_) | (with_reducible apply blk_set) | (show Array.setIfInBounds _ _ _ = _; first | (simp; done) | (simp; rfl)) | (with_reducible refine blk_set_other ?_ ?_; omega)))
  have z3_r1 : w3.heap[w1.heap.size]? = some (.cells #[.string ⟨#[]⟩, .string ⟨#[]⟩, .int .i64 1, .int .i64 0, .int .i64 5, .int .i64 3, .int .i64 0, .int .i64 0, .bool true, .int .i64 7] 30 (0, 0)) := blk_ext hb (by repeat (first | (with_reducible assumption) | (with_reducible refine blk_new_at ?_ _ _; first | (with_reducible rfl) | (simp; done)) | (with_reducible refine blk_alloc ?_ _) | (with_reducible refine blk_drew ?_) | (with_reducible apply blk_set) | (show Array.setIfInBounds _ _ _ = _; first | (simp; done) | (simp; rfl)) | (with_reducible refine blk_set_other ?_ ?_; omega)))
  have z3_B : Below w.heap.size w w3 := ext_trans (a := w) (by go_grown) hb
  clear z2_B z2_c0 z2_l0 z2_k0_0 z2_k0_1 z2_c1 z2_l1 z2_k1_0 z2_k1_1 z2_h0 z2_h1 z2_s0 z2_s1 hb
  have z3_c0 := blk_cell z3_r0
  have z3_l0 := blk_lt z3_r0
  have z3_k0_0 : w.heap.size ≤ w3.heap.size := by omega
  have z3_k0_1 : w.heap.size ≤ w3.heap.size + 1 := by omega
  have z3_c1 := blk_cell z3_r1
  have z3_l1 := blk_lt z3_r1
  have z3_k1_0 : w1.heap.size ≤ w3.heap.size := by omega
  have z3_k1_1 : w1.heap.size ≤ w3.heap.size + 1 := by omega
  have z3_h0 := Lib.hid z3_r0
  have z3_h1 := Lib.hid z3_r1
  clear z3_r0 z3_r1
  go_wp2_with fail
  refine (leaseLate ⟨⟨⟨#[]⟩, ⟨#[]⟩, 1, 0, 5, 0, 0, 0, false⟩, 0⟩ 9 _).mono ?_
  rintro e w4 ⟨rfl, hb⟩
  have z3_s0 := z3_h0.out
  have z3_s1 := z3_h1.out
  have z4_r0 : w4.heap[w.heap.size]? = some (.cells #[.string ⟨#[]⟩, .string ⟨#[]⟩, .int .i64 1, .int .i64 0, .int .i64 5, .int .i64 0, .int .i64 0, .int .i64 0, .bool false, .int .i64 0] 30 (0, 0)) := blk_ext hb (by repeat (first | (with_reducible assumption) | (with_reducible refine blk_new_at ?_ _ _; first | (with_reducible rfl) | (simp; done)) | (with_reducible refine blk_alloc ?_ _) | (with_reducible refine blk_drew ?_) | (with_reducible apply blk_set) | (show Array.setIfInBounds _ _ _ = _; first | (simp; done) | (simp; rfl)) | (with_reducible refine blk_set_other ?_ ?_; omega)))
  have z4_r1 : w4.heap[w1.heap.size]? = some (.cells #[.string ⟨#[]⟩, .string ⟨#[]⟩, .int .i64 1, .int .i64 0, .int .i64 5, .int .i64 3, .int .i64 0, .int .i64 0, .bool true, .int .i64 7] 30 (0, 0)) := blk_ext hb (by repeat (first | (with_reducible assumption) | (with_reducible refine blk_new_at ?_ _ _; first | (with_reducible rfl) | (simp; done)) | (with_reducible refine blk_alloc ?_ _) | (with_reducible refine blk_drew ?_) | (with_reducible apply blk_set) | (show Array.setIfInBounds _ _ _ = _; first | (simp; done) | (simp; rfl)) | (with_reducible refine blk_set_other ?_ ?_; omega)))
  have z4_B : Below w.heap.size w w4 := ext_trans (a := w) (by go_grown) hb
  clear z3_B z3_c0 z3_l0 z3_k0_0 z3_k0_1 z3_c1 z3_l1 z3_k1_0 z3_k1_1 z3_h0 z3_h1 z3_s0 z3_s1 hb
  have z4_c0 := blk_cell z4_r0
  have z4_l0 := blk_lt z4_r0
  have z4_k0_0 : w.heap.size ≤ w4.heap.size := by omega
  have z4_k0_1 : w.heap.size ≤ w4.heap.size + 1 := by omega
  have z4_c1 := blk_cell z4_r1
  have z4_l1 := blk_lt z4_r1
  have z4_k1_0 : w1.heap.size ≤ w4.heap.size := by omega
  have z4_k1_1 : w1.heap.size ≤ w4.heap.size + 1 := by omega
  have z4_h0 := Lib.hid z4_r0
  have z4_h1 := Lib.hid z4_r1
  clear z4_r0 z4_r1
  rw [show late ⟨⟨⟨#[]⟩, ⟨#[]⟩, 1, 0, 5, 0, 0, 0, false⟩, 0⟩ 9 = 4 from by decide]
  go_wp2_with fail
  refine (leaseLate ⟨⟨⟨#[]⟩, ⟨#[]⟩, 1, 0, 5, 3, 0, 0, true⟩, 7⟩ 99 _).mono ?_
  rintro e w5 ⟨rfl, hb⟩
  have z4_s0 := z4_h0.out
  have z4_s1 := z4_h1.out
  have z5_r0 : w5.heap[w.heap.size]? = some (.cells #[.string ⟨#[]⟩, .string ⟨#[]⟩, .int .i64 1, .int .i64 0, .int .i64 5, .int .i64 0, .int .i64 0, .int .i64 0, .bool false, .int .i64 0] 30 (0, 0)) := blk_ext hb (by repeat (first | (with_reducible assumption) | (with_reducible refine blk_new_at ?_ _ _; first | (with_reducible rfl) | (simp; done)) | (with_reducible refine blk_alloc ?_ _) | (with_reducible refine blk_drew ?_) | (with_reducible apply blk_set) | (show Array.setIfInBounds _ _ _ = _; first | (simp; done) | (simp; rfl)) | (with_reducible refine blk_set_other ?_ ?_; omega)))
  have z5_r1 : w5.heap[w1.heap.size]? = some (.cells #[.string ⟨#[]⟩, .string ⟨#[]⟩, .int .i64 1, .int .i64 0, .int .i64 5, .int .i64 3, .int .i64 0, .int .i64 0, .bool true, .int .i64 7] 30 (0, 0)) := blk_ext hb (by repeat (first | (with_reducible assumption) | (with_reducible refine blk_new_at ?_ _ _; first | (with_reducible rfl) | (simp; done)) | (with_reducible refine blk_alloc ?_ _) | (with_reducible refine blk_drew ?_) | (with_reducible apply blk_set) | (show Array.setIfInBounds _ _ _ = _; first | (simp; done) | (simp; rfl)) | (with_reducible refine blk_set_other ?_ ?_; omega)))
  have z5_B : Below w.heap.size w w5 := ext_trans (a := w) (by go_grown) hb
  clear z4_B z4_c0 z4_l0 z4_k0_0 z4_k0_1 z4_c1 z4_l1 z4_k1_0 z4_k1_1 z4_h0 z4_h1 z4_s0 z4_s1 hb
  have z5_c0 := blk_cell z5_r0
  have z5_l0 := blk_lt z5_r0
  have z5_k0_0 : w.heap.size ≤ w5.heap.size := by omega
  have z5_k0_1 : w.heap.size ≤ w5.heap.size + 1 := by omega
  have z5_c1 := blk_cell z5_r1
  have z5_l1 := blk_lt z5_r1
  have z5_k1_0 : w1.heap.size ≤ w5.heap.size := by omega
  have z5_k1_1 : w1.heap.size ≤ w5.heap.size + 1 := by omega
  have z5_h0 := Lib.hid z5_r0
  have z5_h1 := Lib.hid z5_r1
  clear z5_r0 z5_r1
  rw [show late ⟨⟨⟨#[]⟩, ⟨#[]⟩, 1, 0, 5, 3, 0, 0, true⟩, 7⟩ 99 = 0 from by decide]
  go_wp2_with fail
  have z5_s0 := z5_h0.out
  have z5_s1 := z5_h1.out
  refine (leaseSame_one ⟨⟨⟨#[]⟩, ⟨#[]⟩, 1, 0, 5, 0, 0, 0, false⟩, 0⟩ _ _ _ (by repeat (first | (with_reducible assumption) | (with_reducible refine blk_new_at ?_ _ _; first | (with_reducible rfl) | (simp; done)) | (with_reducible refine blk_alloc ?_ _) | (with_reducible refine blk_drew ?_) | (with_reducible apply blk_set) | (show Array.setIfInBounds _ _ _ = _; first | (simp; done) | (simp; rfl)) | (with_reducible refine blk_set_other ?_ ?_; omega))) (by repeat (first | (with_reducible assumption) | (with_reducible refine blk_new_at ?_ _ _; first | (with_reducible rfl) | (simp; done)) | (with_reducible refine blk_alloc ?_ _) | (with_reducible refine blk_drew ?_) | (with_reducible apply blk_set) | (show Array.setIfInBounds _ _ _ = _; first | (simp; done) | (simp; rfl)) | (with_reducible refine blk_set_other ?_ ?_; omega)))).mono ?_
  rintro _ w7 ⟨rfl, hb⟩
  have B := ext_trans (a := w) (by go_grown) hb
  clear hb z5_B z5_c0 z5_l0 z5_k0_0 z5_k0_1 z5_c1 z5_l1 z5_k1_0 z5_k1_1 z5_h0 z5_h1 z5_s0 z5_s1
  go_wp2
  go_ret
  exact ⟨rfl, B⟩

end Go.Proofs.Ytcclncpegdbcbaa
