/- Layer 9's laws, walked: 'same' answers true, whatever the entry. -/
import Derived.Test.YtcclncpegdbcbaaLeaseW
import Derived.Test.YtcclncpegdbcbaaInv
import Derived.Test.YtcclncpegdbcbaaFill
import Derived.Deep.DeepCutAuto
namespace Go.Proofs.Ytcclncpegdbcbaa
open Go.RowKit
set_option linter.unusedVariables false

set_option maxRecDepth 100000 in
set_option maxHeartbeats 40000000 in
theorem law9same_g0 (a i : ByteArray) (s o l t k n seen : Int) (c : Cd) (ov t2 k2 n2 now : Int) (w : World)  :
    Calls Try.prog 8 #[En.v ⟨⟨a, i, s, o, l, t, k, n, true⟩, seen⟩, .bool false, c.v, .int .i64 ov, stv t2 k2 n2, .int .i64 now] w fun r w' => r = .returned (.bool true) ∧ Below w.heap.size w w' := by
  obtain ⟨M, hM⟩ : ∃ M, (if seen < now then now else seen) = M := ⟨_, rfl⟩
  go_enter Try.func8, Try.ntmps8
  go_wp2_with fail
  refine (leaseRenew_no ⟨⟨a, i, s, o, l, t, k, n, true⟩, seen⟩ now _ rfl).mono ?_
  rintro e w1 ⟨rfl, hb⟩
  have z1_r0 : w1.heap[w.heap.size]? = some (.cells #[.string a, .string i, .int .i64 s, .int .i64 o, .int .i64 l, .int .i64 t, .int .i64 k, .int .i64 n, .bool true, .int .i64 seen] 30 (0, 0)) := blk_ext hb (by repeat (first | (with_reducible assumption) | (with_reducible refine blk_new_at ?_ _ _; first | (with_reducible rfl) | (simp; done)) | (with_reducible refine blk_alloc ?_ _) | (with_reducible refine blk_drew ?_) | (with_reducible apply blk_set) | (show Array.setIfInBounds _ _ _ = _; first | (simp; done) | (simp; rfl)) | (with_reducible refine blk_set_other ?_ ?_; omega)))
  have z1_r1 : w1.heap[w.heap.size + 1]? = some (.cells #[.string c.a, .string c.i, .int .i64 c.s, .int .i64 c.o, .int .i64 c.l, .int .i64 c.t, .int .i64 c.k, .int .i64 c.n, .bool c.g] 28 (0, 0)) := blk_ext hb (by repeat (first | (with_reducible assumption) | (with_reducible refine blk_new_at ?_ _ _; first | (with_reducible rfl) | (simp; done)) | (with_reducible refine blk_alloc ?_ _) | (with_reducible refine blk_drew ?_) | (with_reducible apply blk_set) | (show Array.setIfInBounds _ _ _ = _; first | (simp; done) | (simp; rfl)) | (with_reducible refine blk_set_other ?_ ?_; omega)))
  have z1_r2 : w1.heap[w.heap.size + 1 + 1]? = some (.cells #[.int .i64 t2, .int .i64 k2, .int .i64 n2] 26 (0, 0)) := blk_ext hb (by repeat (first | (with_reducible assumption) | (with_reducible refine blk_new_at ?_ _ _; first | (with_reducible rfl) | (simp; done)) | (with_reducible refine blk_alloc ?_ _) | (with_reducible refine blk_drew ?_) | (with_reducible apply blk_set) | (show Array.setIfInBounds _ _ _ = _; first | (simp; done) | (simp; rfl)) | (with_reducible refine blk_set_other ?_ ?_; omega)))
  have z1_r3 : w1.heap[w.heap.size + 1 + 1 + 1]? = some (.cells #[.string c.a, .string c.i, .int .i64 c.s, .int .i64 0, .int .i64 c.l, .int .i64 c.t, .int .i64 c.k, .int .i64 c.n, .bool false, .int .i64 now] 30 (0, 0)) := blk_ext hb (by repeat (first | (with_reducible assumption) | (with_reducible refine blk_new_at ?_ _ _; first | (with_reducible rfl) | (simp; done)) | (with_reducible refine blk_alloc ?_ _) | (with_reducible refine blk_drew ?_) | (with_reducible apply blk_set) | (show Array.setIfInBounds _ _ _ = _; first | (simp; done) | (simp; rfl)) | (with_reducible refine blk_set_other ?_ ?_; omega)))
  have z1_B : Below w.heap.size w w1 := ext_trans (a := w) (by go_grown) hb
  have z1_z := z1_B.size
  clear  hb
  have z1_c0 := blk_cell z1_r0
  have z1_l0 := blk_lt z1_r0
  have z1_k0_0 : w.heap.size ≤ w1.heap.size := by omega
  have z1_k0_1 : w.heap.size ≤ w1.heap.size + 1 := by omega
  have z1_c1 := blk_cell z1_r1
  have z1_l1 := blk_lt z1_r1
  have z1_k1_0 : w.heap.size + 1 ≤ w1.heap.size := by omega
  have z1_k1_1 : w.heap.size + 1 ≤ w1.heap.size + 1 := by omega
  have z1_c2 := blk_cell z1_r2
  have z1_l2 := blk_lt z1_r2
  have z1_k2_0 : w.heap.size + 1 + 1 ≤ w1.heap.size := by omega
  have z1_k2_1 : w.heap.size + 1 + 1 ≤ w1.heap.size + 1 := by omega
  have z1_c3 := blk_cell z1_r3
  have z1_l3 := blk_lt z1_r3
  have z1_k3_0 : w.heap.size + 1 + 1 + 1 ≤ w1.heap.size := by omega
  have z1_k3_1 : w.heap.size + 1 + 1 + 1 ≤ w1.heap.size + 1 := by omega
  have z1_h0 := Lib.hid z1_r0
  have z1_h1 := Lib.hid z1_r1
  have z1_h2 := Lib.hid z1_r2
  have z1_h3 := Lib.hid z1_r3
  clear z1_r0 z1_r1 z1_r2 z1_r3
  go_wp2_with fail
  refine (leaseCancel_no ⟨⟨a, i, s, o, l, t, k, n, true⟩, seen⟩ _ _ _ now _ rfl).mono ?_
  rintro e w2 ⟨rfl, hb⟩
  have z1_s0 := z1_h0.out
  have z1_s1 := z1_h1.out
  have z1_s2 := z1_h2.out
  have z1_s3 := z1_h3.out
  have z2_r0 : w2.heap[w.heap.size]? = some (.cells #[.string a, .string i, .int .i64 s, .int .i64 o, .int .i64 l, .int .i64 t, .int .i64 k, .int .i64 n, .bool true, .int .i64 seen] 30 (0, 0)) := blk_ext hb (by repeat (first | (with_reducible assumption) | (with_reducible refine blk_new_at ?_ _ _; first | (with_reducible rfl) | (simp; done)) | (with_reducible refine blk_alloc ?_ _) | (with_reducible refine blk_drew ?_) | (with_reducible apply blk_set) | (show Array.setIfInBounds _ _ _ = _; first | (simp; done) | (simp; rfl)) | (with_reducible refine blk_set_other ?_ ?_; omega)))
  have z2_r1 : w2.heap[w.heap.size + 1]? = some (.cells #[.string c.a, .string c.i, .int .i64 c.s, .int .i64 c.o, .int .i64 c.l, .int .i64 c.t, .int .i64 c.k, .int .i64 c.n, .bool c.g] 28 (0, 0)) := blk_ext hb (by repeat (first | (with_reducible assumption) | (with_reducible refine blk_new_at ?_ _ _; first | (with_reducible rfl) | (simp; done)) | (with_reducible refine blk_alloc ?_ _) | (with_reducible refine blk_drew ?_) | (with_reducible apply blk_set) | (show Array.setIfInBounds _ _ _ = _; first | (simp; done) | (simp; rfl)) | (with_reducible refine blk_set_other ?_ ?_; omega)))
  have z2_r2 : w2.heap[w.heap.size + 1 + 1]? = some (.cells #[.int .i64 t2, .int .i64 k2, .int .i64 n2] 26 (0, 0)) := blk_ext hb (by repeat (first | (with_reducible assumption) | (with_reducible refine blk_new_at ?_ _ _; first | (with_reducible rfl) | (simp; done)) | (with_reducible refine blk_alloc ?_ _) | (with_reducible refine blk_drew ?_) | (with_reducible apply blk_set) | (show Array.setIfInBounds _ _ _ = _; first | (simp; done) | (simp; rfl)) | (with_reducible refine blk_set_other ?_ ?_; omega)))
  have z2_r3 : w2.heap[w.heap.size + 1 + 1 + 1]? = some (.cells #[.string c.a, .string c.i, .int .i64 c.s, .int .i64 0, .int .i64 c.l, .int .i64 c.t, .int .i64 c.k, .int .i64 c.n, .bool false, .int .i64 now] 30 (0, 0)) := blk_ext hb (by repeat (first | (with_reducible assumption) | (with_reducible refine blk_new_at ?_ _ _; first | (with_reducible rfl) | (simp; done)) | (with_reducible refine blk_alloc ?_ _) | (with_reducible refine blk_drew ?_) | (with_reducible apply blk_set) | (show Array.setIfInBounds _ _ _ = _; first | (simp; done) | (simp; rfl)) | (with_reducible refine blk_set_other ?_ ?_; omega)))
  have z2_r4 : w2.heap[w1.heap.size]? = some (.cells #[.string ⟨#[]⟩, .string ⟨#[]⟩, .int .i64 0, .int .i64 0, .int .i64 0, .int .i64 0, .int .i64 0, .int .i64 0, .bool false, .int .i64 0] 30 (0, 0)) := blk_ext hb (by repeat (first | (with_reducible assumption) | (with_reducible refine blk_new_at ?_ _ _; first | (with_reducible rfl) | (simp; done)) | (with_reducible refine blk_alloc ?_ _) | (with_reducible refine blk_drew ?_) | (with_reducible apply blk_set) | (show Array.setIfInBounds _ _ _ = _; first | (simp; done) | (simp; rfl)) | (with_reducible refine blk_set_other ?_ ?_; omega)))
  have z2_B : Below w.heap.size w w2 := ext_trans (a := w) (by go_grown) hb
  have z2_z := z2_B.size
  clear z1_B z1_z z1_c0 z1_l0 z1_k0_0 z1_k0_1 z1_c1 z1_l1 z1_k1_0 z1_k1_1 z1_c2 z1_l2 z1_k2_0 z1_k2_1 z1_c3 z1_l3 z1_k3_0 z1_k3_1 z1_h0 z1_h1 z1_h2 z1_h3 z1_s0 z1_s1 z1_s2 z1_s3 hb
  have z2_c0 := blk_cell z2_r0
  have z2_l0 := blk_lt z2_r0
  have z2_k0_0 : w.heap.size ≤ w2.heap.size := by omega
  have z2_k0_1 : w.heap.size ≤ w2.heap.size + 1 := by omega
  have z2_c1 := blk_cell z2_r1
  have z2_l1 := blk_lt z2_r1
  have z2_k1_0 : w.heap.size + 1 ≤ w2.heap.size := by omega
  have z2_k1_1 : w.heap.size + 1 ≤ w2.heap.size + 1 := by omega
  have z2_c2 := blk_cell z2_r2
  have z2_l2 := blk_lt z2_r2
  have z2_k2_0 : w.heap.size + 1 + 1 ≤ w2.heap.size := by omega
  have z2_k2_1 : w.heap.size + 1 + 1 ≤ w2.heap.size + 1 := by omega
  have z2_c3 := blk_cell z2_r3
  have z2_l3 := blk_lt z2_r3
  have z2_k3_0 : w.heap.size + 1 + 1 + 1 ≤ w2.heap.size := by omega
  have z2_k3_1 : w.heap.size + 1 + 1 + 1 ≤ w2.heap.size + 1 := by omega
  have z2_c4 := blk_cell z2_r4
  have z2_l4 := blk_lt z2_r4
  have z2_k4_0 : w1.heap.size ≤ w2.heap.size := by omega
  have z2_k4_1 : w1.heap.size ≤ w2.heap.size + 1 := by omega
  have z2_h0 := Lib.hid z2_r0
  have z2_h1 := Lib.hid z2_r1
  have z2_h2 := Lib.hid z2_r2
  have z2_h3 := Lib.hid z2_r3
  have z2_h4 := Lib.hid z2_r4
  clear z2_r0 z2_r1 z2_r2 z2_r3 z2_r4
  go_wp2_with fail
  refine (leaseOverride_no ⟨⟨a, i, s, o, l, t, k, n, true⟩, seen⟩ _ _ _ _ _ (.inl rfl)).mono ?_
  rintro e w3 ⟨rfl, hb⟩
  have z2_s0 := z2_h0.out
  have z2_s1 := z2_h1.out
  have z2_s2 := z2_h2.out
  have z2_s3 := z2_h3.out
  have z2_s4 := z2_h4.out
  have z3_r0 : w3.heap[w.heap.size]? = some (.cells #[.string a, .string i, .int .i64 s, .int .i64 o, .int .i64 l, .int .i64 t, .int .i64 k, .int .i64 n, .bool true, .int .i64 seen] 30 (0, 0)) := blk_ext hb (by repeat (first | (with_reducible assumption) | (with_reducible refine blk_new_at ?_ _ _; first | (with_reducible rfl) | (simp; done)) | (with_reducible refine blk_alloc ?_ _) | (with_reducible refine blk_drew ?_) | (with_reducible apply blk_set) | (show Array.setIfInBounds _ _ _ = _; first | (simp; done) | (simp; rfl)) | (with_reducible refine blk_set_other ?_ ?_; omega)))
  have z3_r1 : w3.heap[w.heap.size + 1]? = some (.cells #[.string c.a, .string c.i, .int .i64 c.s, .int .i64 c.o, .int .i64 c.l, .int .i64 c.t, .int .i64 c.k, .int .i64 c.n, .bool c.g] 28 (0, 0)) := blk_ext hb (by repeat (first | (with_reducible assumption) | (with_reducible refine blk_new_at ?_ _ _; first | (with_reducible rfl) | (simp; done)) | (with_reducible refine blk_alloc ?_ _) | (with_reducible refine blk_drew ?_) | (with_reducible apply blk_set) | (show Array.setIfInBounds _ _ _ = _; first | (simp; done) | (simp; rfl)) | (with_reducible refine blk_set_other ?_ ?_; omega)))
  have z3_r2 : w3.heap[w.heap.size + 1 + 1]? = some (.cells #[.int .i64 t2, .int .i64 k2, .int .i64 n2] 26 (0, 0)) := blk_ext hb (by repeat (first | (with_reducible assumption) | (with_reducible refine blk_new_at ?_ _ _; first | (with_reducible rfl) | (simp; done)) | (with_reducible refine blk_alloc ?_ _) | (with_reducible refine blk_drew ?_) | (with_reducible apply blk_set) | (show Array.setIfInBounds _ _ _ = _; first | (simp; done) | (simp; rfl)) | (with_reducible refine blk_set_other ?_ ?_; omega)))
  have z3_r3 : w3.heap[w.heap.size + 1 + 1 + 1]? = some (.cells #[.string c.a, .string c.i, .int .i64 c.s, .int .i64 0, .int .i64 c.l, .int .i64 c.t, .int .i64 c.k, .int .i64 c.n, .bool false, .int .i64 now] 30 (0, 0)) := blk_ext hb (by repeat (first | (with_reducible assumption) | (with_reducible refine blk_new_at ?_ _ _; first | (with_reducible rfl) | (simp; done)) | (with_reducible refine blk_alloc ?_ _) | (with_reducible refine blk_drew ?_) | (with_reducible apply blk_set) | (show Array.setIfInBounds _ _ _ = _; first | (simp; done) | (simp; rfl)) | (with_reducible refine blk_set_other ?_ ?_; omega)))
  have z3_r4 : w3.heap[w1.heap.size]? = some (.cells #[.string ⟨#[]⟩, .string ⟨#[]⟩, .int .i64 0, .int .i64 0, .int .i64 0, .int .i64 0, .int .i64 0, .int .i64 0, .bool false, .int .i64 0] 30 (0, 0)) := blk_ext hb (by repeat (first | (with_reducible assumption) | (with_reducible refine blk_new_at ?_ _ _; first | (with_reducible rfl) | (simp; done)) | (with_reducible refine blk_alloc ?_ _) | (with_reducible refine blk_drew ?_) | (with_reducible apply blk_set) | (show Array.setIfInBounds _ _ _ = _; first | (simp; done) | (simp; rfl)) | (with_reducible refine blk_set_other ?_ ?_; omega)))
  have z3_r5 : w3.heap[w2.heap.size]? = some (.cells #[.string ⟨#[]⟩, .string ⟨#[]⟩, .int .i64 0, .int .i64 0, .int .i64 0, .int .i64 0, .int .i64 0, .int .i64 0, .bool false, .int .i64 0] 30 (0, 0)) := blk_ext hb (by repeat (first | (with_reducible assumption) | (with_reducible refine blk_new_at ?_ _ _; first | (with_reducible rfl) | (simp; done)) | (with_reducible refine blk_alloc ?_ _) | (with_reducible refine blk_drew ?_) | (with_reducible apply blk_set) | (show Array.setIfInBounds _ _ _ = _; first | (simp; done) | (simp; rfl)) | (with_reducible refine blk_set_other ?_ ?_; omega)))
  have z3_B : Below w.heap.size w w3 := ext_trans (a := w) (by go_grown) hb
  have z3_z := z3_B.size
  clear z2_B z2_z z2_c0 z2_l0 z2_k0_0 z2_k0_1 z2_c1 z2_l1 z2_k1_0 z2_k1_1 z2_c2 z2_l2 z2_k2_0 z2_k2_1 z2_c3 z2_l3 z2_k3_0 z2_k3_1 z2_c4 z2_l4 z2_k4_0 z2_k4_1 z2_h0 z2_h1 z2_h2 z2_h3 z2_h4 z2_s0 z2_s1 z2_s2 z2_s3 z2_s4 hb
  have z3_c0 := blk_cell z3_r0
  have z3_l0 := blk_lt z3_r0
  have z3_k0_0 : w.heap.size ≤ w3.heap.size := by omega
  have z3_k0_1 : w.heap.size ≤ w3.heap.size + 1 := by omega
  have z3_c1 := blk_cell z3_r1
  have z3_l1 := blk_lt z3_r1
  have z3_k1_0 : w.heap.size + 1 ≤ w3.heap.size := by omega
  have z3_k1_1 : w.heap.size + 1 ≤ w3.heap.size + 1 := by omega
  have z3_c2 := blk_cell z3_r2
  have z3_l2 := blk_lt z3_r2
  have z3_k2_0 : w.heap.size + 1 + 1 ≤ w3.heap.size := by omega
  have z3_k2_1 : w.heap.size + 1 + 1 ≤ w3.heap.size + 1 := by omega
  have z3_c3 := blk_cell z3_r3
  have z3_l3 := blk_lt z3_r3
  have z3_k3_0 : w.heap.size + 1 + 1 + 1 ≤ w3.heap.size := by omega
  have z3_k3_1 : w.heap.size + 1 + 1 + 1 ≤ w3.heap.size + 1 := by omega
  have z3_c4 := blk_cell z3_r4
  have z3_l4 := blk_lt z3_r4
  have z3_k4_0 : w1.heap.size ≤ w3.heap.size := by omega
  have z3_k4_1 : w1.heap.size ≤ w3.heap.size + 1 := by omega
  have z3_c5 := blk_cell z3_r5
  have z3_l5 := blk_lt z3_r5
  have z3_k5_0 : w2.heap.size ≤ w3.heap.size := by omega
  have z3_k5_1 : w2.heap.size ≤ w3.heap.size + 1 := by omega
  have z3_h0 := Lib.hid z3_r0
  have z3_h1 := Lib.hid z3_r1
  have z3_h2 := Lib.hid z3_r2
  have z3_h3 := Lib.hid z3_r3
  have z3_h4 := Lib.hid z3_r4
  have z3_h5 := Lib.hid z3_r5
  clear z3_r0 z3_r1 z3_r2 z3_r3 z3_r4 z3_r5
  go_wp2_with fail
  have z3_s0 := z3_h0.out
  have z3_s1 := z3_h1.out
  have z3_s2 := z3_h2.out
  have z3_s3 := z3_h3.out
  have z3_s4 := z3_h4.out
  have z3_s5 := z3_h5.out
  refine wp_letter (fun W => Below w.heap.size w W ∧ W.heap[w.heap.size]? = some (.cells #[.string a, .string i, .int .i64 s, .int .i64 o, .int .i64 l, .int .i64 t, .int .i64 k, .int .i64 n, .bool true, .int .i64 seen] 30 (0, 0)) ∧ W.heap[w.heap.size + 1]? = some (.cells #[.string c.a, .string c.i, .int .i64 c.s, .int .i64 c.o, .int .i64 c.l, .int .i64 c.t, .int .i64 c.k, .int .i64 c.n, .bool c.g] 28 (0, 0)) ∧ W.heap[w.heap.size + 1 + 1]? = some (.cells #[.int .i64 t2, .int .i64 k2, .int .i64 n2] 26 (0, 0)) ∧ W.heap[w.heap.size + 1 + 1 + 1]? = some (.cells #[.string c.a, .string c.i, .int .i64 c.s, .int .i64 0, .int .i64 c.l, .int .i64 c.t, .int .i64 c.k, .int .i64 c.n, .bool false, .int .i64 now] 30 (0, 0)) ∧ W.heap[w1.heap.size]? = some (.cells #[.string ⟨#[]⟩, .string ⟨#[]⟩, .int .i64 0, .int .i64 0, .int .i64 0, .int .i64 0, .int .i64 0, .int .i64 0, .bool false, .int .i64 0] 30 (0, 0)) ∧ W.heap[w2.heap.size]? = some (.cells #[.string ⟨#[]⟩, .string ⟨#[]⟩, .int .i64 0, .int .i64 0, .int .i64 0, .int .i64 0, .int .i64 0, .int .i64 0, .bool false, .int .i64 0] 30 (0, 0)) ∧ W.heap[w3.heap.size]? = some (.cells #[.string ⟨#[]⟩, .string ⟨#[]⟩, .int .i64 0, .int .i64 0, .int .i64 0, .int .i64 0, .int .i64 0, .int .i64 0, .bool false, .int .i64 0] 30 (0, 0))) ⟨by go_grown, by repeat (first | (with_reducible assumption) | (with_reducible refine blk_new_at ?_ _ _; first | (with_reducible rfl) | (simp; done)) | (with_reducible refine blk_alloc ?_ _) | (with_reducible refine blk_drew ?_) | (with_reducible apply blk_set) | (show Array.setIfInBounds _ _ _ = _; first | (simp; done) | (simp; rfl)) | (with_reducible refine blk_set_other ?_ ?_; omega)), by repeat (first | (with_reducible assumption) | (with_reducible refine blk_new_at ?_ _ _; first | (with_reducible rfl) | (simp; done)) | (with_reducible refine blk_alloc ?_ _) | (with_reducible refine blk_drew ?_) | (with_reducible apply blk_set) | (show Array.setIfInBounds _ _ _ = _; first | (simp; done) | (simp; rfl)) | (with_reducible refine blk_set_other ?_ ?_; omega)), by repeat (first | (with_reducible assumption) | (with_reducible refine blk_new_at ?_ _ _; first | (with_reducible rfl) | (simp; done)) | (with_reducible refine blk_alloc ?_ _) | (with_reducible refine blk_drew ?_) | (with_reducible apply blk_set) | (show Array.setIfInBounds _ _ _ = _; first | (simp; done) | (simp; rfl)) | (with_reducible refine blk_set_other ?_ ?_; omega)), by repeat (first | (with_reducible assumption) | (with_reducible refine blk_new_at ?_ _ _; first | (with_reducible rfl) | (simp; done)) | (with_reducible refine blk_alloc ?_ _) | (with_reducible refine blk_drew ?_) | (with_reducible apply blk_set) | (show Array.setIfInBounds _ _ _ = _; first | (simp; done) | (simp; rfl)) | (with_reducible refine blk_set_other ?_ ?_; omega)), by repeat (first | (with_reducible assumption) | (with_reducible refine blk_new_at ?_ _ _; first | (with_reducible rfl) | (simp; done)) | (with_reducible refine blk_alloc ?_ _) | (with_reducible refine blk_drew ?_) | (with_reducible apply blk_set) | (show Array.setIfInBounds _ _ _ = _; first | (simp; done) | (simp; rfl)) | (with_reducible refine blk_set_other ?_ ?_; omega)), by repeat (first | (with_reducible assumption) | (with_reducible refine blk_new_at ?_ _ _; first | (with_reducible rfl) | (simp; done)) | (with_reducible refine blk_alloc ?_ _) | (with_reducible refine blk_drew ?_) | (with_reducible apply blk_set) | (show Array.setIfInBounds _ _ _ = _; first | (simp; done) | (simp; rfl)) | (with_reducible refine blk_set_other ?_ ?_; omega)), by repeat (first | (with_reducible assumption) | (with_reducible refine blk_new_at ?_ _ _; first | (with_reducible rfl) | (simp; done)) | (with_reducible refine blk_alloc ?_ _) | (with_reducible refine blk_drew ?_) | (with_reducible apply blk_set) | (show Array.setIfInBounds _ _ _ = _; first | (simp; done) | (simp; rfl)) | (with_reducible refine blk_set_other ?_ ?_; omega))⟩ ?_
  rintro w4 ⟨hBl, hl0, hl1, hl2, hl3, hl4, hl5, hl6⟩
  have z4_r0 : w4.heap[w.heap.size]? = some (.cells #[.string a, .string i, .int .i64 s, .int .i64 o, .int .i64 l, .int .i64 t, .int .i64 k, .int .i64 n, .bool true, .int .i64 seen] 30 (0, 0)) := hl0
  have z4_r1 : w4.heap[w.heap.size + 1]? = some (.cells #[.string c.a, .string c.i, .int .i64 c.s, .int .i64 c.o, .int .i64 c.l, .int .i64 c.t, .int .i64 c.k, .int .i64 c.n, .bool c.g] 28 (0, 0)) := hl1
  have z4_r2 : w4.heap[w.heap.size + 1 + 1]? = some (.cells #[.int .i64 t2, .int .i64 k2, .int .i64 n2] 26 (0, 0)) := hl2
  have z4_r3 : w4.heap[w.heap.size + 1 + 1 + 1]? = some (.cells #[.string c.a, .string c.i, .int .i64 c.s, .int .i64 0, .int .i64 c.l, .int .i64 c.t, .int .i64 c.k, .int .i64 c.n, .bool false, .int .i64 now] 30 (0, 0)) := hl3
  have z4_r4 : w4.heap[w1.heap.size]? = some (.cells #[.string ⟨#[]⟩, .string ⟨#[]⟩, .int .i64 0, .int .i64 0, .int .i64 0, .int .i64 0, .int .i64 0, .int .i64 0, .bool false, .int .i64 0] 30 (0, 0)) := hl4
  have z4_r5 : w4.heap[w2.heap.size]? = some (.cells #[.string ⟨#[]⟩, .string ⟨#[]⟩, .int .i64 0, .int .i64 0, .int .i64 0, .int .i64 0, .int .i64 0, .int .i64 0, .bool false, .int .i64 0] 30 (0, 0)) := hl5
  have z4_r6 : w4.heap[w3.heap.size]? = some (.cells #[.string ⟨#[]⟩, .string ⟨#[]⟩, .int .i64 0, .int .i64 0, .int .i64 0, .int .i64 0, .int .i64 0, .int .i64 0, .bool false, .int .i64 0] 30 (0, 0)) := hl6
  have z4_B : Below w.heap.size w w4 := hBl
  have z4_z := z4_B.size
  clear z3_B z3_z z3_c0 z3_l0 z3_k0_0 z3_k0_1 z3_c1 z3_l1 z3_k1_0 z3_k1_1 z3_c2 z3_l2 z3_k2_0 z3_k2_1 z3_c3 z3_l3 z3_k3_0 z3_k3_1 z3_c4 z3_l4 z3_k4_0 z3_k4_1 z3_c5 z3_l5 z3_k5_0 z3_k5_1 z3_h0 z3_h1 z3_h2 z3_h3 z3_h4 z3_h5 z3_s0 z3_s1 z3_s2 z3_s3 z3_s4 z3_s5 hBl hl0 hl1 hl2 hl3 hl4 hl5 hl6
  have z4_c0 := blk_cell z4_r0
  have z4_l0 := blk_lt z4_r0
  have z4_k0_0 : w.heap.size ≤ w4.heap.size := by omega
  have z4_k0_1 : w.heap.size ≤ w4.heap.size + 1 := by omega
  have z4_c1 := blk_cell z4_r1
  have z4_l1 := blk_lt z4_r1
  have z4_k1_0 : w.heap.size + 1 ≤ w4.heap.size := by omega
  have z4_k1_1 : w.heap.size + 1 ≤ w4.heap.size + 1 := by omega
  have z4_c2 := blk_cell z4_r2
  have z4_l2 := blk_lt z4_r2
  have z4_k2_0 : w.heap.size + 1 + 1 ≤ w4.heap.size := by omega
  have z4_k2_1 : w.heap.size + 1 + 1 ≤ w4.heap.size + 1 := by omega
  have z4_c3 := blk_cell z4_r3
  have z4_l3 := blk_lt z4_r3
  have z4_k3_0 : w.heap.size + 1 + 1 + 1 ≤ w4.heap.size := by omega
  have z4_k3_1 : w.heap.size + 1 + 1 + 1 ≤ w4.heap.size + 1 := by omega
  have z4_c4 := blk_cell z4_r4
  have z4_l4 := blk_lt z4_r4
  have z4_k4_0 : w1.heap.size ≤ w4.heap.size := by omega
  have z4_k4_1 : w1.heap.size ≤ w4.heap.size + 1 := by omega
  have z4_c5 := blk_cell z4_r5
  have z4_l5 := blk_lt z4_r5
  have z4_k5_0 : w2.heap.size ≤ w4.heap.size := by omega
  have z4_k5_1 : w2.heap.size ≤ w4.heap.size + 1 := by omega
  have z4_c6 := blk_cell z4_r6
  have z4_l6 := blk_lt z4_r6
  have z4_k6_0 : w3.heap.size ≤ w4.heap.size := by omega
  have z4_k6_1 : w3.heap.size ≤ w4.heap.size + 1 := by omega
  have z4_h0 := Lib.hid z4_r0
  have z4_h1 := Lib.hid z4_r1
  have z4_h2 := Lib.hid z4_r2
  have z4_h3 := Lib.hid z4_r3
  have z4_h4 := Lib.hid z4_r4
  have z4_h5 := Lib.hid z4_r5
  have z4_h6 := Lib.hid z4_r6
  clear z4_r0 z4_r1 z4_r2 z4_r3 z4_r4 z4_r5 z4_r6
  refine wp_region_inv_eq (J := fun A d act x => ∃ u64 u65 u66 u20 u21 u22 : Value, act = ((((((A.put (some 64) u64).put (some 65) u65).put (some 66) u66).put (some 20) u20).put (some 21) u21).put (some 22) u22) ∧ (d 0 = true → u64 = .agg #[.string a, .string i, .int .i64 s, .int .i64 o, .int .i64 l, .int .i64 t, .int .i64 k, .int .i64 n, .bool true, .int .i64 seen]) ∧ (d 1 = true → u65 = .agg #[.string a, .string i, .int .i64 s, .int .i64 o, .int .i64 l, .int .i64 t, .int .i64 k, .int .i64 n, .bool true, .int .i64 seen]) ∧ (d 2 = true → u66 = .agg #[.string a, .string i, .int .i64 s, .int .i64 o, .int .i64 l, .int .i64 t, .int .i64 k, .int .i64 n, .bool true, .int .i64 seen]) ∧ (d 3 = true → ∃ (b : Nat) (y0 y1 y2 y3 y4 y5 y6 y7 y8 y9 : Value), u20 = .pointer (some ⟨b, 0, none⟩) ∧ w4.heap.size ≤ b ∧ x.heap[b]? = some (.cells #[y0, y1, y2, y3, y4, y5, y6, y7, y8, y9] 30 (0, 0))) ∧ (d 4 = true → ∃ (b : Nat) (y0 y1 y2 y3 y4 y5 y6 y7 y8 y9 : Value), u21 = .pointer (some ⟨b, 0, none⟩) ∧ w4.heap.size ≤ b ∧ x.heap[b]? = some (.cells #[y0, y1, y2, y3, y4, y5, y6, y7, y8, y9] 30 (0, 0))) ∧ (d 5 = true → ∃ (b : Nat) (y0 y1 y2 y3 y4 y5 y6 y7 y8 y9 : Value), u22 = .pointer (some ⟨b, 0, none⟩) ∧ w4.heap.size ≤ b ∧ x.heap[b]? = some (.cells #[y0, y1, y2, y3, y4, y5, y6, y7, y8, y9] 30 (0, 0))) ∧ (d 6 = true → ∃ b : Nat, d 3 = true ∧ u20 = .pointer (some ⟨b, 0, none⟩) ∧ w4.heap.size ≤ b ∧ x.heap[b]? = some (.cells #[.string a, .string i, .int .i64 s, .int .i64 o, .int .i64 l, .int .i64 t, .int .i64 k, .int .i64 n, .bool true, .int .i64 seen] 30 (0, 0))) ∧ (d 7 = true → ∃ b : Nat, d 4 = true ∧ u21 = .pointer (some ⟨b, 0, none⟩) ∧ w4.heap.size ≤ b ∧ x.heap[b]? = some (.cells #[.string a, .string i, .int .i64 s, .int .i64 o, .int .i64 l, .int .i64 t, .int .i64 k, .int .i64 n, .bool true, .int .i64 seen] 30 (0, 0))) ∧ (d 8 = true → ∃ b : Nat, d 5 = true ∧ u22 = .pointer (some ⟨b, 0, none⟩) ∧ w4.heap.size ≤ b ∧ x.heap[b]? = some (.cells #[.string a, .string i, .int .i64 s, .int .i64 o, .int .i64 l, .int .i64 t, .int .i64 k, .int .i64 n, .bool true, .int .i64 seen] 30 (0, 0))) ∧ Below w4.heap.size w4 x ∧ (d 3 = true → d 4 = true → u20 ≠ u21) ∧ (d 3 = true → d 5 = true → u20 ≠ u22) ∧ (d 4 = true → d 5 = true → u21 ≠ u22)) (by simp only [Act.put, List.setIfInBounds_toArray, List.set_cons_succ, List.set_cons_zero]; rfl) (by kernel_rfl) (by kernel_rfl) ?_ ?_ ?_
  · refine ⟨_, _, _, _, _, _, rfl, ?_, ?_, ?_, ?_, ?_, ?_, ?_, ?_, ?_, ?_, ?_, ?_, ?_⟩
    · intro h; cases h
    · intro h; cases h
    · intro h; cases h
    · intro h; cases h
    · intro h; cases h
    · intro h; cases h
    · intro h; cases h
    · intro h; cases h
    · intro h; cases h
    · exact (Below.refl _ _).drew
    · exact (fun h => by cases h)
    · exact (fun h => by cases h)
    · exact (fun h => by cases h)
  · refine stepsOk_cons (k := 0) ?_ (stepsOk_cons (k := 1) ?_ (stepsOk_cons (k := 2) ?_ (stepsOk_cons (k := 3) ?_ (stepsOk_cons (k := 4) ?_ (stepsOk_cons (k := 5) ?_ (stepsOk_cons (k := 6) ?_ (stepsOk_cons (k := 7) ?_ (stepsOk_cons (k := 8) ?_ stepsOk_nil))))))))
    · unfold StepOk
      rintro d act x ⟨u64, u65, u66, u20, u21, u22, rfl, f0, f1, f2, f3, f4, f5, f6, f7, f8, g0, g1, g2, g3⟩ hd hdep Kc hKc
      have hx := blk_cell (blk_ext g0 z4_h0.out)
      rw [if_pos (by rfl)]
      go_big_op
      refine hKc _ _ ⟨_, _, _, _, _, _, rfl, ?_, ?_, ?_, ?_, ?_, ?_, ?_, ?_, ?_, ?_, ?_, ?_, ?_⟩
      · exact (fun _ => rfl)
      · exact (fun h => f1 (up h rfl))
      · exact (fun h => f2 (up h rfl))
      · exact (fun h => f3 (up h rfl))
      · exact (fun h => f4 (up h rfl))
      · exact (fun h => f5 (up h rfl))
      · exact (fun h => by have f := f6 (up h rfl); (obtain ⟨b, e0, e, e2, e3⟩ := f; exact ⟨b, upl e0, e, e2, e3⟩))
      · exact (fun h => by have f := f7 (up h rfl); (obtain ⟨b, e0, e, e2, e3⟩ := f; exact ⟨b, upl e0, e, e2, e3⟩))
      · exact (fun h => by have f := f8 (up h rfl); (obtain ⟨b, e0, e, e2, e3⟩ := f; exact ⟨b, upl e0, e, e2, e3⟩))
      · exact g0
      · exact (fun h h' => g1 (up h rfl) (up h' rfl))
      · exact (fun h h' => g2 (up h rfl) (up h' rfl))
      · exact (fun h h' => g3 (up h rfl) (up h' rfl))
    · unfold StepOk
      rintro d act x ⟨u64, u65, u66, u20, u21, u22, rfl, f0, f1, f2, f3, f4, f5, f6, f7, f8, g0, g1, g2, g3⟩ hd hdep Kc hKc
      have hx := blk_cell (blk_ext g0 z4_h0.out)
      rw [if_pos (by rfl)]
      go_big_op
      refine hKc _ _ ⟨_, _, _, _, _, _, rfl, ?_, ?_, ?_, ?_, ?_, ?_, ?_, ?_, ?_, ?_, ?_, ?_, ?_⟩
      · exact (fun h => f0 (up h rfl))
      · exact (fun _ => rfl)
      · exact (fun h => f2 (up h rfl))
      · exact (fun h => f3 (up h rfl))
      · exact (fun h => f4 (up h rfl))
      · exact (fun h => f5 (up h rfl))
      · exact (fun h => by have f := f6 (up h rfl); (obtain ⟨b, e0, e, e2, e3⟩ := f; exact ⟨b, upl e0, e, e2, e3⟩))
      · exact (fun h => by have f := f7 (up h rfl); (obtain ⟨b, e0, e, e2, e3⟩ := f; exact ⟨b, upl e0, e, e2, e3⟩))
      · exact (fun h => by have f := f8 (up h rfl); (obtain ⟨b, e0, e, e2, e3⟩ := f; exact ⟨b, upl e0, e, e2, e3⟩))
      · exact g0
      · exact (fun h h' => g1 (up h rfl) (up h' rfl))
      · exact (fun h h' => g2 (up h rfl) (up h' rfl))
      · exact (fun h h' => g3 (up h rfl) (up h' rfl))
    · unfold StepOk
      rintro d act x ⟨u64, u65, u66, u20, u21, u22, rfl, f0, f1, f2, f3, f4, f5, f6, f7, f8, g0, g1, g2, g3⟩ hd hdep Kc hKc
      have hx := blk_cell (blk_ext g0 z4_h0.out)
      rw [if_pos (by rfl)]
      go_big_op
      refine hKc _ _ ⟨_, _, _, _, _, _, rfl, ?_, ?_, ?_, ?_, ?_, ?_, ?_, ?_, ?_, ?_, ?_, ?_, ?_⟩
      · exact (fun h => f0 (up h rfl))
      · exact (fun h => f1 (up h rfl))
      · exact (fun _ => rfl)
      · exact (fun h => f3 (up h rfl))
      · exact (fun h => f4 (up h rfl))
      · exact (fun h => f5 (up h rfl))
      · exact (fun h => by have f := f6 (up h rfl); (obtain ⟨b, e0, e, e2, e3⟩ := f; exact ⟨b, upl e0, e, e2, e3⟩))
      · exact (fun h => by have f := f7 (up h rfl); (obtain ⟨b, e0, e, e2, e3⟩ := f; exact ⟨b, upl e0, e, e2, e3⟩))
      · exact (fun h => by have f := f8 (up h rfl); (obtain ⟨b, e0, e, e2, e3⟩ := f; exact ⟨b, upl e0, e, e2, e3⟩))
      · exact g0
      · exact (fun h h' => g1 (up h rfl) (up h' rfl))
      · exact (fun h h' => g2 (up h rfl) (up h' rfl))
      · exact (fun h h' => g3 (up h rfl) (up h' rfl))
    · unfold StepOk
      rintro d act x ⟨u64, u65, u66, u20, u21, u22, rfl, f0, f1, f2, f3, f4, f5, f6, f7, f8, g0, g1, g2, g3⟩ hd hdep Kc hKc
      rw [if_pos (by rfl)]
      go_big_op
      refine hKc _ _ ⟨_, _, _, _, _, _, rfl, ?_, ?_, ?_, ?_, ?_, ?_, ?_, ?_, ?_, ?_, ?_, ?_, ?_⟩
      · exact (fun h => f0 (up h rfl))
      · exact (fun h => f1 (up h rfl))
      · exact (fun h => f2 (up h rfl))
      · exact (fun _ => ⟨_, _, _, _, _, _, _, _, _, _, _, rfl, g0.size, blk_new _ _ _⟩)
      · exact (fun h => by have f := f4 (up h rfl); (obtain ⟨b, y0, y1, y2, y3, y4, y5, y6, y7, y8, y9, e, e2, e3⟩ := f; exact ⟨b, y0, y1, y2, y3, y4, y5, y6, y7, y8, y9, e, e2, blk_alloc e3 _⟩))
      · exact (fun h => by have f := f5 (up h rfl); (obtain ⟨b, y0, y1, y2, y3, y4, y5, y6, y7, y8, y9, e, e2, e3⟩ := f; exact ⟨b, y0, y1, y2, y3, y4, y5, y6, y7, y8, y9, e, e2, blk_alloc e3 _⟩))
      · exact (fun h => by obtain ⟨b, e0, -⟩ := f6 (up h rfl); rw [hd] at e0; cases e0)
      · exact (fun h => by have f := f7 (up h rfl); (obtain ⟨b, e0, e, e2, e3⟩ := f; exact ⟨b, upl e0, e, e2, blk_alloc e3 _⟩))
      · exact (fun h => by have f := f8 (up h rfl); (obtain ⟨b, e0, e, e2, e3⟩ := f; exact ⟨b, upl e0, e, e2, blk_alloc e3 _⟩))
      · exact (g0.alloc g0.size _)
      · exact (fun h h' => by obtain ⟨b, y0, y1, y2, y3, y4, y5, y6, y7, y8, y9, e, e2, e3⟩ := f4 (up h' rfl); have hlt := blk_lt e3; subst e; intro hh; simp at hh <;> omega)
      · exact (fun h h' => by obtain ⟨b, y0, y1, y2, y3, y4, y5, y6, y7, y8, y9, e, e2, e3⟩ := f5 (up h' rfl); have hlt := blk_lt e3; subst e; intro hh; simp at hh <;> omega)
      · exact (fun h h' => g3 (up h rfl) (up h' rfl))
    · unfold StepOk
      rintro d act x ⟨u64, u65, u66, u20, u21, u22, rfl, f0, f1, f2, f3, f4, f5, f6, f7, f8, g0, g1, g2, g3⟩ hd hdep Kc hKc
      rw [if_pos (by rfl)]
      go_big_op
      refine hKc _ _ ⟨_, _, _, _, _, _, rfl, ?_, ?_, ?_, ?_, ?_, ?_, ?_, ?_, ?_, ?_, ?_, ?_, ?_⟩
      · exact (fun h => f0 (up h rfl))
      · exact (fun h => f1 (up h rfl))
      · exact (fun h => f2 (up h rfl))
      · exact (fun h => by have f := f3 (up h rfl); (obtain ⟨b, y0, y1, y2, y3, y4, y5, y6, y7, y8, y9, e, e2, e3⟩ := f; exact ⟨b, y0, y1, y2, y3, y4, y5, y6, y7, y8, y9, e, e2, blk_alloc e3 _⟩))
      · exact (fun _ => ⟨_, _, _, _, _, _, _, _, _, _, _, rfl, g0.size, blk_new _ _ _⟩)
      · exact (fun h => by have f := f5 (up h rfl); (obtain ⟨b, y0, y1, y2, y3, y4, y5, y6, y7, y8, y9, e, e2, e3⟩ := f; exact ⟨b, y0, y1, y2, y3, y4, y5, y6, y7, y8, y9, e, e2, blk_alloc e3 _⟩))
      · exact (fun h => by have f := f6 (up h rfl); (obtain ⟨b, e0, e, e2, e3⟩ := f; exact ⟨b, upl e0, e, e2, blk_alloc e3 _⟩))
      · exact (fun h => by obtain ⟨b, e0, -⟩ := f7 (up h rfl); rw [hd] at e0; cases e0)
      · exact (fun h => by have f := f8 (up h rfl); (obtain ⟨b, e0, e, e2, e3⟩ := f; exact ⟨b, upl e0, e, e2, blk_alloc e3 _⟩))
      · exact (g0.alloc g0.size _)
      · exact (fun h h' => by obtain ⟨b, y0, y1, y2, y3, y4, y5, y6, y7, y8, y9, e, e2, e3⟩ := f3 (up h rfl); have hlt := blk_lt e3; subst e; intro hh; simp at hh <;> omega)
      · exact (fun h h' => g2 (up h rfl) (up h' rfl))
      · exact (fun h h' => by obtain ⟨b, y0, y1, y2, y3, y4, y5, y6, y7, y8, y9, e, e2, e3⟩ := f5 (up h' rfl); have hlt := blk_lt e3; subst e; intro hh; simp at hh <;> omega)
    · unfold StepOk
      rintro d act x ⟨u64, u65, u66, u20, u21, u22, rfl, f0, f1, f2, f3, f4, f5, f6, f7, f8, g0, g1, g2, g3⟩ hd hdep Kc hKc
      rw [if_pos (by rfl)]
      go_big_op
      refine hKc _ _ ⟨_, _, _, _, _, _, rfl, ?_, ?_, ?_, ?_, ?_, ?_, ?_, ?_, ?_, ?_, ?_, ?_, ?_⟩
      · exact (fun h => f0 (up h rfl))
      · exact (fun h => f1 (up h rfl))
      · exact (fun h => f2 (up h rfl))
      · exact (fun h => by have f := f3 (up h rfl); (obtain ⟨b, y0, y1, y2, y3, y4, y5, y6, y7, y8, y9, e, e2, e3⟩ := f; exact ⟨b, y0, y1, y2, y3, y4, y5, y6, y7, y8, y9, e, e2, blk_alloc e3 _⟩))
      · exact (fun h => by have f := f4 (up h rfl); (obtain ⟨b, y0, y1, y2, y3, y4, y5, y6, y7, y8, y9, e, e2, e3⟩ := f; exact ⟨b, y0, y1, y2, y3, y4, y5, y6, y7, y8, y9, e, e2, blk_alloc e3 _⟩))
      · exact (fun _ => ⟨_, _, _, _, _, _, _, _, _, _, _, rfl, g0.size, blk_new _ _ _⟩)
      · exact (fun h => by have f := f6 (up h rfl); (obtain ⟨b, e0, e, e2, e3⟩ := f; exact ⟨b, upl e0, e, e2, blk_alloc e3 _⟩))
      · exact (fun h => by have f := f7 (up h rfl); (obtain ⟨b, e0, e, e2, e3⟩ := f; exact ⟨b, upl e0, e, e2, blk_alloc e3 _⟩))
      · exact (fun h => by obtain ⟨b, e0, -⟩ := f8 (up h rfl); rw [hd] at e0; cases e0)
      · exact (g0.alloc g0.size _)
      · exact (fun h h' => g1 (up h rfl) (up h' rfl))
      · exact (fun h h' => by obtain ⟨b, y0, y1, y2, y3, y4, y5, y6, y7, y8, y9, e, e2, e3⟩ := f3 (up h rfl); have hlt := blk_lt e3; subst e; intro hh; simp at hh <;> omega)
      · exact (fun h h' => by obtain ⟨b, y0, y1, y2, y3, y4, y5, y6, y7, y8, y9, e, e2, e3⟩ := f4 (up h rfl); have hlt := blk_lt e3; subst e; intro hh; simp at hh <;> omega)
    · unfold StepOk
      rintro d act x ⟨u64, u65, u66, u20, u21, u22, rfl, f0, f1, f2, f3, f4, f5, f6, f7, f8, g0, g1, g2, g3⟩ hd hdep Kc hKc
      have hd3 : d 3 = true := hdep ⟨3, .data⟩ (by simp) rfl
      have hd0 : d 0 = true := hdep ⟨0, .data⟩ (by simp) rfl
      have hd0 : d 0 = true := hdep ⟨0, .phase⟩ (by simp) rfl
      have hd3 : d 3 = true := hdep ⟨3, .phase⟩ (by simp) rfl
      obtain ⟨b3, y0, y1, y2, y3, y4, y5, y6, y7, y8, y9, rfl, l3, c3⟩ := f3 hd3
      obtain rfl := f0 hd0
      have hbc := blk_cell c3
      have hbf := blk_free c3
      have hbl2 := blk_lt c3
      rw [if_pos (by rfl)]
      go_big_op
      have hkp : Kept b3 x ((((((((((x.setCell ⟨b3, 0, none⟩ (.string a)).setCell ⟨b3, 1, none⟩ (.string i)).setCell ⟨b3, 2, none⟩ (.int .i64 s)).setCell ⟨b3, 3, none⟩ (.int .i64 o)).setCell ⟨b3, 4, none⟩ (.int .i64 l)).setCell ⟨b3, 5, none⟩ (.int .i64 t)).setCell ⟨b3, 6, none⟩ (.int .i64 k)).setCell ⟨b3, 7, none⟩ (.int .i64 n)).setCell ⟨b3, 8, none⟩ (.bool true)).setCell ⟨b3, 9, none⟩ (.int .i64 seen)) := (((((((((((Kept.refl b3 x).setCell _ _).setCell _ _).setCell _ _).setCell _ _).setCell _ _).setCell _ _).setCell _ _).setCell _ _).setCell _ _).setCell _ _)
      have RB : ((((((((((x.setCell ⟨b3, 0, none⟩ (.string a)).setCell ⟨b3, 1, none⟩ (.string i)).setCell ⟨b3, 2, none⟩ (.int .i64 s)).setCell ⟨b3, 3, none⟩ (.int .i64 o)).setCell ⟨b3, 4, none⟩ (.int .i64 l)).setCell ⟨b3, 5, none⟩ (.int .i64 t)).setCell ⟨b3, 6, none⟩ (.int .i64 k)).setCell ⟨b3, 7, none⟩ (.int .i64 n)).setCell ⟨b3, 8, none⟩ (.bool true)).setCell ⟨b3, 9, none⟩ (.int .i64 seen)).heap[b3]? = some (.cells #[.string a, .string i, .int .i64 s, .int .i64 o, .int .i64 l, .int .i64 t, .int .i64 k, .int .i64 n, .bool true, .int .i64 seen] 30 (0, 0)) := by repeat (first | (with_reducible assumption) | (with_reducible refine blk_new_at ?_ _ _; first | (with_reducible rfl) | (simp; done)) | (with_reducible refine blk_alloc ?_ _) | (with_reducible refine blk_drew ?_) | (with_reducible apply blk_set) | (show Array.setIfInBounds _ _ _ = _; first | (simp; done) | (simp; rfl)) | (with_reducible refine blk_set_other ?_ ?_; omega))
      have hBn : Below w4.heap.size w4 ((((((((((x.setCell ⟨b3, 0, none⟩ (.string a)).setCell ⟨b3, 1, none⟩ (.string i)).setCell ⟨b3, 2, none⟩ (.int .i64 s)).setCell ⟨b3, 3, none⟩ (.int .i64 o)).setCell ⟨b3, 4, none⟩ (.int .i64 l)).setCell ⟨b3, 5, none⟩ (.int .i64 t)).setCell ⟨b3, 6, none⟩ (.int .i64 k)).setCell ⟨b3, 7, none⟩ (.int .i64 n)).setCell ⟨b3, 8, none⟩ (.bool true)).setCell ⟨b3, 9, none⟩ (.int .i64 seen)) := Below.trans g0 (hkp.below l3)
      generalize ((((((((((x.setCell ⟨b3, 0, none⟩ (.string a)).setCell ⟨b3, 1, none⟩ (.string i)).setCell ⟨b3, 2, none⟩ (.int .i64 s)).setCell ⟨b3, 3, none⟩ (.int .i64 o)).setCell ⟨b3, 4, none⟩ (.int .i64 l)).setCell ⟨b3, 5, none⟩ (.int .i64 t)).setCell ⟨b3, 6, none⟩ (.int .i64 k)).setCell ⟨b3, 7, none⟩ (.int .i64 n)).setCell ⟨b3, 8, none⟩ (.bool true)).setCell ⟨b3, 9, none⟩ (.int .i64 seen)) = X at *
      refine hKc _ _ ⟨_, _, _, _, _, _, rfl, ?_, ?_, ?_, ?_, ?_, ?_, ?_, ?_, ?_, ?_, ?_, ?_, ?_⟩
      · exact (fun h => f0 (up h rfl))
      · exact (fun h => f1 (up h rfl))
      · exact (fun h => f2 (up h rfl))
      · exact (fun _ => ⟨b3, _, _, _, _, _, _, _, _, _, _, rfl, l3, RB⟩)
      · exact (fun h => by have f := f4 (up h rfl); (obtain ⟨b, y0, y1, y2, y3, y4, y5, y6, y7, y8, y9, e, e2, e3⟩ := f; exact ⟨b, y0, y1, y2, y3, y4, y5, y6, y7, y8, y9, e, e2, (hkp.block b (fun hh => g1 hd3 (up h rfl) (by rw [e, hh]))).trans e3⟩))
      · exact (fun h => by have f := f5 (up h rfl); (obtain ⟨b, y0, y1, y2, y3, y4, y5, y6, y7, y8, y9, e, e2, e3⟩ := f; exact ⟨b, y0, y1, y2, y3, y4, y5, y6, y7, y8, y9, e, e2, (hkp.block b (fun hh => g2 hd3 (up h rfl) (by rw [e, hh]))).trans e3⟩))
      · exact (fun _ => ⟨b3, upl hd3, rfl, l3, RB⟩)
      · exact (fun h => by have f := f7 (up h rfl); (obtain ⟨b, e0, e, e2, e3⟩ := f; exact ⟨b, upl e0, e, e2, (hkp.block b (fun hh => g1 hd3 e0 (by rw [e, hh]))).trans e3⟩))
      · exact (fun h => by have f := f8 (up h rfl); (obtain ⟨b, e0, e, e2, e3⟩ := f; exact ⟨b, upl e0, e, e2, (hkp.block b (fun hh => g2 hd3 e0 (by rw [e, hh]))).trans e3⟩))
      · exact hBn
      · exact (fun h h' => g1 (up h rfl) (up h' rfl))
      · exact (fun h h' => g2 (up h rfl) (up h' rfl))
      · exact (fun h h' => g3 (up h rfl) (up h' rfl))
    · unfold StepOk
      rintro d act x ⟨u64, u65, u66, u20, u21, u22, rfl, f0, f1, f2, f3, f4, f5, f6, f7, f8, g0, g1, g2, g3⟩ hd hdep Kc hKc
      have hd4 : d 4 = true := hdep ⟨4, .data⟩ (by simp) rfl
      have hd1 : d 1 = true := hdep ⟨1, .data⟩ (by simp) rfl
      have hd1 : d 1 = true := hdep ⟨1, .phase⟩ (by simp) rfl
      have hd4 : d 4 = true := hdep ⟨4, .phase⟩ (by simp) rfl
      obtain ⟨b4, y0, y1, y2, y3, y4, y5, y6, y7, y8, y9, rfl, l4, c4⟩ := f4 hd4
      obtain rfl := f1 hd1
      have hbc := blk_cell c4
      have hbf := blk_free c4
      have hbl2 := blk_lt c4
      rw [if_pos (by rfl)]
      go_big_op
      have hkp : Kept b4 x ((((((((((x.setCell ⟨b4, 0, none⟩ (.string a)).setCell ⟨b4, 1, none⟩ (.string i)).setCell ⟨b4, 2, none⟩ (.int .i64 s)).setCell ⟨b4, 3, none⟩ (.int .i64 o)).setCell ⟨b4, 4, none⟩ (.int .i64 l)).setCell ⟨b4, 5, none⟩ (.int .i64 t)).setCell ⟨b4, 6, none⟩ (.int .i64 k)).setCell ⟨b4, 7, none⟩ (.int .i64 n)).setCell ⟨b4, 8, none⟩ (.bool true)).setCell ⟨b4, 9, none⟩ (.int .i64 seen)) := (((((((((((Kept.refl b4 x).setCell _ _).setCell _ _).setCell _ _).setCell _ _).setCell _ _).setCell _ _).setCell _ _).setCell _ _).setCell _ _).setCell _ _)
      have RB : ((((((((((x.setCell ⟨b4, 0, none⟩ (.string a)).setCell ⟨b4, 1, none⟩ (.string i)).setCell ⟨b4, 2, none⟩ (.int .i64 s)).setCell ⟨b4, 3, none⟩ (.int .i64 o)).setCell ⟨b4, 4, none⟩ (.int .i64 l)).setCell ⟨b4, 5, none⟩ (.int .i64 t)).setCell ⟨b4, 6, none⟩ (.int .i64 k)).setCell ⟨b4, 7, none⟩ (.int .i64 n)).setCell ⟨b4, 8, none⟩ (.bool true)).setCell ⟨b4, 9, none⟩ (.int .i64 seen)).heap[b4]? = some (.cells #[.string a, .string i, .int .i64 s, .int .i64 o, .int .i64 l, .int .i64 t, .int .i64 k, .int .i64 n, .bool true, .int .i64 seen] 30 (0, 0)) := by repeat (first | (with_reducible assumption) | (with_reducible refine blk_new_at ?_ _ _; first | (with_reducible rfl) | (simp; done)) | (with_reducible refine blk_alloc ?_ _) | (with_reducible refine blk_drew ?_) | (with_reducible apply blk_set) | (show Array.setIfInBounds _ _ _ = _; first | (simp; done) | (simp; rfl)) | (with_reducible refine blk_set_other ?_ ?_; omega))
      have hBn : Below w4.heap.size w4 ((((((((((x.setCell ⟨b4, 0, none⟩ (.string a)).setCell ⟨b4, 1, none⟩ (.string i)).setCell ⟨b4, 2, none⟩ (.int .i64 s)).setCell ⟨b4, 3, none⟩ (.int .i64 o)).setCell ⟨b4, 4, none⟩ (.int .i64 l)).setCell ⟨b4, 5, none⟩ (.int .i64 t)).setCell ⟨b4, 6, none⟩ (.int .i64 k)).setCell ⟨b4, 7, none⟩ (.int .i64 n)).setCell ⟨b4, 8, none⟩ (.bool true)).setCell ⟨b4, 9, none⟩ (.int .i64 seen)) := Below.trans g0 (hkp.below l4)
      generalize ((((((((((x.setCell ⟨b4, 0, none⟩ (.string a)).setCell ⟨b4, 1, none⟩ (.string i)).setCell ⟨b4, 2, none⟩ (.int .i64 s)).setCell ⟨b4, 3, none⟩ (.int .i64 o)).setCell ⟨b4, 4, none⟩ (.int .i64 l)).setCell ⟨b4, 5, none⟩ (.int .i64 t)).setCell ⟨b4, 6, none⟩ (.int .i64 k)).setCell ⟨b4, 7, none⟩ (.int .i64 n)).setCell ⟨b4, 8, none⟩ (.bool true)).setCell ⟨b4, 9, none⟩ (.int .i64 seen)) = X at *
      refine hKc _ _ ⟨_, _, _, _, _, _, rfl, ?_, ?_, ?_, ?_, ?_, ?_, ?_, ?_, ?_, ?_, ?_, ?_, ?_⟩
      · exact (fun h => f0 (up h rfl))
      · exact (fun h => f1 (up h rfl))
      · exact (fun h => f2 (up h rfl))
      · exact (fun h => by have f := f3 (up h rfl); (obtain ⟨b, y0, y1, y2, y3, y4, y5, y6, y7, y8, y9, e, e2, e3⟩ := f; exact ⟨b, y0, y1, y2, y3, y4, y5, y6, y7, y8, y9, e, e2, (hkp.block b (fun hh => g1 (up h rfl) hd4 (by rw [e, hh]))).trans e3⟩))
      · exact (fun _ => ⟨b4, _, _, _, _, _, _, _, _, _, _, rfl, l4, RB⟩)
      · exact (fun h => by have f := f5 (up h rfl); (obtain ⟨b, y0, y1, y2, y3, y4, y5, y6, y7, y8, y9, e, e2, e3⟩ := f; exact ⟨b, y0, y1, y2, y3, y4, y5, y6, y7, y8, y9, e, e2, (hkp.block b (fun hh => g3 hd4 (up h rfl) (by rw [e, hh]))).trans e3⟩))
      · exact (fun h => by have f := f6 (up h rfl); (obtain ⟨b, e0, e, e2, e3⟩ := f; exact ⟨b, upl e0, e, e2, (hkp.block b (fun hh => g1 e0 hd4 (by rw [e, hh]))).trans e3⟩))
      · exact (fun _ => ⟨b4, upl hd4, rfl, l4, RB⟩)
      · exact (fun h => by have f := f8 (up h rfl); (obtain ⟨b, e0, e, e2, e3⟩ := f; exact ⟨b, upl e0, e, e2, (hkp.block b (fun hh => g3 hd4 e0 (by rw [e, hh]))).trans e3⟩))
      · exact hBn
      · exact (fun h h' => g1 (up h rfl) (up h' rfl))
      · exact (fun h h' => g2 (up h rfl) (up h' rfl))
      · exact (fun h h' => g3 (up h rfl) (up h' rfl))
    · unfold StepOk
      rintro d act x ⟨u64, u65, u66, u20, u21, u22, rfl, f0, f1, f2, f3, f4, f5, f6, f7, f8, g0, g1, g2, g3⟩ hd hdep Kc hKc
      have hd5 : d 5 = true := hdep ⟨5, .data⟩ (by simp) rfl
      have hd2 : d 2 = true := hdep ⟨2, .data⟩ (by simp) rfl
      have hd2 : d 2 = true := hdep ⟨2, .phase⟩ (by simp) rfl
      have hd5 : d 5 = true := hdep ⟨5, .phase⟩ (by simp) rfl
      obtain ⟨b5, y0, y1, y2, y3, y4, y5, y6, y7, y8, y9, rfl, l5, c5⟩ := f5 hd5
      obtain rfl := f2 hd2
      have hbc := blk_cell c5
      have hbf := blk_free c5
      have hbl2 := blk_lt c5
      rw [if_pos (by rfl)]
      go_big_op
      have hkp : Kept b5 x ((((((((((x.setCell ⟨b5, 0, none⟩ (.string a)).setCell ⟨b5, 1, none⟩ (.string i)).setCell ⟨b5, 2, none⟩ (.int .i64 s)).setCell ⟨b5, 3, none⟩ (.int .i64 o)).setCell ⟨b5, 4, none⟩ (.int .i64 l)).setCell ⟨b5, 5, none⟩ (.int .i64 t)).setCell ⟨b5, 6, none⟩ (.int .i64 k)).setCell ⟨b5, 7, none⟩ (.int .i64 n)).setCell ⟨b5, 8, none⟩ (.bool true)).setCell ⟨b5, 9, none⟩ (.int .i64 seen)) := (((((((((((Kept.refl b5 x).setCell _ _).setCell _ _).setCell _ _).setCell _ _).setCell _ _).setCell _ _).setCell _ _).setCell _ _).setCell _ _).setCell _ _)
      have RB : ((((((((((x.setCell ⟨b5, 0, none⟩ (.string a)).setCell ⟨b5, 1, none⟩ (.string i)).setCell ⟨b5, 2, none⟩ (.int .i64 s)).setCell ⟨b5, 3, none⟩ (.int .i64 o)).setCell ⟨b5, 4, none⟩ (.int .i64 l)).setCell ⟨b5, 5, none⟩ (.int .i64 t)).setCell ⟨b5, 6, none⟩ (.int .i64 k)).setCell ⟨b5, 7, none⟩ (.int .i64 n)).setCell ⟨b5, 8, none⟩ (.bool true)).setCell ⟨b5, 9, none⟩ (.int .i64 seen)).heap[b5]? = some (.cells #[.string a, .string i, .int .i64 s, .int .i64 o, .int .i64 l, .int .i64 t, .int .i64 k, .int .i64 n, .bool true, .int .i64 seen] 30 (0, 0)) := by repeat (first | (with_reducible assumption) | (with_reducible refine blk_new_at ?_ _ _; first | (with_reducible rfl) | (simp; done)) | (with_reducible refine blk_alloc ?_ _) | (with_reducible refine blk_drew ?_) | (with_reducible apply blk_set) | (show Array.setIfInBounds _ _ _ = _; first | (simp; done) | (simp; rfl)) | (with_reducible refine blk_set_other ?_ ?_; omega))
      have hBn : Below w4.heap.size w4 ((((((((((x.setCell ⟨b5, 0, none⟩ (.string a)).setCell ⟨b5, 1, none⟩ (.string i)).setCell ⟨b5, 2, none⟩ (.int .i64 s)).setCell ⟨b5, 3, none⟩ (.int .i64 o)).setCell ⟨b5, 4, none⟩ (.int .i64 l)).setCell ⟨b5, 5, none⟩ (.int .i64 t)).setCell ⟨b5, 6, none⟩ (.int .i64 k)).setCell ⟨b5, 7, none⟩ (.int .i64 n)).setCell ⟨b5, 8, none⟩ (.bool true)).setCell ⟨b5, 9, none⟩ (.int .i64 seen)) := Below.trans g0 (hkp.below l5)
      generalize ((((((((((x.setCell ⟨b5, 0, none⟩ (.string a)).setCell ⟨b5, 1, none⟩ (.string i)).setCell ⟨b5, 2, none⟩ (.int .i64 s)).setCell ⟨b5, 3, none⟩ (.int .i64 o)).setCell ⟨b5, 4, none⟩ (.int .i64 l)).setCell ⟨b5, 5, none⟩ (.int .i64 t)).setCell ⟨b5, 6, none⟩ (.int .i64 k)).setCell ⟨b5, 7, none⟩ (.int .i64 n)).setCell ⟨b5, 8, none⟩ (.bool true)).setCell ⟨b5, 9, none⟩ (.int .i64 seen)) = X at *
      refine hKc _ _ ⟨_, _, _, _, _, _, rfl, ?_, ?_, ?_, ?_, ?_, ?_, ?_, ?_, ?_, ?_, ?_, ?_, ?_⟩
      · exact (fun h => f0 (up h rfl))
      · exact (fun h => f1 (up h rfl))
      · exact (fun h => f2 (up h rfl))
      · exact (fun h => by have f := f3 (up h rfl); (obtain ⟨b, y0, y1, y2, y3, y4, y5, y6, y7, y8, y9, e, e2, e3⟩ := f; exact ⟨b, y0, y1, y2, y3, y4, y5, y6, y7, y8, y9, e, e2, (hkp.block b (fun hh => g2 (up h rfl) hd5 (by rw [e, hh]))).trans e3⟩))
      · exact (fun h => by have f := f4 (up h rfl); (obtain ⟨b, y0, y1, y2, y3, y4, y5, y6, y7, y8, y9, e, e2, e3⟩ := f; exact ⟨b, y0, y1, y2, y3, y4, y5, y6, y7, y8, y9, e, e2, (hkp.block b (fun hh => g3 (up h rfl) hd5 (by rw [e, hh]))).trans e3⟩))
      · exact (fun _ => ⟨b5, _, _, _, _, _, _, _, _, _, _, rfl, l5, RB⟩)
      · exact (fun h => by have f := f6 (up h rfl); (obtain ⟨b, e0, e, e2, e3⟩ := f; exact ⟨b, upl e0, e, e2, (hkp.block b (fun hh => g2 e0 hd5 (by rw [e, hh]))).trans e3⟩))
      · exact (fun h => by have f := f7 (up h rfl); (obtain ⟨b, e0, e, e2, e3⟩ := f; exact ⟨b, upl e0, e, e2, (hkp.block b (fun hh => g3 e0 hd5 (by rw [e, hh]))).trans e3⟩))
      · exact (fun _ => ⟨b5, upl hd5, rfl, l5, RB⟩)
      · exact hBn
      · exact (fun h h' => g1 (up h rfl) (up h' rfl))
      · exact (fun h h' => g2 (up h rfl) (up h' rfl))
      · exact (fun h h' => g3 (up h rfl) (up h' rfl))
  · rintro d act x ⟨u64, u65, u66, u20, u21, u22, rfl, f0, f1, f2, f3, f4, f5, f6, f7, f8, g0, g1, g2, g3⟩ hall
    obtain ⟨b3, -, rfl, l3, c3⟩ := f6 (hall 6 (by decide))
    obtain ⟨b4, -, rfl, l4, c4⟩ := f7 (hall 7 (by decide))
    obtain ⟨b5, -, rfl, l5, c5⟩ := f8 (hall 8 (by decide))
    have j34 := g1 (hall 3 (by decide)) (hall 4 (by decide))
    have j35 := g2 (hall 3 (by decide)) (hall 5 (by decide))
    have j45 := g3 (hall 4 (by decide)) (hall 5 (by decide))
    clear f0 f1 f2 f3 f4 f5 f6 f7 f8 hall
    simp only [ne_eq, Value.pointer.injEq, Option.some.injEq, Addr.mk.injEq, and_true] at j34 j35 j45
    have q0 := z4_l0
    have q1 := z4_l1
    have q2 := z4_l2
    have q3 := z4_l3
    have q4 := z4_l4
    have q5 := z4_l5
    have q6 := z4_l6
    have z5_r0 : x.heap[w.heap.size]? = some (.cells #[.string a, .string i, .int .i64 s, .int .i64 o, .int .i64 l, .int .i64 t, .int .i64 k, .int .i64 n, .bool true, .int .i64 seen] 30 (0, 0)) := blk_ext g0 z4_h0.out
    have z5_r1 : x.heap[w.heap.size + 1]? = some (.cells #[.string c.a, .string c.i, .int .i64 c.s, .int .i64 c.o, .int .i64 c.l, .int .i64 c.t, .int .i64 c.k, .int .i64 c.n, .bool c.g] 28 (0, 0)) := blk_ext g0 z4_h1.out
    have z5_r2 : x.heap[w.heap.size + 1 + 1]? = some (.cells #[.int .i64 t2, .int .i64 k2, .int .i64 n2] 26 (0, 0)) := blk_ext g0 z4_h2.out
    have z5_r3 : x.heap[w.heap.size + 1 + 1 + 1]? = some (.cells #[.string c.a, .string c.i, .int .i64 c.s, .int .i64 0, .int .i64 c.l, .int .i64 c.t, .int .i64 c.k, .int .i64 c.n, .bool false, .int .i64 now] 30 (0, 0)) := blk_ext g0 z4_h3.out
    have z5_r4 : x.heap[w1.heap.size]? = some (.cells #[.string ⟨#[]⟩, .string ⟨#[]⟩, .int .i64 0, .int .i64 0, .int .i64 0, .int .i64 0, .int .i64 0, .int .i64 0, .bool false, .int .i64 0] 30 (0, 0)) := blk_ext g0 z4_h4.out
    have z5_r5 : x.heap[w2.heap.size]? = some (.cells #[.string ⟨#[]⟩, .string ⟨#[]⟩, .int .i64 0, .int .i64 0, .int .i64 0, .int .i64 0, .int .i64 0, .int .i64 0, .bool false, .int .i64 0] 30 (0, 0)) := blk_ext g0 z4_h5.out
    have z5_r6 : x.heap[w3.heap.size]? = some (.cells #[.string ⟨#[]⟩, .string ⟨#[]⟩, .int .i64 0, .int .i64 0, .int .i64 0, .int .i64 0, .int .i64 0, .int .i64 0, .bool false, .int .i64 0] 30 (0, 0)) := blk_ext g0 z4_h6.out
    have z5_r7 : x.heap[b3]? = some (.cells #[.string a, .string i, .int .i64 s, .int .i64 o, .int .i64 l, .int .i64 t, .int .i64 k, .int .i64 n, .bool true, .int .i64 seen] 30 (0, 0)) := c3
    have z5_r8 : x.heap[b4]? = some (.cells #[.string a, .string i, .int .i64 s, .int .i64 o, .int .i64 l, .int .i64 t, .int .i64 k, .int .i64 n, .bool true, .int .i64 seen] 30 (0, 0)) := c4
    have z5_r9 : x.heap[b5]? = some (.cells #[.string a, .string i, .int .i64 s, .int .i64 o, .int .i64 l, .int .i64 t, .int .i64 k, .int .i64 n, .bool true, .int .i64 seen] 30 (0, 0)) := c5
    have z5_B : Below w.heap.size w x := ext_trans z4_B g0
    have z5_z := z5_B.size
    clear z4_B z4_z z4_c0 z4_l0 z4_k0_0 z4_k0_1 z4_c1 z4_l1 z4_k1_0 z4_k1_1 z4_c2 z4_l2 z4_k2_0 z4_k2_1 z4_c3 z4_l3 z4_k3_0 z4_k3_1 z4_c4 z4_l4 z4_k4_0 z4_k4_1 z4_c5 z4_l5 z4_k5_0 z4_k5_1 z4_c6 z4_l6 z4_k6_0 z4_k6_1 z4_h0 z4_h1 z4_h2 z4_h3 z4_h4 z4_h5 z4_h6 c3 c4 c5 g1 g2 g3
    have z5_c0 := blk_cell z5_r0
    have z5_l0 := blk_lt z5_r0
    have z5_k0_0 : w.heap.size ≤ x.heap.size := by omega
    have z5_k0_1 : w.heap.size ≤ x.heap.size + 1 := by omega
    have z5_c1 := blk_cell z5_r1
    have z5_l1 := blk_lt z5_r1
    have z5_k1_0 : w.heap.size + 1 ≤ x.heap.size := by omega
    have z5_k1_1 : w.heap.size + 1 ≤ x.heap.size + 1 := by omega
    have z5_c2 := blk_cell z5_r2
    have z5_l2 := blk_lt z5_r2
    have z5_k2_0 : w.heap.size + 1 + 1 ≤ x.heap.size := by omega
    have z5_k2_1 : w.heap.size + 1 + 1 ≤ x.heap.size + 1 := by omega
    have z5_c3 := blk_cell z5_r3
    have z5_l3 := blk_lt z5_r3
    have z5_k3_0 : w.heap.size + 1 + 1 + 1 ≤ x.heap.size := by omega
    have z5_k3_1 : w.heap.size + 1 + 1 + 1 ≤ x.heap.size + 1 := by omega
    have z5_c4 := blk_cell z5_r4
    have z5_l4 := blk_lt z5_r4
    have z5_k4_0 : w1.heap.size ≤ x.heap.size := by omega
    have z5_k4_1 : w1.heap.size ≤ x.heap.size + 1 := by omega
    have z5_c5 := blk_cell z5_r5
    have z5_l5 := blk_lt z5_r5
    have z5_k5_0 : w2.heap.size ≤ x.heap.size := by omega
    have z5_k5_1 : w2.heap.size ≤ x.heap.size + 1 := by omega
    have z5_c6 := blk_cell z5_r6
    have z5_l6 := blk_lt z5_r6
    have z5_k6_0 : w3.heap.size ≤ x.heap.size := by omega
    have z5_k6_1 : w3.heap.size ≤ x.heap.size + 1 := by omega
    have z5_c7 := blk_cell z5_r7
    have z5_l7 := blk_lt z5_r7
    have z5_f7 := blk_free z5_r7
    have z5_k7_0 : b3 ≤ x.heap.size := by omega
    have z5_k7_1 : b3 ≤ x.heap.size + 1 := by omega
    have z5_c8 := blk_cell z5_r8
    have z5_l8 := blk_lt z5_r8
    have z5_k8_0 : b4 ≤ x.heap.size := by omega
    have z5_k8_1 : b4 ≤ x.heap.size + 1 := by omega
    have z5_c9 := blk_cell z5_r9
    have z5_l9 := blk_lt z5_r9
    have z5_k9_0 : b5 ≤ x.heap.size := by omega
    have z5_k9_1 : b5 ≤ x.heap.size + 1 := by omega
    have z5_h0 := Lib.hid z5_r0
    have z5_h1 := Lib.hid z5_r1
    have z5_h2 := Lib.hid z5_r2
    have z5_h3 := Lib.hid z5_r3
    have z5_h4 := Lib.hid z5_r4
    have z5_h5 := Lib.hid z5_r5
    have z5_h6 := Lib.hid z5_r6
    have z5_h7 := Lib.hid z5_r7
    have z5_h8 := Lib.hid z5_r8
    have z5_h9 := Lib.hid z5_r9
    clear z5_r0 z5_r1 z5_r2 z5_r3 z5_r4 z5_r5 z5_r6 z5_r7 z5_r8 z5_r9
    have s0 := g0.size
    clear g0
    obtain ⟨w5, rfl⟩ : ∃ y, y = x := ⟨_, rfl⟩
    go_upto_region 10 with fail
    have z5_s0 := z5_h0.out
    have z5_s1 := z5_h1.out
    have z5_s2 := z5_h2.out
    have z5_s3 := z5_h3.out
    have z5_s4 := z5_h4.out
    have z5_s5 := z5_h5.out
    have z5_s6 := z5_h6.out
    have z5_s7 := z5_h7.out
    have z5_s8 := z5_h8.out
    have z5_s9 := z5_h9.out
    refine wp_letter (fun W => Below w.heap.size w W ∧ W.heap[w.heap.size]? = some (.cells #[.string a, .string i, .int .i64 s, .int .i64 o, .int .i64 l, .int .i64 t, .int .i64 k, .int .i64 n, .bool true, .int .i64 seen] 30 (0, 0)) ∧ W.heap[w.heap.size + 1]? = some (.cells #[.string c.a, .string c.i, .int .i64 c.s, .int .i64 c.o, .int .i64 c.l, .int .i64 c.t, .int .i64 c.k, .int .i64 c.n, .bool c.g] 28 (0, 0)) ∧ W.heap[w.heap.size + 1 + 1]? = some (.cells #[.int .i64 t2, .int .i64 k2, .int .i64 n2] 26 (0, 0)) ∧ W.heap[w.heap.size + 1 + 1 + 1]? = some (.cells #[.string c.a, .string c.i, .int .i64 c.s, .int .i64 0, .int .i64 c.l, .int .i64 c.t, .int .i64 c.k, .int .i64 c.n, .bool false, .int .i64 now] 30 (0, 0)) ∧ W.heap[w1.heap.size]? = some (.cells #[.string ⟨#[]⟩, .string ⟨#[]⟩, .int .i64 0, .int .i64 0, .int .i64 0, .int .i64 0, .int .i64 0, .int .i64 0, .bool false, .int .i64 0] 30 (0, 0)) ∧ W.heap[w2.heap.size]? = some (.cells #[.string ⟨#[]⟩, .string ⟨#[]⟩, .int .i64 0, .int .i64 0, .int .i64 0, .int .i64 0, .int .i64 0, .int .i64 0, .bool false, .int .i64 0] 30 (0, 0)) ∧ W.heap[w3.heap.size]? = some (.cells #[.string ⟨#[]⟩, .string ⟨#[]⟩, .int .i64 0, .int .i64 0, .int .i64 0, .int .i64 0, .int .i64 0, .int .i64 0, .bool false, .int .i64 0] 30 (0, 0)) ∧ W.heap[b3]? = some (.cells #[.string a, .string i, .int .i64 s, .int .i64 o, .int .i64 l, .int .i64 t, .int .i64 k, .int .i64 n, .bool true, .int .i64 M] 30 (0, 0)) ∧ W.heap[b4]? = some (.cells #[.string a, .string i, .int .i64 s, .int .i64 o, .int .i64 l, .int .i64 t, .int .i64 k, .int .i64 n, .bool true, .int .i64 seen] 30 (0, 0)) ∧ W.heap[b5]? = some (.cells #[.string a, .string i, .int .i64 s, .int .i64 o, .int .i64 l, .int .i64 t, .int .i64 k, .int .i64 n, .bool true, .int .i64 seen] 30 (0, 0))) ⟨by go_grown, by repeat (first | (with_reducible assumption) | (with_reducible refine blk_new_at ?_ _ _; first | (with_reducible rfl) | (simp; done)) | (with_reducible refine blk_alloc ?_ _) | (with_reducible refine blk_drew ?_) | (with_reducible apply blk_set) | (show Array.setIfInBounds _ _ _ = _; first | (simp; done) | (simp; rfl)) | (with_reducible refine blk_set_other ?_ ?_; omega)), by repeat (first | (with_reducible assumption) | (with_reducible refine blk_new_at ?_ _ _; first | (with_reducible rfl) | (simp; done)) | (with_reducible refine blk_alloc ?_ _) | (with_reducible refine blk_drew ?_) | (with_reducible apply blk_set) | (show Array.setIfInBounds _ _ _ = _; first | (simp; done) | (simp; rfl)) | (with_reducible refine blk_set_other ?_ ?_; omega)), by repeat (first | (with_reducible assumption) | (with_reducible refine blk_new_at ?_ _ _; first | (with_reducible rfl) | (simp; done)) | (with_reducible refine blk_alloc ?_ _) | (with_reducible refine blk_drew ?_) | (with_reducible apply blk_set) | (show Array.setIfInBounds _ _ _ = _; first | (simp; done) | (simp; rfl)) | (with_reducible refine blk_set_other ?_ ?_; omega)), by repeat (first | (with_reducible assumption) | (with_reducible refine blk_new_at ?_ _ _; first | (with_reducible rfl) | (simp; done)) | (with_reducible refine blk_alloc ?_ _) | (with_reducible refine blk_drew ?_) | (with_reducible apply blk_set) | (show Array.setIfInBounds _ _ _ = _; first | (simp; done) | (simp; rfl)) | (with_reducible refine blk_set_other ?_ ?_; omega)), by repeat (first | (with_reducible assumption) | (with_reducible refine blk_new_at ?_ _ _; first | (with_reducible rfl) | (simp; done)) | (with_reducible refine blk_alloc ?_ _) | (with_reducible refine blk_drew ?_) | (with_reducible apply blk_set) | (show Array.setIfInBounds _ _ _ = _; first | (simp; done) | (simp; rfl)) | (with_reducible refine blk_set_other ?_ ?_; omega)), by repeat (first | (with_reducible assumption) | (with_reducible refine blk_new_at ?_ _ _; first | (with_reducible rfl) | (simp; done)) | (with_reducible refine blk_alloc ?_ _) | (with_reducible refine blk_drew ?_) | (with_reducible apply blk_set) | (show Array.setIfInBounds _ _ _ = _; first | (simp; done) | (simp; rfl)) | (with_reducible refine blk_set_other ?_ ?_; omega)), by repeat (first | (with_reducible assumption) | (with_reducible refine blk_new_at ?_ _ _; first | (with_reducible rfl) | (simp; done)) | (with_reducible refine blk_alloc ?_ _) | (with_reducible refine blk_drew ?_) | (with_reducible apply blk_set) | (show Array.setIfInBounds _ _ _ = _; first | (simp; done) | (simp; rfl)) | (with_reducible refine blk_set_other ?_ ?_; omega)), by repeat (first | (with_reducible assumption) | (with_reducible refine blk_new_at ?_ _ _; first | (with_reducible rfl) | (simp; done)) | (with_reducible refine blk_alloc ?_ _) | (with_reducible refine blk_drew ?_) | (with_reducible apply blk_set) | (show Array.setIfInBounds _ _ _ = _; first | (simp; done) | (simp; rfl)) | (with_reducible refine blk_set_other ?_ ?_; omega)), by repeat (first | (with_reducible assumption) | (with_reducible refine blk_new_at ?_ _ _; first | (with_reducible rfl) | (simp; done)) | (with_reducible refine blk_alloc ?_ _) | (with_reducible refine blk_drew ?_) | (with_reducible apply blk_set) | (show Array.setIfInBounds _ _ _ = _; first | (simp; done) | (simp; rfl)) | (with_reducible refine blk_set_other ?_ ?_; omega)), by repeat (first | (with_reducible assumption) | (with_reducible refine blk_new_at ?_ _ _; first | (with_reducible rfl) | (simp; done)) | (with_reducible refine blk_alloc ?_ _) | (with_reducible refine blk_drew ?_) | (with_reducible apply blk_set) | (show Array.setIfInBounds _ _ _ = _; first | (simp; done) | (simp; rfl)) | (with_reducible refine blk_set_other ?_ ?_; omega))⟩ ?_
    rintro w6 ⟨hBl, hl0, hl1, hl2, hl3, hl4, hl5, hl6, hl7, hl8, hl9⟩
    have z6_r0 : w6.heap[w.heap.size]? = some (.cells #[.string a, .string i, .int .i64 s, .int .i64 o, .int .i64 l, .int .i64 t, .int .i64 k, .int .i64 n, .bool true, .int .i64 seen] 30 (0, 0)) := hl0
    have z6_r1 : w6.heap[w.heap.size + 1]? = some (.cells #[.string c.a, .string c.i, .int .i64 c.s, .int .i64 c.o, .int .i64 c.l, .int .i64 c.t, .int .i64 c.k, .int .i64 c.n, .bool c.g] 28 (0, 0)) := hl1
    have z6_r2 : w6.heap[w.heap.size + 1 + 1]? = some (.cells #[.int .i64 t2, .int .i64 k2, .int .i64 n2] 26 (0, 0)) := hl2
    have z6_r3 : w6.heap[w.heap.size + 1 + 1 + 1]? = some (.cells #[.string c.a, .string c.i, .int .i64 c.s, .int .i64 0, .int .i64 c.l, .int .i64 c.t, .int .i64 c.k, .int .i64 c.n, .bool false, .int .i64 now] 30 (0, 0)) := hl3
    have z6_r4 : w6.heap[w1.heap.size]? = some (.cells #[.string ⟨#[]⟩, .string ⟨#[]⟩, .int .i64 0, .int .i64 0, .int .i64 0, .int .i64 0, .int .i64 0, .int .i64 0, .bool false, .int .i64 0] 30 (0, 0)) := hl4
    have z6_r5 : w6.heap[w2.heap.size]? = some (.cells #[.string ⟨#[]⟩, .string ⟨#[]⟩, .int .i64 0, .int .i64 0, .int .i64 0, .int .i64 0, .int .i64 0, .int .i64 0, .bool false, .int .i64 0] 30 (0, 0)) := hl5
    have z6_r6 : w6.heap[w3.heap.size]? = some (.cells #[.string ⟨#[]⟩, .string ⟨#[]⟩, .int .i64 0, .int .i64 0, .int .i64 0, .int .i64 0, .int .i64 0, .int .i64 0, .bool false, .int .i64 0] 30 (0, 0)) := hl6
    have z6_r7 : w6.heap[b3]? = some (.cells #[.string a, .string i, .int .i64 s, .int .i64 o, .int .i64 l, .int .i64 t, .int .i64 k, .int .i64 n, .bool true, .int .i64 M] 30 (0, 0)) := hl7
    have z6_r8 : w6.heap[b4]? = some (.cells #[.string a, .string i, .int .i64 s, .int .i64 o, .int .i64 l, .int .i64 t, .int .i64 k, .int .i64 n, .bool true, .int .i64 seen] 30 (0, 0)) := hl8
    have z6_r9 : w6.heap[b5]? = some (.cells #[.string a, .string i, .int .i64 s, .int .i64 o, .int .i64 l, .int .i64 t, .int .i64 k, .int .i64 n, .bool true, .int .i64 seen] 30 (0, 0)) := hl9
    have z6_B : Below w.heap.size w w6 := hBl
    have z6_z := z6_B.size
    clear z5_B z5_z z5_c0 z5_l0 z5_k0_0 z5_k0_1 z5_c1 z5_l1 z5_k1_0 z5_k1_1 z5_c2 z5_l2 z5_k2_0 z5_k2_1 z5_c3 z5_l3 z5_k3_0 z5_k3_1 z5_c4 z5_l4 z5_k4_0 z5_k4_1 z5_c5 z5_l5 z5_k5_0 z5_k5_1 z5_c6 z5_l6 z5_k6_0 z5_k6_1 z5_c7 z5_l7 z5_f7 z5_k7_0 z5_k7_1 z5_c8 z5_l8 z5_k8_0 z5_k8_1 z5_c9 z5_l9 z5_k9_0 z5_k9_1 z5_h0 z5_h1 z5_h2 z5_h3 z5_h4 z5_h5 z5_h6 z5_h7 z5_h8 z5_h9 z5_s0 z5_s1 z5_s2 z5_s3 z5_s4 z5_s5 z5_s6 z5_s7 z5_s8 z5_s9 hBl hl0 hl1 hl2 hl3 hl4 hl5 hl6 hl7 hl8 hl9
    have z6_c0 := blk_cell z6_r0
    have z6_l0 := blk_lt z6_r0
    have z6_k0_0 : w.heap.size ≤ w6.heap.size := by omega
    have z6_k0_1 : w.heap.size ≤ w6.heap.size + 1 := by omega
    have z6_c1 := blk_cell z6_r1
    have z6_l1 := blk_lt z6_r1
    have z6_k1_0 : w.heap.size + 1 ≤ w6.heap.size := by omega
    have z6_k1_1 : w.heap.size + 1 ≤ w6.heap.size + 1 := by omega
    have z6_c2 := blk_cell z6_r2
    have z6_l2 := blk_lt z6_r2
    have z6_k2_0 : w.heap.size + 1 + 1 ≤ w6.heap.size := by omega
    have z6_k2_1 : w.heap.size + 1 + 1 ≤ w6.heap.size + 1 := by omega
    have z6_c3 := blk_cell z6_r3
    have z6_l3 := blk_lt z6_r3
    have z6_k3_0 : w.heap.size + 1 + 1 + 1 ≤ w6.heap.size := by omega
    have z6_k3_1 : w.heap.size + 1 + 1 + 1 ≤ w6.heap.size + 1 := by omega
    have z6_c4 := blk_cell z6_r4
    have z6_l4 := blk_lt z6_r4
    have z6_k4_0 : w1.heap.size ≤ w6.heap.size := by omega
    have z6_k4_1 : w1.heap.size ≤ w6.heap.size + 1 := by omega
    have z6_c5 := blk_cell z6_r5
    have z6_l5 := blk_lt z6_r5
    have z6_k5_0 : w2.heap.size ≤ w6.heap.size := by omega
    have z6_k5_1 : w2.heap.size ≤ w6.heap.size + 1 := by omega
    have z6_c6 := blk_cell z6_r6
    have z6_l6 := blk_lt z6_r6
    have z6_k6_0 : w3.heap.size ≤ w6.heap.size := by omega
    have z6_k6_1 : w3.heap.size ≤ w6.heap.size + 1 := by omega
    have z6_c7 := blk_cell z6_r7
    have z6_l7 := blk_lt z6_r7
    have z6_k7_0 : b3 ≤ w6.heap.size := by omega
    have z6_k7_1 : b3 ≤ w6.heap.size + 1 := by omega
    have z6_c8 := blk_cell z6_r8
    have z6_l8 := blk_lt z6_r8
    have z6_f8 := blk_free z6_r8
    have z6_k8_0 : b4 ≤ w6.heap.size := by omega
    have z6_k8_1 : b4 ≤ w6.heap.size + 1 := by omega
    have z6_c9 := blk_cell z6_r9
    have z6_l9 := blk_lt z6_r9
    have z6_k9_0 : b5 ≤ w6.heap.size := by omega
    have z6_k9_1 : b5 ≤ w6.heap.size + 1 := by omega
    have z6_h0 := Lib.hid z6_r0
    have z6_h1 := Lib.hid z6_r1
    have z6_h2 := Lib.hid z6_r2
    have z6_h3 := Lib.hid z6_r3
    have z6_h4 := Lib.hid z6_r4
    have z6_h5 := Lib.hid z6_r5
    have z6_h6 := Lib.hid z6_r6
    have z6_h7 := Lib.hid z6_r7
    have z6_h8 := Lib.hid z6_r8
    have z6_h9 := Lib.hid z6_r9
    clear z6_r0 z6_r1 z6_r2 z6_r3 z6_r4 z6_r5 z6_r6 z6_r7 z6_r8 z6_r9
    refine wp_region_inv_eq (J := fun A d act x => ∃ u72 u73 u74 u75 u76 u77 u78 : Value, act = (((((((A.put (some 72) u72).put (some 73) u73).put (some 74) u74).put (some 75) u75).put (some 76) u76).put (some 77) u77).put (some 78) u78) ∧ (d 0 = true → u72 = .agg #[.int .i64 t2, .int .i64 k2, .int .i64 n2]) ∧ (d 1 = true → u73 = .int .i64 now) ∧ (d 2 = true → u74 = .pointer (some ⟨b4, 0, none⟩)) ∧ (d 3 = true → u75 = .pointer (some ⟨b4, 8, none⟩)) ∧ (d 5 = true → u76 = .pointer (some ⟨b4, 0, none⟩)) ∧ (d 6 = true → u77 = .pointer (some ⟨b4, 5, none⟩)) ∧ (d 8 = true → u78 = .pointer (some ⟨b4, 9, none⟩)) ∧ Kept b4 w6 x ∧ ∃ y5 y6 y7 y8 y9 : Value, x.heap[b4]? = some (.cells #[.string a, .string i, .int .i64 s, .int .i64 o, .int .i64 l, y5, y6, y7, y8, y9] 30 (0, 0)) ∧ (d 4 = true → y8 = .bool true) ∧ (d 7 = true → y5 = .int .i64 t2 ∧ y6 = .int .i64 k2 ∧ y7 = .int .i64 n2) ∧ (d 9 = true → y9 = .int .i64 now)) (by simp only [Act.put, List.setIfInBounds_toArray, List.set_cons_succ, List.set_cons_zero]; rfl) (by kernel_rfl) (by kernel_rfl) ?_ ?_ ?_
    · refine ⟨_, _, _, _, _, _, _, rfl, ?_, ?_, ?_, ?_, ?_, ?_, ?_, ?_, ?_⟩
      · intro h; cases h
      · intro h; cases h
      · intro h; cases h
      · intro h; cases h
      · intro h; cases h
      · intro h; cases h
      · intro h; cases h
      · exact (Kept.refl _ _).drew
      · exact ⟨_, _, _, _, _, blk_drew z6_h8.out, (fun h => by cases h), (fun h => by cases h), (fun h => by cases h)⟩
    · refine stepsOk_cons (k := 0) ?_ (stepsOk_cons (k := 1) ?_ (stepsOk_cons (k := 2) ?_ (stepsOk_cons (k := 3) ?_ (stepsOk_cons (k := 4) ?_ (stepsOk_cons (k := 5) ?_ (stepsOk_cons (k := 6) ?_ (stepsOk_cons (k := 7) ?_ (stepsOk_cons (k := 8) ?_ (stepsOk_cons (k := 9) ?_ stepsOk_nil)))))))))
      · unfold StepOk
        rintro d act x ⟨u72, u73, u74, u75, u76, u77, u78, rfl, f0, f1, f2, f3, f5, f6, f8, g0, g1⟩ hd hdep Kc hKc
        have hx := blk_cell ((g0.block _ (by omega)).trans z6_h2.out)
        rw [if_pos (by rfl)]
        go_big_op
        refine hKc _ _ ⟨_, _, _, _, _, _, _, rfl, ?_, ?_, ?_, ?_, ?_, ?_, ?_, ?_, ?_⟩
        · exact (fun _ => rfl)
        · exact (fun h => f1 (up h rfl))
        · exact (fun h => f2 (up h rfl))
        · exact (fun h => f3 (up h rfl))
        · exact (fun h => f5 (up h rfl))
        · exact (fun h => f6 (up h rfl))
        · exact (fun h => f8 (up h rfl))
        · exact g0
        · exact (by obtain ⟨y5, y6, y7, y8, y9, e, p4, p7, p9⟩ := g1; exact ⟨y5, y6, y7, y8, y9, e, (fun h => p4 (up h rfl)), (fun h => p7 (up h rfl)), (fun h => p9 (up h rfl))⟩)
      · unfold StepOk
        rintro d act x ⟨u72, u73, u74, u75, u76, u77, u78, rfl, f0, f1, f2, f3, f5, f6, f8, g0, g1⟩ hd hdep Kc hKc
        rw [if_pos (by rfl)]
        go_big_op
        refine hKc _ _ ⟨_, _, _, _, _, _, _, rfl, ?_, ?_, ?_, ?_, ?_, ?_, ?_, ?_, ?_⟩
        · exact (fun h => f0 (up h rfl))
        · exact (fun _ => rfl)
        · exact (fun h => f2 (up h rfl))
        · exact (fun h => f3 (up h rfl))
        · exact (fun h => f5 (up h rfl))
        · exact (fun h => f6 (up h rfl))
        · exact (fun h => f8 (up h rfl))
        · exact g0
        · exact (by obtain ⟨y5, y6, y7, y8, y9, e, p4, p7, p9⟩ := g1; exact ⟨y5, y6, y7, y8, y9, e, (fun h => p4 (up h rfl)), (fun h => p7 (up h rfl)), (fun h => p9 (up h rfl))⟩)
      · unfold StepOk
        rintro d act x ⟨u72, u73, u74, u75, u76, u77, u78, rfl, f0, f1, f2, f3, f5, f6, f8, g0, g1⟩ hd hdep Kc hKc
        rw [if_pos (by rfl)]
        go_big_op
        refine hKc _ _ ⟨_, _, _, _, _, _, _, rfl, ?_, ?_, ?_, ?_, ?_, ?_, ?_, ?_, ?_⟩
        · exact (fun h => f0 (up h rfl))
        · exact (fun h => f1 (up h rfl))
        · exact (fun _ => rfl)
        · exact (fun h => f3 (up h rfl))
        · exact (fun h => f5 (up h rfl))
        · exact (fun h => f6 (up h rfl))
        · exact (fun h => f8 (up h rfl))
        · exact g0
        · exact (by obtain ⟨y5, y6, y7, y8, y9, e, p4, p7, p9⟩ := g1; exact ⟨y5, y6, y7, y8, y9, e, (fun h => p4 (up h rfl)), (fun h => p7 (up h rfl)), (fun h => p9 (up h rfl))⟩)
      · unfold StepOk
        rintro d act x ⟨u72, u73, u74, u75, u76, u77, u78, rfl, f0, f1, f2, f3, f5, f6, f8, g0, g1⟩ hd hdep Kc hKc
        have hd2 : d 2 = true := hdep ⟨2, .data⟩ (by simp) rfl
        obtain rfl := f2 hd2
        rw [if_pos (by rfl)]
        go_big_op
        refine hKc _ _ ⟨_, _, _, _, _, _, _, rfl, ?_, ?_, ?_, ?_, ?_, ?_, ?_, ?_, ?_⟩
        · exact (fun h => f0 (up h rfl))
        · exact (fun h => f1 (up h rfl))
        · exact (fun h => f2 (up h rfl))
        · exact (fun _ => rfl)
        · exact (fun h => f5 (up h rfl))
        · exact (fun h => f6 (up h rfl))
        · exact (fun h => f8 (up h rfl))
        · exact g0
        · exact (by obtain ⟨y5, y6, y7, y8, y9, e, p4, p7, p9⟩ := g1; exact ⟨y5, y6, y7, y8, y9, e, (fun h => p4 (up h rfl)), (fun h => p7 (up h rfl)), (fun h => p9 (up h rfl))⟩)
      · unfold StepOk
        rintro d act x ⟨u72, u73, u74, u75, u76, u77, u78, rfl, f0, f1, f2, f3, f5, f6, f8, g0, g1⟩ hd hdep Kc hKc
        have hd3 : d 3 = true := hdep ⟨3, .data⟩ (by simp) rfl
        obtain rfl := f3 hd3
        obtain ⟨y5, y6, y7, y8, y9, e, p4, p7, p9⟩ := g1
        have hbc := blk_cell e
        have hbf := blk_free e
        have hbl2 := blk_lt e
        rw [if_pos (by rfl)]
        go_big_op
        have hkp : Kept b4 w6 (x.setCell ⟨b4, 8, none⟩ (.bool true)) := (g0.setCell _ _)
        have RB : (x.setCell ⟨b4, 8, none⟩ (.bool true)).heap[b4]? = some (.cells #[.string a, .string i, .int .i64 s, .int .i64 o, .int .i64 l, y5, y6, y7, .bool true, y9] 30 (0, 0)) := by repeat (first | (with_reducible assumption) | (with_reducible refine blk_new_at ?_ _ _; first | (with_reducible rfl) | (simp; done)) | (with_reducible refine blk_alloc ?_ _) | (with_reducible refine blk_drew ?_) | (with_reducible apply blk_set) | (show Array.setIfInBounds _ _ _ = _; first | (simp; done) | (simp; rfl)) | (with_reducible refine blk_set_other ?_ ?_; omega))
        generalize (x.setCell ⟨b4, 8, none⟩ (.bool true)) = X at *
        refine hKc _ _ ⟨_, _, _, _, _, _, _, rfl, ?_, ?_, ?_, ?_, ?_, ?_, ?_, ?_, ?_⟩
        · exact (fun h => f0 (up h rfl))
        · exact (fun h => f1 (up h rfl))
        · exact (fun h => f2 (up h rfl))
        · exact (fun h => f3 (up h rfl))
        · exact (fun h => f5 (up h rfl))
        · exact (fun h => f6 (up h rfl))
        · exact (fun h => f8 (up h rfl))
        · exact hkp
        · exact ⟨_, _, _, _, _, RB, (fun _ => rfl), (fun h => p7 (up h rfl)), (fun h => p9 (up h rfl))⟩
      · unfold StepOk
        rintro d act x ⟨u72, u73, u74, u75, u76, u77, u78, rfl, f0, f1, f2, f3, f5, f6, f8, g0, g1⟩ hd hdep Kc hKc
        rw [if_pos (by rfl)]
        go_big_op
        refine hKc _ _ ⟨_, _, _, _, _, _, _, rfl, ?_, ?_, ?_, ?_, ?_, ?_, ?_, ?_, ?_⟩
        · exact (fun h => f0 (up h rfl))
        · exact (fun h => f1 (up h rfl))
        · exact (fun h => f2 (up h rfl))
        · exact (fun h => f3 (up h rfl))
        · exact (fun _ => rfl)
        · exact (fun h => f6 (up h rfl))
        · exact (fun h => f8 (up h rfl))
        · exact g0
        · exact (by obtain ⟨y5, y6, y7, y8, y9, e, p4, p7, p9⟩ := g1; exact ⟨y5, y6, y7, y8, y9, e, (fun h => p4 (up h rfl)), (fun h => p7 (up h rfl)), (fun h => p9 (up h rfl))⟩)
      · unfold StepOk
        rintro d act x ⟨u72, u73, u74, u75, u76, u77, u78, rfl, f0, f1, f2, f3, f5, f6, f8, g0, g1⟩ hd hdep Kc hKc
        have hd5 : d 5 = true := hdep ⟨5, .data⟩ (by simp) rfl
        obtain rfl := f5 hd5
        rw [if_pos (by rfl)]
        go_big_op
        refine hKc _ _ ⟨_, _, _, _, _, _, _, rfl, ?_, ?_, ?_, ?_, ?_, ?_, ?_, ?_, ?_⟩
        · exact (fun h => f0 (up h rfl))
        · exact (fun h => f1 (up h rfl))
        · exact (fun h => f2 (up h rfl))
        · exact (fun h => f3 (up h rfl))
        · exact (fun h => f5 (up h rfl))
        · exact (fun _ => rfl)
        · exact (fun h => f8 (up h rfl))
        · exact g0
        · exact (by obtain ⟨y5, y6, y7, y8, y9, e, p4, p7, p9⟩ := g1; exact ⟨y5, y6, y7, y8, y9, e, (fun h => p4 (up h rfl)), (fun h => p7 (up h rfl)), (fun h => p9 (up h rfl))⟩)
      · unfold StepOk
        rintro d act x ⟨u72, u73, u74, u75, u76, u77, u78, rfl, f0, f1, f2, f3, f5, f6, f8, g0, g1⟩ hd hdep Kc hKc
        have hd6 : d 6 = true := hdep ⟨6, .data⟩ (by simp) rfl
        have hd0 : d 0 = true := hdep ⟨0, .data⟩ (by simp) rfl
        have hd0 : d 0 = true := hdep ⟨0, .phase⟩ (by simp) rfl
        obtain rfl := f6 hd6
        obtain rfl := f0 hd0
        obtain ⟨y5, y6, y7, y8, y9, e, p4, p7, p9⟩ := g1
        have hbc := blk_cell e
        have hbf := blk_free e
        have hbl2 := blk_lt e
        rw [if_pos (by rfl)]
        go_big_op
        have hkp : Kept b4 w6 (((x.setCell ⟨b4, 5, none⟩ (.int .i64 t2)).setCell ⟨b4, 6, none⟩ (.int .i64 k2)).setCell ⟨b4, 7, none⟩ (.int .i64 n2)) := (((g0.setCell _ _).setCell _ _).setCell _ _)
        have RB : (((x.setCell ⟨b4, 5, none⟩ (.int .i64 t2)).setCell ⟨b4, 6, none⟩ (.int .i64 k2)).setCell ⟨b4, 7, none⟩ (.int .i64 n2)).heap[b4]? = some (.cells #[.string a, .string i, .int .i64 s, .int .i64 o, .int .i64 l, .int .i64 t2, .int .i64 k2, .int .i64 n2, y8, y9] 30 (0, 0)) := by repeat (first | (with_reducible assumption) | (with_reducible refine blk_new_at ?_ _ _; first | (with_reducible rfl) | (simp; done)) | (with_reducible refine blk_alloc ?_ _) | (with_reducible refine blk_drew ?_) | (with_reducible apply blk_set) | (show Array.setIfInBounds _ _ _ = _; first | (simp; done) | (simp; rfl)) | (with_reducible refine blk_set_other ?_ ?_; omega))
        generalize (((x.setCell ⟨b4, 5, none⟩ (.int .i64 t2)).setCell ⟨b4, 6, none⟩ (.int .i64 k2)).setCell ⟨b4, 7, none⟩ (.int .i64 n2)) = X at *
        refine hKc _ _ ⟨_, _, _, _, _, _, _, rfl, ?_, ?_, ?_, ?_, ?_, ?_, ?_, ?_, ?_⟩
        · exact (fun h => f0 (up h rfl))
        · exact (fun h => f1 (up h rfl))
        · exact (fun h => f2 (up h rfl))
        · exact (fun h => f3 (up h rfl))
        · exact (fun h => f5 (up h rfl))
        · exact (fun h => f6 (up h rfl))
        · exact (fun h => f8 (up h rfl))
        · exact hkp
        · exact ⟨_, _, _, _, _, RB, (fun h => p4 (up h rfl)), (fun _ => ⟨rfl, rfl, rfl⟩), (fun h => p9 (up h rfl))⟩
      · unfold StepOk
        rintro d act x ⟨u72, u73, u74, u75, u76, u77, u78, rfl, f0, f1, f2, f3, f5, f6, f8, g0, g1⟩ hd hdep Kc hKc
        rw [if_pos (by rfl)]
        go_big_op
        refine hKc _ _ ⟨_, _, _, _, _, _, _, rfl, ?_, ?_, ?_, ?_, ?_, ?_, ?_, ?_, ?_⟩
        · exact (fun h => f0 (up h rfl))
        · exact (fun h => f1 (up h rfl))
        · exact (fun h => f2 (up h rfl))
        · exact (fun h => f3 (up h rfl))
        · exact (fun h => f5 (up h rfl))
        · exact (fun h => f6 (up h rfl))
        · exact (fun _ => rfl)
        · exact g0
        · exact (by obtain ⟨y5, y6, y7, y8, y9, e, p4, p7, p9⟩ := g1; exact ⟨y5, y6, y7, y8, y9, e, (fun h => p4 (up h rfl)), (fun h => p7 (up h rfl)), (fun h => p9 (up h rfl))⟩)
      · unfold StepOk
        rintro d act x ⟨u72, u73, u74, u75, u76, u77, u78, rfl, f0, f1, f2, f3, f5, f6, f8, g0, g1⟩ hd hdep Kc hKc
        have hd8 : d 8 = true := hdep ⟨8, .data⟩ (by simp) rfl
        have hd1 : d 1 = true := hdep ⟨1, .data⟩ (by simp) rfl
        have hd1 : d 1 = true := hdep ⟨1, .phase⟩ (by simp) rfl
        obtain rfl := f8 hd8
        obtain rfl := f1 hd1
        obtain ⟨y5, y6, y7, y8, y9, e, p4, p7, p9⟩ := g1
        have hbc := blk_cell e
        have hbf := blk_free e
        have hbl2 := blk_lt e
        rw [if_pos (by rfl)]
        go_big_op
        have hkp : Kept b4 w6 (x.setCell ⟨b4, 9, none⟩ (.int .i64 now)) := (g0.setCell _ _)
        have RB : (x.setCell ⟨b4, 9, none⟩ (.int .i64 now)).heap[b4]? = some (.cells #[.string a, .string i, .int .i64 s, .int .i64 o, .int .i64 l, y5, y6, y7, y8, .int .i64 now] 30 (0, 0)) := by repeat (first | (with_reducible assumption) | (with_reducible refine blk_new_at ?_ _ _; first | (with_reducible rfl) | (simp; done)) | (with_reducible refine blk_alloc ?_ _) | (with_reducible refine blk_drew ?_) | (with_reducible apply blk_set) | (show Array.setIfInBounds _ _ _ = _; first | (simp; done) | (simp; rfl)) | (with_reducible refine blk_set_other ?_ ?_; omega))
        generalize (x.setCell ⟨b4, 9, none⟩ (.int .i64 now)) = X at *
        refine hKc _ _ ⟨_, _, _, _, _, _, _, rfl, ?_, ?_, ?_, ?_, ?_, ?_, ?_, ?_, ?_⟩
        · exact (fun h => f0 (up h rfl))
        · exact (fun h => f1 (up h rfl))
        · exact (fun h => f2 (up h rfl))
        · exact (fun h => f3 (up h rfl))
        · exact (fun h => f5 (up h rfl))
        · exact (fun h => f6 (up h rfl))
        · exact (fun h => f8 (up h rfl))
        · exact hkp
        · exact ⟨_, _, _, _, _, RB, (fun h => p4 (up h rfl)), (fun h => p7 (up h rfl)), (fun _ => rfl)⟩
    · rintro d act x ⟨u72, u73, u74, u75, u76, u77, u78, rfl, f0, f1, f2, f3, f5, f6, f8, g0, g1⟩ hall
      obtain ⟨y5, y6, y7, y8, y9, hbn, p4, p7, p9⟩ := g1
      obtain rfl := p4 (hall 4 (by decide))
      obtain ⟨rfl, rfl, rfl⟩ := p7 (hall 7 (by decide))
      obtain rfl := p9 (hall 9 (by decide))
      clear f0 f1 f2 f3 f5 f6 f8 hall
      have z7_r0 : x.heap[w.heap.size]? = some (.cells #[.string a, .string i, .int .i64 s, .int .i64 o, .int .i64 l, .int .i64 t, .int .i64 k, .int .i64 n, .bool true, .int .i64 seen] 30 (0, 0)) := (g0.block _ (by omega)).trans z6_h0.out
      have z7_r1 : x.heap[w.heap.size + 1]? = some (.cells #[.string c.a, .string c.i, .int .i64 c.s, .int .i64 c.o, .int .i64 c.l, .int .i64 c.t, .int .i64 c.k, .int .i64 c.n, .bool c.g] 28 (0, 0)) := (g0.block _ (by omega)).trans z6_h1.out
      have z7_r2 : x.heap[w.heap.size + 1 + 1]? = some (.cells #[.int .i64 t2, .int .i64 k2, .int .i64 n2] 26 (0, 0)) := (g0.block _ (by omega)).trans z6_h2.out
      have z7_r3 : x.heap[w.heap.size + 1 + 1 + 1]? = some (.cells #[.string c.a, .string c.i, .int .i64 c.s, .int .i64 0, .int .i64 c.l, .int .i64 c.t, .int .i64 c.k, .int .i64 c.n, .bool false, .int .i64 now] 30 (0, 0)) := (g0.block _ (by omega)).trans z6_h3.out
      have z7_r4 : x.heap[w1.heap.size]? = some (.cells #[.string ⟨#[]⟩, .string ⟨#[]⟩, .int .i64 0, .int .i64 0, .int .i64 0, .int .i64 0, .int .i64 0, .int .i64 0, .bool false, .int .i64 0] 30 (0, 0)) := (g0.block _ (by omega)).trans z6_h4.out
      have z7_r5 : x.heap[w2.heap.size]? = some (.cells #[.string ⟨#[]⟩, .string ⟨#[]⟩, .int .i64 0, .int .i64 0, .int .i64 0, .int .i64 0, .int .i64 0, .int .i64 0, .bool false, .int .i64 0] 30 (0, 0)) := (g0.block _ (by omega)).trans z6_h5.out
      have z7_r6 : x.heap[w3.heap.size]? = some (.cells #[.string ⟨#[]⟩, .string ⟨#[]⟩, .int .i64 0, .int .i64 0, .int .i64 0, .int .i64 0, .int .i64 0, .int .i64 0, .bool false, .int .i64 0] 30 (0, 0)) := (g0.block _ (by omega)).trans z6_h6.out
      have z7_r7 : x.heap[b3]? = some (.cells #[.string a, .string i, .int .i64 s, .int .i64 o, .int .i64 l, .int .i64 t, .int .i64 k, .int .i64 n, .bool true, .int .i64 M] 30 (0, 0)) := (g0.block _ (by omega)).trans z6_h7.out
      have z7_r8 : x.heap[b4]? = some (.cells #[.string a, .string i, .int .i64 s, .int .i64 o, .int .i64 l, .int .i64 t2, .int .i64 k2, .int .i64 n2, .bool true, .int .i64 now] 30 (0, 0)) := hbn
      have z7_r9 : x.heap[b5]? = some (.cells #[.string a, .string i, .int .i64 s, .int .i64 o, .int .i64 l, .int .i64 t, .int .i64 k, .int .i64 n, .bool true, .int .i64 seen] 30 (0, 0)) := (g0.block _ (by omega)).trans z6_h9.out
      have z7_B : Below w.heap.size w x := z6_B.trans (g0.below (by omega))
      have z7_z := z7_B.size
      clear z6_B z6_z z6_c0 z6_l0 z6_k0_0 z6_k0_1 z6_c1 z6_l1 z6_k1_0 z6_k1_1 z6_c2 z6_l2 z6_k2_0 z6_k2_1 z6_c3 z6_l3 z6_k3_0 z6_k3_1 z6_c4 z6_l4 z6_k4_0 z6_k4_1 z6_c5 z6_l5 z6_k5_0 z6_k5_1 z6_c6 z6_l6 z6_k6_0 z6_k6_1 z6_c7 z6_l7 z6_k7_0 z6_k7_1 z6_c8 z6_l8 z6_f8 z6_k8_0 z6_k8_1 z6_c9 z6_l9 z6_k9_0 z6_k9_1 z6_h0 z6_h1 z6_h2 z6_h3 z6_h4 z6_h5 z6_h6 z6_h7 z6_h8 z6_h9 hbn
      have z7_c0 := blk_cell z7_r0
      have z7_l0 := blk_lt z7_r0
      have z7_k0_0 : w.heap.size ≤ x.heap.size := by omega
      have z7_k0_1 : w.heap.size ≤ x.heap.size + 1 := by omega
      have z7_c1 := blk_cell z7_r1
      have z7_l1 := blk_lt z7_r1
      have z7_k1_0 : w.heap.size + 1 ≤ x.heap.size := by omega
      have z7_k1_1 : w.heap.size + 1 ≤ x.heap.size + 1 := by omega
      have z7_c2 := blk_cell z7_r2
      have z7_l2 := blk_lt z7_r2
      have z7_k2_0 : w.heap.size + 1 + 1 ≤ x.heap.size := by omega
      have z7_k2_1 : w.heap.size + 1 + 1 ≤ x.heap.size + 1 := by omega
      have z7_c3 := blk_cell z7_r3
      have z7_l3 := blk_lt z7_r3
      have z7_k3_0 : w.heap.size + 1 + 1 + 1 ≤ x.heap.size := by omega
      have z7_k3_1 : w.heap.size + 1 + 1 + 1 ≤ x.heap.size + 1 := by omega
      have z7_c4 := blk_cell z7_r4
      have z7_l4 := blk_lt z7_r4
      have z7_k4_0 : w1.heap.size ≤ x.heap.size := by omega
      have z7_k4_1 : w1.heap.size ≤ x.heap.size + 1 := by omega
      have z7_c5 := blk_cell z7_r5
      have z7_l5 := blk_lt z7_r5
      have z7_k5_0 : w2.heap.size ≤ x.heap.size := by omega
      have z7_k5_1 : w2.heap.size ≤ x.heap.size + 1 := by omega
      have z7_c6 := blk_cell z7_r6
      have z7_l6 := blk_lt z7_r6
      have z7_k6_0 : w3.heap.size ≤ x.heap.size := by omega
      have z7_k6_1 : w3.heap.size ≤ x.heap.size + 1 := by omega
      have z7_c7 := blk_cell z7_r7
      have z7_l7 := blk_lt z7_r7
      have z7_k7_0 : b3 ≤ x.heap.size := by omega
      have z7_k7_1 : b3 ≤ x.heap.size + 1 := by omega
      have z7_c8 := blk_cell z7_r8
      have z7_l8 := blk_lt z7_r8
      have z7_k8_0 : b4 ≤ x.heap.size := by omega
      have z7_k8_1 : b4 ≤ x.heap.size + 1 := by omega
      have z7_c9 := blk_cell z7_r9
      have z7_l9 := blk_lt z7_r9
      have z7_k9_0 : b5 ≤ x.heap.size := by omega
      have z7_k9_1 : b5 ≤ x.heap.size + 1 := by omega
      have z7_h0 := Lib.hid z7_r0
      have z7_h1 := Lib.hid z7_r1
      have z7_h2 := Lib.hid z7_r2
      have z7_h3 := Lib.hid z7_r3
      have z7_h4 := Lib.hid z7_r4
      have z7_h5 := Lib.hid z7_r5
      have z7_h6 := Lib.hid z7_r6
      have z7_h7 := Lib.hid z7_r7
      have z7_h8 := Lib.hid z7_r8
      have z7_h9 := Lib.hid z7_r9
      clear z7_r0 z7_r1 z7_r2 z7_r3 z7_r4 z7_r5 z7_r6 z7_r7 z7_r8 z7_r9
      obtain ⟨w7, rfl⟩ : ∃ y, y = x := ⟨_, rfl⟩
      go_upto_region 11 with fail
      refine wp_region_inv_eq (J := fun A d act x => ∃ u79 u80 u81 u82 u83 u84 : Value, act = ((((((A.put (some 79) u79).put (some 80) u80).put (some 81) u81).put (some 82) u82).put (some 83) u83).put (some 84) u84) ∧ (d 0 = true → u79 = .int .i64 ov) ∧ (d 1 = true → u80 = .agg #[.int .i64 t2, .int .i64 k2, .int .i64 n2]) ∧ (d 2 = true → u81 = .pointer (some ⟨b5, 0, none⟩)) ∧ (d 3 = true → u82 = .pointer (some ⟨b5, 3, none⟩)) ∧ (d 5 = true → u83 = .pointer (some ⟨b5, 0, none⟩)) ∧ (d 6 = true → u84 = .pointer (some ⟨b5, 5, none⟩)) ∧ Kept b5 w7 x ∧ ∃ y3 y5 y6 y7 : Value, x.heap[b5]? = some (.cells #[.string a, .string i, .int .i64 s, y3, .int .i64 l, y5, y6, y7, .bool true, .int .i64 seen] 30 (0, 0)) ∧ (d 4 = true → y3 = .int .i64 ov) ∧ (d 7 = true → y5 = .int .i64 t2 ∧ y6 = .int .i64 k2 ∧ y7 = .int .i64 n2)) (by simp only [Act.put, List.setIfInBounds_toArray, List.set_cons_succ, List.set_cons_zero]; rfl) (by kernel_rfl) (by kernel_rfl) ?_ ?_ ?_
      · refine ⟨_, _, _, _, _, _, rfl, ?_, ?_, ?_, ?_, ?_, ?_, ?_, ?_⟩
        · intro h; cases h
        · intro h; cases h
        · intro h; cases h
        · intro h; cases h
        · intro h; cases h
        · intro h; cases h
        · exact (Kept.refl _ _).drew
        · exact ⟨_, _, _, _, blk_drew z7_h9.out, (fun h => by cases h), (fun h => by cases h)⟩
      · refine stepsOk_cons (k := 0) ?_ (stepsOk_cons (k := 1) ?_ (stepsOk_cons (k := 2) ?_ (stepsOk_cons (k := 3) ?_ (stepsOk_cons (k := 4) ?_ (stepsOk_cons (k := 5) ?_ (stepsOk_cons (k := 6) ?_ (stepsOk_cons (k := 7) ?_ stepsOk_nil)))))))
        · unfold StepOk
          rintro d act x ⟨u79, u80, u81, u82, u83, u84, rfl, f0, f1, f2, f3, f5, f6, g0, g1⟩ hd hdep Kc hKc
          rw [if_pos (by rfl)]
          go_big_op
          refine hKc _ _ ⟨_, _, _, _, _, _, rfl, ?_, ?_, ?_, ?_, ?_, ?_, ?_, ?_⟩
          · exact (fun _ => rfl)
          · exact (fun h => f1 (up h rfl))
          · exact (fun h => f2 (up h rfl))
          · exact (fun h => f3 (up h rfl))
          · exact (fun h => f5 (up h rfl))
          · exact (fun h => f6 (up h rfl))
          · exact g0
          · exact (by obtain ⟨y3, y5, y6, y7, e, p4, p7⟩ := g1; exact ⟨y3, y5, y6, y7, e, (fun h => p4 (up h rfl)), (fun h => p7 (up h rfl))⟩)
        · unfold StepOk
          rintro d act x ⟨u79, u80, u81, u82, u83, u84, rfl, f0, f1, f2, f3, f5, f6, g0, g1⟩ hd hdep Kc hKc
          have hx := blk_cell ((g0.block _ (by omega)).trans z7_h2.out)
          rw [if_pos (by rfl)]
          go_big_op
          refine hKc _ _ ⟨_, _, _, _, _, _, rfl, ?_, ?_, ?_, ?_, ?_, ?_, ?_, ?_⟩
          · exact (fun h => f0 (up h rfl))
          · exact (fun _ => rfl)
          · exact (fun h => f2 (up h rfl))
          · exact (fun h => f3 (up h rfl))
          · exact (fun h => f5 (up h rfl))
          · exact (fun h => f6 (up h rfl))
          · exact g0
          · exact (by obtain ⟨y3, y5, y6, y7, e, p4, p7⟩ := g1; exact ⟨y3, y5, y6, y7, e, (fun h => p4 (up h rfl)), (fun h => p7 (up h rfl))⟩)
        · unfold StepOk
          rintro d act x ⟨u79, u80, u81, u82, u83, u84, rfl, f0, f1, f2, f3, f5, f6, g0, g1⟩ hd hdep Kc hKc
          rw [if_pos (by rfl)]
          go_big_op
          refine hKc _ _ ⟨_, _, _, _, _, _, rfl, ?_, ?_, ?_, ?_, ?_, ?_, ?_, ?_⟩
          · exact (fun h => f0 (up h rfl))
          · exact (fun h => f1 (up h rfl))
          · exact (fun _ => rfl)
          · exact (fun h => f3 (up h rfl))
          · exact (fun h => f5 (up h rfl))
          · exact (fun h => f6 (up h rfl))
          · exact g0
          · exact (by obtain ⟨y3, y5, y6, y7, e, p4, p7⟩ := g1; exact ⟨y3, y5, y6, y7, e, (fun h => p4 (up h rfl)), (fun h => p7 (up h rfl))⟩)
        · unfold StepOk
          rintro d act x ⟨u79, u80, u81, u82, u83, u84, rfl, f0, f1, f2, f3, f5, f6, g0, g1⟩ hd hdep Kc hKc
          have hd2 : d 2 = true := hdep ⟨2, .data⟩ (by simp) rfl
          obtain rfl := f2 hd2
          rw [if_pos (by rfl)]
          go_big_op
          refine hKc _ _ ⟨_, _, _, _, _, _, rfl, ?_, ?_, ?_, ?_, ?_, ?_, ?_, ?_⟩
          · exact (fun h => f0 (up h rfl))
          · exact (fun h => f1 (up h rfl))
          · exact (fun h => f2 (up h rfl))
          · exact (fun _ => rfl)
          · exact (fun h => f5 (up h rfl))
          · exact (fun h => f6 (up h rfl))
          · exact g0
          · exact (by obtain ⟨y3, y5, y6, y7, e, p4, p7⟩ := g1; exact ⟨y3, y5, y6, y7, e, (fun h => p4 (up h rfl)), (fun h => p7 (up h rfl))⟩)
        · unfold StepOk
          rintro d act x ⟨u79, u80, u81, u82, u83, u84, rfl, f0, f1, f2, f3, f5, f6, g0, g1⟩ hd hdep Kc hKc
          have hd3 : d 3 = true := hdep ⟨3, .data⟩ (by simp) rfl
          have hd0 : d 0 = true := hdep ⟨0, .data⟩ (by simp) rfl
          have hd0 : d 0 = true := hdep ⟨0, .phase⟩ (by simp) rfl
          obtain rfl := f3 hd3
          obtain rfl := f0 hd0
          obtain ⟨y3, y5, y6, y7, e, p4, p7⟩ := g1
          have hbc := blk_cell e
          have hbf := blk_free e
          have hbl2 := blk_lt e
          rw [if_pos (by rfl)]
          go_big_op
          have hkp : Kept b5 w7 (x.setCell ⟨b5, 3, none⟩ (.int .i64 ov)) := (g0.setCell _ _)
          have RB : (x.setCell ⟨b5, 3, none⟩ (.int .i64 ov)).heap[b5]? = some (.cells #[.string a, .string i, .int .i64 s, .int .i64 ov, .int .i64 l, y5, y6, y7, .bool true, .int .i64 seen] 30 (0, 0)) := by repeat (first | (with_reducible assumption) | (with_reducible refine blk_new_at ?_ _ _; first | (with_reducible rfl) | (simp; done)) | (with_reducible refine blk_alloc ?_ _) | (with_reducible refine blk_drew ?_) | (with_reducible apply blk_set) | (show Array.setIfInBounds _ _ _ = _; first | (simp; done) | (simp; rfl)) | (with_reducible refine blk_set_other ?_ ?_; omega))
          generalize (x.setCell ⟨b5, 3, none⟩ (.int .i64 ov)) = X at *
          refine hKc _ _ ⟨_, _, _, _, _, _, rfl, ?_, ?_, ?_, ?_, ?_, ?_, ?_, ?_⟩
          · exact (fun h => f0 (up h rfl))
          · exact (fun h => f1 (up h rfl))
          · exact (fun h => f2 (up h rfl))
          · exact (fun h => f3 (up h rfl))
          · exact (fun h => f5 (up h rfl))
          · exact (fun h => f6 (up h rfl))
          · exact hkp
          · exact ⟨_, _, _, _, RB, (fun _ => rfl), (fun h => p7 (up h rfl))⟩
        · unfold StepOk
          rintro d act x ⟨u79, u80, u81, u82, u83, u84, rfl, f0, f1, f2, f3, f5, f6, g0, g1⟩ hd hdep Kc hKc
          rw [if_pos (by rfl)]
          go_big_op
          refine hKc _ _ ⟨_, _, _, _, _, _, rfl, ?_, ?_, ?_, ?_, ?_, ?_, ?_, ?_⟩
          · exact (fun h => f0 (up h rfl))
          · exact (fun h => f1 (up h rfl))
          · exact (fun h => f2 (up h rfl))
          · exact (fun h => f3 (up h rfl))
          · exact (fun _ => rfl)
          · exact (fun h => f6 (up h rfl))
          · exact g0
          · exact (by obtain ⟨y3, y5, y6, y7, e, p4, p7⟩ := g1; exact ⟨y3, y5, y6, y7, e, (fun h => p4 (up h rfl)), (fun h => p7 (up h rfl))⟩)
        · unfold StepOk
          rintro d act x ⟨u79, u80, u81, u82, u83, u84, rfl, f0, f1, f2, f3, f5, f6, g0, g1⟩ hd hdep Kc hKc
          have hd5 : d 5 = true := hdep ⟨5, .data⟩ (by simp) rfl
          obtain rfl := f5 hd5
          rw [if_pos (by rfl)]
          go_big_op
          refine hKc _ _ ⟨_, _, _, _, _, _, rfl, ?_, ?_, ?_, ?_, ?_, ?_, ?_, ?_⟩
          · exact (fun h => f0 (up h rfl))
          · exact (fun h => f1 (up h rfl))
          · exact (fun h => f2 (up h rfl))
          · exact (fun h => f3 (up h rfl))
          · exact (fun h => f5 (up h rfl))
          · exact (fun _ => rfl)
          · exact g0
          · exact (by obtain ⟨y3, y5, y6, y7, e, p4, p7⟩ := g1; exact ⟨y3, y5, y6, y7, e, (fun h => p4 (up h rfl)), (fun h => p7 (up h rfl))⟩)
        · unfold StepOk
          rintro d act x ⟨u79, u80, u81, u82, u83, u84, rfl, f0, f1, f2, f3, f5, f6, g0, g1⟩ hd hdep Kc hKc
          have hd6 : d 6 = true := hdep ⟨6, .data⟩ (by simp) rfl
          have hd1 : d 1 = true := hdep ⟨1, .data⟩ (by simp) rfl
          have hd1 : d 1 = true := hdep ⟨1, .phase⟩ (by simp) rfl
          obtain rfl := f6 hd6
          obtain rfl := f1 hd1
          obtain ⟨y3, y5, y6, y7, e, p4, p7⟩ := g1
          have hbc := blk_cell e
          have hbf := blk_free e
          have hbl2 := blk_lt e
          rw [if_pos (by rfl)]
          go_big_op
          have hkp : Kept b5 w7 (((x.setCell ⟨b5, 5, none⟩ (.int .i64 t2)).setCell ⟨b5, 6, none⟩ (.int .i64 k2)).setCell ⟨b5, 7, none⟩ (.int .i64 n2)) := (((g0.setCell _ _).setCell _ _).setCell _ _)
          have RB : (((x.setCell ⟨b5, 5, none⟩ (.int .i64 t2)).setCell ⟨b5, 6, none⟩ (.int .i64 k2)).setCell ⟨b5, 7, none⟩ (.int .i64 n2)).heap[b5]? = some (.cells #[.string a, .string i, .int .i64 s, y3, .int .i64 l, .int .i64 t2, .int .i64 k2, .int .i64 n2, .bool true, .int .i64 seen] 30 (0, 0)) := by repeat (first | (with_reducible assumption) | (with_reducible refine blk_new_at ?_ _ _; first | (with_reducible rfl) | (simp; done)) | (with_reducible refine blk_alloc ?_ _) | (with_reducible refine blk_drew ?_) | (with_reducible apply blk_set) | (show Array.setIfInBounds _ _ _ = _; first | (simp; done) | (simp; rfl)) | (with_reducible refine blk_set_other ?_ ?_; omega))
          generalize (((x.setCell ⟨b5, 5, none⟩ (.int .i64 t2)).setCell ⟨b5, 6, none⟩ (.int .i64 k2)).setCell ⟨b5, 7, none⟩ (.int .i64 n2)) = X at *
          refine hKc _ _ ⟨_, _, _, _, _, _, rfl, ?_, ?_, ?_, ?_, ?_, ?_, ?_, ?_⟩
          · exact (fun h => f0 (up h rfl))
          · exact (fun h => f1 (up h rfl))
          · exact (fun h => f2 (up h rfl))
          · exact (fun h => f3 (up h rfl))
          · exact (fun h => f5 (up h rfl))
          · exact (fun h => f6 (up h rfl))
          · exact hkp
          · exact ⟨_, _, _, _, RB, (fun h => p4 (up h rfl)), (fun _ => ⟨rfl, rfl, rfl⟩)⟩
      · rintro d act x ⟨u79, u80, u81, u82, u83, u84, rfl, f0, f1, f2, f3, f5, f6, g0, g1⟩ hall
        obtain ⟨y3, y5, y6, y7, hbn, p4, p7⟩ := g1
        obtain rfl := p4 (hall 4 (by decide))
        obtain ⟨rfl, rfl, rfl⟩ := p7 (hall 7 (by decide))
        clear f0 f1 f2 f3 f5 f6 hall
        have z8_r0 : x.heap[w.heap.size]? = some (.cells #[.string a, .string i, .int .i64 s, .int .i64 o, .int .i64 l, .int .i64 t, .int .i64 k, .int .i64 n, .bool true, .int .i64 seen] 30 (0, 0)) := (g0.block _ (by omega)).trans z7_h0.out
        have z8_r1 : x.heap[w.heap.size + 1]? = some (.cells #[.string c.a, .string c.i, .int .i64 c.s, .int .i64 c.o, .int .i64 c.l, .int .i64 c.t, .int .i64 c.k, .int .i64 c.n, .bool c.g] 28 (0, 0)) := (g0.block _ (by omega)).trans z7_h1.out
        have z8_r2 : x.heap[w.heap.size + 1 + 1]? = some (.cells #[.int .i64 t2, .int .i64 k2, .int .i64 n2] 26 (0, 0)) := (g0.block _ (by omega)).trans z7_h2.out
        have z8_r3 : x.heap[w.heap.size + 1 + 1 + 1]? = some (.cells #[.string c.a, .string c.i, .int .i64 c.s, .int .i64 0, .int .i64 c.l, .int .i64 c.t, .int .i64 c.k, .int .i64 c.n, .bool false, .int .i64 now] 30 (0, 0)) := (g0.block _ (by omega)).trans z7_h3.out
        have z8_r4 : x.heap[w1.heap.size]? = some (.cells #[.string ⟨#[]⟩, .string ⟨#[]⟩, .int .i64 0, .int .i64 0, .int .i64 0, .int .i64 0, .int .i64 0, .int .i64 0, .bool false, .int .i64 0] 30 (0, 0)) := (g0.block _ (by omega)).trans z7_h4.out
        have z8_r5 : x.heap[w2.heap.size]? = some (.cells #[.string ⟨#[]⟩, .string ⟨#[]⟩, .int .i64 0, .int .i64 0, .int .i64 0, .int .i64 0, .int .i64 0, .int .i64 0, .bool false, .int .i64 0] 30 (0, 0)) := (g0.block _ (by omega)).trans z7_h5.out
        have z8_r6 : x.heap[w3.heap.size]? = some (.cells #[.string ⟨#[]⟩, .string ⟨#[]⟩, .int .i64 0, .int .i64 0, .int .i64 0, .int .i64 0, .int .i64 0, .int .i64 0, .bool false, .int .i64 0] 30 (0, 0)) := (g0.block _ (by omega)).trans z7_h6.out
        have z8_r7 : x.heap[b3]? = some (.cells #[.string a, .string i, .int .i64 s, .int .i64 o, .int .i64 l, .int .i64 t, .int .i64 k, .int .i64 n, .bool true, .int .i64 M] 30 (0, 0)) := (g0.block _ (by omega)).trans z7_h7.out
        have z8_r8 : x.heap[b4]? = some (.cells #[.string a, .string i, .int .i64 s, .int .i64 o, .int .i64 l, .int .i64 t2, .int .i64 k2, .int .i64 n2, .bool true, .int .i64 now] 30 (0, 0)) := (g0.block _ (by omega)).trans z7_h8.out
        have z8_r9 : x.heap[b5]? = some (.cells #[.string a, .string i, .int .i64 s, .int .i64 ov, .int .i64 l, .int .i64 t2, .int .i64 k2, .int .i64 n2, .bool true, .int .i64 seen] 30 (0, 0)) := hbn
        have z8_B : Below w.heap.size w x := z7_B.trans (g0.below (by omega))
        have z8_z := z8_B.size
        clear z7_B z7_z z7_c0 z7_l0 z7_k0_0 z7_k0_1 z7_c1 z7_l1 z7_k1_0 z7_k1_1 z7_c2 z7_l2 z7_k2_0 z7_k2_1 z7_c3 z7_l3 z7_k3_0 z7_k3_1 z7_c4 z7_l4 z7_k4_0 z7_k4_1 z7_c5 z7_l5 z7_k5_0 z7_k5_1 z7_c6 z7_l6 z7_k6_0 z7_k6_1 z7_c7 z7_l7 z7_k7_0 z7_k7_1 z7_c8 z7_l8 z7_k8_0 z7_k8_1 z7_c9 z7_l9 z7_k9_0 z7_k9_1 z7_h0 z7_h1 z7_h2 z7_h3 z7_h4 z7_h5 z7_h6 z7_h7 z7_h8 z7_h9 hbn
        have z8_c0 := blk_cell z8_r0
        have z8_l0 := blk_lt z8_r0
        have z8_k0_0 : w.heap.size ≤ x.heap.size := by omega
        have z8_k0_1 : w.heap.size ≤ x.heap.size + 1 := by omega
        have z8_c1 := blk_cell z8_r1
        have z8_l1 := blk_lt z8_r1
        have z8_k1_0 : w.heap.size + 1 ≤ x.heap.size := by omega
        have z8_k1_1 : w.heap.size + 1 ≤ x.heap.size + 1 := by omega
        have z8_c2 := blk_cell z8_r2
        have z8_l2 := blk_lt z8_r2
        have z8_k2_0 : w.heap.size + 1 + 1 ≤ x.heap.size := by omega
        have z8_k2_1 : w.heap.size + 1 + 1 ≤ x.heap.size + 1 := by omega
        have z8_c3 := blk_cell z8_r3
        have z8_l3 := blk_lt z8_r3
        have z8_k3_0 : w.heap.size + 1 + 1 + 1 ≤ x.heap.size := by omega
        have z8_k3_1 : w.heap.size + 1 + 1 + 1 ≤ x.heap.size + 1 := by omega
        have z8_c4 := blk_cell z8_r4
        have z8_l4 := blk_lt z8_r4
        have z8_k4_0 : w1.heap.size ≤ x.heap.size := by omega
        have z8_k4_1 : w1.heap.size ≤ x.heap.size + 1 := by omega
        have z8_c5 := blk_cell z8_r5
        have z8_l5 := blk_lt z8_r5
        have z8_k5_0 : w2.heap.size ≤ x.heap.size := by omega
        have z8_k5_1 : w2.heap.size ≤ x.heap.size + 1 := by omega
        have z8_c6 := blk_cell z8_r6
        have z8_l6 := blk_lt z8_r6
        have z8_k6_0 : w3.heap.size ≤ x.heap.size := by omega
        have z8_k6_1 : w3.heap.size ≤ x.heap.size + 1 := by omega
        have z8_c7 := blk_cell z8_r7
        have z8_l7 := blk_lt z8_r7
        have z8_k7_0 : b3 ≤ x.heap.size := by omega
        have z8_k7_1 : b3 ≤ x.heap.size + 1 := by omega
        have z8_c8 := blk_cell z8_r8
        have z8_l8 := blk_lt z8_r8
        have z8_k8_0 : b4 ≤ x.heap.size := by omega
        have z8_k8_1 : b4 ≤ x.heap.size + 1 := by omega
        have z8_c9 := blk_cell z8_r9
        have z8_l9 := blk_lt z8_r9
        have z8_k9_0 : b5 ≤ x.heap.size := by omega
        have z8_k9_1 : b5 ≤ x.heap.size + 1 := by omega
        have z8_h0 := Lib.hid z8_r0
        have z8_h1 := Lib.hid z8_r1
        have z8_h2 := Lib.hid z8_r2
        have z8_h3 := Lib.hid z8_r3
        have z8_h4 := Lib.hid z8_r4
        have z8_h5 := Lib.hid z8_r5
        have z8_h6 := Lib.hid z8_r6
        have z8_h7 := Lib.hid z8_r7
        have z8_h8 := Lib.hid z8_r8
        have z8_h9 := Lib.hid z8_r9
        clear z8_r0 z8_r1 z8_r2 z8_r3 z8_r4 z8_r5 z8_r6 z8_r7 z8_r8 z8_r9
        obtain ⟨w8, rfl⟩ : ∃ y, y = x := ⟨_, rfl⟩
        go_upto_region 12 with fail
        have z8_s0 := z8_h0.out
        have z8_s1 := z8_h1.out
        have z8_s2 := z8_h2.out
        have z8_s3 := z8_h3.out
        have z8_s4 := z8_h4.out
        have z8_s5 := z8_h5.out
        have z8_s6 := z8_h6.out
        have z8_s7 := z8_h7.out
        have z8_s8 := z8_h8.out
        have z8_s9 := z8_h9.out
        refine wp_letter (fun W => Below w.heap.size w W ∧ W.heap[w.heap.size]? = some (.cells #[.string a, .string i, .int .i64 s, .int .i64 o, .int .i64 l, .int .i64 t, .int .i64 k, .int .i64 n, .bool true, .int .i64 seen] 30 (0, 0)) ∧ W.heap[w.heap.size + 1]? = some (.cells #[.string c.a, .string c.i, .int .i64 c.s, .int .i64 c.o, .int .i64 c.l, .int .i64 c.t, .int .i64 c.k, .int .i64 c.n, .bool c.g] 28 (0, 0)) ∧ W.heap[w.heap.size + 1 + 1]? = some (.cells #[.int .i64 t2, .int .i64 k2, .int .i64 n2] 26 (0, 0)) ∧ W.heap[w.heap.size + 1 + 1 + 1]? = some (.cells #[.string c.a, .string c.i, .int .i64 c.s, .int .i64 0, .int .i64 c.l, .int .i64 c.t, .int .i64 c.k, .int .i64 c.n, .bool false, .int .i64 now] 30 (0, 0)) ∧ W.heap[w1.heap.size]? = some (.cells #[.string ⟨#[]⟩, .string ⟨#[]⟩, .int .i64 0, .int .i64 0, .int .i64 0, .int .i64 0, .int .i64 0, .int .i64 0, .bool false, .int .i64 0] 30 (0, 0)) ∧ W.heap[w2.heap.size]? = some (.cells #[.string ⟨#[]⟩, .string ⟨#[]⟩, .int .i64 0, .int .i64 0, .int .i64 0, .int .i64 0, .int .i64 0, .int .i64 0, .bool false, .int .i64 0] 30 (0, 0)) ∧ W.heap[w3.heap.size]? = some (.cells #[.string ⟨#[]⟩, .string ⟨#[]⟩, .int .i64 0, .int .i64 0, .int .i64 0, .int .i64 0, .int .i64 0, .int .i64 0, .bool false, .int .i64 0] 30 (0, 0)) ∧ W.heap[b3]? = some (.cells #[.string a, .string i, .int .i64 s, .int .i64 o, .int .i64 l, .int .i64 t, .int .i64 k, .int .i64 n, .bool true, .int .i64 M] 30 (0, 0)) ∧ W.heap[b4]? = some (.cells #[.string a, .string i, .int .i64 s, .int .i64 o, .int .i64 l, .int .i64 t2, .int .i64 k2, .int .i64 n2, .bool true, .int .i64 now] 30 (0, 0)) ∧ W.heap[b5]? = some (.cells #[.string a, .string i, .int .i64 s, .int .i64 ov, .int .i64 l, .int .i64 t2, .int .i64 k2, .int .i64 n2, .bool true, .int .i64 seen] 30 (0, 0))) ⟨by go_grown, by repeat (first | (with_reducible assumption) | (with_reducible refine blk_new_at ?_ _ _; first | (with_reducible rfl) | (simp; done)) | (with_reducible refine blk_alloc ?_ _) | (with_reducible refine blk_drew ?_) | (with_reducible apply blk_set) | (show Array.setIfInBounds _ _ _ = _; first | (simp; done) | (simp; rfl)) | (with_reducible refine blk_set_other ?_ ?_; omega)), by repeat (first | (with_reducible assumption) | (with_reducible refine blk_new_at ?_ _ _; first | (with_reducible rfl) | (simp; done)) | (with_reducible refine blk_alloc ?_ _) | (with_reducible refine blk_drew ?_) | (with_reducible apply blk_set) | (show Array.setIfInBounds _ _ _ = _; first | (simp; done) | (simp; rfl)) | (with_reducible refine blk_set_other ?_ ?_; omega)), by repeat (first | (with_reducible assumption) | (with_reducible refine blk_new_at ?_ _ _; first | (with_reducible rfl) | (simp; done)) | (with_reducible refine blk_alloc ?_ _) | (with_reducible refine blk_drew ?_) | (with_reducible apply blk_set) | (show Array.setIfInBounds _ _ _ = _; first | (simp; done) | (simp; rfl)) | (with_reducible refine blk_set_other ?_ ?_; omega)), by repeat (first | (with_reducible assumption) | (with_reducible refine blk_new_at ?_ _ _; first | (with_reducible rfl) | (simp; done)) | (with_reducible refine blk_alloc ?_ _) | (with_reducible refine blk_drew ?_) | (with_reducible apply blk_set) | (show Array.setIfInBounds _ _ _ = _; first | (simp; done) | (simp; rfl)) | (with_reducible refine blk_set_other ?_ ?_; omega)), by repeat (first | (with_reducible assumption) | (with_reducible refine blk_new_at ?_ _ _; first | (with_reducible rfl) | (simp; done)) | (with_reducible refine blk_alloc ?_ _) | (with_reducible refine blk_drew ?_) | (with_reducible apply blk_set) | (show Array.setIfInBounds _ _ _ = _; first | (simp; done) | (simp; rfl)) | (with_reducible refine blk_set_other ?_ ?_; omega)), by repeat (first | (with_reducible assumption) | (with_reducible refine blk_new_at ?_ _ _; first | (with_reducible rfl) | (simp; done)) | (with_reducible refine blk_alloc ?_ _) | (with_reducible refine blk_drew ?_) | (with_reducible apply blk_set) | (show Array.setIfInBounds _ _ _ = _; first | (simp; done) | (simp; rfl)) | (with_reducible refine blk_set_other ?_ ?_; omega)), by repeat (first | (with_reducible assumption) | (with_reducible refine blk_new_at ?_ _ _; first | (with_reducible rfl) | (simp; done)) | (with_reducible refine blk_alloc ?_ _) | (with_reducible refine blk_drew ?_) | (with_reducible apply blk_set) | (show Array.setIfInBounds _ _ _ = _; first | (simp; done) | (simp; rfl)) | (with_reducible refine blk_set_other ?_ ?_; omega)), by repeat (first | (with_reducible assumption) | (with_reducible refine blk_new_at ?_ _ _; first | (with_reducible rfl) | (simp; done)) | (with_reducible refine blk_alloc ?_ _) | (with_reducible refine blk_drew ?_) | (with_reducible apply blk_set) | (show Array.setIfInBounds _ _ _ = _; first | (simp; done) | (simp; rfl)) | (with_reducible refine blk_set_other ?_ ?_; omega)), by repeat (first | (with_reducible assumption) | (with_reducible refine blk_new_at ?_ _ _; first | (with_reducible rfl) | (simp; done)) | (with_reducible refine blk_alloc ?_ _) | (with_reducible refine blk_drew ?_) | (with_reducible apply blk_set) | (show Array.setIfInBounds _ _ _ = _; first | (simp; done) | (simp; rfl)) | (with_reducible refine blk_set_other ?_ ?_; omega)), by repeat (first | (with_reducible assumption) | (with_reducible refine blk_new_at ?_ _ _; first | (with_reducible rfl) | (simp; done)) | (with_reducible refine blk_alloc ?_ _) | (with_reducible refine blk_drew ?_) | (with_reducible apply blk_set) | (show Array.setIfInBounds _ _ _ = _; first | (simp; done) | (simp; rfl)) | (with_reducible refine blk_set_other ?_ ?_; omega))⟩ ?_
        rintro w8' ⟨hBl, hl0, hl1, hl2, hl3, hl4, hl5, hl6, hl7, hl8, hl9⟩
        have z9_r0 : w8'.heap[w.heap.size]? = some (.cells #[.string a, .string i, .int .i64 s, .int .i64 o, .int .i64 l, .int .i64 t, .int .i64 k, .int .i64 n, .bool true, .int .i64 seen] 30 (0, 0)) := hl0
        have z9_r1 : w8'.heap[w.heap.size + 1]? = some (.cells #[.string c.a, .string c.i, .int .i64 c.s, .int .i64 c.o, .int .i64 c.l, .int .i64 c.t, .int .i64 c.k, .int .i64 c.n, .bool c.g] 28 (0, 0)) := hl1
        have z9_r2 : w8'.heap[w.heap.size + 1 + 1]? = some (.cells #[.int .i64 t2, .int .i64 k2, .int .i64 n2] 26 (0, 0)) := hl2
        have z9_r3 : w8'.heap[w.heap.size + 1 + 1 + 1]? = some (.cells #[.string c.a, .string c.i, .int .i64 c.s, .int .i64 0, .int .i64 c.l, .int .i64 c.t, .int .i64 c.k, .int .i64 c.n, .bool false, .int .i64 now] 30 (0, 0)) := hl3
        have z9_r4 : w8'.heap[w1.heap.size]? = some (.cells #[.string ⟨#[]⟩, .string ⟨#[]⟩, .int .i64 0, .int .i64 0, .int .i64 0, .int .i64 0, .int .i64 0, .int .i64 0, .bool false, .int .i64 0] 30 (0, 0)) := hl4
        have z9_r5 : w8'.heap[w2.heap.size]? = some (.cells #[.string ⟨#[]⟩, .string ⟨#[]⟩, .int .i64 0, .int .i64 0, .int .i64 0, .int .i64 0, .int .i64 0, .int .i64 0, .bool false, .int .i64 0] 30 (0, 0)) := hl5
        have z9_r6 : w8'.heap[w3.heap.size]? = some (.cells #[.string ⟨#[]⟩, .string ⟨#[]⟩, .int .i64 0, .int .i64 0, .int .i64 0, .int .i64 0, .int .i64 0, .int .i64 0, .bool false, .int .i64 0] 30 (0, 0)) := hl6
        have z9_r7 : w8'.heap[b3]? = some (.cells #[.string a, .string i, .int .i64 s, .int .i64 o, .int .i64 l, .int .i64 t, .int .i64 k, .int .i64 n, .bool true, .int .i64 M] 30 (0, 0)) := hl7
        have z9_r8 : w8'.heap[b4]? = some (.cells #[.string a, .string i, .int .i64 s, .int .i64 o, .int .i64 l, .int .i64 t2, .int .i64 k2, .int .i64 n2, .bool true, .int .i64 now] 30 (0, 0)) := hl8
        have z9_r9 : w8'.heap[b5]? = some (.cells #[.string a, .string i, .int .i64 s, .int .i64 ov, .int .i64 l, .int .i64 t2, .int .i64 k2, .int .i64 n2, .bool true, .int .i64 seen] 30 (0, 0)) := hl9
        have z9_B : Below w.heap.size w w8' := hBl
        have z9_z := z9_B.size
        clear z8_B z8_z z8_c0 z8_l0 z8_k0_0 z8_k0_1 z8_c1 z8_l1 z8_k1_0 z8_k1_1 z8_c2 z8_l2 z8_k2_0 z8_k2_1 z8_c3 z8_l3 z8_k3_0 z8_k3_1 z8_c4 z8_l4 z8_k4_0 z8_k4_1 z8_c5 z8_l5 z8_k5_0 z8_k5_1 z8_c6 z8_l6 z8_k6_0 z8_k6_1 z8_c7 z8_l7 z8_k7_0 z8_k7_1 z8_c8 z8_l8 z8_k8_0 z8_k8_1 z8_c9 z8_l9 z8_k9_0 z8_k9_1 z8_h0 z8_h1 z8_h2 z8_h3 z8_h4 z8_h5 z8_h6 z8_h7 z8_h8 z8_h9 z8_s0 z8_s1 z8_s2 z8_s3 z8_s4 z8_s5 z8_s6 z8_s7 z8_s8 z8_s9 hBl hl0 hl1 hl2 hl3 hl4 hl5 hl6 hl7 hl8 hl9
        have z9_c0 := blk_cell z9_r0
        have z9_l0 := blk_lt z9_r0
        have z9_k0_0 : w.heap.size ≤ w8'.heap.size := by omega
        have z9_k0_1 : w.heap.size ≤ w8'.heap.size + 1 := by omega
        have z9_c1 := blk_cell z9_r1
        have z9_l1 := blk_lt z9_r1
        have z9_k1_0 : w.heap.size + 1 ≤ w8'.heap.size := by omega
        have z9_k1_1 : w.heap.size + 1 ≤ w8'.heap.size + 1 := by omega
        have z9_c2 := blk_cell z9_r2
        have z9_l2 := blk_lt z9_r2
        have z9_k2_0 : w.heap.size + 1 + 1 ≤ w8'.heap.size := by omega
        have z9_k2_1 : w.heap.size + 1 + 1 ≤ w8'.heap.size + 1 := by omega
        have z9_c3 := blk_cell z9_r3
        have z9_l3 := blk_lt z9_r3
        have z9_k3_0 : w.heap.size + 1 + 1 + 1 ≤ w8'.heap.size := by omega
        have z9_k3_1 : w.heap.size + 1 + 1 + 1 ≤ w8'.heap.size + 1 := by omega
        have z9_c4 := blk_cell z9_r4
        have z9_l4 := blk_lt z9_r4
        have z9_k4_0 : w1.heap.size ≤ w8'.heap.size := by omega
        have z9_k4_1 : w1.heap.size ≤ w8'.heap.size + 1 := by omega
        have z9_c5 := blk_cell z9_r5
        have z9_l5 := blk_lt z9_r5
        have z9_k5_0 : w2.heap.size ≤ w8'.heap.size := by omega
        have z9_k5_1 : w2.heap.size ≤ w8'.heap.size + 1 := by omega
        have z9_c6 := blk_cell z9_r6
        have z9_l6 := blk_lt z9_r6
        have z9_k6_0 : w3.heap.size ≤ w8'.heap.size := by omega
        have z9_k6_1 : w3.heap.size ≤ w8'.heap.size + 1 := by omega
        have z9_c7 := blk_cell z9_r7
        have z9_l7 := blk_lt z9_r7
        have z9_f7 := blk_free z9_r7
        have z9_k7_0 : b3 ≤ w8'.heap.size := by omega
        have z9_k7_1 : b3 ≤ w8'.heap.size + 1 := by omega
        have z9_c8 := blk_cell z9_r8
        have z9_l8 := blk_lt z9_r8
        have z9_f8 := blk_free z9_r8
        have z9_k8_0 : b4 ≤ w8'.heap.size := by omega
        have z9_k8_1 : b4 ≤ w8'.heap.size + 1 := by omega
        have z9_c9 := blk_cell z9_r9
        have z9_l9 := blk_lt z9_r9
        have z9_f9 := blk_free z9_r9
        have z9_k9_0 : b5 ≤ w8'.heap.size := by omega
        have z9_k9_1 : b5 ≤ w8'.heap.size + 1 := by omega
        have z9_h0 := Lib.hid z9_r0
        have z9_h1 := Lib.hid z9_r1
        have z9_h2 := Lib.hid z9_r2
        have z9_h3 := Lib.hid z9_r3
        have z9_h4 := Lib.hid z9_r4
        have z9_h5 := Lib.hid z9_r5
        have z9_h6 := Lib.hid z9_r6
        have z9_h7 := Lib.hid z9_r7
        have z9_h8 := Lib.hid z9_r8
        have z9_h9 := Lib.hid z9_r9
        clear z9_r0 z9_r1 z9_r2 z9_r3 z9_r4 z9_r5 z9_r6 z9_r7 z9_r8 z9_r9
        go_upto_region 18 with fail
        have z9_s0 := z9_h0.out
        have z9_s1 := z9_h1.out
        have z9_s2 := z9_h2.out
        have z9_s3 := z9_h3.out
        have z9_s4 := z9_h4.out
        have z9_s5 := z9_h5.out
        have z9_s6 := z9_h6.out
        have z9_s7 := z9_h7.out
        have z9_s8 := z9_h8.out
        have z9_s9 := z9_h9.out
        refine wp_letter (fun W => Below w.heap.size w W ∧ W.heap[w.heap.size]? = some (.cells #[.string a, .string i, .int .i64 s, .int .i64 o, .int .i64 l, .int .i64 t, .int .i64 k, .int .i64 n, .bool true, .int .i64 seen] 30 (0, 0)) ∧ W.heap[w.heap.size + 1]? = some (.cells #[.string c.a, .string c.i, .int .i64 c.s, .int .i64 c.o, .int .i64 c.l, .int .i64 c.t, .int .i64 c.k, .int .i64 c.n, .bool c.g] 28 (0, 0)) ∧ W.heap[w.heap.size + 1 + 1]? = some (.cells #[.int .i64 t2, .int .i64 k2, .int .i64 n2] 26 (0, 0)) ∧ W.heap[w.heap.size + 1 + 1 + 1]? = some (.cells #[.string c.a, .string c.i, .int .i64 c.s, .int .i64 0, .int .i64 c.l, .int .i64 c.t, .int .i64 c.k, .int .i64 c.n, .bool false, .int .i64 now] 30 (0, 0)) ∧ W.heap[w1.heap.size]? = some (.cells #[.string ⟨#[]⟩, .string ⟨#[]⟩, .int .i64 0, .int .i64 0, .int .i64 0, .int .i64 0, .int .i64 0, .int .i64 0, .bool false, .int .i64 0] 30 (0, 0)) ∧ W.heap[w2.heap.size]? = some (.cells #[.string ⟨#[]⟩, .string ⟨#[]⟩, .int .i64 0, .int .i64 0, .int .i64 0, .int .i64 0, .int .i64 0, .int .i64 0, .bool false, .int .i64 0] 30 (0, 0)) ∧ W.heap[w3.heap.size]? = some (.cells #[.string ⟨#[]⟩, .string ⟨#[]⟩, .int .i64 0, .int .i64 0, .int .i64 0, .int .i64 0, .int .i64 0, .int .i64 0, .bool false, .int .i64 0] 30 (0, 0)) ∧ W.heap[b3]? = some (.cells #[.string ⟨#[]⟩, .string ⟨#[]⟩, .int .i64 0, .int .i64 0, .int .i64 0, .int .i64 0, .int .i64 0, .int .i64 0, .bool false, .int .i64 0] 30 (0, 0)) ∧ W.heap[b4]? = some (.cells #[.string ⟨#[]⟩, .string ⟨#[]⟩, .int .i64 0, .int .i64 0, .int .i64 0, .int .i64 0, .int .i64 0, .int .i64 0, .bool false, .int .i64 0] 30 (0, 0)) ∧ W.heap[b5]? = some (.cells #[.string ⟨#[]⟩, .string ⟨#[]⟩, .int .i64 0, .int .i64 0, .int .i64 0, .int .i64 0, .int .i64 0, .int .i64 0, .bool false, .int .i64 0] 30 (0, 0))) ⟨(below_fill10 (below_fill10 (below_fill10 z9_B (by omega)) (by omega)) (by omega)), (blk_over10 (by omega) (blk_over10 (by omega) (blk_over10 (by omega) z9_h0.out))), (blk_over10 (by omega) (blk_over10 (by omega) (blk_over10 (by omega) z9_h1.out))), (blk_over10 (by omega) (blk_over10 (by omega) (blk_over10 (by omega) z9_h2.out))), (blk_over10 (by omega) (blk_over10 (by omega) (blk_over10 (by omega) z9_h3.out))), (blk_over10 (by omega) (blk_over10 (by omega) (blk_over10 (by omega) z9_h4.out))), (blk_over10 (by omega) (blk_over10 (by omega) (blk_over10 (by omega) z9_h5.out))), (blk_over10 (by omega) (blk_over10 (by omega) (blk_over10 (by omega) z9_h6.out))), (blk_over10 (by omega) (blk_over10 (by omega) (blk_fill10 z9_h7.out rfl))), (blk_over10 (by omega) (blk_fill10 (blk_over10 (by omega) z9_h8.out) rfl)), (blk_fill10 (blk_over10 (by omega) (blk_over10 (by omega) z9_h9.out)) rfl)⟩ ?_
        rintro w9 ⟨hBl, hl0, hl1, hl2, hl3, hl4, hl5, hl6, hl7, hl8, hl9⟩
        have z10_r0 : w9.heap[w.heap.size]? = some (.cells #[.string a, .string i, .int .i64 s, .int .i64 o, .int .i64 l, .int .i64 t, .int .i64 k, .int .i64 n, .bool true, .int .i64 seen] 30 (0, 0)) := hl0
        have z10_r1 : w9.heap[w.heap.size + 1]? = some (.cells #[.string c.a, .string c.i, .int .i64 c.s, .int .i64 c.o, .int .i64 c.l, .int .i64 c.t, .int .i64 c.k, .int .i64 c.n, .bool c.g] 28 (0, 0)) := hl1
        have z10_r2 : w9.heap[w.heap.size + 1 + 1]? = some (.cells #[.int .i64 t2, .int .i64 k2, .int .i64 n2] 26 (0, 0)) := hl2
        have z10_r3 : w9.heap[w.heap.size + 1 + 1 + 1]? = some (.cells #[.string c.a, .string c.i, .int .i64 c.s, .int .i64 0, .int .i64 c.l, .int .i64 c.t, .int .i64 c.k, .int .i64 c.n, .bool false, .int .i64 now] 30 (0, 0)) := hl3
        have z10_r4 : w9.heap[w1.heap.size]? = some (.cells #[.string ⟨#[]⟩, .string ⟨#[]⟩, .int .i64 0, .int .i64 0, .int .i64 0, .int .i64 0, .int .i64 0, .int .i64 0, .bool false, .int .i64 0] 30 (0, 0)) := hl4
        have z10_r5 : w9.heap[w2.heap.size]? = some (.cells #[.string ⟨#[]⟩, .string ⟨#[]⟩, .int .i64 0, .int .i64 0, .int .i64 0, .int .i64 0, .int .i64 0, .int .i64 0, .bool false, .int .i64 0] 30 (0, 0)) := hl5
        have z10_r6 : w9.heap[w3.heap.size]? = some (.cells #[.string ⟨#[]⟩, .string ⟨#[]⟩, .int .i64 0, .int .i64 0, .int .i64 0, .int .i64 0, .int .i64 0, .int .i64 0, .bool false, .int .i64 0] 30 (0, 0)) := hl6
        have z10_r7 : w9.heap[b3]? = some (.cells #[.string ⟨#[]⟩, .string ⟨#[]⟩, .int .i64 0, .int .i64 0, .int .i64 0, .int .i64 0, .int .i64 0, .int .i64 0, .bool false, .int .i64 0] 30 (0, 0)) := hl7
        have z10_r8 : w9.heap[b4]? = some (.cells #[.string ⟨#[]⟩, .string ⟨#[]⟩, .int .i64 0, .int .i64 0, .int .i64 0, .int .i64 0, .int .i64 0, .int .i64 0, .bool false, .int .i64 0] 30 (0, 0)) := hl8
        have z10_r9 : w9.heap[b5]? = some (.cells #[.string ⟨#[]⟩, .string ⟨#[]⟩, .int .i64 0, .int .i64 0, .int .i64 0, .int .i64 0, .int .i64 0, .int .i64 0, .bool false, .int .i64 0] 30 (0, 0)) := hl9
        have z10_B : Below w.heap.size w w9 := hBl
        have z10_z := z10_B.size
        clear z9_B z9_z z9_c0 z9_l0 z9_k0_0 z9_k0_1 z9_c1 z9_l1 z9_k1_0 z9_k1_1 z9_c2 z9_l2 z9_k2_0 z9_k2_1 z9_c3 z9_l3 z9_k3_0 z9_k3_1 z9_c4 z9_l4 z9_k4_0 z9_k4_1 z9_c5 z9_l5 z9_k5_0 z9_k5_1 z9_c6 z9_l6 z9_k6_0 z9_k6_1 z9_c7 z9_l7 z9_f7 z9_k7_0 z9_k7_1 z9_c8 z9_l8 z9_f8 z9_k8_0 z9_k8_1 z9_c9 z9_l9 z9_f9 z9_k9_0 z9_k9_1 z9_h0 z9_h1 z9_h2 z9_h3 z9_h4 z9_h5 z9_h6 z9_h7 z9_h8 z9_h9 z9_s0 z9_s1 z9_s2 z9_s3 z9_s4 z9_s5 z9_s6 z9_s7 z9_s8 z9_s9 hBl hl0 hl1 hl2 hl3 hl4 hl5 hl6 hl7 hl8 hl9
        have z10_c0 := blk_cell z10_r0
        have z10_l0 := blk_lt z10_r0
        have z10_k0_0 : w.heap.size ≤ w9.heap.size := by omega
        have z10_k0_1 : w.heap.size ≤ w9.heap.size + 1 := by omega
        have z10_c1 := blk_cell z10_r1
        have z10_l1 := blk_lt z10_r1
        have z10_k1_0 : w.heap.size + 1 ≤ w9.heap.size := by omega
        have z10_k1_1 : w.heap.size + 1 ≤ w9.heap.size + 1 := by omega
        have z10_c2 := blk_cell z10_r2
        have z10_l2 := blk_lt z10_r2
        have z10_k2_0 : w.heap.size + 1 + 1 ≤ w9.heap.size := by omega
        have z10_k2_1 : w.heap.size + 1 + 1 ≤ w9.heap.size + 1 := by omega
        have z10_c3 := blk_cell z10_r3
        have z10_l3 := blk_lt z10_r3
        have z10_k3_0 : w.heap.size + 1 + 1 + 1 ≤ w9.heap.size := by omega
        have z10_k3_1 : w.heap.size + 1 + 1 + 1 ≤ w9.heap.size + 1 := by omega
        have z10_c4 := blk_cell z10_r4
        have z10_l4 := blk_lt z10_r4
        have z10_k4_0 : w1.heap.size ≤ w9.heap.size := by omega
        have z10_k4_1 : w1.heap.size ≤ w9.heap.size + 1 := by omega
        have z10_c5 := blk_cell z10_r5
        have z10_l5 := blk_lt z10_r5
        have z10_k5_0 : w2.heap.size ≤ w9.heap.size := by omega
        have z10_k5_1 : w2.heap.size ≤ w9.heap.size + 1 := by omega
        have z10_c6 := blk_cell z10_r6
        have z10_l6 := blk_lt z10_r6
        have z10_k6_0 : w3.heap.size ≤ w9.heap.size := by omega
        have z10_k6_1 : w3.heap.size ≤ w9.heap.size + 1 := by omega
        have z10_c7 := blk_cell z10_r7
        have z10_l7 := blk_lt z10_r7
        have z10_k7_0 : b3 ≤ w9.heap.size := by omega
        have z10_k7_1 : b3 ≤ w9.heap.size + 1 := by omega
        have z10_c8 := blk_cell z10_r8
        have z10_l8 := blk_lt z10_r8
        have z10_k8_0 : b4 ≤ w9.heap.size := by omega
        have z10_k8_1 : b4 ≤ w9.heap.size + 1 := by omega
        have z10_c9 := blk_cell z10_r9
        have z10_l9 := blk_lt z10_r9
        have z10_k9_0 : b5 ≤ w9.heap.size := by omega
        have z10_k9_1 : b5 ≤ w9.heap.size + 1 := by omega
        have z10_h0 := Lib.hid z10_r0
        have z10_h1 := Lib.hid z10_r1
        have z10_h2 := Lib.hid z10_r2
        have z10_h3 := Lib.hid z10_r3
        have z10_h4 := Lib.hid z10_r4
        have z10_h5 := Lib.hid z10_r5
        have z10_h6 := Lib.hid z10_r6
        have z10_h7 := Lib.hid z10_r7
        have z10_h8 := Lib.hid z10_r8
        have z10_h9 := Lib.hid z10_r9
        clear z10_r0 z10_r1 z10_r2 z10_r3 z10_r4 z10_r5 z10_r6 z10_r7 z10_r8 z10_r9
        haveI hIq : Nonempty (Of w9) := of_some _
        have hFq0 := blk_of z10_h0.out
        have hFq1 := blk_of z10_h1.out
        have hFq2 := blk_of z10_h2.out
        have hFq3 := blk_of z10_h3.out
        have hFq4 := blk_of z10_h4.out
        have hFq5 := blk_of z10_h5.out
        have hFq6 := blk_of z10_h6.out
        have hFq7 := blk_of z10_h7.out
        have hFq8 := blk_of z10_h8.out
        have hFq9 := blk_of z10_h9.out
        first | (refine wp_region_stay w9 (by kernel_rfl) (by kernel_rfl) (by go_grown) ?_) | (refine wp_region_stay_seq w9 (by go_grown) ?_)
        repeat (go_big_quiet_step ((first | (go_at_call 16; refine stay_call (leaseRegister_new ⟨⟨a, i, s, o, l, t, k, n, true⟩, seen⟩ false c now _ (.inl rfl))) | (go_at_call 15; refine stay_call (leaseLate ⟨⟨a, i, s, o, l, t, k, n, true⟩, seen⟩ now _)) | (go_at_call 19; refine stay_call (refLate ⟨⟨a, i, s, o, l, t, k, n, true⟩, seen⟩ now _)) | (go_at_call 20; refine stay_call (law9plain ⟨⟨a, i, s, o, l, t, k, n, true⟩, seen⟩ _)))))
        refine wpQuiet_nil ?_
        intro w10 hb
        clear hIq hFq0 hFq1 hFq2 hFq3 hFq4 hFq5 hFq6 hFq7 hFq8 hFq9
        have z11_r0 : w10.heap[w.heap.size]? = some (.cells #[.string a, .string i, .int .i64 s, .int .i64 o, .int .i64 l, .int .i64 t, .int .i64 k, .int .i64 n, .bool true, .int .i64 seen] 30 (0, 0)) := blk_ext hb z10_h0.out
        have z11_r1 : w10.heap[w.heap.size + 1]? = some (.cells #[.string c.a, .string c.i, .int .i64 c.s, .int .i64 c.o, .int .i64 c.l, .int .i64 c.t, .int .i64 c.k, .int .i64 c.n, .bool c.g] 28 (0, 0)) := blk_ext hb z10_h1.out
        have z11_r2 : w10.heap[w.heap.size + 1 + 1]? = some (.cells #[.int .i64 t2, .int .i64 k2, .int .i64 n2] 26 (0, 0)) := blk_ext hb z10_h2.out
        have z11_r3 : w10.heap[w.heap.size + 1 + 1 + 1]? = some (.cells #[.string c.a, .string c.i, .int .i64 c.s, .int .i64 0, .int .i64 c.l, .int .i64 c.t, .int .i64 c.k, .int .i64 c.n, .bool false, .int .i64 now] 30 (0, 0)) := blk_ext hb z10_h3.out
        have z11_r4 : w10.heap[w1.heap.size]? = some (.cells #[.string ⟨#[]⟩, .string ⟨#[]⟩, .int .i64 0, .int .i64 0, .int .i64 0, .int .i64 0, .int .i64 0, .int .i64 0, .bool false, .int .i64 0] 30 (0, 0)) := blk_ext hb z10_h4.out
        have z11_r5 : w10.heap[w2.heap.size]? = some (.cells #[.string ⟨#[]⟩, .string ⟨#[]⟩, .int .i64 0, .int .i64 0, .int .i64 0, .int .i64 0, .int .i64 0, .int .i64 0, .bool false, .int .i64 0] 30 (0, 0)) := blk_ext hb z10_h5.out
        have z11_r6 : w10.heap[w3.heap.size]? = some (.cells #[.string ⟨#[]⟩, .string ⟨#[]⟩, .int .i64 0, .int .i64 0, .int .i64 0, .int .i64 0, .int .i64 0, .int .i64 0, .bool false, .int .i64 0] 30 (0, 0)) := blk_ext hb z10_h6.out
        have z11_r7 : w10.heap[b3]? = some (.cells #[.string ⟨#[]⟩, .string ⟨#[]⟩, .int .i64 0, .int .i64 0, .int .i64 0, .int .i64 0, .int .i64 0, .int .i64 0, .bool false, .int .i64 0] 30 (0, 0)) := blk_ext hb z10_h7.out
        have z11_r8 : w10.heap[b4]? = some (.cells #[.string ⟨#[]⟩, .string ⟨#[]⟩, .int .i64 0, .int .i64 0, .int .i64 0, .int .i64 0, .int .i64 0, .int .i64 0, .bool false, .int .i64 0] 30 (0, 0)) := blk_ext hb z10_h8.out
        have z11_r9 : w10.heap[b5]? = some (.cells #[.string ⟨#[]⟩, .string ⟨#[]⟩, .int .i64 0, .int .i64 0, .int .i64 0, .int .i64 0, .int .i64 0, .int .i64 0, .bool false, .int .i64 0] 30 (0, 0)) := blk_ext hb z10_h9.out
        have z11_B : Below w.heap.size w w10 := ext_trans z10_B hb
        have z11_z := z11_B.size
        clear z10_B z10_z z10_c0 z10_l0 z10_k0_0 z10_k0_1 z10_c1 z10_l1 z10_k1_0 z10_k1_1 z10_c2 z10_l2 z10_k2_0 z10_k2_1 z10_c3 z10_l3 z10_k3_0 z10_k3_1 z10_c4 z10_l4 z10_k4_0 z10_k4_1 z10_c5 z10_l5 z10_k5_0 z10_k5_1 z10_c6 z10_l6 z10_k6_0 z10_k6_1 z10_c7 z10_l7 z10_k7_0 z10_k7_1 z10_c8 z10_l8 z10_k8_0 z10_k8_1 z10_c9 z10_l9 z10_k9_0 z10_k9_1 z10_h0 z10_h1 z10_h2 z10_h3 z10_h4 z10_h5 z10_h6 z10_h7 z10_h8 z10_h9 hb
        have z11_c0 := blk_cell z11_r0
        have z11_l0 := blk_lt z11_r0
        have z11_k0_0 : w.heap.size ≤ w10.heap.size := by omega
        have z11_k0_1 : w.heap.size ≤ w10.heap.size + 1 := by omega
        have z11_c1 := blk_cell z11_r1
        have z11_l1 := blk_lt z11_r1
        have z11_k1_0 : w.heap.size + 1 ≤ w10.heap.size := by omega
        have z11_k1_1 : w.heap.size + 1 ≤ w10.heap.size + 1 := by omega
        have z11_c2 := blk_cell z11_r2
        have z11_l2 := blk_lt z11_r2
        have z11_k2_0 : w.heap.size + 1 + 1 ≤ w10.heap.size := by omega
        have z11_k2_1 : w.heap.size + 1 + 1 ≤ w10.heap.size + 1 := by omega
        have z11_c3 := blk_cell z11_r3
        have z11_l3 := blk_lt z11_r3
        have z11_k3_0 : w.heap.size + 1 + 1 + 1 ≤ w10.heap.size := by omega
        have z11_k3_1 : w.heap.size + 1 + 1 + 1 ≤ w10.heap.size + 1 := by omega
        have z11_c4 := blk_cell z11_r4
        have z11_l4 := blk_lt z11_r4
        have z11_k4_0 : w1.heap.size ≤ w10.heap.size := by omega
        have z11_k4_1 : w1.heap.size ≤ w10.heap.size + 1 := by omega
        have z11_c5 := blk_cell z11_r5
        have z11_l5 := blk_lt z11_r5
        have z11_k5_0 : w2.heap.size ≤ w10.heap.size := by omega
        have z11_k5_1 : w2.heap.size ≤ w10.heap.size + 1 := by omega
        have z11_c6 := blk_cell z11_r6
        have z11_l6 := blk_lt z11_r6
        have z11_k6_0 : w3.heap.size ≤ w10.heap.size := by omega
        have z11_k6_1 : w3.heap.size ≤ w10.heap.size + 1 := by omega
        have z11_c7 := blk_cell z11_r7
        have z11_l7 := blk_lt z11_r7
        have z11_k7_0 : b3 ≤ w10.heap.size := by omega
        have z11_k7_1 : b3 ≤ w10.heap.size + 1 := by omega
        have z11_c8 := blk_cell z11_r8
        have z11_l8 := blk_lt z11_r8
        have z11_k8_0 : b4 ≤ w10.heap.size := by omega
        have z11_k8_1 : b4 ≤ w10.heap.size + 1 := by omega
        have z11_c9 := blk_cell z11_r9
        have z11_l9 := blk_lt z11_r9
        have z11_k9_0 : b5 ≤ w10.heap.size := by omega
        have z11_k9_1 : b5 ≤ w10.heap.size + 1 := by omega
        have z11_h0 := Lib.hid z11_r0
        have z11_h1 := Lib.hid z11_r1
        have z11_h2 := Lib.hid z11_r2
        have z11_h3 := Lib.hid z11_r3
        have z11_h4 := Lib.hid z11_r4
        have z11_h5 := Lib.hid z11_r5
        have z11_h6 := Lib.hid z11_r6
        have z11_h7 := Lib.hid z11_r7
        have z11_h8 := Lib.hid z11_r8
        have z11_h9 := Lib.hid z11_r9
        clear z11_r0 z11_r1 z11_r2 z11_r3 z11_r4 z11_r5 z11_r6 z11_r7 z11_r8 z11_r9
        go_wp2
        go_ret
        exact ⟨rfl, z11_B⟩


end Go.Proofs.Ytcclncpegdbcbaa
