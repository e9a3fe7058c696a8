/- Layer 9's laws, walked: LeaseLate. -/
import Derived.Test.YtcclncpegdbcbaaLeaseK
import Derived.Test.YtcclncpegdbcbaaTapeCard
import Derived.Test.YtcclncpegdbcbaaMask
namespace Go.Proofs.Ytcclncpegdbcbaa
open Go.RowKit
set_option linter.unusedVariables false

theorem late_plain (c : Cd) (M m : Int) (hM0 : 0 ≤ M) (hM1 : M ≤ 65536) (hm0 : 0 ≤ m) (hm1 : m ≤ 65536) (hl0 : 1 ≤ c.l) (hl1 : c.l ≤ 60) : late ⟨{ c with g := false }, M⟩ (M + m) = if m - c.l < 0 then 0 else m - c.l := by
  simp [late, hd]
  repeat' split
  all_goals omega
theorem late_over (c : Cd) (M m : Int) (hM0 : 0 ≤ M) (hM1 : M ≤ 65536) (hm0 : 0 ≤ m) (hm1 : m ≤ 65536) (hl0 : 1 ≤ c.l) (hl1 : c.l ≤ 60) : late ⟨{ c with g := false }, M⟩ (M + c.l + m) = m := by
  simp [late, hd]
  repeat' split
  all_goals omega

set_option maxRecDepth 100000 in
set_option maxHeartbeats 4000000 in
theorem leaseLate_walk (a : Option Addr) (len cap : Nat) (zs : List Int) (now : Int) (more : Int) (w : World) (h0 : IsRow .i64 w a len cap zs) (_ : len * 8 ≤ 140737488351232) (_ : (Lit.int .i64 now).wf = true) (_ : (Lit.int .i64 more).wf = true) :
    Calls Try.prog 5 #[.slice a len cap, .int .i64 now, .int .i64 more] w fun e w' => e = .returned (.bool true) ∧ Below w.heap.size w w' := by
  have hN1 := and_65535 now
  have hN2 := and_255 more
  obtain ⟨N, hN⟩ : ∃ N, bits BinOp.and IntKind.i64 now 65535 = N := ⟨_, rfl⟩
  obtain ⟨m, hm⟩ : ∃ m, bits BinOp.and IntKind.i64 more 255 = m := ⟨_, rfl⟩
  have hNb : 0 ≤ N ∧ N ≤ 65536 := by omega
  have hmb : 0 ≤ m ∧ m ≤ 65536 := by omega
  obtain ⟨hNb0, hNb1⟩ := hNb
  obtain ⟨hmb0, hmb1⟩ := hmb
  clear hN1 hN2
  have hrow := rowOk_new h0 (.cells #[.slice a len cap, .int .i64 0] 38)
  have htk := tapeK_new (a := a) (len := len) (cap := cap) w
  go_enter Try.func5, Try.ntmps5
  go_wp2_with fail
  refine (tapeCardK a len cap zs _ _ htk hrow).mono ?_
  rintro e w1 ⟨c, rfl, hc, htk1, hb1⟩
  have hrow1 := hrow.bar hb1
  have B1 : Below w.heap.size w w1 := Below.trans (b := (w.alloc (.cells #[.slice a len cap, .int .i64 0] 38))) (by go_grown) (hb1.below (Nat.le_refl _) (by simp))
  clear hb1 hrow htk
  obtain ⟨z1, z2, z3, z4, z5, z6, z7, z8, -⟩ := hc
  go_wp2_with fail
  refine (tapeNextK _ _ _ zs _ 50 _ htk1 hrow1 (by omega) (by omega)).mono ?_
  rintro e w2 ⟨q, rfl, hq0, hq1, htk2, hb2⟩
  have B2 : Below w.heap.size w w2 := B1.trans (hb2.below (Nat.le_refl _) B1.size)
  have hz2 := B2.size
  clear hb2 htk1 hrow1 htk2 B1
  obtain ⟨M, hM⟩ : ∃ M, (if q < N then N else q) = M := ⟨_, rfl⟩
  have hM' : (if N < q then q else N) = M := by rw [← hM]; split <;> split <;> omega
  have hM0 : 0 ≤ M := by rw [← hM]; split <;> omega
  have hM1 : M ≤ 65536 := by rw [← hM]; split <;> omega
  go_wp2_with fail
  refine (leaseRenew_yes ⟨{ c with g := false }, q⟩ N _ rfl).mono ?_
  rintro e w3 ⟨rfl, hb⟩
  have z1_r0 : w3.heap[w2.heap.size]? = some (.cells #[.string c.a, .string c.i, .int .i64 c.s, .int .i64 c.o, .int .i64 c.l, .int .i64 c.t, .int .i64 c.k, .int .i64 c.n, .bool false, .int .i64 q] 30 (0, 0)) := blk_ext hb (by repeat (first | (with_reducible assumption) | (with_reducible refine blk_new_at ?_ _ _; first | (with_reducible rfl) | (simp; done)) | (with_reducible refine blk_alloc ?_ _) | (with_reducible refine blk_drew ?_) | (with_reducible apply blk_set) | (show Array.setIfInBounds _ _ _ = _; first | (simp; done) | (simp; rfl)) | (with_reducible refine blk_set_other ?_ ?_; omega)))
  have z1_B : Below w.heap.size w w3 := ext_trans (a := w) (by go_grown) hb
  clear  hb
  have z1_c0 := blk_cell z1_r0
  have z1_l0 := blk_lt z1_r0
  have z1_k0_0 : w2.heap.size ≤ w3.heap.size := by omega
  have z1_k0_1 : w2.heap.size ≤ w3.heap.size + 1 := by omega
  have z1_h0 := Lib.hid z1_r0
  clear z1_r0
  go_wp2_with fail
  have z1_s0 := z1_h0.out
  refine wp_letter (fun W => Below w.heap.size w W ∧ W.heap[w2.heap.size]? = some (.cells #[.string c.a, .string c.i, .int .i64 c.s, .int .i64 c.o, .int .i64 c.l, .int .i64 c.t, .int .i64 c.k, .int .i64 c.n, .bool false, .int .i64 q] 30 (0, 0)) ∧ W.heap[w3.heap.size]? = some (.cells #[.string c.a, .string c.i, .int .i64 c.s, .int .i64 c.o, .int .i64 c.l, .int .i64 c.t, .int .i64 c.k, .int .i64 c.n, .bool false, .int .i64 M] 30 (0, 0))) ⟨by go_grown, by repeat (first | (with_reducible assumption) | (with_reducible refine blk_new_at ?_ _ _; first | (with_reducible rfl) | (simp; done)) | (with_reducible refine blk_alloc ?_ _) | (with_reducible refine blk_drew ?_) | (with_reducible apply blk_set) | (show Array.setIfInBounds _ _ _ = _; first | (simp; done) | (simp; rfl)) | (with_reducible refine blk_set_other ?_ ?_; omega)), by repeat (first | (with_reducible assumption) | (with_reducible refine blk_new_at ?_ _ _; first | (with_reducible rfl) | (simp; done)) | (with_reducible refine blk_alloc ?_ _) | (with_reducible refine blk_drew ?_) | (with_reducible apply blk_set) | (show Array.setIfInBounds _ _ _ = _; first | (simp; done) | (simp; rfl)) | (with_reducible refine blk_set_other ?_ ?_; omega))⟩ ?_
  rintro w4 ⟨hBl, hl0, hl1⟩
  have z2_r0 : w4.heap[w2.heap.size]? = some (.cells #[.string c.a, .string c.i, .int .i64 c.s, .int .i64 c.o, .int .i64 c.l, .int .i64 c.t, .int .i64 c.k, .int .i64 c.n, .bool false, .int .i64 q] 30 (0, 0)) := hl0
  have z2_r1 : w4.heap[w3.heap.size]? = some (.cells #[.string c.a, .string c.i, .int .i64 c.s, .int .i64 c.o, .int .i64 c.l, .int .i64 c.t, .int .i64 c.k, .int .i64 c.n, .bool false, .int .i64 M] 30 (0, 0)) := hl1
  have z2_B : Below w.heap.size w w4 := hBl
  clear z1_B z1_c0 z1_l0 z1_k0_0 z1_k0_1 z1_h0 z1_s0 hBl hl0 hl1
  have z2_c0 := blk_cell z2_r0
  have z2_l0 := blk_lt z2_r0
  have z2_k0_0 : w2.heap.size ≤ w4.heap.size := by omega
  have z2_k0_1 : w2.heap.size ≤ w4.heap.size + 1 := by omega
  have z2_c1 := blk_cell z2_r1
  have z2_l1 := blk_lt z2_r1
  have z2_k1_0 : w3.heap.size ≤ w4.heap.size := by omega
  have z2_k1_1 : w3.heap.size ≤ w4.heap.size + 1 := by omega
  have z2_h0 := Lib.hid z2_r0
  have z2_h1 := Lib.hid z2_r1
  clear z2_r0 z2_r1
  obtain ⟨V, hV⟩ : ∃ V, (if m - c.l < 0 then 0 else m - c.l) = V := ⟨_, rfl⟩
  have E1 := Lib.hid ((late_plain c M m hM0 hM1 hmb0 hmb1 z7 z8).trans hV)
  have E2 := Lib.hid (late_over c M m hM0 hM1 hmb0 hmb1 z7 z8)
  haveI hIq : Nonempty (Of w4) := of_some _
  have hFq0 := blk_of z2_h0.out
  have hFq1 := blk_of z2_h1.out
  first | (refine wp_region_stay w4 (by kernel_rfl) (by kernel_rfl) (by go_grown) ?_) | (refine wp_region_stay_seq w4 (by go_grown) ?_)
  repeat (go_big_quiet_step ((first | (go_at_call 15; (first | (with_reducible refine stay_as (leaseLate ⟨{ c with g := false }, M⟩ (M + m) _) (congrArg (Value.int .i64) E1.out)) | (with_reducible refine stay_as (leaseLate ⟨{ c with g := false }, M⟩ (M + c.l + m) _) (congrArg (Value.int .i64) E2.out)))) | (go_at_call 10; refine stay_call (law9known _)))))
  refine wpQuiet_nil ?_
  intro w5 hb
  clear hIq hFq0 hFq1
  have z3_r0 : w5.heap[w2.heap.size]? = some (.cells #[.string c.a, .string c.i, .int .i64 c.s, .int .i64 c.o, .int .i64 c.l, .int .i64 c.t, .int .i64 c.k, .int .i64 c.n, .bool false, .int .i64 q] 30 (0, 0)) := blk_ext hb z2_h0.out
  have z3_r1 : w5.heap[w3.heap.size]? = some (.cells #[.string c.a, .string c.i, .int .i64 c.s, .int .i64 c.o, .int .i64 c.l, .int .i64 c.t, .int .i64 c.k, .int .i64 c.n, .bool false, .int .i64 M] 30 (0, 0)) := blk_ext hb z2_h1.out
  have z3_B : Below w.heap.size w w5 := ext_trans z2_B hb
  clear z2_B z2_c0 z2_l0 z2_k0_0 z2_k0_1 z2_c1 z2_l1 z2_k1_0 z2_k1_1 z2_h0 z2_h1 hb
  have z3_c0 := blk_cell z3_r0
  have z3_l0 := blk_lt z3_r0
  have z3_k0_0 : w2.heap.size ≤ w5.heap.size := by omega
  have z3_k0_1 : w2.heap.size ≤ w5.heap.size + 1 := by omega
  have z3_c1 := blk_cell z3_r1
  have z3_l1 := blk_lt z3_r1
  have z3_k1_0 : w3.heap.size ≤ w5.heap.size := by omega
  have z3_k1_1 : w3.heap.size ≤ w5.heap.size + 1 := by omega
  have z3_h0 := Lib.hid z3_r0
  have z3_h1 := Lib.hid z3_r1
  clear z3_r0 z3_r1
  go_wp2
  go_ret
  exact ⟨rfl, z3_B⟩

end Go.Proofs.Ytcclncpegdbcbaa
