/- Layer 9's laws, walked: LeaseSeen. -/
import Derived.Test.YtcclncpegdbcbaaLeaseK
import Derived.Test.YtcclncpegdbcbaaTapeCard
import Derived.Test.YtcclncpegdbcbaaMask
namespace Go.Proofs.Ytcclncpegdbcbaa
open Go.RowKit
set_option linter.unusedVariables false

set_option maxRecDepth 100000 in
set_option maxHeartbeats 4000000 in
theorem leaseSeen_walk (a : Option Addr) (len cap : Nat) (zs : List Int) (a' : Option Addr) (len' cap' : Nat) (zs' : List Int) (w : World) (h0 : IsRow .i64 w a len cap zs) (_ : len * 8 ≤ 140737488351232) (h1 : IsRow .i64 w a' len' cap' zs') (_ : len' * 8 ≤ 140737488351232) :
    Calls Try.prog 7 #[.slice a len cap, .slice a' len' cap'] w fun e w' => e = .returned (.bool true) ∧ Below w.heap.size w w' := by
  have hrow := rowOk_new h0 (.cells #[.slice a len cap, .int .i64 0] 38)
  have htk := tapeK_new (a := a) (len := len) (cap := cap) w
  obtain ⟨hlc, hcm, -, -, hcell⟩ := h1
  unfold maxLen at hcm
  have hcell := Lib.hid hcell
  go_enter Try.func7, Try.ntmps7
  go_wp2_with fail
  refine (tapeCardK a len cap zs _ _ htk hrow).mono ?_
  rintro e w1 ⟨c, rfl, hc, htk1, hb1⟩
  have B1 : Below w.heap.size w w1 := Below.trans (b := (w.alloc (.cells #[.slice a len cap, .int .i64 0] 38))) (by go_grown) (hb1.below (Nat.le_refl _) (by simp))
  have hz1 := B1.size
  clear hb1 hrow htk htk1 hc
  go_wp2_with fail
  refine (leaseRegister_new En.zero false { c with g := false } 5 _ (.inl rfl)).mono ?_
  rintro e w2 ⟨rfl, hb⟩
  have z1_r0 : w2.heap[w1.heap.size]? = some (.cells #[.string c.a, .string c.i, .int .i64 c.s, .int .i64 c.o, .int .i64 c.l, .int .i64 c.t, .int .i64 c.k, .int .i64 c.n, .bool false] 28 (0, 0)) := blk_ext hb (by repeat (first | (with_reducible assumption) | (with_reducible refine blk_new_at ?_ _ _; first | (with_reducible rfl) | (simp; done)) | (with_reducible refine blk_alloc ?_ _) | (with_reducible refine blk_drew ?_) | (with_reducible apply blk_set) | (show Array.setIfInBounds _ _ _ = _; first | (simp; done) | (simp; rfl)) | (with_reducible refine blk_set_other ?_ ?_; omega)))
  have z1_B : Below w.heap.size w w2 := ext_trans (a := w) (by go_grown) hb
  clear  hb
  have z1_c0 := blk_cell z1_r0
  have z1_l0 := blk_lt z1_r0
  have z1_k0_0 : w1.heap.size ≤ w2.heap.size := by omega
  have z1_k0_1 : w1.heap.size ≤ w2.heap.size + 1 := by omega
  have z1_h0 := Lib.hid z1_r0
  clear z1_r0
  go_wp2_with fail
  have z1_s0 := z1_h0.out
  go_loopw [8, 9] (fun mo i wr => ∃ (j : Nat) (M : Int), j ≤ 20 ∧ 0 ≤ M ∧ M ≤ 65536 ∧ mo = .int .i64 M ∧ i = .int .i64 j ∧ Below w.heap.size w wr ∧ wr.heap[w2.heap.size]? = some (.cells #[.string c.a, .string c.i, .int .i64 c.s, .int .i64 0, .int .i64 c.l, .int .i64 c.t, .int .i64 c.k, .int .i64 c.n, .bool false, .int .i64 M] 30 (0, 0))) (fun _ i _ => 20 - (intOf i).toNat)
  case atStart => exact ⟨0, 5, by omega, by omega, by omega, rfl, rfl, by go_grown, by repeat (first | (with_reducible assumption) | (with_reducible refine blk_new_at ?_ _ _; first | (with_reducible rfl) | (simp; done)) | (with_reducible refine blk_alloc ?_ _) | (with_reducible refine blk_drew ?_) | (with_reducible apply blk_set) | (show Array.setIfInBounds _ _ _ = _; first | (simp; done) | (simp; rfl)) | (with_reducible refine blk_set_other ?_ ?_; omega))⟩
  case round =>
    obtain ⟨j, M, hj, hM0, hM1, rfl, rfl, B, hE⟩ := hrel
    have hEc := blk_cell hE
    have hEf := blk_free hE
    have hEl := blk_lt hE
    have hEk : w.heap.size ≤ w2.heap.size := by first | assumption | omega
    have hE := Lib.hid hE
    by_cases hlt : j < len'
    · by_cases h20 : j < 20
      · obtain ⟨b, o, rfl, hcc⟩ := hcell.out.resolve_left (by omega)
        have hnum := ext_cell B (hcc j hlt)
        clear hcc hcell
        generalize zs'.getD j 0 = x at hnum
        have hN1 := and_65535 x
        obtain ⟨N, hN⟩ : ∃ N, bits BinOp.and IntKind.i64 x 65535 = N := ⟨_, rfl⟩
        have hN0 : 0 ≤ N := by omega
        have hN2 : N ≤ 65536 := by omega
        clear hN1
        obtain ⟨M2, hM2⟩ : ∃ M2, (if M < N then N else M) = M2 := ⟨_, rfl⟩
        have hM20 : 0 ≤ M2 := by rw [← hM2]; split <;> omega
        have hM21 : M2 ≤ 65536 := by rw [← hM2]; split <;> omega
        go_wp2_with fail
        refine (leaseRenew_yes ⟨{ c with g := false, o := 0 }, M⟩ N _ rfl).mono ?_
        rintro e w3 ⟨rfl, hb⟩
        have hE3 := blk_ext hb hE.out
        have hEc3 := blk_cell hE3
        have hEf3 := blk_free hE3
        have hEl3 := blk_lt hE3
        have B3 := ext_trans B hb
        have HE3 := Lib.hid hE3
        clear hb hE hEc hEf hEl hE3 B hnum
        go_wp2_with fail
        have hE3 := HE3.out
        go_roundw
        case rel => exact ⟨j + 1, M2, by omega, by omega, by omega, by first | rfl | (simp [*]; done), by go_num, by go_grown, by repeat (first | (with_reducible assumption) | (with_reducible refine blk_new_at ?_ _ _; first | (with_reducible rfl) | (simp; done)) | (with_reducible refine blk_alloc ?_ _) | (with_reducible refine blk_drew ?_) | (with_reducible apply blk_set) | (show Array.setIfInBounds _ _ _ = _; first | (simp; done) | (simp; rfl)) | (with_reducible refine blk_set_other ?_ ?_; omega))⟩
        case measure => simp [intOf]; omega
      · go_wp2_with fail
        refine (law9known _).mono ?_
        rintro e w3 ⟨rfl, hb⟩
        have B3 := ext_trans B hb
        clear hb
        go_wp2_with fail
        go_ret
        exact ⟨rfl, B3⟩
    · go_wp2_with fail
      refine (law9known _).mono ?_
      rintro e w3 ⟨rfl, hb⟩
      have B3 := ext_trans B hb
      clear hb
      go_wp2_with fail
      go_ret
      exact ⟨rfl, B3⟩

end Go.Proofs.Ytcclncpegdbcbaa
