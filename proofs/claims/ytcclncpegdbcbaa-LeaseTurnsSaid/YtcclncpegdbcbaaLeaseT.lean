/- Layer 9's laws, walked: LeaseTurns. -/
import Derived.Test.YtcclncpegdbcbaaLeaseK
import Derived.Test.YtcclncpegdbcbaaTapeCard
import Derived.Test.YtcclncpegdbcbaaMask
namespace Go.Proofs.Ytcclncpegdbcbaa
open Go.RowKit
set_option linter.unusedVariables false

set_option maxRecDepth 100000 in
set_option maxHeartbeats 4000000 in
theorem leaseTurns_walk (a0 : Option Addr) (len cap : Nat) (zs : List Int) (over : Int) (now : Int) (w : World) (h0 : IsRow .i64 w a0 len cap zs) (_ : len * 8 ≤ 140737488351232) (_ : (Lit.int .i64 over).wf = true) (_ : (Lit.int .i64 now).wf = true) :
    Calls Try.prog 6 #[.slice a0 len cap, .int .i64 over, .int .i64 now] w fun e w' => e = .returned (.bool true) ∧ Below w.heap.size w w' := by
  have hN1 := and_65535 now
  have hO1 := and_3 over
  obtain ⟨N, hN⟩ : ∃ N, bits BinOp.and IntKind.i64 now 65535 = N := ⟨_, rfl⟩
  obtain ⟨O, hO⟩ : ∃ O, bits BinOp.and IntKind.i64 over 3 = O := ⟨_, rfl⟩
  have hNb0 : 0 ≤ N := by omega
  have hNb1 : N ≤ 65536 := by omega
  have hO0 : 0 ≤ O := by omega
  have hO3 : O ≤ 3 := by omega
  clear hN1 hO1
  have hrow := rowOk_new h0 (.cells #[.slice a0 len cap, .int .i64 0] 38)
  have htk := tapeK_new (a := a0) (len := len) (cap := cap) w
  go_enter Try.func6, Try.ntmps6
  go_wp2_with fail
  obtain ⟨tb, htb⟩ : ∃ tb, w.heap.size = tb := ⟨_, rfl⟩
  rw [htb] at hrow htk ⊢
  refine (tapeCardK a0 len cap zs _ _ htk hrow).mono ?_
  rintro e w1 ⟨c, rfl, -, htk1, hb1⟩
  have hrow1 := hrow.bar hb1
  have B1 : Below w.heap.size w w1 := Below.trans (b := (w.alloc (.cells #[.slice a0 len cap, .int .i64 0] 38))) (by go_grown) (hb1.below (by omega) (by simp))
  have hz1 := B1.size
  have htl1 := htk1.lt
  clear hb1 hrow htk
  go_wp2_with fail
  refine (leaseRegister_new En.zero false { c with g := false } N _ (.inl rfl)).mono ?_
  rintro e w2 ⟨rfl, hb⟩
  have z1_r0 : w2.heap[w1.heap.size]? = some (.cells #[.string c.a, .string c.i, .int .i64 c.s, .int .i64 c.o, .int .i64 c.l, .int .i64 c.t, .int .i64 c.k, .int .i64 c.n, .bool false] 28 (0, 0)) := blk_ext hb (by repeat (first | (with_reducible assumption) | (with_reducible refine blk_new_at ?_ _ _; first | (with_reducible rfl) | (simp; done)) | (with_reducible refine blk_alloc ?_ _) | (with_reducible refine blk_drew ?_) | (with_reducible apply blk_set) | (show Array.setIfInBounds _ _ _ = _; first | (simp; done) | (simp; rfl)) | (with_reducible refine blk_set_other ?_ ?_; omega)))
  have z1_htk : TapeK a0 len cap w2 tb := TapeK.ext (TapeK.ext (htk1) (by go_grown)) (hb)
  have z1_hrow : RowOk a0 len cap zs w2 tb := RowOk.bar (RowOk.bar (hrow1) (Bar.of (by go_grown))) (Bar.of (hb))
  have z1_B : Below w.heap.size w w2 := ext_trans (a := w) (by go_grown) hb
  have z1_z := z1_B.size
  clear  hb
  have z1_c0 := blk_cell z1_r0
  have z1_l0 := blk_lt z1_r0
  have z1_k0_0 : w1.heap.size ≤ w2.heap.size := by omega
  have z1_k0_1 : w1.heap.size ≤ w2.heap.size + 1 := by omega
  have z1_h0 := Lib.hid z1_r0
  clear z1_r0
  have tlw2 : tb < w2.heap.size := z1_htk.lt
  go_wp2_with fail
  have z1_s0 := z1_h0.out
  refine wp_letter (fun W => Below w.heap.size w W ∧ W.heap[w1.heap.size]? = some (.cells #[.string c.a, .string c.i, .int .i64 c.s, .int .i64 c.o, .int .i64 c.l, .int .i64 c.t, .int .i64 c.k, .int .i64 c.n, .bool false] 28 (0, 0)) ∧ W.heap[w2.heap.size]? = some (.cells #[.string c.a, .string c.i, .int .i64 c.s, .int .i64 0, .int .i64 c.l, .int .i64 c.t, .int .i64 c.k, .int .i64 c.n, .bool false, .int .i64 N] 30 (0, 0)) ∧ TapeK a0 len cap W tb ∧ RowOk a0 len cap zs W tb) ⟨by go_grown, by repeat (first | (with_reducible assumption) | (with_reducible refine blk_new_at ?_ _ _; first | (with_reducible rfl) | (simp; done)) | (with_reducible refine blk_alloc ?_ _) | (with_reducible refine blk_drew ?_) | (with_reducible apply blk_set) | (show Array.setIfInBounds _ _ _ = _; first | (simp; done) | (simp; rfl)) | (with_reducible refine blk_set_other ?_ ?_; omega)), by repeat (first | (with_reducible assumption) | (with_reducible refine blk_new_at ?_ _ _; first | (with_reducible rfl) | (simp; done)) | (with_reducible refine blk_alloc ?_ _) | (with_reducible refine blk_drew ?_) | (with_reducible apply blk_set) | (show Array.setIfInBounds _ _ _ = _; first | (simp; done) | (simp; rfl)) | (with_reducible refine blk_set_other ?_ ?_; omega)), TapeK.ext (z1_htk) (by go_grown), RowOk.bar (z1_hrow) (Bar.of (by go_grown))⟩ ?_
  rintro w3 ⟨hBl, hl0, hl1, hxhtk, hxhrow⟩
  have z2_r0 : w3.heap[w1.heap.size]? = some (.cells #[.string c.a, .string c.i, .int .i64 c.s, .int .i64 c.o, .int .i64 c.l, .int .i64 c.t, .int .i64 c.k, .int .i64 c.n, .bool false] 28 (0, 0)) := hl0
  have z2_r1 : w3.heap[w2.heap.size]? = some (.cells #[.string c.a, .string c.i, .int .i64 c.s, .int .i64 0, .int .i64 c.l, .int .i64 c.t, .int .i64 c.k, .int .i64 c.n, .bool false, .int .i64 N] 30 (0, 0)) := hl1
  have z2_htk : TapeK a0 len cap w3 tb := hxhtk
  have z2_hrow : RowOk a0 len cap zs w3 tb := hxhrow
  have z2_B : Below w.heap.size w w3 := hBl
  have z2_z := z2_B.size
  clear z1_htk z1_hrow z1_B z1_z z1_c0 z1_l0 z1_k0_0 z1_k0_1 z1_h0 z1_s0 hBl hl0 hl1 hxhtk hxhrow
  have z2_c0 := blk_cell z2_r0
  have z2_l0 := blk_lt z2_r0
  have z2_k0_0 : w1.heap.size ≤ w3.heap.size := by omega
  have z2_k0_1 : w1.heap.size ≤ w3.heap.size + 1 := by omega
  have z2_c1 := blk_cell z2_r1
  have z2_l1 := blk_lt z2_r1
  have z2_k1_0 : w2.heap.size ≤ w3.heap.size := by omega
  have z2_k1_1 : w2.heap.size ≤ w3.heap.size + 1 := by omega
  have z2_h0 := Lib.hid z2_r0
  have z2_h1 := Lib.hid z2_r1
  clear z2_r0 z2_r1
  have hrowW := z2_hrow
  refine wp_region_inv_eq (J := fun A d a x => ∃ u36 u37 u38 u39 u40 u41 u35 u42 u43 u11 u12 : Value, a = (((((((((((A.put (some 36) u36).put (some 37) u37).put (some 38) u38).put (some 39) u39).put (some 40) u40).put (some 41) u41).put (some 35) u35).put (some 42) u42).put (some 43) u43).put (some 11) u11).put (some 12) u12) ∧ (d 0 = true → u36 = .agg #[.string c.a, .string c.i, .int .i64 c.s, .int .i64 0, .int .i64 c.l, .int .i64 c.t, .int .i64 c.k, .int .i64 c.n, .bool false, .int .i64 N]) ∧ (d 1 = true → u37 = .int .i64 over) ∧ (d 2 = true → u38 = .int .i64 O) ∧ (d 3 = true → u39 = .pointer (some ⟨tb, 0, none⟩)) ∧ (d 4 = true → ∃ t k n : Int, u40 = stv t k n) ∧ (d 5 = true → ∃ t k n : Int, u41 = .tuple #[.agg #[.string c.a, .string c.i, .int .i64 c.s, .int .i64 O, .int .i64 c.l, .int .i64 t, .int .i64 k, .int .i64 n, .bool false, .int .i64 N], .bool true]) ∧ (d 6 = true → ∃ t k n : Int, u35 = .tuple #[.agg #[.string c.a, .string c.i, .int .i64 c.s, .int .i64 O, .int .i64 c.l, .int .i64 t, .int .i64 k, .int .i64 n, .bool false, .int .i64 N], .bool true]) ∧ (d 7 = true → ∃ t k n : Int, u42 = .agg #[.string c.a, .string c.i, .int .i64 c.s, .int .i64 O, .int .i64 c.l, .int .i64 t, .int .i64 k, .int .i64 n, .bool false, .int .i64 N]) ∧ (d 8 = true → u43 = .bool true) ∧ (d 9 = true → ∃ b : Nat, u11 = .pointer (some ⟨b, 0, none⟩) ∧ w3.heap.size ≤ b ∧ b ≠ tb ∧ ∃ y0 y1 y2 y3 y4 y5 y6 y7 y8 y9 : Value, x.heap[b]? = some (.cells #[y0, y1, y2, y3, y4, y5, y6, y7, y8, y9] 30 (0, 0))) ∧ (d 10 = true → ∃ (b : Nat) (t k n : Int), d 9 = true ∧ u11 = .pointer (some ⟨b, 0, none⟩) ∧ w3.heap.size ≤ b ∧ b ≠ tb ∧ x.heap[b]? = some (.cells #[.string c.a, .string c.i, .int .i64 c.s, .int .i64 O, .int .i64 c.l, .int .i64 t, .int .i64 k, .int .i64 n, .bool false, .int .i64 N] 30 (0, 0))) ∧ (d 11 = true → u12 = .bool true) ∧ TapeK a0 len cap x tb ∧ Bar tb w3 x) (by simp only [Act.put, List.setIfInBounds_toArray, List.set_cons_succ, List.set_cons_zero]; rfl) (by kernel_rfl) (by kernel_rfl) ?_ ?_ ?_
  · refine ⟨_, _, _, _, _, _, _, _, _, _, _, rfl, ?_, ?_, ?_, ?_, ?_, ?_, ?_, ?_, ?_, ?_, ?_, ?_, ?_, ?_⟩
    · intro h; cases h
    · intro h; cases h
    · intro h; cases h
    · intro h; cases h
    · intro h; cases h
    · intro h; cases h
    · intro h; cases h
    · intro h; cases h
    · intro h; cases h
    · intro h; cases h
    · intro h; cases h
    · intro h; cases h
    · exact z2_htk.ext ((Below.refl _ _).drew)
    · exact Bar.of ((Below.refl _ _).drew)
  · simp only [StepsOk, StepOk]
    refine ⟨?_, ?_, ?_, ?_, ?_, ?_, ?_, ?_, ?_, ?_, ?_, ?_, trivial⟩
    · rintro d a x ⟨u36, u37, u38, u39, u40, u41, u35, u42, u43, u11, u12, rfl, f0, f1, f2, f3, f4, f5, f6, f7, f8, f9, f10, f11, g0, g1⟩ hd hdep K hK
      have hx := blk_cell (g1.blk (by omega) z2_h1.out)
      rw [if_pos (by rfl)]
      go_big_op
      refine hK _ _ ⟨_, _, _, _, _, _, _, _, _, _, _, rfl, ?_, ?_, ?_, ?_, ?_, ?_, ?_, ?_, ?_, ?_, ?_, ?_, ?_, ?_⟩
      · exact (fun _ => rfl)
      · exact (fun h => f1 (by simpa using h))
      · exact (fun h => f2 (by simpa using h))
      · exact (fun h => f3 (by simpa using h))
      · exact (fun h => f4 (by simpa using h))
      · exact (fun h => f5 (by simpa using h))
      · exact (fun h => f6 (by simpa using h))
      · exact (fun h => f7 (by simpa using h))
      · exact (fun h => f8 (by simpa using h))
      · exact (fun h => f9 (by simpa using h))
      · exact (fun h => by have f := f10 (by simpa using h); (obtain ⟨b, t, k, n, e0, e, e1, e2, e3⟩ := f; exact ⟨b, t, k, n, by simp [e0], e, e1, e2, e3⟩))
      · exact (fun h => f11 (by simpa using h))
      · exact g0
      · exact g1
    · rintro d a x ⟨u36, u37, u38, u39, u40, u41, u35, u42, u43, u11, u12, rfl, f0, f1, f2, f3, f4, f5, f6, f7, f8, f9, f10, f11, g0, g1⟩ hd hdep K hK
      rw [if_pos (by rfl)]
      go_big_op
      refine hK _ _ ⟨_, _, _, _, _, _, _, _, _, _, _, rfl, ?_, ?_, ?_, ?_, ?_, ?_, ?_, ?_, ?_, ?_, ?_, ?_, ?_, ?_⟩
      · exact (fun h => f0 (by simpa using h))
      · exact (fun _ => rfl)
      · exact (fun h => f2 (by simpa using h))
      · exact (fun h => f3 (by simpa using h))
      · exact (fun h => f4 (by simpa using h))
      · exact (fun h => f5 (by simpa using h))
      · exact (fun h => f6 (by simpa using h))
      · exact (fun h => f7 (by simpa using h))
      · exact (fun h => f8 (by simpa using h))
      · exact (fun h => f9 (by simpa using h))
      · exact (fun h => by have f := f10 (by simpa using h); (obtain ⟨b, t, k, n, e0, e, e1, e2, e3⟩ := f; exact ⟨b, t, k, n, by simp [e0], e, e1, e2, e3⟩))
      · exact (fun h => f11 (by simpa using h))
      · exact g0
      · exact g1
    · rintro d a x ⟨u36, u37, u38, u39, u40, u41, u35, u42, u43, u11, u12, rfl, f0, f1, f2, f3, f4, f5, f6, f7, f8, f9, f10, f11, g0, g1⟩ hd hdep K hK
      have hd1 : d 1 = true := hdep ⟨1, .data⟩ (by simp) rfl
      obtain rfl := f1 hd1
      rw [if_pos (by rfl)]
      go_big_op
      refine hK _ _ ⟨_, _, _, _, _, _, _, _, _, _, _, rfl, ?_, ?_, ?_, ?_, ?_, ?_, ?_, ?_, ?_, ?_, ?_, ?_, ?_, ?_⟩
      · exact (fun h => f0 (by simpa using h))
      · exact (fun h => f1 (by simpa using h))
      · exact (fun _ => rfl)
      · exact (fun h => f3 (by simpa using h))
      · exact (fun h => f4 (by simpa using h))
      · exact (fun h => f5 (by simpa using h))
      · exact (fun h => f6 (by simpa using h))
      · exact (fun h => f7 (by simpa using h))
      · exact (fun h => f8 (by simpa using h))
      · exact (fun h => f9 (by simpa using h))
      · exact (fun h => by have f := f10 (by simpa using h); (obtain ⟨b, t, k, n, e0, e, e1, e2, e3⟩ := f; exact ⟨b, t, k, n, by simp [e0], e, e1, e2, e3⟩))
      · exact (fun h => f11 (by simpa using h))
      · exact g0
      · exact g1
    · rintro d a x ⟨u36, u37, u38, u39, u40, u41, u35, u42, u43, u11, u12, rfl, f0, f1, f2, f3, f4, f5, f6, f7, f8, f9, f10, f11, g0, g1⟩ hd hdep K hK
      rw [if_pos (by rfl)]
      go_big_op
      refine hK _ _ ⟨_, _, _, _, _, _, _, _, _, _, _, rfl, ?_, ?_, ?_, ?_, ?_, ?_, ?_, ?_, ?_, ?_, ?_, ?_, ?_, ?_⟩
      · exact (fun h => f0 (by simpa using h))
      · exact (fun h => f1 (by simpa using h))
      · exact (fun h => f2 (by simpa using h))
      · exact (fun _ => rfl)
      · exact (fun h => f4 (by simpa using h))
      · exact (fun h => f5 (by simpa using h))
      · exact (fun h => f6 (by simpa using h))
      · exact (fun h => f7 (by simpa using h))
      · exact (fun h => f8 (by simpa using h))
      · exact (fun h => f9 (by simpa using h))
      · exact (fun h => by have f := f10 (by simpa using h); (obtain ⟨b, t, k, n, e0, e, e1, e2, e3⟩ := f; exact ⟨b, t, k, n, by simp [e0], e, e1, e2, e3⟩))
      · exact (fun h => f11 (by simpa using h))
      · exact g0
      · exact g1
    · rintro d a x ⟨u36, u37, u38, u39, u40, u41, u35, u42, u43, u11, u12, rfl, f0, f1, f2, f3, f4, f5, f6, f7, f8, f9, f10, f11, g0, g1⟩ hd hdep K hK
      have hd3 : d 3 = true := hdep ⟨3, .data⟩ (by simp) rfl
      obtain rfl := f3 hd3
      rw [if_pos (by rfl)]
      go_big_op
      refine (tapeStampK _ _ _ zs _ _ g0 (hrowW.bar g1)).mono ?_
      rintro e x1 ⟨t, k, n, rfl, -, -, -, -, -, -, hT1, hbar⟩
      refine hK _ _ ⟨_, _, _, _, _, _, _, _, _, _, _, rfl, ?_, ?_, ?_, ?_, ?_, ?_, ?_, ?_, ?_, ?_, ?_, ?_, ?_, ?_⟩
      · exact (fun h => f0 (by simpa using h))
      · exact (fun h => f1 (by simpa using h))
      · exact (fun h => f2 (by simpa using h))
      · exact (fun h => f3 (by simpa using h))
      · exact (fun _ => ⟨t, k, n, rfl⟩)
      · exact (fun h => f5 (by simpa using h))
      · exact (fun h => f6 (by simpa using h))
      · exact (fun h => f7 (by simpa using h))
      · exact (fun h => f8 (by simpa using h))
      · exact (fun h => by have f := f9 (by simpa using h); (obtain ⟨b, e, e1, e2, y0, y1, y2, y3, y4, y5, y6, y7, y8, y9, e3⟩ := f; exact ⟨b, e, e1, e2, y0, y1, y2, y3, y4, y5, y6, y7, y8, y9, hbar.blk e2 e3⟩))
      · exact (fun h => by have f := f10 (by simpa using h); (obtain ⟨b, t, k, n, e0, e, e1, e2, e3⟩ := f; exact ⟨b, t, k, n, by simp [e0], e, e1, e2, hbar.blk e2 e3⟩))
      · exact (fun h => f11 (by simpa using h))
      · exact hT1
      · exact (g1.trans hbar)
    · rintro d a x ⟨u36, u37, u38, u39, u40, u41, u35, u42, u43, u11, u12, rfl, f0, f1, f2, f3, f4, f5, f6, f7, f8, f9, f10, f11, g0, g1⟩ hd hdep K hK
      have hd0 : d 0 = true := hdep ⟨0, .data⟩ (by simp) rfl
      have hd2 : d 2 = true := hdep ⟨2, .data⟩ (by simp) rfl
      have hd4 : d 4 = true := hdep ⟨4, .data⟩ (by simp) rfl
      have hd4 : d 4 = true := hdep ⟨4, .chain⟩ (by simp) rfl
      obtain rfl := f0 hd0
      obtain rfl := f2 hd2
      obtain ⟨t4, k4, n4, rfl⟩ := f4 hd4
      rw [if_pos (by rfl)]
      go_big_op
      refine (leaseOverride_yes ⟨{ c with g := false, o := 0 }, N⟩ O t4 k4 n4 _ rfl hO0 hO3).mono ?_
      rintro e x1 ⟨rfl, hbl⟩
      refine hK _ _ ⟨_, _, _, _, _, _, _, _, _, _, _, rfl, ?_, ?_, ?_, ?_, ?_, ?_, ?_, ?_, ?_, ?_, ?_, ?_, ?_, ?_⟩
      · exact (fun h => f0 (by simpa using h))
      · exact (fun h => f1 (by simpa using h))
      · exact (fun h => f2 (by simpa using h))
      · exact (fun h => f3 (by simpa using h))
      · exact (fun h => f4 (by simpa using h))
      · exact (fun _ => ⟨t4, k4, n4, rfl⟩)
      · exact (fun h => f6 (by simpa using h))
      · exact (fun h => f7 (by simpa using h))
      · exact (fun h => f8 (by simpa using h))
      · exact (fun h => by have f := f9 (by simpa using h); (obtain ⟨b, e, e1, e2, y0, y1, y2, y3, y4, y5, y6, y7, y8, y9, e3⟩ := f; exact ⟨b, e, e1, e2, y0, y1, y2, y3, y4, y5, y6, y7, y8, y9, blk_ext hbl e3⟩))
      · exact (fun h => by have f := f10 (by simpa using h); (obtain ⟨b, t, k, n, e0, e, e1, e2, e3⟩ := f; exact ⟨b, t, k, n, by simp [e0], e, e1, e2, blk_ext hbl e3⟩))
      · exact (fun h => f11 (by simpa using h))
      · exact (g0.ext hbl)
      · exact (g1.trans (Bar.of hbl))
    · rintro d a x ⟨u36, u37, u38, u39, u40, u41, u35, u42, u43, u11, u12, rfl, f0, f1, f2, f3, f4, f5, f6, f7, f8, f9, f10, f11, g0, g1⟩ hd hdep K hK
      have hd5 : d 5 = true := hdep ⟨5, .data⟩ (by simp) rfl
      obtain ⟨t, k, n, rfl⟩ := f5 hd5
      rw [if_pos (by rfl)]
      go_big_op
      refine hK _ _ ⟨_, _, _, _, _, _, _, _, _, _, _, rfl, ?_, ?_, ?_, ?_, ?_, ?_, ?_, ?_, ?_, ?_, ?_, ?_, ?_, ?_⟩
      · exact (fun h => f0 (by simpa using h))
      · exact (fun h => f1 (by simpa using h))
      · exact (fun h => f2 (by simpa using h))
      · exact (fun h => f3 (by simpa using h))
      · exact (fun h => f4 (by simpa using h))
      · exact (fun h => f5 (by simpa using h))
      · exact (fun _ => ⟨t, k, n, rfl⟩)
      · exact (fun h => f7 (by simpa using h))
      · exact (fun h => f8 (by simpa using h))
      · exact (fun h => f9 (by simpa using h))
      · exact (fun h => by have f := f10 (by simpa using h); (obtain ⟨b, t, k, n, e0, e, e1, e2, e3⟩ := f; exact ⟨b, t, k, n, by simp [e0], e, e1, e2, e3⟩))
      · exact (fun h => f11 (by simpa using h))
      · exact g0
      · exact g1
    · rintro d a x ⟨u36, u37, u38, u39, u40, u41, u35, u42, u43, u11, u12, rfl, f0, f1, f2, f3, f4, f5, f6, f7, f8, f9, f10, f11, g0, g1⟩ hd hdep K hK
      have hd6 : d 6 = true := hdep ⟨6, .data⟩ (by simp) rfl
      obtain ⟨t, k, n, rfl⟩ := f6 hd6
      rw [if_pos (by rfl)]
      go_big_op
      refine hK _ _ ⟨_, _, _, _, _, _, _, _, _, _, _, rfl, ?_, ?_, ?_, ?_, ?_, ?_, ?_, ?_, ?_, ?_, ?_, ?_, ?_, ?_⟩
      · exact (fun h => f0 (by simpa using h))
      · exact (fun h => f1 (by simpa using h))
      · exact (fun h => f2 (by simpa using h))
      · exact (fun h => f3 (by simpa using h))
      · exact (fun h => f4 (by simpa using h))
      · exact (fun h => f5 (by simpa using h))
      · exact (fun h => f6 (by simpa using h))
      · exact (fun _ => ⟨t, k, n, rfl⟩)
      · exact (fun h => f8 (by simpa using h))
      · exact (fun h => f9 (by simpa using h))
      · exact (fun h => by have f := f10 (by simpa using h); (obtain ⟨b, t, k, n, e0, e, e1, e2, e3⟩ := f; exact ⟨b, t, k, n, by simp [e0], e, e1, e2, e3⟩))
      · exact (fun h => f11 (by simpa using h))
      · exact g0
      · exact g1
    · rintro d a x ⟨u36, u37, u38, u39, u40, u41, u35, u42, u43, u11, u12, rfl, f0, f1, f2, f3, f4, f5, f6, f7, f8, f9, f10, f11, g0, g1⟩ hd hdep K hK
      have hd6 : d 6 = true := hdep ⟨6, .data⟩ (by simp) rfl
      obtain ⟨t, k, n, rfl⟩ := f6 hd6
      rw [if_pos (by rfl)]
      go_big_op
      refine hK _ _ ⟨_, _, _, _, _, _, _, _, _, _, _, rfl, ?_, ?_, ?_, ?_, ?_, ?_, ?_, ?_, ?_, ?_, ?_, ?_, ?_, ?_⟩
      · exact (fun h => f0 (by simpa using h))
      · exact (fun h => f1 (by simpa using h))
      · exact (fun h => f2 (by simpa using h))
      · exact (fun h => f3 (by simpa using h))
      · exact (fun h => f4 (by simpa using h))
      · exact (fun h => f5 (by simpa using h))
      · exact (fun h => f6 (by simpa using h))
      · exact (fun h => f7 (by simpa using h))
      · exact (fun _ => rfl)
      · exact (fun h => f9 (by simpa using h))
      · exact (fun h => by have f := f10 (by simpa using h); (obtain ⟨b, t, k, n, e0, e, e1, e2, e3⟩ := f; exact ⟨b, t, k, n, by simp [e0], e, e1, e2, e3⟩))
      · exact (fun h => f11 (by simpa using h))
      · exact g0
      · exact g1
    · rintro d a x ⟨u36, u37, u38, u39, u40, u41, u35, u42, u43, u11, u12, rfl, f0, f1, f2, f3, f4, f5, f6, f7, f8, f9, f10, f11, g0, g1⟩ hd hdep K hK
      rw [if_pos (by rfl)]
      go_big_op
      refine hK _ _ ⟨_, _, _, _, _, _, _, _, _, _, _, rfl, ?_, ?_, ?_, ?_, ?_, ?_, ?_, ?_, ?_, ?_, ?_, ?_, ?_, ?_⟩
      · exact (fun h => f0 (by simpa using h))
      · exact (fun h => f1 (by simpa using h))
      · exact (fun h => f2 (by simpa using h))
      · exact (fun h => f3 (by simpa using h))
      · exact (fun h => f4 (by simpa using h))
      · exact (fun h => f5 (by simpa using h))
      · exact (fun h => f6 (by simpa using h))
      · exact (fun h => f7 (by simpa using h))
      · exact (fun h => f8 (by simpa using h))
      · exact (fun _ => ⟨_, rfl, by have := g1.size; omega, by have := g0.lt; omega, _, _, _, _, _, _, _, _, _, _, blk_new _ _ _⟩)
      · exact (fun h => by obtain ⟨b, t, k, n, e0, -⟩ := f10 (by simpa using h); rw [hd] at e0; cases e0)
      · exact (fun h => f11 (by simpa using h))
      · exact (g0.ext ((Below.refl _ _).alloc (Nat.le_refl _) _))
      · exact (g1.trans (Bar.of ((Below.refl _ _).alloc (Nat.le_refl _) _)))
    · rintro d a x ⟨u36, u37, u38, u39, u40, u41, u35, u42, u43, u11, u12, rfl, f0, f1, f2, f3, f4, f5, f6, f7, f8, f9, f10, f11, g0, g1⟩ hd hdep K hK
      have hd9 : d 9 = true := hdep ⟨9, .data⟩ (by simp) rfl
      have hd7 : d 7 = true := hdep ⟨7, .data⟩ (by simp) rfl
      have hd7 : d 7 = true := hdep ⟨7, .phase⟩ (by simp) rfl
      have hd9 : d 9 = true := hdep ⟨9, .phase⟩ (by simp) rfl
      obtain ⟨bn, rfl, bn1, bn2, y0, y1, y2, y3, y4, y5, y6, y7, y8, y9, hbn⟩ := f9 hd9
      obtain ⟨t, k, n, rfl⟩ := f7 hd7
      have hbc := blk_cell hbn
      have hbf := blk_free hbn
      have hbl2 := blk_lt hbn
      rw [if_pos (by rfl)]
      go_big_op
      have hkp : Kept bn x ((((((((((x.setCell ⟨bn, 0, none⟩ (.string c.a)).setCell ⟨bn, 1, none⟩ (.string c.i)).setCell ⟨bn, 2, none⟩ (.int .i64 c.s)).setCell ⟨bn, 3, none⟩ (.int .i64 O)).setCell ⟨bn, 4, none⟩ (.int .i64 c.l)).setCell ⟨bn, 5, none⟩ (.int .i64 t)).setCell ⟨bn, 6, none⟩ (.int .i64 k)).setCell ⟨bn, 7, none⟩ (.int .i64 n)).setCell ⟨bn, 8, none⟩ (.bool false)).setCell ⟨bn, 9, none⟩ (.int .i64 N)) := (((((((((((Kept.refl bn x).setCell _ _).setCell _ _).setCell _ _).setCell _ _).setCell _ _).setCell _ _).setCell _ _).setCell _ _).setCell _ _).setCell _ _)
      have RB : ((((((((((x.setCell ⟨bn, 0, none⟩ (.string c.a)).setCell ⟨bn, 1, none⟩ (.string c.i)).setCell ⟨bn, 2, none⟩ (.int .i64 c.s)).setCell ⟨bn, 3, none⟩ (.int .i64 O)).setCell ⟨bn, 4, none⟩ (.int .i64 c.l)).setCell ⟨bn, 5, none⟩ (.int .i64 t)).setCell ⟨bn, 6, none⟩ (.int .i64 k)).setCell ⟨bn, 7, none⟩ (.int .i64 n)).setCell ⟨bn, 8, none⟩ (.bool false)).setCell ⟨bn, 9, none⟩ (.int .i64 N)).heap[bn]? = some (.cells #[.string c.a, .string c.i, .int .i64 c.s, .int .i64 O, .int .i64 c.l, .int .i64 t, .int .i64 k, .int .i64 n, .bool false, .int .i64 N] 30 (0, 0)) := by repeat (first | (with_reducible assumption) | (with_reducible refine blk_new_at ?_ _ _; first | (with_reducible rfl) | (simp; done)) | (with_reducible refine blk_alloc ?_ _) | (with_reducible refine blk_drew ?_) | (with_reducible apply blk_set) | (show Array.setIfInBounds _ _ _ = _; first | (simp; done) | (simp; rfl)) | (with_reducible refine blk_set_other ?_ ?_; omega))
      have hTn : TapeK a0 len cap ((((((((((x.setCell ⟨bn, 0, none⟩ (.string c.a)).setCell ⟨bn, 1, none⟩ (.string c.i)).setCell ⟨bn, 2, none⟩ (.int .i64 c.s)).setCell ⟨bn, 3, none⟩ (.int .i64 O)).setCell ⟨bn, 4, none⟩ (.int .i64 c.l)).setCell ⟨bn, 5, none⟩ (.int .i64 t)).setCell ⟨bn, 6, none⟩ (.int .i64 k)).setCell ⟨bn, 7, none⟩ (.int .i64 n)).setCell ⟨bn, 8, none⟩ (.bool false)).setCell ⟨bn, 9, none⟩ (.int .i64 N)) tb := by
        obtain ⟨q, e1, e2⟩ := g0
        exact ⟨q, (hkp.block tb (Ne.symm bn2)).trans e1, e2⟩
      have hbn2 : Bar tb w3 ((((((((((x.setCell ⟨bn, 0, none⟩ (.string c.a)).setCell ⟨bn, 1, none⟩ (.string c.i)).setCell ⟨bn, 2, none⟩ (.int .i64 c.s)).setCell ⟨bn, 3, none⟩ (.int .i64 O)).setCell ⟨bn, 4, none⟩ (.int .i64 c.l)).setCell ⟨bn, 5, none⟩ (.int .i64 t)).setCell ⟨bn, 6, none⟩ (.int .i64 k)).setCell ⟨bn, 7, none⟩ (.int .i64 n)).setCell ⟨bn, 8, none⟩ (.bool false)).setCell ⟨bn, 9, none⟩ (.int .i64 N)) := ⟨hkp.os.trans g1.os, hkp.tape.trans g1.tape, hkp.output.trans g1.output, Nat.le_trans g1.size (Nat.le_of_eq hkp.size.symm), fun k hk hl => (hkp.block k (by omega)).trans (g1.block k hk hl)⟩
      generalize ((((((((((x.setCell ⟨bn, 0, none⟩ (.string c.a)).setCell ⟨bn, 1, none⟩ (.string c.i)).setCell ⟨bn, 2, none⟩ (.int .i64 c.s)).setCell ⟨bn, 3, none⟩ (.int .i64 O)).setCell ⟨bn, 4, none⟩ (.int .i64 c.l)).setCell ⟨bn, 5, none⟩ (.int .i64 t)).setCell ⟨bn, 6, none⟩ (.int .i64 k)).setCell ⟨bn, 7, none⟩ (.int .i64 n)).setCell ⟨bn, 8, none⟩ (.bool false)).setCell ⟨bn, 9, none⟩ (.int .i64 N)) = X at *
      refine hK _ _ ⟨_, _, _, _, _, _, _, _, _, _, _, rfl, ?_, ?_, ?_, ?_, ?_, ?_, ?_, ?_, ?_, ?_, ?_, ?_, ?_, ?_⟩
      · exact (fun h => f0 (by simpa using h))
      · exact (fun h => f1 (by simpa using h))
      · exact (fun h => f2 (by simpa using h))
      · exact (fun h => f3 (by simpa using h))
      · exact (fun h => f4 (by simpa using h))
      · exact (fun h => f5 (by simpa using h))
      · exact (fun h => f6 (by simpa using h))
      · exact (fun h => f7 (by simpa using h))
      · exact (fun h => f8 (by simpa using h))
      · exact (fun _ => ⟨bn, rfl, bn1, bn2, _, _, _, _, _, _, _, _, _, _, RB⟩)
      · exact (fun _ => ⟨bn, t, k, n, by simp [hd9], rfl, bn1, bn2, RB⟩)
      · exact (fun h => f11 (by simpa using h))
      · exact hTn
      · exact hbn2
    · rintro d a x ⟨u36, u37, u38, u39, u40, u41, u35, u42, u43, u11, u12, rfl, f0, f1, f2, f3, f4, f5, f6, f7, f8, f9, f10, f11, g0, g1⟩ hd hdep K hK
      have hd8 : d 8 = true := hdep ⟨8, .data⟩ (by simp) rfl
      have hd8 : d 8 = true := hdep ⟨8, .phase⟩ (by simp) rfl
      obtain rfl := f8 hd8
      rw [if_pos (by rfl)]
      go_big_op
      refine hK _ _ ⟨_, _, _, _, _, _, _, _, _, _, _, rfl, ?_, ?_, ?_, ?_, ?_, ?_, ?_, ?_, ?_, ?_, ?_, ?_, ?_, ?_⟩
      · exact (fun h => f0 (by simpa using h))
      · exact (fun h => f1 (by simpa using h))
      · exact (fun h => f2 (by simpa using h))
      · exact (fun h => f3 (by simpa using h))
      · exact (fun h => f4 (by simpa using h))
      · exact (fun h => f5 (by simpa using h))
      · exact (fun h => f6 (by simpa using h))
      · exact (fun h => f7 (by simpa using h))
      · exact (fun h => f8 (by simpa using h))
      · exact (fun h => f9 (by simpa using h))
      · exact (fun h => by have f := f10 (by simpa using h); (obtain ⟨b, t, k, n, e0, e, e1, e2, e3⟩ := f; exact ⟨b, t, k, n, by simp [e0], e, e1, e2, e3⟩))
      · exact (fun _ => rfl)
      · exact g0
      · exact g1
  · rintro d a x ⟨u36, u37, u38, u39, u40, u41, u35, u42, u43, u11, u12, rfl, f0, f1, f2, f3, f4, f5, f6, f7, f8, f9, f10, f11, g0, g1⟩ hall
    obtain ⟨bnA, tA, kA, nA, -, rfl, bqA, bpA, hbn⟩ := f10 (hall 10 (by decide))
    obtain rfl := f11 (hall 11 (by decide))
    clear f0 f1 f2 f3 f4 f5 f6 f7 f8 f9 f10 f11 hall
    have hrowx := hrowW.bar g1
    have z3_r0 : x.heap[w1.heap.size]? = some (.cells #[.string c.a, .string c.i, .int .i64 c.s, .int .i64 c.o, .int .i64 c.l, .int .i64 c.t, .int .i64 c.k, .int .i64 c.n, .bool false] 28 (0, 0)) := g1.blk (by omega) z2_h0.out
    have z3_r1 : x.heap[w2.heap.size]? = some (.cells #[.string c.a, .string c.i, .int .i64 c.s, .int .i64 0, .int .i64 c.l, .int .i64 c.t, .int .i64 c.k, .int .i64 c.n, .bool false, .int .i64 N] 30 (0, 0)) := g1.blk (by omega) z2_h1.out
    have z3_r2 : x.heap[bnA]? = some (.cells #[.string c.a, .string c.i, .int .i64 c.s, .int .i64 O, .int .i64 c.l, .int .i64 tA, .int .i64 kA, .int .i64 nA, .bool false, .int .i64 N] 30 (0, 0)) := hbn
    have z3_htk : TapeK a0 len cap x tb := g0
    have z3_hrow : RowOk a0 len cap zs x tb := hrowx
    have z3_B : Below w.heap.size w x := z2_B.trans (g1.below (by omega) (by omega))
    have z3_z := z3_B.size
    clear z2_htk z2_hrow z2_B z2_z z2_c0 z2_l0 z2_k0_0 z2_k0_1 z2_c1 z2_l1 z2_k1_0 z2_k1_1 z2_h0 z2_h1 g0 g1 hrowx hrowW hbn
    have z3_c0 := blk_cell z3_r0
    have z3_l0 := blk_lt z3_r0
    have z3_k0_0 : w1.heap.size ≤ x.heap.size := by omega
    have z3_k0_1 : w1.heap.size ≤ x.heap.size + 1 := by omega
    have z3_c1 := blk_cell z3_r1
    have z3_l1 := blk_lt z3_r1
    have z3_k1_0 : w2.heap.size ≤ x.heap.size := by omega
    have z3_k1_1 : w2.heap.size ≤ x.heap.size + 1 := by omega
    have z3_c2 := blk_cell z3_r2
    have z3_l2 := blk_lt z3_r2
    have z3_k2_0 : bnA ≤ x.heap.size := by omega
    have z3_k2_1 : bnA ≤ x.heap.size + 1 := by omega
    have z3_h0 := Lib.hid z3_r0
    have z3_h1 := Lib.hid z3_r1
    have z3_h2 := Lib.hid z3_r2
    clear z3_r0 z3_r1 z3_r2
    obtain ⟨xA, rfl⟩ : ∃ y, y = x := ⟨_, rfl⟩
    go_wp2_with fail
    refine (leaseRegister_old ⟨{ c with g := false, o := O, t := tA, k := kA, n := nA }, N⟩ { c with g := false } (N + 5) _ rfl).mono ?_
    rintro e w5 ⟨rfl, hb⟩
    have z3_s0 := z3_h0.out
    have z3_s1 := z3_h1.out
    have z3_s2 := z3_h2.out
    have z4_r0 : w5.heap[w1.heap.size]? = some (.cells #[.string c.a, .string c.i, .int .i64 c.s, .int .i64 c.o, .int .i64 c.l, .int .i64 c.t, .int .i64 c.k, .int .i64 c.n, .bool false] 28 (0, 0)) := blk_ext hb (by repeat (first | (with_reducible assumption) | (with_reducible refine blk_new_at ?_ _ _; first | (with_reducible rfl) | (simp; done)) | (with_reducible refine blk_alloc ?_ _) | (with_reducible refine blk_drew ?_) | (with_reducible apply blk_set) | (show Array.setIfInBounds _ _ _ = _; first | (simp; done) | (simp; rfl)) | (with_reducible refine blk_set_other ?_ ?_; omega)))
    have z4_r1 : w5.heap[w2.heap.size]? = some (.cells #[.string c.a, .string c.i, .int .i64 c.s, .int .i64 0, .int .i64 c.l, .int .i64 c.t, .int .i64 c.k, .int .i64 c.n, .bool false, .int .i64 N] 30 (0, 0)) := blk_ext hb (by repeat (first | (with_reducible assumption) | (with_reducible refine blk_new_at ?_ _ _; first | (with_reducible rfl) | (simp; done)) | (with_reducible refine blk_alloc ?_ _) | (with_reducible refine blk_drew ?_) | (with_reducible apply blk_set) | (show Array.setIfInBounds _ _ _ = _; first | (simp; done) | (simp; rfl)) | (with_reducible refine blk_set_other ?_ ?_; omega)))
    have z4_r2 : w5.heap[bnA]? = some (.cells #[.string c.a, .string c.i, .int .i64 c.s, .int .i64 O, .int .i64 c.l, .int .i64 tA, .int .i64 kA, .int .i64 nA, .bool false, .int .i64 N] 30 (0, 0)) := blk_ext hb (by repeat (first | (with_reducible assumption) | (with_reducible refine blk_new_at ?_ _ _; first | (with_reducible rfl) | (simp; done)) | (with_reducible refine blk_alloc ?_ _) | (with_reducible refine blk_drew ?_) | (with_reducible apply blk_set) | (show Array.setIfInBounds _ _ _ = _; first | (simp; done) | (simp; rfl)) | (with_reducible refine blk_set_other ?_ ?_; omega)))
    have z4_htk : TapeK a0 len cap w5 tb := TapeK.ext (TapeK.ext (z3_htk) (by go_grown)) (hb)
    have z4_hrow : RowOk a0 len cap zs w5 tb := RowOk.bar (RowOk.bar (z3_hrow) (Bar.of (by go_grown))) (Bar.of (hb))
    have z4_B : Below w.heap.size w w5 := ext_trans (a := w) (by go_grown) hb
    have z4_z := z4_B.size
    clear z3_htk z3_hrow z3_B z3_z z3_c0 z3_l0 z3_k0_0 z3_k0_1 z3_c1 z3_l1 z3_k1_0 z3_k1_1 z3_c2 z3_l2 z3_k2_0 z3_k2_1 z3_h0 z3_h1 z3_h2 z3_s0 z3_s1 z3_s2 hb
    have z4_c0 := blk_cell z4_r0
    have z4_l0 := blk_lt z4_r0
    have z4_k0_0 : w1.heap.size ≤ w5.heap.size := by omega
    have z4_k0_1 : w1.heap.size ≤ w5.heap.size + 1 := by omega
    have z4_c1 := blk_cell z4_r1
    have z4_l1 := blk_lt z4_r1
    have z4_k1_0 : w2.heap.size ≤ w5.heap.size := by omega
    have z4_k1_1 : w2.heap.size ≤ w5.heap.size + 1 := by omega
    have z4_c2 := blk_cell z4_r2
    have z4_l2 := blk_lt z4_r2
    have z4_k2_0 : bnA ≤ w5.heap.size := by omega
    have z4_k2_1 : bnA ≤ w5.heap.size + 1 := by omega
    have z4_h0 := Lib.hid z4_r0
    have z4_h1 := Lib.hid z4_r1
    have z4_h2 := Lib.hid z4_r2
    clear z4_r0 z4_r1 z4_r2
    have tlw5 : tb < w5.heap.size := z4_htk.lt
    go_wp2_with fail
    have z4_s0 := z4_h0.out
    have z4_s1 := z4_h1.out
    have z4_s2 := z4_h2.out
    refine wp_letter (fun W => Below w.heap.size w W ∧ W.heap[w1.heap.size]? = some (.cells #[.string c.a, .string c.i, .int .i64 c.s, .int .i64 c.o, .int .i64 c.l, .int .i64 c.t, .int .i64 c.k, .int .i64 c.n, .bool false] 28 (0, 0)) ∧ W.heap[w2.heap.size]? = some (.cells #[.string c.a, .string c.i, .int .i64 c.s, .int .i64 0, .int .i64 c.l, .int .i64 c.t, .int .i64 c.k, .int .i64 c.n, .bool false, .int .i64 N] 30 (0, 0)) ∧ W.heap[bnA]? = some (.cells #[.string c.a, .string c.i, .int .i64 c.s, .int .i64 O, .int .i64 c.l, .int .i64 tA, .int .i64 kA, .int .i64 nA, .bool false, .int .i64 N] 30 (0, 0)) ∧ W.heap[w5.heap.size]? = some (.cells #[.string c.a, .string c.i, .int .i64 c.s, .int .i64 O, .int .i64 c.l, .int .i64 c.t, .int .i64 c.k, .int .i64 c.n, .bool false, .int .i64 (N + 5)] 30 (0, 0)) ∧ TapeK a0 len cap W tb ∧ RowOk a0 len cap zs W tb) ⟨by go_grown, by repeat (first | (with_reducible assumption) | (with_reducible refine blk_new_at ?_ _ _; first | (with_reducible rfl) | (simp; done)) | (with_reducible refine blk_alloc ?_ _) | (with_reducible refine blk_drew ?_) | (with_reducible apply blk_set) | (show Array.setIfInBounds _ _ _ = _; first | (simp; done) | (simp; rfl)) | (with_reducible refine blk_set_other ?_ ?_; omega)), by repeat (first | (with_reducible assumption) | (with_reducible refine blk_new_at ?_ _ _; first | (with_reducible rfl) | (simp; done)) | (with_reducible refine blk_alloc ?_ _) | (with_reducible refine blk_drew ?_) | (with_reducible apply blk_set) | (show Array.setIfInBounds _ _ _ = _; first | (simp; done) | (simp; rfl)) | (with_reducible refine blk_set_other ?_ ?_; omega)), by repeat (first | (with_reducible assumption) | (with_reducible refine blk_new_at ?_ _ _; first | (with_reducible rfl) | (simp; done)) | (with_reducible refine blk_alloc ?_ _) | (with_reducible refine blk_drew ?_) | (with_reducible apply blk_set) | (show Array.setIfInBounds _ _ _ = _; first | (simp; done) | (simp; rfl)) | (with_reducible refine blk_set_other ?_ ?_; omega)), by repeat (first | (with_reducible assumption) | (with_reducible refine blk_new_at ?_ _ _; first | (with_reducible rfl) | (simp; done)) | (with_reducible refine blk_alloc ?_ _) | (with_reducible refine blk_drew ?_) | (with_reducible apply blk_set) | (show Array.setIfInBounds _ _ _ = _; first | (simp; done) | (simp; rfl)) | (with_reducible refine blk_set_other ?_ ?_; omega)), TapeK.ext (z4_htk) (by go_grown), RowOk.bar (z4_hrow) (Bar.of (by go_grown))⟩ ?_
    rintro w6 ⟨hBl, hl0, hl1, hl2, hl3, hxhtk, hxhrow⟩
    have z5_r0 : w6.heap[w1.heap.size]? = some (.cells #[.string c.a, .string c.i, .int .i64 c.s, .int .i64 c.o, .int .i64 c.l, .int .i64 c.t, .int .i64 c.k, .int .i64 c.n, .bool false] 28 (0, 0)) := hl0
    have z5_r1 : w6.heap[w2.heap.size]? = some (.cells #[.string c.a, .string c.i, .int .i64 c.s, .int .i64 0, .int .i64 c.l, .int .i64 c.t, .int .i64 c.k, .int .i64 c.n, .bool false, .int .i64 N] 30 (0, 0)) := hl1
    have z5_r2 : w6.heap[bnA]? = some (.cells #[.string c.a, .string c.i, .int .i64 c.s, .int .i64 O, .int .i64 c.l, .int .i64 tA, .int .i64 kA, .int .i64 nA, .bool false, .int .i64 N] 30 (0, 0)) := hl2
    have z5_r3 : w6.heap[w5.heap.size]? = some (.cells #[.string c.a, .string c.i, .int .i64 c.s, .int .i64 O, .int .i64 c.l, .int .i64 c.t, .int .i64 c.k, .int .i64 c.n, .bool false, .int .i64 (N + 5)] 30 (0, 0)) := hl3
    have z5_htk : TapeK a0 len cap w6 tb := hxhtk
    have z5_hrow : RowOk a0 len cap zs w6 tb := hxhrow
    have z5_B : Below w.heap.size w w6 := hBl
    have z5_z := z5_B.size
    clear z4_htk z4_hrow z4_B z4_z z4_c0 z4_l0 z4_k0_0 z4_k0_1 z4_c1 z4_l1 z4_k1_0 z4_k1_1 z4_c2 z4_l2 z4_k2_0 z4_k2_1 z4_h0 z4_h1 z4_h2 z4_s0 z4_s1 z4_s2 hBl hl0 hl1 hl2 hl3 hxhtk hxhrow
    have z5_c0 := blk_cell z5_r0
    have z5_l0 := blk_lt z5_r0
    have z5_k0_0 : w1.heap.size ≤ w6.heap.size := by omega
    have z5_k0_1 : w1.heap.size ≤ w6.heap.size + 1 := by omega
    have z5_c1 := blk_cell z5_r1
    have z5_l1 := blk_lt z5_r1
    have z5_k1_0 : w2.heap.size ≤ w6.heap.size := by omega
    have z5_k1_1 : w2.heap.size ≤ w6.heap.size + 1 := by omega
    have z5_c2 := blk_cell z5_r2
    have z5_l2 := blk_lt z5_r2
    have z5_k2_0 : bnA ≤ w6.heap.size := by omega
    have z5_k2_1 : bnA ≤ w6.heap.size + 1 := by omega
    have z5_c3 := blk_cell z5_r3
    have z5_l3 := blk_lt z5_r3
    have z5_k3_0 : w5.heap.size ≤ w6.heap.size := by omega
    have z5_k3_1 : w5.heap.size ≤ w6.heap.size + 1 := by omega
    have z5_h0 := Lib.hid z5_r0
    have z5_h1 := Lib.hid z5_r1
    have z5_h2 := Lib.hid z5_r2
    have z5_h3 := Lib.hid z5_r3
    clear z5_r0 z5_r1 z5_r2 z5_r3
    have hrowW := z5_hrow
    refine wp_region_inv_eq (J := fun A d a x => ∃ u50 u51 u52 u53 u54 u55 u49 u56 u57 u14 u15 : Value, a = (((((((((((A.put (some 50) u50).put (some 51) u51).put (some 52) u52).put (some 53) u53).put (some 54) u54).put (some 55) u55).put (some 49) u49).put (some 56) u56).put (some 57) u57).put (some 14) u14).put (some 15) u15) ∧ (d 0 = true → u50 = .agg #[.string c.a, .string c.i, .int .i64 c.s, .int .i64 O, .int .i64 c.l, .int .i64 tA, .int .i64 kA, .int .i64 nA, .bool false, .int .i64 N]) ∧ (d 1 = true → u51 = .pointer (some ⟨tb, 0, none⟩)) ∧ (d 2 = true → ∃ t k n : Int, u52 = stv t k n) ∧ (d 3 = true → u53 = .int .i64 N) ∧ (d 4 = true → u54 = .int .i64 (N + 7)) ∧ (d 5 = true → ∃ t k n : Int, u55 = .tuple #[.agg #[.string c.a, .string c.i, .int .i64 c.s, .int .i64 O, .int .i64 c.l, .int .i64 t, .int .i64 k, .int .i64 n, .bool true, .int .i64 (N + 7)], .bool true]) ∧ (d 6 = true → ∃ t k n : Int, u49 = .tuple #[.agg #[.string c.a, .string c.i, .int .i64 c.s, .int .i64 O, .int .i64 c.l, .int .i64 t, .int .i64 k, .int .i64 n, .bool true, .int .i64 (N + 7)], .bool true]) ∧ (d 7 = true → ∃ t k n : Int, u56 = .agg #[.string c.a, .string c.i, .int .i64 c.s, .int .i64 O, .int .i64 c.l, .int .i64 t, .int .i64 k, .int .i64 n, .bool true, .int .i64 (N + 7)]) ∧ (d 8 = true → u57 = .bool true) ∧ (d 9 = true → ∃ b : Nat, u14 = .pointer (some ⟨b, 0, none⟩) ∧ w6.heap.size ≤ b ∧ b ≠ tb ∧ ∃ y0 y1 y2 y3 y4 y5 y6 y7 y8 y9 : Value, x.heap[b]? = some (.cells #[y0, y1, y2, y3, y4, y5, y6, y7, y8, y9] 30 (0, 0))) ∧ (d 10 = true → ∃ (b : Nat) (t k n : Int), d 9 = true ∧ u14 = .pointer (some ⟨b, 0, none⟩) ∧ w6.heap.size ≤ b ∧ b ≠ tb ∧ x.heap[b]? = some (.cells #[.string c.a, .string c.i, .int .i64 c.s, .int .i64 O, .int .i64 c.l, .int .i64 t, .int .i64 k, .int .i64 n, .bool true, .int .i64 (N + 7)] 30 (0, 0))) ∧ (d 11 = true → u15 = .bool true) ∧ TapeK a0 len cap x tb ∧ Bar tb w6 x) (by simp only [Act.put, List.setIfInBounds_toArray, List.set_cons_succ, List.set_cons_zero]; rfl) (by kernel_rfl) (by kernel_rfl) ?_ ?_ ?_
    · refine ⟨_, _, _, _, _, _, _, _, _, _, _, rfl, ?_, ?_, ?_, ?_, ?_, ?_, ?_, ?_, ?_, ?_, ?_, ?_, ?_, ?_⟩
      · intro h; cases h
      · intro h; cases h
      · intro h; cases h
      · intro h; cases h
      · intro h; cases h
      · intro h; cases h
      · intro h; cases h
      · intro h; cases h
      · intro h; cases h
      · intro h; cases h
      · intro h; cases h
      · intro h; cases h
      · exact z5_htk.ext ((Below.refl _ _).drew)
      · exact Bar.of ((Below.refl _ _).drew)
    · simp only [StepsOk, StepOk]
      refine ⟨?_, ?_, ?_, ?_, ?_, ?_, ?_, ?_, ?_, ?_, ?_, ?_, trivial⟩
      · rintro d a x ⟨u50, u51, u52, u53, u54, u55, u49, u56, u57, u14, u15, rfl, f0, f1, f2, f3, f4, f5, f6, f7, f8, f9, f10, f11, g0, g1⟩ hd hdep K hK
        have hx := blk_cell (g1.blk (by omega) z5_h2.out)
        rw [if_pos (by rfl)]
        go_big_op
        refine hK _ _ ⟨_, _, _, _, _, _, _, _, _, _, _, rfl, ?_, ?_, ?_, ?_, ?_, ?_, ?_, ?_, ?_, ?_, ?_, ?_, ?_, ?_⟩
        · exact (fun _ => rfl)
        · exact (fun h => f1 (by simpa using h))
        · exact (fun h => f2 (by simpa using h))
        · exact (fun h => f3 (by simpa using h))
        · exact (fun h => f4 (by simpa using h))
        · exact (fun h => f5 (by simpa using h))
        · exact (fun h => f6 (by simpa using h))
        · exact (fun h => f7 (by simpa using h))
        · exact (fun h => f8 (by simpa using h))
        · exact (fun h => f9 (by simpa using h))
        · exact (fun h => by have f := f10 (by simpa using h); (obtain ⟨b, t, k, n, e0, e, e1, e2, e3⟩ := f; exact ⟨b, t, k, n, by simp [e0], e, e1, e2, e3⟩))
        · exact (fun h => f11 (by simpa using h))
        · exact g0
        · exact g1
      · rintro d a x ⟨u50, u51, u52, u53, u54, u55, u49, u56, u57, u14, u15, rfl, f0, f1, f2, f3, f4, f5, f6, f7, f8, f9, f10, f11, g0, g1⟩ hd hdep K hK
        rw [if_pos (by rfl)]
        go_big_op
        refine hK _ _ ⟨_, _, _, _, _, _, _, _, _, _, _, rfl, ?_, ?_, ?_, ?_, ?_, ?_, ?_, ?_, ?_, ?_, ?_, ?_, ?_, ?_⟩
        · exact (fun h => f0 (by simpa using h))
        · exact (fun _ => rfl)
        · exact (fun h => f2 (by simpa using h))
        · exact (fun h => f3 (by simpa using h))
        · exact (fun h => f4 (by simpa using h))
        · exact (fun h => f5 (by simpa using h))
        · exact (fun h => f6 (by simpa using h))
        · exact (fun h => f7 (by simpa using h))
        · exact (fun h => f8 (by simpa using h))
        · exact (fun h => f9 (by simpa using h))
        · exact (fun h => by have f := f10 (by simpa using h); (obtain ⟨b, t, k, n, e0, e, e1, e2, e3⟩ := f; exact ⟨b, t, k, n, by simp [e0], e, e1, e2, e3⟩))
        · exact (fun h => f11 (by simpa using h))
        · exact g0
        · exact g1
      · rintro d a x ⟨u50, u51, u52, u53, u54, u55, u49, u56, u57, u14, u15, rfl, f0, f1, f2, f3, f4, f5, f6, f7, f8, f9, f10, f11, g0, g1⟩ hd hdep K hK
        have hd1 : d 1 = true := hdep ⟨1, .data⟩ (by simp) rfl
        obtain rfl := f1 hd1
        rw [if_pos (by rfl)]
        go_big_op
        refine (tapeStampK _ _ _ zs _ _ g0 (hrowW.bar g1)).mono ?_
        rintro e x1 ⟨t, k, n, rfl, -, -, -, -, -, -, hT1, hbar⟩
        refine hK _ _ ⟨_, _, _, _, _, _, _, _, _, _, _, rfl, ?_, ?_, ?_, ?_, ?_, ?_, ?_, ?_, ?_, ?_, ?_, ?_, ?_, ?_⟩
        · exact (fun h => f0 (by simpa using h))
        · exact (fun h => f1 (by simpa using h))
        · exact (fun _ => ⟨t, k, n, rfl⟩)
        · exact (fun h => f3 (by simpa using h))
        · exact (fun h => f4 (by simpa using h))
        · exact (fun h => f5 (by simpa using h))
        · exact (fun h => f6 (by simpa using h))
        · exact (fun h => f7 (by simpa using h))
        · exact (fun h => f8 (by simpa using h))
        · exact (fun h => by have f := f9 (by simpa using h); (obtain ⟨b, e, e1, e2, y0, y1, y2, y3, y4, y5, y6, y7, y8, y9, e3⟩ := f; exact ⟨b, e, e1, e2, y0, y1, y2, y3, y4, y5, y6, y7, y8, y9, hbar.blk e2 e3⟩))
        · exact (fun h => by have f := f10 (by simpa using h); (obtain ⟨b, t, k, n, e0, e, e1, e2, e3⟩ := f; exact ⟨b, t, k, n, by simp [e0], e, e1, e2, hbar.blk e2 e3⟩))
        · exact (fun h => f11 (by simpa using h))
        · exact hT1
        · exact (g1.trans hbar)
      · rintro d a x ⟨u50, u51, u52, u53, u54, u55, u49, u56, u57, u14, u15, rfl, f0, f1, f2, f3, f4, f5, f6, f7, f8, f9, f10, f11, g0, g1⟩ hd hdep K hK
        rw [if_pos (by rfl)]
        go_big_op
        refine hK _ _ ⟨_, _, _, _, _, _, _, _, _, _, _, rfl, ?_, ?_, ?_, ?_, ?_, ?_, ?_, ?_, ?_, ?_, ?_, ?_, ?_, ?_⟩
        · exact (fun h => f0 (by simpa using h))
        · exact (fun h => f1 (by simpa using h))
        · exact (fun h => f2 (by simpa using h))
        · exact (fun _ => rfl)
        · exact (fun h => f4 (by simpa using h))
        · exact (fun h => f5 (by simpa using h))
        · exact (fun h => f6 (by simpa using h))
        · exact (fun h => f7 (by simpa using h))
        · exact (fun h => f8 (by simpa using h))
        · exact (fun h => f9 (by simpa using h))
        · exact (fun h => by have f := f10 (by simpa using h); (obtain ⟨b, t, k, n, e0, e, e1, e2, e3⟩ := f; exact ⟨b, t, k, n, by simp [e0], e, e1, e2, e3⟩))
        · exact (fun h => f11 (by simpa using h))
        · exact g0
        · exact g1
      · rintro d a x ⟨u50, u51, u52, u53, u54, u55, u49, u56, u57, u14, u15, rfl, f0, f1, f2, f3, f4, f5, f6, f7, f8, f9, f10, f11, g0, g1⟩ hd hdep K hK
        have hd3 : d 3 = true := hdep ⟨3, .data⟩ (by simp) rfl
        obtain rfl := f3 hd3
        rw [if_pos (by rfl)]
        go_big_op
        refine hK _ _ ⟨_, _, _, _, _, _, _, _, _, _, _, rfl, ?_, ?_, ?_, ?_, ?_, ?_, ?_, ?_, ?_, ?_, ?_, ?_, ?_, ?_⟩
        · exact (fun h => f0 (by simpa using h))
        · exact (fun h => f1 (by simpa using h))
        · exact (fun h => f2 (by simpa using h))
        · exact (fun h => f3 (by simpa using h))
        · exact (fun _ => rfl)
        · exact (fun h => f5 (by simpa using h))
        · exact (fun h => f6 (by simpa using h))
        · exact (fun h => f7 (by simpa using h))
        · exact (fun h => f8 (by simpa using h))
        · exact (fun h => f9 (by simpa using h))
        · exact (fun h => by have f := f10 (by simpa using h); (obtain ⟨b, t, k, n, e0, e, e1, e2, e3⟩ := f; exact ⟨b, t, k, n, by simp [e0], e, e1, e2, e3⟩))
        · exact (fun h => f11 (by simpa using h))
        · exact g0
        · exact g1
      · rintro d a x ⟨u50, u51, u52, u53, u54, u55, u49, u56, u57, u14, u15, rfl, f0, f1, f2, f3, f4, f5, f6, f7, f8, f9, f10, f11, g0, g1⟩ hd hdep K hK
        have hd0 : d 0 = true := hdep ⟨0, .data⟩ (by simp) rfl
        have hd2 : d 2 = true := hdep ⟨2, .data⟩ (by simp) rfl
        have hd4 : d 4 = true := hdep ⟨4, .data⟩ (by simp) rfl
        have hd2 : d 2 = true := hdep ⟨2, .chain⟩ (by simp) rfl
        obtain rfl := f0 hd0
        obtain ⟨t4, k4, n4, rfl⟩ := f2 hd2
        obtain rfl := f4 hd4
        rw [if_pos (by rfl)]
        go_big_op
        refine (leaseCancel_yes ⟨{ c with g := false, o := O, t := tA, k := kA, n := nA }, N⟩ t4 k4 n4 (N + 7) _ rfl).mono ?_
        rintro e x1 ⟨rfl, hbl⟩
        refine hK _ _ ⟨_, _, _, _, _, _, _, _, _, _, _, rfl, ?_, ?_, ?_, ?_, ?_, ?_, ?_, ?_, ?_, ?_, ?_, ?_, ?_, ?_⟩
        · exact (fun h => f0 (by simpa using h))
        · exact (fun h => f1 (by simpa using h))
        · exact (fun h => f2 (by simpa using h))
        · exact (fun h => f3 (by simpa using h))
        · exact (fun h => f4 (by simpa using h))
        · exact (fun _ => ⟨t4, k4, n4, rfl⟩)
        · exact (fun h => f6 (by simpa using h))
        · exact (fun h => f7 (by simpa using h))
        · exact (fun h => f8 (by simpa using h))
        · exact (fun h => by have f := f9 (by simpa using h); (obtain ⟨b, e, e1, e2, y0, y1, y2, y3, y4, y5, y6, y7, y8, y9, e3⟩ := f; exact ⟨b, e, e1, e2, y0, y1, y2, y3, y4, y5, y6, y7, y8, y9, blk_ext hbl e3⟩))
        · exact (fun h => by have f := f10 (by simpa using h); (obtain ⟨b, t, k, n, e0, e, e1, e2, e3⟩ := f; exact ⟨b, t, k, n, by simp [e0], e, e1, e2, blk_ext hbl e3⟩))
        · exact (fun h => f11 (by simpa using h))
        · exact (g0.ext hbl)
        · exact (g1.trans (Bar.of hbl))
      · rintro d a x ⟨u50, u51, u52, u53, u54, u55, u49, u56, u57, u14, u15, rfl, f0, f1, f2, f3, f4, f5, f6, f7, f8, f9, f10, f11, g0, g1⟩ hd hdep K hK
        have hd5 : d 5 = true := hdep ⟨5, .data⟩ (by simp) rfl
        obtain ⟨t, k, n, rfl⟩ := f5 hd5
        rw [if_pos (by rfl)]
        go_big_op
        refine hK _ _ ⟨_, _, _, _, _, _, _, _, _, _, _, rfl, ?_, ?_, ?_, ?_, ?_, ?_, ?_, ?_, ?_, ?_, ?_, ?_, ?_, ?_⟩
        · exact (fun h => f0 (by simpa using h))
        · exact (fun h => f1 (by simpa using h))
        · exact (fun h => f2 (by simpa using h))
        · exact (fun h => f3 (by simpa using h))
        · exact (fun h => f4 (by simpa using h))
        · exact (fun h => f5 (by simpa using h))
        · exact (fun _ => ⟨t, k, n, rfl⟩)
        · exact (fun h => f7 (by simpa using h))
        · exact (fun h => f8 (by simpa using h))
        · exact (fun h => f9 (by simpa using h))
        · exact (fun h => by have f := f10 (by simpa using h); (obtain ⟨b, t, k, n, e0, e, e1, e2, e3⟩ := f; exact ⟨b, t, k, n, by simp [e0], e, e1, e2, e3⟩))
        · exact (fun h => f11 (by simpa using h))
        · exact g0
        · exact g1
      · rintro d a x ⟨u50, u51, u52, u53, u54, u55, u49, u56, u57, u14, u15, rfl, f0, f1, f2, f3, f4, f5, f6, f7, f8, f9, f10, f11, g0, g1⟩ hd hdep K hK
        have hd6 : d 6 = true := hdep ⟨6, .data⟩ (by simp) rfl
        obtain ⟨t, k, n, rfl⟩ := f6 hd6
        rw [if_pos (by rfl)]
        go_big_op
        refine hK _ _ ⟨_, _, _, _, _, _, _, _, _, _, _, rfl, ?_, ?_, ?_, ?_, ?_, ?_, ?_, ?_, ?_, ?_, ?_, ?_, ?_, ?_⟩
        · exact (fun h => f0 (by simpa using h))
        · exact (fun h => f1 (by simpa using h))
        · exact (fun h => f2 (by simpa using h))
        · exact (fun h => f3 (by simpa using h))
        · exact (fun h => f4 (by simpa using h))
        · exact (fun h => f5 (by simpa using h))
        · exact (fun h => f6 (by simpa using h))
        · exact (fun _ => ⟨t, k, n, rfl⟩)
        · exact (fun h => f8 (by simpa using h))
        · exact (fun h => f9 (by simpa using h))
        · exact (fun h => by have f := f10 (by simpa using h); (obtain ⟨b, t, k, n, e0, e, e1, e2, e3⟩ := f; exact ⟨b, t, k, n, by simp [e0], e, e1, e2, e3⟩))
        · exact (fun h => f11 (by simpa using h))
        · exact g0
        · exact g1
      · rintro d a x ⟨u50, u51, u52, u53, u54, u55, u49, u56, u57, u14, u15, rfl, f0, f1, f2, f3, f4, f5, f6, f7, f8, f9, f10, f11, g0, g1⟩ hd hdep K hK
        have hd6 : d 6 = true := hdep ⟨6, .data⟩ (by simp) rfl
        obtain ⟨t, k, n, rfl⟩ := f6 hd6
        rw [if_pos (by rfl)]
        go_big_op
        refine hK _ _ ⟨_, _, _, _, _, _, _, _, _, _, _, rfl, ?_, ?_, ?_, ?_, ?_, ?_, ?_, ?_, ?_, ?_, ?_, ?_, ?_, ?_⟩
        · exact (fun h => f0 (by simpa using h))
        · exact (fun h => f1 (by simpa using h))
        · exact (fun h => f2 (by simpa using h))
        · exact (fun h => f3 (by simpa using h))
        · exact (fun h => f4 (by simpa using h))
        · exact (fun h => f5 (by simpa using h))
        · exact (fun h => f6 (by simpa using h))
        · exact (fun h => f7 (by simpa using h))
        · exact (fun _ => rfl)
        · exact (fun h => f9 (by simpa using h))
        · exact (fun h => by have f := f10 (by simpa using h); (obtain ⟨b, t, k, n, e0, e, e1, e2, e3⟩ := f; exact ⟨b, t, k, n, by simp [e0], e, e1, e2, e3⟩))
        · exact (fun h => f11 (by simpa using h))
        · exact g0
        · exact g1
      · rintro d a x ⟨u50, u51, u52, u53, u54, u55, u49, u56, u57, u14, u15, rfl, f0, f1, f2, f3, f4, f5, f6, f7, f8, f9, f10, f11, g0, g1⟩ hd hdep K hK
        rw [if_pos (by rfl)]
        go_big_op
        refine hK _ _ ⟨_, _, _, _, _, _, _, _, _, _, _, rfl, ?_, ?_, ?_, ?_, ?_, ?_, ?_, ?_, ?_, ?_, ?_, ?_, ?_, ?_⟩
        · exact (fun h => f0 (by simpa using h))
        · exact (fun h => f1 (by simpa using h))
        · exact (fun h => f2 (by simpa using h))
        · exact (fun h => f3 (by simpa using h))
        · exact (fun h => f4 (by simpa using h))
        · exact (fun h => f5 (by simpa using h))
        · exact (fun h => f6 (by simpa using h))
        · exact (fun h => f7 (by simpa using h))
        · exact (fun h => f8 (by simpa using h))
        · exact (fun _ => ⟨_, rfl, by have := g1.size; omega, by have := g0.lt; omega, _, _, _, _, _, _, _, _, _, _, blk_new _ _ _⟩)
        · exact (fun h => by obtain ⟨b, t, k, n, e0, -⟩ := f10 (by simpa using h); rw [hd] at e0; cases e0)
        · exact (fun h => f11 (by simpa using h))
        · exact (g0.ext ((Below.refl _ _).alloc (Nat.le_refl _) _))
        · exact (g1.trans (Bar.of ((Below.refl _ _).alloc (Nat.le_refl _) _)))
      · rintro d a x ⟨u50, u51, u52, u53, u54, u55, u49, u56, u57, u14, u15, rfl, f0, f1, f2, f3, f4, f5, f6, f7, f8, f9, f10, f11, g0, g1⟩ hd hdep K hK
        have hd9 : d 9 = true := hdep ⟨9, .data⟩ (by simp) rfl
        have hd7 : d 7 = true := hdep ⟨7, .data⟩ (by simp) rfl
        have hd7 : d 7 = true := hdep ⟨7, .phase⟩ (by simp) rfl
        have hd9 : d 9 = true := hdep ⟨9, .phase⟩ (by simp) rfl
        obtain ⟨bn, rfl, bn1, bn2, y0, y1, y2, y3, y4, y5, y6, y7, y8, y9, hbn⟩ := f9 hd9
        obtain ⟨t, k, n, rfl⟩ := f7 hd7
        have hbc := blk_cell hbn
        have hbf := blk_free hbn
        have hbl2 := blk_lt hbn
        rw [if_pos (by rfl)]
        go_big_op
        have hkp : Kept bn x ((((((((((x.setCell ⟨bn, 0, none⟩ (.string c.a)).setCell ⟨bn, 1, none⟩ (.string c.i)).setCell ⟨bn, 2, none⟩ (.int .i64 c.s)).setCell ⟨bn, 3, none⟩ (.int .i64 O)).setCell ⟨bn, 4, none⟩ (.int .i64 c.l)).setCell ⟨bn, 5, none⟩ (.int .i64 t)).setCell ⟨bn, 6, none⟩ (.int .i64 k)).setCell ⟨bn, 7, none⟩ (.int .i64 n)).setCell ⟨bn, 8, none⟩ (.bool true)).setCell ⟨bn, 9, none⟩ (.int .i64 (N + 7))) := (((((((((((Kept.refl bn x).setCell _ _).setCell _ _).setCell _ _).setCell _ _).setCell _ _).setCell _ _).setCell _ _).setCell _ _).setCell _ _).setCell _ _)
        have RB : ((((((((((x.setCell ⟨bn, 0, none⟩ (.string c.a)).setCell ⟨bn, 1, none⟩ (.string c.i)).setCell ⟨bn, 2, none⟩ (.int .i64 c.s)).setCell ⟨bn, 3, none⟩ (.int .i64 O)).setCell ⟨bn, 4, none⟩ (.int .i64 c.l)).setCell ⟨bn, 5, none⟩ (.int .i64 t)).setCell ⟨bn, 6, none⟩ (.int .i64 k)).setCell ⟨bn, 7, none⟩ (.int .i64 n)).setCell ⟨bn, 8, none⟩ (.bool true)).setCell ⟨bn, 9, none⟩ (.int .i64 (N + 7))).heap[bn]? = some (.cells #[.string c.a, .string c.i, .int .i64 c.s, .int .i64 O, .int .i64 c.l, .int .i64 t, .int .i64 k, .int .i64 n, .bool true, .int .i64 (N + 7)] 30 (0, 0)) := by repeat (first | (with_reducible assumption) | (with_reducible refine blk_new_at ?_ _ _; first | (with_reducible rfl) | (simp; done)) | (with_reducible refine blk_alloc ?_ _) | (with_reducible refine blk_drew ?_) | (with_reducible apply blk_set) | (show Array.setIfInBounds _ _ _ = _; first | (simp; done) | (simp; rfl)) | (with_reducible refine blk_set_other ?_ ?_; omega))
        have hTn : TapeK a0 len cap ((((((((((x.setCell ⟨bn, 0, none⟩ (.string c.a)).setCell ⟨bn, 1, none⟩ (.string c.i)).setCell ⟨bn, 2, none⟩ (.int .i64 c.s)).setCell ⟨bn, 3, none⟩ (.int .i64 O)).setCell ⟨bn, 4, none⟩ (.int .i64 c.l)).setCell ⟨bn, 5, none⟩ (.int .i64 t)).setCell ⟨bn, 6, none⟩ (.int .i64 k)).setCell ⟨bn, 7, none⟩ (.int .i64 n)).setCell ⟨bn, 8, none⟩ (.bool true)).setCell ⟨bn, 9, none⟩ (.int .i64 (N + 7))) tb := by
          obtain ⟨q, e1, e2⟩ := g0
          exact ⟨q, (hkp.block tb (Ne.symm bn2)).trans e1, e2⟩
        have hbn2 : Bar tb w6 ((((((((((x.setCell ⟨bn, 0, none⟩ (.string c.a)).setCell ⟨bn, 1, none⟩ (.string c.i)).setCell ⟨bn, 2, none⟩ (.int .i64 c.s)).setCell ⟨bn, 3, none⟩ (.int .i64 O)).setCell ⟨bn, 4, none⟩ (.int .i64 c.l)).setCell ⟨bn, 5, none⟩ (.int .i64 t)).setCell ⟨bn, 6, none⟩ (.int .i64 k)).setCell ⟨bn, 7, none⟩ (.int .i64 n)).setCell ⟨bn, 8, none⟩ (.bool true)).setCell ⟨bn, 9, none⟩ (.int .i64 (N + 7))) := ⟨hkp.os.trans g1.os, hkp.tape.trans g1.tape, hkp.output.trans g1.output, Nat.le_trans g1.size (Nat.le_of_eq hkp.size.symm), fun k hk hl => (hkp.block k (by omega)).trans (g1.block k hk hl)⟩
        generalize ((((((((((x.setCell ⟨bn, 0, none⟩ (.string c.a)).setCell ⟨bn, 1, none⟩ (.string c.i)).setCell ⟨bn, 2, none⟩ (.int .i64 c.s)).setCell ⟨bn, 3, none⟩ (.int .i64 O)).setCell ⟨bn, 4, none⟩ (.int .i64 c.l)).setCell ⟨bn, 5, none⟩ (.int .i64 t)).setCell ⟨bn, 6, none⟩ (.int .i64 k)).setCell ⟨bn, 7, none⟩ (.int .i64 n)).setCell ⟨bn, 8, none⟩ (.bool true)).setCell ⟨bn, 9, none⟩ (.int .i64 (N + 7))) = X at *
        refine hK _ _ ⟨_, _, _, _, _, _, _, _, _, _, _, rfl, ?_, ?_, ?_, ?_, ?_, ?_, ?_, ?_, ?_, ?_, ?_, ?_, ?_, ?_⟩
        · exact (fun h => f0 (by simpa using h))
        · exact (fun h => f1 (by simpa using h))
        · exact (fun h => f2 (by simpa using h))
        · exact (fun h => f3 (by simpa using h))
        · exact (fun h => f4 (by simpa using h))
        · exact (fun h => f5 (by simpa using h))
        · exact (fun h => f6 (by simpa using h))
        · exact (fun h => f7 (by simpa using h))
        · exact (fun h => f8 (by simpa using h))
        · exact (fun _ => ⟨bn, rfl, bn1, bn2, _, _, _, _, _, _, _, _, _, _, RB⟩)
        · exact (fun _ => ⟨bn, t, k, n, by simp [hd9], rfl, bn1, bn2, RB⟩)
        · exact (fun h => f11 (by simpa using h))
        · exact hTn
        · exact hbn2
      · rintro d a x ⟨u50, u51, u52, u53, u54, u55, u49, u56, u57, u14, u15, rfl, f0, f1, f2, f3, f4, f5, f6, f7, f8, f9, f10, f11, g0, g1⟩ hd hdep K hK
        have hd8 : d 8 = true := hdep ⟨8, .data⟩ (by simp) rfl
        have hd8 : d 8 = true := hdep ⟨8, .phase⟩ (by simp) rfl
        obtain rfl := f8 hd8
        rw [if_pos (by rfl)]
        go_big_op
        refine hK _ _ ⟨_, _, _, _, _, _, _, _, _, _, _, rfl, ?_, ?_, ?_, ?_, ?_, ?_, ?_, ?_, ?_, ?_, ?_, ?_, ?_, ?_⟩
        · exact (fun h => f0 (by simpa using h))
        · exact (fun h => f1 (by simpa using h))
        · exact (fun h => f2 (by simpa using h))
        · exact (fun h => f3 (by simpa using h))
        · exact (fun h => f4 (by simpa using h))
        · exact (fun h => f5 (by simpa using h))
        · exact (fun h => f6 (by simpa using h))
        · exact (fun h => f7 (by simpa using h))
        · exact (fun h => f8 (by simpa using h))
        · exact (fun h => f9 (by simpa using h))
        · exact (fun h => by have f := f10 (by simpa using h); (obtain ⟨b, t, k, n, e0, e, e1, e2, e3⟩ := f; exact ⟨b, t, k, n, by simp [e0], e, e1, e2, e3⟩))
        · exact (fun _ => rfl)
        · exact g0
        · exact g1
    · rintro d a x ⟨u50, u51, u52, u53, u54, u55, u49, u56, u57, u14, u15, rfl, f0, f1, f2, f3, f4, f5, f6, f7, f8, f9, f10, f11, g0, g1⟩ hall
      obtain ⟨bnB, tB, kB, nB, -, rfl, bqB, bpB, hbn⟩ := f10 (hall 10 (by decide))
      obtain rfl := f11 (hall 11 (by decide))
      clear f0 f1 f2 f3 f4 f5 f6 f7 f8 f9 f10 f11 hall
      have hrowx := hrowW.bar g1
      have z6_r0 : x.heap[w1.heap.size]? = some (.cells #[.string c.a, .string c.i, .int .i64 c.s, .int .i64 c.o, .int .i64 c.l, .int .i64 c.t, .int .i64 c.k, .int .i64 c.n, .bool false] 28 (0, 0)) := g1.blk (by omega) z5_h0.out
      have z6_r1 : x.heap[w2.heap.size]? = some (.cells #[.string c.a, .string c.i, .int .i64 c.s, .int .i64 0, .int .i64 c.l, .int .i64 c.t, .int .i64 c.k, .int .i64 c.n, .bool false, .int .i64 N] 30 (0, 0)) := g1.blk (by omega) z5_h1.out
      have z6_r2 : x.heap[bnA]? = some (.cells #[.string c.a, .string c.i, .int .i64 c.s, .int .i64 O, .int .i64 c.l, .int .i64 tA, .int .i64 kA, .int .i64 nA, .bool false, .int .i64 N] 30 (0, 0)) := g1.blk (by omega) z5_h2.out
      have z6_r3 : x.heap[w5.heap.size]? = some (.cells #[.string c.a, .string c.i, .int .i64 c.s, .int .i64 O, .int .i64 c.l, .int .i64 c.t, .int .i64 c.k, .int .i64 c.n, .bool false, .int .i64 (N + 5)] 30 (0, 0)) := g1.blk (by omega) z5_h3.out
      have z6_r4 : x.heap[bnB]? = some (.cells #[.string c.a, .string c.i, .int .i64 c.s, .int .i64 O, .int .i64 c.l, .int .i64 tB, .int .i64 kB, .int .i64 nB, .bool true, .int .i64 (N + 7)] 30 (0, 0)) := hbn
      have z6_htk : TapeK a0 len cap x tb := g0
      have z6_hrow : RowOk a0 len cap zs x tb := hrowx
      have z6_B : Below w.heap.size w x := z5_B.trans (g1.below (by omega) (by omega))
      have z6_z := z6_B.size
      clear z5_htk z5_hrow z5_B z5_z z5_c0 z5_l0 z5_k0_0 z5_k0_1 z5_c1 z5_l1 z5_k1_0 z5_k1_1 z5_c2 z5_l2 z5_k2_0 z5_k2_1 z5_c3 z5_l3 z5_k3_0 z5_k3_1 z5_h0 z5_h1 z5_h2 z5_h3 g0 g1 hrowx hrowW hbn
      have z6_c0 := blk_cell z6_r0
      have z6_l0 := blk_lt z6_r0
      have z6_k0_0 : w1.heap.size ≤ x.heap.size := by omega
      have z6_k0_1 : w1.heap.size ≤ x.heap.size + 1 := by omega
      have z6_c1 := blk_cell z6_r1
      have z6_l1 := blk_lt z6_r1
      have z6_k1_0 : w2.heap.size ≤ x.heap.size := by omega
      have z6_k1_1 : w2.heap.size ≤ x.heap.size + 1 := by omega
      have z6_c2 := blk_cell z6_r2
      have z6_l2 := blk_lt z6_r2
      have z6_k2_0 : bnA ≤ x.heap.size := by omega
      have z6_k2_1 : bnA ≤ x.heap.size + 1 := by omega
      have z6_c3 := blk_cell z6_r3
      have z6_l3 := blk_lt z6_r3
      have z6_k3_0 : w5.heap.size ≤ x.heap.size := by omega
      have z6_k3_1 : w5.heap.size ≤ x.heap.size + 1 := by omega
      have z6_c4 := blk_cell z6_r4
      have z6_l4 := blk_lt z6_r4
      have z6_k4_0 : bnB ≤ x.heap.size := by omega
      have z6_k4_1 : bnB ≤ x.heap.size + 1 := by omega
      have z6_h0 := Lib.hid z6_r0
      have z6_h1 := Lib.hid z6_r1
      have z6_h2 := Lib.hid z6_r2
      have z6_h3 := Lib.hid z6_r3
      have z6_h4 := Lib.hid z6_r4
      clear z6_r0 z6_r1 z6_r2 z6_r3 z6_r4
      obtain ⟨xB, rfl⟩ : ∃ y, y = x := ⟨_, rfl⟩
      go_wp2_with fail
      refine (leaseRenew_no ⟨{ c with g := true, o := O, t := tB, k := kB, n := nB }, N + 7⟩ (N + 9) _ rfl).mono ?_
      rintro e w7 ⟨rfl, hb⟩
      have z6_s0 := z6_h0.out
      have z6_s1 := z6_h1.out
      have z6_s2 := z6_h2.out
      have z6_s3 := z6_h3.out
      have z6_s4 := z6_h4.out
      have z7_r0 : w7.heap[w1.heap.size]? = some (.cells #[.string c.a, .string c.i, .int .i64 c.s, .int .i64 c.o, .int .i64 c.l, .int .i64 c.t, .int .i64 c.k, .int .i64 c.n, .bool false] 28 (0, 0)) := blk_ext hb (by repeat (first | (with_reducible assumption) | (with_reducible refine blk_new_at ?_ _ _; first | (with_reducible rfl) | (simp; done)) | (with_reducible refine blk_alloc ?_ _) | (with_reducible refine blk_drew ?_) | (with_reducible apply blk_set) | (show Array.setIfInBounds _ _ _ = _; first | (simp; done) | (simp; rfl)) | (with_reducible refine blk_set_other ?_ ?_; omega)))
      have z7_r1 : w7.heap[w2.heap.size]? = some (.cells #[.string c.a, .string c.i, .int .i64 c.s, .int .i64 0, .int .i64 c.l, .int .i64 c.t, .int .i64 c.k, .int .i64 c.n, .bool false, .int .i64 N] 30 (0, 0)) := blk_ext hb (by repeat (first | (with_reducible assumption) | (with_reducible refine blk_new_at ?_ _ _; first | (with_reducible rfl) | (simp; done)) | (with_reducible refine blk_alloc ?_ _) | (with_reducible refine blk_drew ?_) | (with_reducible apply blk_set) | (show Array.setIfInBounds _ _ _ = _; first | (simp; done) | (simp; rfl)) | (with_reducible refine blk_set_other ?_ ?_; omega)))
      have z7_r2 : w7.heap[bnA]? = some (.cells #[.string c.a, .string c.i, .int .i64 c.s, .int .i64 O, .int .i64 c.l, .int .i64 tA, .int .i64 kA, .int .i64 nA, .bool false, .int .i64 N] 30 (0, 0)) := blk_ext hb (by repeat (first | (with_reducible assumption) | (with_reducible refine blk_new_at ?_ _ _; first | (with_reducible rfl) | (simp; done)) | (with_reducible refine blk_alloc ?_ _) | (with_reducible refine blk_drew ?_) | (with_reducible apply blk_set) | (show Array.setIfInBounds _ _ _ = _; first | (simp; done) | (simp; rfl)) | (with_reducible refine blk_set_other ?_ ?_; omega)))
      have z7_r3 : w7.heap[w5.heap.size]? = some (.cells #[.string c.a, .string c.i, .int .i64 c.s, .int .i64 O, .int .i64 c.l, .int .i64 c.t, .int .i64 c.k, .int .i64 c.n, .bool false, .int .i64 (N + 5)] 30 (0, 0)) := blk_ext hb (by repeat (first | (with_reducible assumption) | (with_reducible refine blk_new_at ?_ _ _; first | (with_reducible rfl) | (simp; done)) | (with_reducible refine blk_alloc ?_ _) | (with_reducible refine blk_drew ?_) | (with_reducible apply blk_set) | (show Array.setIfInBounds _ _ _ = _; first | (simp; done) | (simp; rfl)) | (with_reducible refine blk_set_other ?_ ?_; omega)))
      have z7_r4 : w7.heap[bnB]? = some (.cells #[.string c.a, .string c.i, .int .i64 c.s, .int .i64 O, .int .i64 c.l, .int .i64 tB, .int .i64 kB, .int .i64 nB, .bool true, .int .i64 (N + 7)] 30 (0, 0)) := blk_ext hb (by repeat (first | (with_reducible assumption) | (with_reducible refine blk_new_at ?_ _ _; first | (with_reducible rfl) | (simp; done)) | (with_reducible refine blk_alloc ?_ _) | (with_reducible refine blk_drew ?_) | (with_reducible apply blk_set) | (show Array.setIfInBounds _ _ _ = _; first | (simp; done) | (simp; rfl)) | (with_reducible refine blk_set_other ?_ ?_; omega)))
      have z7_htk : TapeK a0 len cap w7 tb := TapeK.ext (TapeK.ext (z6_htk) (by go_grown)) (hb)
      have z7_hrow : RowOk a0 len cap zs w7 tb := RowOk.bar (RowOk.bar (z6_hrow) (Bar.of (by go_grown))) (Bar.of (hb))
      have z7_B : Below w.heap.size w w7 := ext_trans (a := w) (by go_grown) hb
      have z7_z := z7_B.size
      clear z6_htk z6_hrow z6_B z6_z z6_c0 z6_l0 z6_k0_0 z6_k0_1 z6_c1 z6_l1 z6_k1_0 z6_k1_1 z6_c2 z6_l2 z6_k2_0 z6_k2_1 z6_c3 z6_l3 z6_k3_0 z6_k3_1 z6_c4 z6_l4 z6_k4_0 z6_k4_1 z6_h0 z6_h1 z6_h2 z6_h3 z6_h4 z6_s0 z6_s1 z6_s2 z6_s3 z6_s4 hb
      have z7_c0 := blk_cell z7_r0
      have z7_l0 := blk_lt z7_r0
      have z7_k0_0 : w1.heap.size ≤ w7.heap.size := by omega
      have z7_k0_1 : w1.heap.size ≤ w7.heap.size + 1 := by omega
      have z7_c1 := blk_cell z7_r1
      have z7_l1 := blk_lt z7_r1
      have z7_k1_0 : w2.heap.size ≤ w7.heap.size := by omega
      have z7_k1_1 : w2.heap.size ≤ w7.heap.size + 1 := by omega
      have z7_c2 := blk_cell z7_r2
      have z7_l2 := blk_lt z7_r2
      have z7_k2_0 : bnA ≤ w7.heap.size := by omega
      have z7_k2_1 : bnA ≤ w7.heap.size + 1 := by omega
      have z7_c3 := blk_cell z7_r3
      have z7_l3 := blk_lt z7_r3
      have z7_k3_0 : w5.heap.size ≤ w7.heap.size := by omega
      have z7_k3_1 : w5.heap.size ≤ w7.heap.size + 1 := by omega
      have z7_c4 := blk_cell z7_r4
      have z7_l4 := blk_lt z7_r4
      have z7_k4_0 : bnB ≤ w7.heap.size := by omega
      have z7_k4_1 : bnB ≤ w7.heap.size + 1 := by omega
      have z7_h0 := Lib.hid z7_r0
      have z7_h1 := Lib.hid z7_r1
      have z7_h2 := Lib.hid z7_r2
      have z7_h3 := Lib.hid z7_r3
      have z7_h4 := Lib.hid z7_r4
      clear z7_r0 z7_r1 z7_r2 z7_r3 z7_r4
      have tlw7 : tb < w7.heap.size := z7_htk.lt
      go_wp2_with fail
      have z7_s0 := z7_h0.out
      have z7_s1 := z7_h1.out
      have z7_s2 := z7_h2.out
      have z7_s3 := z7_h3.out
      have z7_s4 := z7_h4.out
      refine wp_letter (fun W => Below w.heap.size w W ∧ W.heap[w1.heap.size]? = some (.cells #[.string c.a, .string c.i, .int .i64 c.s, .int .i64 c.o, .int .i64 c.l, .int .i64 c.t, .int .i64 c.k, .int .i64 c.n, .bool false] 28 (0, 0)) ∧ W.heap[w2.heap.size]? = some (.cells #[.string c.a, .string c.i, .int .i64 c.s, .int .i64 0, .int .i64 c.l, .int .i64 c.t, .int .i64 c.k, .int .i64 c.n, .bool false, .int .i64 N] 30 (0, 0)) ∧ W.heap[bnA]? = some (.cells #[.string c.a, .string c.i, .int .i64 c.s, .int .i64 O, .int .i64 c.l, .int .i64 tA, .int .i64 kA, .int .i64 nA, .bool false, .int .i64 N] 30 (0, 0)) ∧ W.heap[w5.heap.size]? = some (.cells #[.string c.a, .string c.i, .int .i64 c.s, .int .i64 O, .int .i64 c.l, .int .i64 c.t, .int .i64 c.k, .int .i64 c.n, .bool false, .int .i64 (N + 5)] 30 (0, 0)) ∧ W.heap[bnB]? = some (.cells #[.string c.a, .string c.i, .int .i64 c.s, .int .i64 O, .int .i64 c.l, .int .i64 tB, .int .i64 kB, .int .i64 nB, .bool true, .int .i64 (N + 7)] 30 (0, 0)) ∧ W.heap[w7.heap.size]? = some (.cells #[.string ⟨#[]⟩, .string ⟨#[]⟩, .int .i64 0, .int .i64 0, .int .i64 0, .int .i64 0, .int .i64 0, .int .i64 0, .bool false, .int .i64 0] 30 (0, 0)) ∧ TapeK a0 len cap W tb ∧ RowOk a0 len cap zs W tb) ⟨by go_grown, by repeat (first | (with_reducible assumption) | (with_reducible refine blk_new_at ?_ _ _; first | (with_reducible rfl) | (simp; done)) | (with_reducible refine blk_alloc ?_ _) | (with_reducible refine blk_drew ?_) | (with_reducible apply blk_set) | (show Array.setIfInBounds _ _ _ = _; first | (simp; done) | (simp; rfl)) | (with_reducible refine blk_set_other ?_ ?_; omega)), by repeat (first | (with_reducible assumption) | (with_reducible refine blk_new_at ?_ _ _; first | (with_reducible rfl) | (simp; done)) | (with_reducible refine blk_alloc ?_ _) | (with_reducible refine blk_drew ?_) | (with_reducible apply blk_set) | (show Array.setIfInBounds _ _ _ = _; first | (simp; done) | (simp; rfl)) | (with_reducible refine blk_set_other ?_ ?_; omega)), by repeat (first | (with_reducible assumption) | (with_reducible refine blk_new_at ?_ _ _; first | (with_reducible rfl) | (simp; done)) | (with_reducible refine blk_alloc ?_ _) | (with_reducible refine blk_drew ?_) | (with_reducible apply blk_set) | (show Array.setIfInBounds _ _ _ = _; first | (simp; done) | (simp; rfl)) | (with_reducible refine blk_set_other ?_ ?_; omega)), by repeat (first | (with_reducible assumption) | (with_reducible refine blk_new_at ?_ _ _; first | (with_reducible rfl) | (simp; done)) | (with_reducible refine blk_alloc ?_ _) | (with_reducible refine blk_drew ?_) | (with_reducible apply blk_set) | (show Array.setIfInBounds _ _ _ = _; first | (simp; done) | (simp; rfl)) | (with_reducible refine blk_set_other ?_ ?_; omega)), by repeat (first | (with_reducible assumption) | (with_reducible refine blk_new_at ?_ _ _; first | (with_reducible rfl) | (simp; done)) | (with_reducible refine blk_alloc ?_ _) | (with_reducible refine blk_drew ?_) | (with_reducible apply blk_set) | (show Array.setIfInBounds _ _ _ = _; first | (simp; done) | (simp; rfl)) | (with_reducible refine blk_set_other ?_ ?_; omega)), by repeat (first | (with_reducible assumption) | (with_reducible refine blk_new_at ?_ _ _; first | (with_reducible rfl) | (simp; done)) | (with_reducible refine blk_alloc ?_ _) | (with_reducible refine blk_drew ?_) | (with_reducible apply blk_set) | (show Array.setIfInBounds _ _ _ = _; first | (simp; done) | (simp; rfl)) | (with_reducible refine blk_set_other ?_ ?_; omega)), TapeK.ext (z7_htk) (by go_grown), RowOk.bar (z7_hrow) (Bar.of (by go_grown))⟩ ?_
      rintro w8 ⟨hBl, hl0, hl1, hl2, hl3, hl4, hl5, hxhtk, hxhrow⟩
      have z8_r0 : w8.heap[w1.heap.size]? = some (.cells #[.string c.a, .string c.i, .int .i64 c.s, .int .i64 c.o, .int .i64 c.l, .int .i64 c.t, .int .i64 c.k, .int .i64 c.n, .bool false] 28 (0, 0)) := hl0
      have z8_r1 : w8.heap[w2.heap.size]? = some (.cells #[.string c.a, .string c.i, .int .i64 c.s, .int .i64 0, .int .i64 c.l, .int .i64 c.t, .int .i64 c.k, .int .i64 c.n, .bool false, .int .i64 N] 30 (0, 0)) := hl1
      have z8_r2 : w8.heap[bnA]? = some (.cells #[.string c.a, .string c.i, .int .i64 c.s, .int .i64 O, .int .i64 c.l, .int .i64 tA, .int .i64 kA, .int .i64 nA, .bool false, .int .i64 N] 30 (0, 0)) := hl2
      have z8_r3 : w8.heap[w5.heap.size]? = some (.cells #[.string c.a, .string c.i, .int .i64 c.s, .int .i64 O, .int .i64 c.l, .int .i64 c.t, .int .i64 c.k, .int .i64 c.n, .bool false, .int .i64 (N + 5)] 30 (0, 0)) := hl3
      have z8_r4 : w8.heap[bnB]? = some (.cells #[.string c.a, .string c.i, .int .i64 c.s, .int .i64 O, .int .i64 c.l, .int .i64 tB, .int .i64 kB, .int .i64 nB, .bool true, .int .i64 (N + 7)] 30 (0, 0)) := hl4
      have z8_r5 : w8.heap[w7.heap.size]? = some (.cells #[.string ⟨#[]⟩, .string ⟨#[]⟩, .int .i64 0, .int .i64 0, .int .i64 0, .int .i64 0, .int .i64 0, .int .i64 0, .bool false, .int .i64 0] 30 (0, 0)) := hl5
      have z8_htk : TapeK a0 len cap w8 tb := hxhtk
      have z8_hrow : RowOk a0 len cap zs w8 tb := hxhrow
      have z8_B : Below w.heap.size w w8 := hBl
      have z8_z := z8_B.size
      clear z7_htk z7_hrow z7_B z7_z z7_c0 z7_l0 z7_k0_0 z7_k0_1 z7_c1 z7_l1 z7_k1_0 z7_k1_1 z7_c2 z7_l2 z7_k2_0 z7_k2_1 z7_c3 z7_l3 z7_k3_0 z7_k3_1 z7_c4 z7_l4 z7_k4_0 z7_k4_1 z7_h0 z7_h1 z7_h2 z7_h3 z7_h4 z7_s0 z7_s1 z7_s2 z7_s3 z7_s4 hBl hl0 hl1 hl2 hl3 hl4 hl5 hxhtk hxhrow
      have z8_c0 := blk_cell z8_r0
      have z8_l0 := blk_lt z8_r0
      have z8_k0_0 : w1.heap.size ≤ w8.heap.size := by omega
      have z8_k0_1 : w1.heap.size ≤ w8.heap.size + 1 := by omega
      have z8_c1 := blk_cell z8_r1
      have z8_l1 := blk_lt z8_r1
      have z8_k1_0 : w2.heap.size ≤ w8.heap.size := by omega
      have z8_k1_1 : w2.heap.size ≤ w8.heap.size + 1 := by omega
      have z8_c2 := blk_cell z8_r2
      have z8_l2 := blk_lt z8_r2
      have z8_k2_0 : bnA ≤ w8.heap.size := by omega
      have z8_k2_1 : bnA ≤ w8.heap.size + 1 := by omega
      have z8_c3 := blk_cell z8_r3
      have z8_l3 := blk_lt z8_r3
      have z8_k3_0 : w5.heap.size ≤ w8.heap.size := by omega
      have z8_k3_1 : w5.heap.size ≤ w8.heap.size + 1 := by omega
      have z8_c4 := blk_cell z8_r4
      have z8_l4 := blk_lt z8_r4
      have z8_k4_0 : bnB ≤ w8.heap.size := by omega
      have z8_k4_1 : bnB ≤ w8.heap.size + 1 := by omega
      have z8_c5 := blk_cell z8_r5
      have z8_l5 := blk_lt z8_r5
      have z8_k5_0 : w7.heap.size ≤ w8.heap.size := by omega
      have z8_k5_1 : w7.heap.size ≤ w8.heap.size + 1 := by omega
      have z8_h0 := Lib.hid z8_r0
      have z8_h1 := Lib.hid z8_r1
      have z8_h2 := Lib.hid z8_r2
      have z8_h3 := Lib.hid z8_r3
      have z8_h4 := Lib.hid z8_r4
      have z8_h5 := Lib.hid z8_r5
      clear z8_r0 z8_r1 z8_r2 z8_r3 z8_r4 z8_r5
      have hrowW := z8_hrow
      refine wp_region_inv_eq (J := fun A d a x => ∃ u66 u67 u68 u69 u65 u70 u71 u18 u19 : Value, a = (((((((((A.put (some 66) u66).put (some 67) u67).put (some 68) u68).put (some 69) u69).put (some 65) u65).put (some 70) u70).put (some 71) u71).put (some 18) u18).put (some 19) u19) ∧ (d 0 = true → u66 = .agg #[.string c.a, .string c.i, .int .i64 c.s, .int .i64 O, .int .i64 c.l, .int .i64 tB, .int .i64 kB, .int .i64 nB, .bool true, .int .i64 (N + 7)]) ∧ (d 1 = true → u67 = .pointer (some ⟨tb, 0, none⟩)) ∧ (d 2 = true → ∃ t k n : Int, u68 = stv t k n) ∧ (d 3 = true → ∃ t k n : Int, u69 = .tuple #[.agg #[.string ⟨#[]⟩, .string ⟨#[]⟩, .int .i64 0, .int .i64 0, .int .i64 0, .int .i64 0, .int .i64 0, .int .i64 0, .bool false, .int .i64 0], .bool false]) ∧ (d 4 = true → ∃ t k n : Int, u65 = .tuple #[.agg #[.string ⟨#[]⟩, .string ⟨#[]⟩, .int .i64 0, .int .i64 0, .int .i64 0, .int .i64 0, .int .i64 0, .int .i64 0, .bool false, .int .i64 0], .bool false]) ∧ (d 5 = true → ∃ t k n : Int, u70 = .agg #[.string ⟨#[]⟩, .string ⟨#[]⟩, .int .i64 0, .int .i64 0, .int .i64 0, .int .i64 0, .int .i64 0, .int .i64 0, .bool false, .int .i64 0]) ∧ (d 6 = true → u71 = .bool false) ∧ (d 7 = true → ∃ b : Nat, u18 = .pointer (some ⟨b, 0, none⟩) ∧ w8.heap.size ≤ b ∧ b ≠ tb ∧ ∃ y0 y1 y2 y3 y4 y5 y6 y7 y8 y9 : Value, x.heap[b]? = some (.cells #[y0, y1, y2, y3, y4, y5, y6, y7, y8, y9] 30 (0, 0))) ∧ (d 8 = true → ∃ (b : Nat) (t k n : Int), d 7 = true ∧ u18 = .pointer (some ⟨b, 0, none⟩) ∧ w8.heap.size ≤ b ∧ b ≠ tb ∧ x.heap[b]? = some (.cells #[.string ⟨#[]⟩, .string ⟨#[]⟩, .int .i64 0, .int .i64 0, .int .i64 0, .int .i64 0, .int .i64 0, .int .i64 0, .bool false, .int .i64 0] 30 (0, 0))) ∧ (d 9 = true → u19 = .bool false) ∧ TapeK a0 len cap x tb ∧ Bar tb w8 x) (by simp only [Act.put, List.setIfInBounds_toArray, List.set_cons_succ, List.set_cons_zero]; rfl) (by kernel_rfl) (by kernel_rfl) ?_ ?_ ?_
      · refine ⟨_, _, _, _, _, _, _, _, _, rfl, ?_, ?_, ?_, ?_, ?_, ?_, ?_, ?_, ?_, ?_, ?_, ?_⟩
        · intro h; cases h
        · intro h; cases h
        · intro h; cases h
        · intro h; cases h
        · intro h; cases h
        · intro h; cases h
        · intro h; cases h
        · intro h; cases h
        · intro h; cases h
        · intro h; cases h
        · exact z8_htk.ext ((Below.refl _ _).drew)
        · exact Bar.of ((Below.refl _ _).drew)
      · simp only [StepsOk, StepOk]
        refine ⟨?_, ?_, ?_, ?_, ?_, ?_, ?_, ?_, ?_, ?_, trivial⟩
        · rintro d a x ⟨u66, u67, u68, u69, u65, u70, u71, u18, u19, rfl, f0, f1, f2, f3, f4, f5, f6, f7, f8, f9, g0, g1⟩ hd hdep K hK
          have hx := blk_cell (g1.blk (by omega) z8_h4.out)
          rw [if_pos (by rfl)]
          go_big_op
          refine hK _ _ ⟨_, _, _, _, _, _, _, _, _, rfl, ?_, ?_, ?_, ?_, ?_, ?_, ?_, ?_, ?_, ?_, ?_, ?_⟩
          · exact (fun _ => rfl)
          · exact (fun h => f1 (by simpa using h))
          · exact (fun h => f2 (by simpa using h))
          · exact (fun h => f3 (by simpa using h))
          · exact (fun h => f4 (by simpa using h))
          · exact (fun h => f5 (by simpa using h))
          · exact (fun h => f6 (by simpa using h))
          · exact (fun h => f7 (by simpa using h))
          · exact (fun h => by have f := f8 (by simpa using h); (obtain ⟨b, t, k, n, e0, e, e1, e2, e3⟩ := f; exact ⟨b, t, k, n, by simp [e0], e, e1, e2, e3⟩))
          · exact (fun h => f9 (by simpa using h))
          · exact g0
          · exact g1
        · rintro d a x ⟨u66, u67, u68, u69, u65, u70, u71, u18, u19, rfl, f0, f1, f2, f3, f4, f5, f6, f7, f8, f9, g0, g1⟩ hd hdep K hK
          rw [if_pos (by rfl)]
          go_big_op
          refine hK _ _ ⟨_, _, _, _, _, _, _, _, _, rfl, ?_, ?_, ?_, ?_, ?_, ?_, ?_, ?_, ?_, ?_, ?_, ?_⟩
          · exact (fun h => f0 (by simpa using h))
          · exact (fun _ => rfl)
          · exact (fun h => f2 (by simpa using h))
          · exact (fun h => f3 (by simpa using h))
          · exact (fun h => f4 (by simpa using h))
          · exact (fun h => f5 (by simpa using h))
          · exact (fun h => f6 (by simpa using h))
          · exact (fun h => f7 (by simpa using h))
          · exact (fun h => by have f := f8 (by simpa using h); (obtain ⟨b, t, k, n, e0, e, e1, e2, e3⟩ := f; exact ⟨b, t, k, n, by simp [e0], e, e1, e2, e3⟩))
          · exact (fun h => f9 (by simpa using h))
          · exact g0
          · exact g1
        · rintro d a x ⟨u66, u67, u68, u69, u65, u70, u71, u18, u19, rfl, f0, f1, f2, f3, f4, f5, f6, f7, f8, f9, g0, g1⟩ hd hdep K hK
          have hd1 : d 1 = true := hdep ⟨1, .data⟩ (by simp) rfl
          obtain rfl := f1 hd1
          rw [if_pos (by rfl)]
          go_big_op
          refine (tapeStampK _ _ _ zs _ _ g0 (hrowW.bar g1)).mono ?_
          rintro e x1 ⟨t, k, n, rfl, -, -, -, -, -, -, hT1, hbar⟩
          refine hK _ _ ⟨_, _, _, _, _, _, _, _, _, rfl, ?_, ?_, ?_, ?_, ?_, ?_, ?_, ?_, ?_, ?_, ?_, ?_⟩
          · exact (fun h => f0 (by simpa using h))
          · exact (fun h => f1 (by simpa using h))
          · exact (fun _ => ⟨t, k, n, rfl⟩)
          · exact (fun h => f3 (by simpa using h))
          · exact (fun h => f4 (by simpa using h))
          · exact (fun h => f5 (by simpa using h))
          · exact (fun h => f6 (by simpa using h))
          · exact (fun h => by have f := f7 (by simpa using h); (obtain ⟨b, e, e1, e2, y0, y1, y2, y3, y4, y5, y6, y7, y8, y9, e3⟩ := f; exact ⟨b, e, e1, e2, y0, y1, y2, y3, y4, y5, y6, y7, y8, y9, hbar.blk e2 e3⟩))
          · exact (fun h => by have f := f8 (by simpa using h); (obtain ⟨b, t, k, n, e0, e, e1, e2, e3⟩ := f; exact ⟨b, t, k, n, by simp [e0], e, e1, e2, hbar.blk e2 e3⟩))
          · exact (fun h => f9 (by simpa using h))
          · exact hT1
          · exact (g1.trans hbar)
        · rintro d a x ⟨u66, u67, u68, u69, u65, u70, u71, u18, u19, rfl, f0, f1, f2, f3, f4, f5, f6, f7, f8, f9, g0, g1⟩ hd hdep K hK
          have hd0 : d 0 = true := hdep ⟨0, .data⟩ (by simp) rfl
          have hd2 : d 2 = true := hdep ⟨2, .data⟩ (by simp) rfl
          have hd2 : d 2 = true := hdep ⟨2, .chain⟩ (by simp) rfl
          obtain rfl := f0 hd0
          obtain ⟨t4, k4, n4, rfl⟩ := f2 hd2
          rw [if_pos (by rfl)]
          go_big_op
          refine (leaseOverride_no ⟨{ c with g := true, o := O, t := tB, k := kB, n := nB }, N + 7⟩ 1 t4 k4 n4 _ (.inl rfl)).mono ?_
          rintro e x1 ⟨rfl, hbl⟩
          refine hK _ _ ⟨_, _, _, _, _, _, _, _, _, rfl, ?_, ?_, ?_, ?_, ?_, ?_, ?_, ?_, ?_, ?_, ?_, ?_⟩
          · exact (fun h => f0 (by simpa using h))
          · exact (fun h => f1 (by simpa using h))
          · exact (fun h => f2 (by simpa using h))
          · exact (fun _ => ⟨t4, k4, n4, rfl⟩)
          · exact (fun h => f4 (by simpa using h))
          · exact (fun h => f5 (by simpa using h))
          · exact (fun h => f6 (by simpa using h))
          · exact (fun h => by have f := f7 (by simpa using h); (obtain ⟨b, e, e1, e2, y0, y1, y2, y3, y4, y5, y6, y7, y8, y9, e3⟩ := f; exact ⟨b, e, e1, e2, y0, y1, y2, y3, y4, y5, y6, y7, y8, y9, blk_ext hbl e3⟩))
          · exact (fun h => by have f := f8 (by simpa using h); (obtain ⟨b, t, k, n, e0, e, e1, e2, e3⟩ := f; exact ⟨b, t, k, n, by simp [e0], e, e1, e2, blk_ext hbl e3⟩))
          · exact (fun h => f9 (by simpa using h))
          · exact (g0.ext hbl)
          · exact (g1.trans (Bar.of hbl))
        · rintro d a x ⟨u66, u67, u68, u69, u65, u70, u71, u18, u19, rfl, f0, f1, f2, f3, f4, f5, f6, f7, f8, f9, g0, g1⟩ hd hdep K hK
          have hd3 : d 3 = true := hdep ⟨3, .data⟩ (by simp) rfl
          obtain ⟨t, k, n, rfl⟩ := f3 hd3
          rw [if_pos (by rfl)]
          go_big_op
          refine hK _ _ ⟨_, _, _, _, _, _, _, _, _, rfl, ?_, ?_, ?_, ?_, ?_, ?_, ?_, ?_, ?_, ?_, ?_, ?_⟩
          · exact (fun h => f0 (by simpa using h))
          · exact (fun h => f1 (by simpa using h))
          · exact (fun h => f2 (by simpa using h))
          · exact (fun h => f3 (by simpa using h))
          · exact (fun _ => ⟨t, k, n, rfl⟩)
          · exact (fun h => f5 (by simpa using h))
          · exact (fun h => f6 (by simpa using h))
          · exact (fun h => f7 (by simpa using h))
          · exact (fun h => by have f := f8 (by simpa using h); (obtain ⟨b, t, k, n, e0, e, e1, e2, e3⟩ := f; exact ⟨b, t, k, n, by simp [e0], e, e1, e2, e3⟩))
          · exact (fun h => f9 (by simpa using h))
          · exact g0
          · exact g1
        · rintro d a x ⟨u66, u67, u68, u69, u65, u70, u71, u18, u19, rfl, f0, f1, f2, f3, f4, f5, f6, f7, f8, f9, g0, g1⟩ hd hdep K hK
          have hd4 : d 4 = true := hdep ⟨4, .data⟩ (by simp) rfl
          obtain ⟨t, k, n, rfl⟩ := f4 hd4
          rw [if_pos (by rfl)]
          go_big_op
          refine hK _ _ ⟨_, _, _, _, _, _, _, _, _, rfl, ?_, ?_, ?_, ?_, ?_, ?_, ?_, ?_, ?_, ?_, ?_, ?_⟩
          · exact (fun h => f0 (by simpa using h))
          · exact (fun h => f1 (by simpa using h))
          · exact (fun h => f2 (by simpa using h))
          · exact (fun h => f3 (by simpa using h))
          · exact (fun h => f4 (by simpa using h))
          · exact (fun _ => ⟨t, k, n, rfl⟩)
          · exact (fun h => f6 (by simpa using h))
          · exact (fun h => f7 (by simpa using h))
          · exact (fun h => by have f := f8 (by simpa using h); (obtain ⟨b, t, k, n, e0, e, e1, e2, e3⟩ := f; exact ⟨b, t, k, n, by simp [e0], e, e1, e2, e3⟩))
          · exact (fun h => f9 (by simpa using h))
          · exact g0
          · exact g1
        · rintro d a x ⟨u66, u67, u68, u69, u65, u70, u71, u18, u19, rfl, f0, f1, f2, f3, f4, f5, f6, f7, f8, f9, g0, g1⟩ hd hdep K hK
          have hd4 : d 4 = true := hdep ⟨4, .data⟩ (by simp) rfl
          obtain ⟨t, k, n, rfl⟩ := f4 hd4
          rw [if_pos (by rfl)]
          go_big_op
          refine hK _ _ ⟨_, _, _, _, _, _, _, _, _, rfl, ?_, ?_, ?_, ?_, ?_, ?_, ?_, ?_, ?_, ?_, ?_, ?_⟩
          · exact (fun h => f0 (by simpa using h))
          · exact (fun h => f1 (by simpa using h))
          · exact (fun h => f2 (by simpa using h))
          · exact (fun h => f3 (by simpa using h))
          · exact (fun h => f4 (by simpa using h))
          · exact (fun h => f5 (by simpa using h))
          · exact (fun _ => rfl)
          · exact (fun h => f7 (by simpa using h))
          · exact (fun h => by have f := f8 (by simpa using h); (obtain ⟨b, t, k, n, e0, e, e1, e2, e3⟩ := f; exact ⟨b, t, k, n, by simp [e0], e, e1, e2, e3⟩))
          · exact (fun h => f9 (by simpa using h))
          · exact g0
          · exact g1
        · rintro d a x ⟨u66, u67, u68, u69, u65, u70, u71, u18, u19, rfl, f0, f1, f2, f3, f4, f5, f6, f7, f8, f9, g0, g1⟩ hd hdep K hK
          rw [if_pos (by rfl)]
          go_big_op
          refine hK _ _ ⟨_, _, _, _, _, _, _, _, _, rfl, ?_, ?_, ?_, ?_, ?_, ?_, ?_, ?_, ?_, ?_, ?_, ?_⟩
          · exact (fun h => f0 (by simpa using h))
          · exact (fun h => f1 (by simpa using h))
          · exact (fun h => f2 (by simpa using h))
          · exact (fun h => f3 (by simpa using h))
          · exact (fun h => f4 (by simpa using h))
          · exact (fun h => f5 (by simpa using h))
          · exact (fun h => f6 (by simpa using h))
          · exact (fun _ => ⟨_, rfl, by have := g1.size; omega, by have := g0.lt; omega, _, _, _, _, _, _, _, _, _, _, blk_new _ _ _⟩)
          · exact (fun h => by obtain ⟨b, t, k, n, e0, -⟩ := f8 (by simpa using h); rw [hd] at e0; cases e0)
          · exact (fun h => f9 (by simpa using h))
          · exact (g0.ext ((Below.refl _ _).alloc (Nat.le_refl _) _))
          · exact (g1.trans (Bar.of ((Below.refl _ _).alloc (Nat.le_refl _) _)))
        · rintro d a x ⟨u66, u67, u68, u69, u65, u70, u71, u18, u19, rfl, f0, f1, f2, f3, f4, f5, f6, f7, f8, f9, g0, g1⟩ hd hdep K hK
          have hd7 : d 7 = true := hdep ⟨7, .data⟩ (by simp) rfl
          have hd5 : d 5 = true := hdep ⟨5, .data⟩ (by simp) rfl
          have hd5 : d 5 = true := hdep ⟨5, .phase⟩ (by simp) rfl
          have hd7 : d 7 = true := hdep ⟨7, .phase⟩ (by simp) rfl
          obtain ⟨bn, rfl, bn1, bn2, y0, y1, y2, y3, y4, y5, y6, y7, y8, y9, hbn⟩ := f7 hd7
          obtain ⟨t, k, n, rfl⟩ := f5 hd5
          have hbc := blk_cell hbn
          have hbf := blk_free hbn
          have hbl2 := blk_lt hbn
          rw [if_pos (by rfl)]
          go_big_op
          have hkp : Kept bn x ((((((((((x.setCell ⟨bn, 0, none⟩ (.string ⟨#[]⟩)).setCell ⟨bn, 1, none⟩ (.string ⟨#[]⟩)).setCell ⟨bn, 2, none⟩ (.int .i64 0)).setCell ⟨bn, 3, none⟩ (.int .i64 0)).setCell ⟨bn, 4, none⟩ (.int .i64 0)).setCell ⟨bn, 5, none⟩ (.int .i64 0)).setCell ⟨bn, 6, none⟩ (.int .i64 0)).setCell ⟨bn, 7, none⟩ (.int .i64 0)).setCell ⟨bn, 8, none⟩ (.bool false)).setCell ⟨bn, 9, none⟩ (.int .i64 0)) := (((((((((((Kept.refl bn x).setCell _ _).setCell _ _).setCell _ _).setCell _ _).setCell _ _).setCell _ _).setCell _ _).setCell _ _).setCell _ _).setCell _ _)
          have RB : ((((((((((x.setCell ⟨bn, 0, none⟩ (.string ⟨#[]⟩)).setCell ⟨bn, 1, none⟩ (.string ⟨#[]⟩)).setCell ⟨bn, 2, none⟩ (.int .i64 0)).setCell ⟨bn, 3, none⟩ (.int .i64 0)).setCell ⟨bn, 4, none⟩ (.int .i64 0)).setCell ⟨bn, 5, none⟩ (.int .i64 0)).setCell ⟨bn, 6, none⟩ (.int .i64 0)).setCell ⟨bn, 7, none⟩ (.int .i64 0)).setCell ⟨bn, 8, none⟩ (.bool false)).setCell ⟨bn, 9, none⟩ (.int .i64 0)).heap[bn]? = some (.cells #[.string ⟨#[]⟩, .string ⟨#[]⟩, .int .i64 0, .int .i64 0, .int .i64 0, .int .i64 0, .int .i64 0, .int .i64 0, .bool false, .int .i64 0] 30 (0, 0)) := by repeat (first | (with_reducible assumption) | (with_reducible refine blk_new_at ?_ _ _; first | (with_reducible rfl) | (simp; done)) | (with_reducible refine blk_alloc ?_ _) | (with_reducible refine blk_drew ?_) | (with_reducible apply blk_set) | (show Array.setIfInBounds _ _ _ = _; first | (simp; done) | (simp; rfl)) | (with_reducible refine blk_set_other ?_ ?_; omega))
          have hTn : TapeK a0 len cap ((((((((((x.setCell ⟨bn, 0, none⟩ (.string ⟨#[]⟩)).setCell ⟨bn, 1, none⟩ (.string ⟨#[]⟩)).setCell ⟨bn, 2, none⟩ (.int .i64 0)).setCell ⟨bn, 3, none⟩ (.int .i64 0)).setCell ⟨bn, 4, none⟩ (.int .i64 0)).setCell ⟨bn, 5, none⟩ (.int .i64 0)).setCell ⟨bn, 6, none⟩ (.int .i64 0)).setCell ⟨bn, 7, none⟩ (.int .i64 0)).setCell ⟨bn, 8, none⟩ (.bool false)).setCell ⟨bn, 9, none⟩ (.int .i64 0)) tb := by
            obtain ⟨q, e1, e2⟩ := g0
            exact ⟨q, (hkp.block tb (Ne.symm bn2)).trans e1, e2⟩
          have hbn2 : Bar tb w8 ((((((((((x.setCell ⟨bn, 0, none⟩ (.string ⟨#[]⟩)).setCell ⟨bn, 1, none⟩ (.string ⟨#[]⟩)).setCell ⟨bn, 2, none⟩ (.int .i64 0)).setCell ⟨bn, 3, none⟩ (.int .i64 0)).setCell ⟨bn, 4, none⟩ (.int .i64 0)).setCell ⟨bn, 5, none⟩ (.int .i64 0)).setCell ⟨bn, 6, none⟩ (.int .i64 0)).setCell ⟨bn, 7, none⟩ (.int .i64 0)).setCell ⟨bn, 8, none⟩ (.bool false)).setCell ⟨bn, 9, none⟩ (.int .i64 0)) := ⟨hkp.os.trans g1.os, hkp.tape.trans g1.tape, hkp.output.trans g1.output, Nat.le_trans g1.size (Nat.le_of_eq hkp.size.symm), fun k hk hl => (hkp.block k (by omega)).trans (g1.block k hk hl)⟩
          generalize ((((((((((x.setCell ⟨bn, 0, none⟩ (.string ⟨#[]⟩)).setCell ⟨bn, 1, none⟩ (.string ⟨#[]⟩)).setCell ⟨bn, 2, none⟩ (.int .i64 0)).setCell ⟨bn, 3, none⟩ (.int .i64 0)).setCell ⟨bn, 4, none⟩ (.int .i64 0)).setCell ⟨bn, 5, none⟩ (.int .i64 0)).setCell ⟨bn, 6, none⟩ (.int .i64 0)).setCell ⟨bn, 7, none⟩ (.int .i64 0)).setCell ⟨bn, 8, none⟩ (.bool false)).setCell ⟨bn, 9, none⟩ (.int .i64 0)) = X at *
          refine hK _ _ ⟨_, _, _, _, _, _, _, _, _, rfl, ?_, ?_, ?_, ?_, ?_, ?_, ?_, ?_, ?_, ?_, ?_, ?_⟩
          · exact (fun h => f0 (by simpa using h))
          · exact (fun h => f1 (by simpa using h))
          · exact (fun h => f2 (by simpa using h))
          · exact (fun h => f3 (by simpa using h))
          · exact (fun h => f4 (by simpa using h))
          · exact (fun h => f5 (by simpa using h))
          · exact (fun h => f6 (by simpa using h))
          · exact (fun _ => ⟨bn, rfl, bn1, bn2, _, _, _, _, _, _, _, _, _, _, RB⟩)
          · exact (fun _ => ⟨bn, t, k, n, by simp [hd7], rfl, bn1, bn2, RB⟩)
          · exact (fun h => f9 (by simpa using h))
          · exact hTn
          · exact hbn2
        · rintro d a x ⟨u66, u67, u68, u69, u65, u70, u71, u18, u19, rfl, f0, f1, f2, f3, f4, f5, f6, f7, f8, f9, g0, g1⟩ hd hdep K hK
          have hd6 : d 6 = true := hdep ⟨6, .data⟩ (by simp) rfl
          have hd6 : d 6 = true := hdep ⟨6, .phase⟩ (by simp) rfl
          obtain rfl := f6 hd6
          rw [if_pos (by rfl)]
          go_big_op
          refine hK _ _ ⟨_, _, _, _, _, _, _, _, _, rfl, ?_, ?_, ?_, ?_, ?_, ?_, ?_, ?_, ?_, ?_, ?_, ?_⟩
          · exact (fun h => f0 (by simpa using h))
          · exact (fun h => f1 (by simpa using h))
          · exact (fun h => f2 (by simpa using h))
          · exact (fun h => f3 (by simpa using h))
          · exact (fun h => f4 (by simpa using h))
          · exact (fun h => f5 (by simpa using h))
          · exact (fun h => f6 (by simpa using h))
          · exact (fun h => f7 (by simpa using h))
          · exact (fun h => by have f := f8 (by simpa using h); (obtain ⟨b, t, k, n, e0, e, e1, e2, e3⟩ := f; exact ⟨b, t, k, n, by simp [e0], e, e1, e2, e3⟩))
          · exact (fun _ => rfl)
          · exact g0
          · exact g1
      · rintro d a x ⟨u66, u67, u68, u69, u65, u70, u71, u18, u19, rfl, f0, f1, f2, f3, f4, f5, f6, f7, f8, f9, g0, g1⟩ hall
        obtain ⟨bnC, tC, kC, nC, -, rfl, bqC, bpC, hbn⟩ := f8 (hall 8 (by decide))
        obtain rfl := f9 (hall 9 (by decide))
        clear f0 f1 f2 f3 f4 f5 f6 f7 f8 f9 hall
        have hrowx := hrowW.bar g1
        have z9_r0 : x.heap[w1.heap.size]? = some (.cells #[.string c.a, .string c.i, .int .i64 c.s, .int .i64 c.o, .int .i64 c.l, .int .i64 c.t, .int .i64 c.k, .int .i64 c.n, .bool false] 28 (0, 0)) := g1.blk (by omega) z8_h0.out
        have z9_r1 : x.heap[w2.heap.size]? = some (.cells #[.string c.a, .string c.i, .int .i64 c.s, .int .i64 0, .int .i64 c.l, .int .i64 c.t, .int .i64 c.k, .int .i64 c.n, .bool false, .int .i64 N] 30 (0, 0)) := g1.blk (by omega) z8_h1.out
        have z9_r2 : x.heap[bnA]? = some (.cells #[.string c.a, .string c.i, .int .i64 c.s, .int .i64 O, .int .i64 c.l, .int .i64 tA, .int .i64 kA, .int .i64 nA, .bool false, .int .i64 N] 30 (0, 0)) := g1.blk (by omega) z8_h2.out
        have z9_r3 : x.heap[w5.heap.size]? = some (.cells #[.string c.a, .string c.i, .int .i64 c.s, .int .i64 O, .int .i64 c.l, .int .i64 c.t, .int .i64 c.k, .int .i64 c.n, .bool false, .int .i64 (N + 5)] 30 (0, 0)) := g1.blk (by omega) z8_h3.out
        have z9_r4 : x.heap[bnB]? = some (.cells #[.string c.a, .string c.i, .int .i64 c.s, .int .i64 O, .int .i64 c.l, .int .i64 tB, .int .i64 kB, .int .i64 nB, .bool true, .int .i64 (N + 7)] 30 (0, 0)) := g1.blk (by omega) z8_h4.out
        have z9_r5 : x.heap[w7.heap.size]? = some (.cells #[.string ⟨#[]⟩, .string ⟨#[]⟩, .int .i64 0, .int .i64 0, .int .i64 0, .int .i64 0, .int .i64 0, .int .i64 0, .bool false, .int .i64 0] 30 (0, 0)) := g1.blk (by omega) z8_h5.out
        have z9_r6 : x.heap[bnC]? = some (.cells #[.string ⟨#[]⟩, .string ⟨#[]⟩, .int .i64 0, .int .i64 0, .int .i64 0, .int .i64 0, .int .i64 0, .int .i64 0, .bool false, .int .i64 0] 30 (0, 0)) := hbn
        have z9_htk : TapeK a0 len cap x tb := g0
        have z9_hrow : RowOk a0 len cap zs x tb := hrowx
        have z9_B : Below w.heap.size w x := z8_B.trans (g1.below (by omega) (by omega))
        have z9_z := z9_B.size
        clear z8_htk z8_hrow z8_B z8_z z8_c0 z8_l0 z8_k0_0 z8_k0_1 z8_c1 z8_l1 z8_k1_0 z8_k1_1 z8_c2 z8_l2 z8_k2_0 z8_k2_1 z8_c3 z8_l3 z8_k3_0 z8_k3_1 z8_c4 z8_l4 z8_k4_0 z8_k4_1 z8_c5 z8_l5 z8_k5_0 z8_k5_1 z8_h0 z8_h1 z8_h2 z8_h3 z8_h4 z8_h5 g0 g1 hrowx hrowW hbn
        have z9_c0 := blk_cell z9_r0
        have z9_l0 := blk_lt z9_r0
        have z9_k0_0 : w1.heap.size ≤ x.heap.size := by omega
        have z9_k0_1 : w1.heap.size ≤ x.heap.size + 1 := by omega
        have z9_c1 := blk_cell z9_r1
        have z9_l1 := blk_lt z9_r1
        have z9_k1_0 : w2.heap.size ≤ x.heap.size := by omega
        have z9_k1_1 : w2.heap.size ≤ x.heap.size + 1 := by omega
        have z9_c2 := blk_cell z9_r2
        have z9_l2 := blk_lt z9_r2
        have z9_k2_0 : bnA ≤ x.heap.size := by omega
        have z9_k2_1 : bnA ≤ x.heap.size + 1 := by omega
        have z9_c3 := blk_cell z9_r3
        have z9_l3 := blk_lt z9_r3
        have z9_k3_0 : w5.heap.size ≤ x.heap.size := by omega
        have z9_k3_1 : w5.heap.size ≤ x.heap.size + 1 := by omega
        have z9_c4 := blk_cell z9_r4
        have z9_l4 := blk_lt z9_r4
        have z9_k4_0 : bnB ≤ x.heap.size := by omega
        have z9_k4_1 : bnB ≤ x.heap.size + 1 := by omega
        have z9_c5 := blk_cell z9_r5
        have z9_l5 := blk_lt z9_r5
        have z9_k5_0 : w7.heap.size ≤ x.heap.size := by omega
        have z9_k5_1 : w7.heap.size ≤ x.heap.size + 1 := by omega
        have z9_c6 := blk_cell z9_r6
        have z9_l6 := blk_lt z9_r6
        have z9_k6_0 : bnC ≤ x.heap.size := by omega
        have z9_k6_1 : bnC ≤ x.heap.size + 1 := by omega
        have z9_h0 := Lib.hid z9_r0
        have z9_h1 := Lib.hid z9_r1
        have z9_h2 := Lib.hid z9_r2
        have z9_h3 := Lib.hid z9_r3
        have z9_h4 := Lib.hid z9_r4
        have z9_h5 := Lib.hid z9_r5
        have z9_h6 := Lib.hid z9_r6
        clear z9_r0 z9_r1 z9_r2 z9_r3 z9_r4 z9_r5 z9_r6
        obtain ⟨xC, rfl⟩ : ∃ y, y = x := ⟨_, rfl⟩
        go_wp2_with fail
        have z9_s0 := z9_h0.out
        have z9_s1 := z9_h1.out
        have z9_s2 := z9_h2.out
        have z9_s3 := z9_h3.out
        have z9_s4 := z9_h4.out
        have z9_s5 := z9_h5.out
        have z9_s6 := z9_h6.out
        refine wp_letter (fun W => Below w.heap.size w W ∧ W.heap[w1.heap.size]? = some (.cells #[.string c.a, .string c.i, .int .i64 c.s, .int .i64 c.o, .int .i64 c.l, .int .i64 c.t, .int .i64 c.k, .int .i64 c.n, .bool false] 28 (0, 0)) ∧ W.heap[w2.heap.size]? = some (.cells #[.string c.a, .string c.i, .int .i64 c.s, .int .i64 0, .int .i64 c.l, .int .i64 c.t, .int .i64 c.k, .int .i64 c.n, .bool false, .int .i64 N] 30 (0, 0)) ∧ W.heap[bnA]? = some (.cells #[.string c.a, .string c.i, .int .i64 c.s, .int .i64 O, .int .i64 c.l, .int .i64 tA, .int .i64 kA, .int .i64 nA, .bool false, .int .i64 N] 30 (0, 0)) ∧ W.heap[w5.heap.size]? = some (.cells #[.string c.a, .string c.i, .int .i64 c.s, .int .i64 O, .int .i64 c.l, .int .i64 c.t, .int .i64 c.k, .int .i64 c.n, .bool false, .int .i64 (N + 5)] 30 (0, 0)) ∧ W.heap[bnB]? = some (.cells #[.string c.a, .string c.i, .int .i64 c.s, .int .i64 O, .int .i64 c.l, .int .i64 tB, .int .i64 kB, .int .i64 nB, .bool true, .int .i64 (N + 7)] 30 (0, 0)) ∧ W.heap[w7.heap.size]? = some (.cells #[.string ⟨#[]⟩, .string ⟨#[]⟩, .int .i64 0, .int .i64 0, .int .i64 0, .int .i64 0, .int .i64 0, .int .i64 0, .bool false, .int .i64 0] 30 (0, 0)) ∧ W.heap[bnC]? = some (.cells #[.string ⟨#[]⟩, .string ⟨#[]⟩, .int .i64 0, .int .i64 0, .int .i64 0, .int .i64 0, .int .i64 0, .int .i64 0, .bool false, .int .i64 0] 30 (0, 0)) ∧ TapeK a0 len cap W tb ∧ RowOk a0 len cap zs W tb) ⟨by go_grown, by repeat (first | (with_reducible assumption) | (with_reducible refine blk_new_at ?_ _ _; first | (with_reducible rfl) | (simp; done)) | (with_reducible refine blk_alloc ?_ _) | (with_reducible refine blk_drew ?_) | (with_reducible apply blk_set) | (show Array.setIfInBounds _ _ _ = _; first | (simp; done) | (simp; rfl)) | (with_reducible refine blk_set_other ?_ ?_; omega)), by repeat (first | (with_reducible assumption) | (with_reducible refine blk_new_at ?_ _ _; first | (with_reducible rfl) | (simp; done)) | (with_reducible refine blk_alloc ?_ _) | (with_reducible refine blk_drew ?_) | (with_reducible apply blk_set) | (show Array.setIfInBounds _ _ _ = _; first | (simp; done) | (simp; rfl)) | (with_reducible refine blk_set_other ?_ ?_; omega)), by repeat (first | (with_reducible assumption) | (with_reducible refine blk_new_at ?_ _ _; first | (with_reducible rfl) | (simp; done)) | (with_reducible refine blk_alloc ?_ _) | (with_reducible refine blk_drew ?_) | (with_reducible apply blk_set) | (show Array.setIfInBounds _ _ _ = _; first | (simp; done) | (simp; rfl)) | (with_reducible refine blk_set_other ?_ ?_; omega)), by repeat (first | (with_reducible assumption) | (with_reducible refine blk_new_at ?_ _ _; first | (with_reducible rfl) | (simp; done)) | (with_reducible refine blk_alloc ?_ _) | (with_reducible refine blk_drew ?_) | (with_reducible apply blk_set) | (show Array.setIfInBounds _ _ _ = _; first | (simp; done) | (simp; rfl)) | (with_reducible refine blk_set_other ?_ ?_; omega)), by repeat (first | (with_reducible assumption) | (with_reducible refine blk_new_at ?_ _ _; first | (with_reducible rfl) | (simp; done)) | (with_reducible refine blk_alloc ?_ _) | (with_reducible refine blk_drew ?_) | (with_reducible apply blk_set) | (show Array.setIfInBounds _ _ _ = _; first | (simp; done) | (simp; rfl)) | (with_reducible refine blk_set_other ?_ ?_; omega)), by repeat (first | (with_reducible assumption) | (with_reducible refine blk_new_at ?_ _ _; first | (with_reducible rfl) | (simp; done)) | (with_reducible refine blk_alloc ?_ _) | (with_reducible refine blk_drew ?_) | (with_reducible apply blk_set) | (show Array.setIfInBounds _ _ _ = _; first | (simp; done) | (simp; rfl)) | (with_reducible refine blk_set_other ?_ ?_; omega)), by repeat (first | (with_reducible assumption) | (with_reducible refine blk_new_at ?_ _ _; first | (with_reducible rfl) | (simp; done)) | (with_reducible refine blk_alloc ?_ _) | (with_reducible refine blk_drew ?_) | (with_reducible apply blk_set) | (show Array.setIfInBounds _ _ _ = _; first | (simp; done) | (simp; rfl)) | (with_reducible refine blk_set_other ?_ ?_; omega)), TapeK.ext (z9_htk) (by go_grown), RowOk.bar (z9_hrow) (Bar.of (by go_grown))⟩ ?_
        rintro w9 ⟨hBl, hl0, hl1, hl2, hl3, hl4, hl5, hl6, hxhtk, hxhrow⟩
        have z10_r0 : w9.heap[w1.heap.size]? = some (.cells #[.string c.a, .string c.i, .int .i64 c.s, .int .i64 c.o, .int .i64 c.l, .int .i64 c.t, .int .i64 c.k, .int .i64 c.n, .bool false] 28 (0, 0)) := hl0
        have z10_r1 : w9.heap[w2.heap.size]? = some (.cells #[.string c.a, .string c.i, .int .i64 c.s, .int .i64 0, .int .i64 c.l, .int .i64 c.t, .int .i64 c.k, .int .i64 c.n, .bool false, .int .i64 N] 30 (0, 0)) := hl1
        have z10_r2 : w9.heap[bnA]? = some (.cells #[.string c.a, .string c.i, .int .i64 c.s, .int .i64 O, .int .i64 c.l, .int .i64 tA, .int .i64 kA, .int .i64 nA, .bool false, .int .i64 N] 30 (0, 0)) := hl2
        have z10_r3 : w9.heap[w5.heap.size]? = some (.cells #[.string c.a, .string c.i, .int .i64 c.s, .int .i64 O, .int .i64 c.l, .int .i64 c.t, .int .i64 c.k, .int .i64 c.n, .bool false, .int .i64 (N + 5)] 30 (0, 0)) := hl3
        have z10_r4 : w9.heap[bnB]? = some (.cells #[.string c.a, .string c.i, .int .i64 c.s, .int .i64 O, .int .i64 c.l, .int .i64 tB, .int .i64 kB, .int .i64 nB, .bool true, .int .i64 (N + 7)] 30 (0, 0)) := hl4
        have z10_r5 : w9.heap[w7.heap.size]? = some (.cells #[.string ⟨#[]⟩, .string ⟨#[]⟩, .int .i64 0, .int .i64 0, .int .i64 0, .int .i64 0, .int .i64 0, .int .i64 0, .bool false, .int .i64 0] 30 (0, 0)) := hl5
        have z10_r6 : w9.heap[bnC]? = some (.cells #[.string ⟨#[]⟩, .string ⟨#[]⟩, .int .i64 0, .int .i64 0, .int .i64 0, .int .i64 0, .int .i64 0, .int .i64 0, .bool false, .int .i64 0] 30 (0, 0)) := hl6
        have z10_htk : TapeK a0 len cap w9 tb := hxhtk
        have z10_hrow : RowOk a0 len cap zs w9 tb := hxhrow
        have z10_B : Below w.heap.size w w9 := hBl
        have z10_z := z10_B.size
        clear z9_htk z9_hrow z9_B z9_z z9_c0 z9_l0 z9_k0_0 z9_k0_1 z9_c1 z9_l1 z9_k1_0 z9_k1_1 z9_c2 z9_l2 z9_k2_0 z9_k2_1 z9_c3 z9_l3 z9_k3_0 z9_k3_1 z9_c4 z9_l4 z9_k4_0 z9_k4_1 z9_c5 z9_l5 z9_k5_0 z9_k5_1 z9_c6 z9_l6 z9_k6_0 z9_k6_1 z9_h0 z9_h1 z9_h2 z9_h3 z9_h4 z9_h5 z9_h6 z9_s0 z9_s1 z9_s2 z9_s3 z9_s4 z9_s5 z9_s6 hBl hl0 hl1 hl2 hl3 hl4 hl5 hl6 hxhtk hxhrow
        have z10_c0 := blk_cell z10_r0
        have z10_l0 := blk_lt z10_r0
        have z10_k0_0 : w1.heap.size ≤ w9.heap.size := by omega
        have z10_k0_1 : w1.heap.size ≤ w9.heap.size + 1 := by omega
        have z10_c1 := blk_cell z10_r1
        have z10_l1 := blk_lt z10_r1
        have z10_k1_0 : w2.heap.size ≤ w9.heap.size := by omega
        have z10_k1_1 : w2.heap.size ≤ w9.heap.size + 1 := by omega
        have z10_c2 := blk_cell z10_r2
        have z10_l2 := blk_lt z10_r2
        have z10_k2_0 : bnA ≤ w9.heap.size := by omega
        have z10_k2_1 : bnA ≤ w9.heap.size + 1 := by omega
        have z10_c3 := blk_cell z10_r3
        have z10_l3 := blk_lt z10_r3
        have z10_k3_0 : w5.heap.size ≤ w9.heap.size := by omega
        have z10_k3_1 : w5.heap.size ≤ w9.heap.size + 1 := by omega
        have z10_c4 := blk_cell z10_r4
        have z10_l4 := blk_lt z10_r4
        have z10_k4_0 : bnB ≤ w9.heap.size := by omega
        have z10_k4_1 : bnB ≤ w9.heap.size + 1 := by omega
        have z10_c5 := blk_cell z10_r5
        have z10_l5 := blk_lt z10_r5
        have z10_k5_0 : w7.heap.size ≤ w9.heap.size := by omega
        have z10_k5_1 : w7.heap.size ≤ w9.heap.size + 1 := by omega
        have z10_c6 := blk_cell z10_r6
        have z10_l6 := blk_lt z10_r6
        have z10_k6_0 : bnC ≤ w9.heap.size := by omega
        have z10_k6_1 : bnC ≤ w9.heap.size + 1 := by omega
        have z10_h0 := Lib.hid z10_r0
        have z10_h1 := Lib.hid z10_r1
        have z10_h2 := Lib.hid z10_r2
        have z10_h3 := Lib.hid z10_r3
        have z10_h4 := Lib.hid z10_r4
        have z10_h5 := Lib.hid z10_r5
        have z10_h6 := Lib.hid z10_r6
        clear z10_r0 z10_r1 z10_r2 z10_r3 z10_r4 z10_r5 z10_r6
        have hrowW := z10_hrow
        refine wp_region_inv_eq (J := fun A d a x => ∃ u73 u74 u75 u76 u77 u78 u72 u79 u80 u20 u21 : Value, a = (((((((((((A.put (some 73) u73).put (some 74) u74).put (some 75) u75).put (some 76) u76).put (some 77) u77).put (some 78) u78).put (some 72) u72).put (some 79) u79).put (some 80) u80).put (some 20) u20).put (some 21) u21) ∧ (d 0 = true → u73 = .agg #[.string c.a, .string c.i, .int .i64 c.s, .int .i64 O, .int .i64 c.l, .int .i64 tB, .int .i64 kB, .int .i64 nB, .bool true, .int .i64 (N + 7)]) ∧ (d 1 = true → u74 = .pointer (some ⟨tb, 0, none⟩)) ∧ (d 2 = true → ∃ t k n : Int, u75 = stv t k n) ∧ (d 3 = true → u76 = .int .i64 N) ∧ (d 4 = true → u77 = .int .i64 (N + 9)) ∧ (d 5 = true → ∃ t k n : Int, u78 = .tuple #[.agg #[.string ⟨#[]⟩, .string ⟨#[]⟩, .int .i64 0, .int .i64 0, .int .i64 0, .int .i64 0, .int .i64 0, .int .i64 0, .bool false, .int .i64 0], .bool false]) ∧ (d 6 = true → ∃ t k n : Int, u72 = .tuple #[.agg #[.string ⟨#[]⟩, .string ⟨#[]⟩, .int .i64 0, .int .i64 0, .int .i64 0, .int .i64 0, .int .i64 0, .int .i64 0, .bool false, .int .i64 0], .bool false]) ∧ (d 7 = true → ∃ t k n : Int, u79 = .agg #[.string ⟨#[]⟩, .string ⟨#[]⟩, .int .i64 0, .int .i64 0, .int .i64 0, .int .i64 0, .int .i64 0, .int .i64 0, .bool false, .int .i64 0]) ∧ (d 8 = true → u80 = .bool false) ∧ (d 9 = true → ∃ b : Nat, u20 = .pointer (some ⟨b, 0, none⟩) ∧ w9.heap.size ≤ b ∧ b ≠ tb ∧ ∃ y0 y1 y2 y3 y4 y5 y6 y7 y8 y9 : Value, x.heap[b]? = some (.cells #[y0, y1, y2, y3, y4, y5, y6, y7, y8, y9] 30 (0, 0))) ∧ (d 10 = true → ∃ (b : Nat) (t k n : Int), d 9 = true ∧ u20 = .pointer (some ⟨b, 0, none⟩) ∧ w9.heap.size ≤ b ∧ b ≠ tb ∧ x.heap[b]? = some (.cells #[.string ⟨#[]⟩, .string ⟨#[]⟩, .int .i64 0, .int .i64 0, .int .i64 0, .int .i64 0, .int .i64 0, .int .i64 0, .bool false, .int .i64 0] 30 (0, 0))) ∧ (d 11 = true → u21 = .bool false) ∧ TapeK a0 len cap x tb ∧ Bar tb w9 x) (by simp only [Act.put, List.setIfInBounds_toArray, List.set_cons_succ, List.set_cons_zero]; rfl) (by kernel_rfl) (by kernel_rfl) ?_ ?_ ?_
        · refine ⟨_, _, _, _, _, _, _, _, _, _, _, rfl, ?_, ?_, ?_, ?_, ?_, ?_, ?_, ?_, ?_, ?_, ?_, ?_, ?_, ?_⟩
          · intro h; cases h
          · intro h; cases h
          · intro h; cases h
          · intro h; cases h
          · intro h; cases h
          · intro h; cases h
          · intro h; cases h
          · intro h; cases h
          · intro h; cases h
          · intro h; cases h
          · intro h; cases h
          · intro h; cases h
          · exact z10_htk.ext ((Below.refl _ _).drew)
          · exact Bar.of ((Below.refl _ _).drew)
        · simp only [StepsOk, StepOk]
          refine ⟨?_, ?_, ?_, ?_, ?_, ?_, ?_, ?_, ?_, ?_, ?_, ?_, trivial⟩
          · rintro d a x ⟨u73, u74, u75, u76, u77, u78, u72, u79, u80, u20, u21, rfl, f0, f1, f2, f3, f4, f5, f6, f7, f8, f9, f10, f11, g0, g1⟩ hd hdep K hK
            have hx := blk_cell (g1.blk (by omega) z10_h4.out)
            rw [if_pos (by rfl)]
            go_big_op
            refine hK _ _ ⟨_, _, _, _, _, _, _, _, _, _, _, rfl, ?_, ?_, ?_, ?_, ?_, ?_, ?_, ?_, ?_, ?_, ?_, ?_, ?_, ?_⟩
            · exact (fun _ => rfl)
            · exact (fun h => f1 (by simpa using h))
            · exact (fun h => f2 (by simpa using h))
            · exact (fun h => f3 (by simpa using h))
            · exact (fun h => f4 (by simpa using h))
            · exact (fun h => f5 (by simpa using h))
            · exact (fun h => f6 (by simpa using h))
            · exact (fun h => f7 (by simpa using h))
            · exact (fun h => f8 (by simpa using h))
            · exact (fun h => f9 (by simpa using h))
            · exact (fun h => by have f := f10 (by simpa using h); (obtain ⟨b, t, k, n, e0, e, e1, e2, e3⟩ := f; exact ⟨b, t, k, n, by simp [e0], e, e1, e2, e3⟩))
            · exact (fun h => f11 (by simpa using h))
            · exact g0
            · exact g1
          · rintro d a x ⟨u73, u74, u75, u76, u77, u78, u72, u79, u80, u20, u21, rfl, f0, f1, f2, f3, f4, f5, f6, f7, f8, f9, f10, f11, g0, g1⟩ hd hdep K hK
            rw [if_pos (by rfl)]
            go_big_op
            refine hK _ _ ⟨_, _, _, _, _, _, _, _, _, _, _, rfl, ?_, ?_, ?_, ?_, ?_, ?_, ?_, ?_, ?_, ?_, ?_, ?_, ?_, ?_⟩
            · exact (fun h => f0 (by simpa using h))
            · exact (fun _ => rfl)
            · exact (fun h => f2 (by simpa using h))
            · exact (fun h => f3 (by simpa using h))
            · exact (fun h => f4 (by simpa using h))
            · exact (fun h => f5 (by simpa using h))
            · exact (fun h => f6 (by simpa using h))
            · exact (fun h => f7 (by simpa using h))
            · exact (fun h => f8 (by simpa using h))
            · exact (fun h => f9 (by simpa using h))
            · exact (fun h => by have f := f10 (by simpa using h); (obtain ⟨b, t, k, n, e0, e, e1, e2, e3⟩ := f; exact ⟨b, t, k, n, by simp [e0], e, e1, e2, e3⟩))
            · exact (fun h => f11 (by simpa using h))
            · exact g0
            · exact g1
          · rintro d a x ⟨u73, u74, u75, u76, u77, u78, u72, u79, u80, u20, u21, rfl, f0, f1, f2, f3, f4, f5, f6, f7, f8, f9, f10, f11, g0, g1⟩ hd hdep K hK
            have hd1 : d 1 = true := hdep ⟨1, .data⟩ (by simp) rfl
            obtain rfl := f1 hd1
            rw [if_pos (by rfl)]
            go_big_op
            refine (tapeStampK _ _ _ zs _ _ g0 (hrowW.bar g1)).mono ?_
            rintro e x1 ⟨t, k, n, rfl, -, -, -, -, -, -, hT1, hbar⟩
            refine hK _ _ ⟨_, _, _, _, _, _, _, _, _, _, _, rfl, ?_, ?_, ?_, ?_, ?_, ?_, ?_, ?_, ?_, ?_, ?_, ?_, ?_, ?_⟩
            · exact (fun h => f0 (by simpa using h))
            · exact (fun h => f1 (by simpa using h))
            · exact (fun _ => ⟨t, k, n, rfl⟩)
            · exact (fun h => f3 (by simpa using h))
            · exact (fun h => f4 (by simpa using h))
            · exact (fun h => f5 (by simpa using h))
            · exact (fun h => f6 (by simpa using h))
            · exact (fun h => f7 (by simpa using h))
            · exact (fun h => f8 (by simpa using h))
            · exact (fun h => by have f := f9 (by simpa using h); (obtain ⟨b, e, e1, e2, y0, y1, y2, y3, y4, y5, y6, y7, y8, y9, e3⟩ := f; exact ⟨b, e, e1, e2, y0, y1, y2, y3, y4, y5, y6, y7, y8, y9, hbar.blk e2 e3⟩))
            · exact (fun h => by have f := f10 (by simpa using h); (obtain ⟨b, t, k, n, e0, e, e1, e2, e3⟩ := f; exact ⟨b, t, k, n, by simp [e0], e, e1, e2, hbar.blk e2 e3⟩))
            · exact (fun h => f11 (by simpa using h))
            · exact hT1
            · exact (g1.trans hbar)
          · rintro d a x ⟨u73, u74, u75, u76, u77, u78, u72, u79, u80, u20, u21, rfl, f0, f1, f2, f3, f4, f5, f6, f7, f8, f9, f10, f11, g0, g1⟩ hd hdep K hK
            rw [if_pos (by rfl)]
            go_big_op
            refine hK _ _ ⟨_, _, _, _, _, _, _, _, _, _, _, rfl, ?_, ?_, ?_, ?_, ?_, ?_, ?_, ?_, ?_, ?_, ?_, ?_, ?_, ?_⟩
            · exact (fun h => f0 (by simpa using h))
            · exact (fun h => f1 (by simpa using h))
            · exact (fun h => f2 (by simpa using h))
            · exact (fun _ => rfl)
            · exact (fun h => f4 (by simpa using h))
            · exact (fun h => f5 (by simpa using h))
            · exact (fun h => f6 (by simpa using h))
            · exact (fun h => f7 (by simpa using h))
            · exact (fun h => f8 (by simpa using h))
            · exact (fun h => f9 (by simpa using h))
            · exact (fun h => by have f := f10 (by simpa using h); (obtain ⟨b, t, k, n, e0, e, e1, e2, e3⟩ := f; exact ⟨b, t, k, n, by simp [e0], e, e1, e2, e3⟩))
            · exact (fun h => f11 (by simpa using h))
            · exact g0
            · exact g1
          · rintro d a x ⟨u73, u74, u75, u76, u77, u78, u72, u79, u80, u20, u21, rfl, f0, f1, f2, f3, f4, f5, f6, f7, f8, f9, f10, f11, g0, g1⟩ hd hdep K hK
            have hd3 : d 3 = true := hdep ⟨3, .data⟩ (by simp) rfl
            obtain rfl := f3 hd3
            rw [if_pos (by rfl)]
            go_big_op
            refine hK _ _ ⟨_, _, _, _, _, _, _, _, _, _, _, rfl, ?_, ?_, ?_, ?_, ?_, ?_, ?_, ?_, ?_, ?_, ?_, ?_, ?_, ?_⟩
            · exact (fun h => f0 (by simpa using h))
            · exact (fun h => f1 (by simpa using h))
            · exact (fun h => f2 (by simpa using h))
            · exact (fun h => f3 (by simpa using h))
            · exact (fun _ => rfl)
            · exact (fun h => f5 (by simpa using h))
            · exact (fun h => f6 (by simpa using h))
            · exact (fun h => f7 (by simpa using h))
            · exact (fun h => f8 (by simpa using h))
            · exact (fun h => f9 (by simpa using h))
            · exact (fun h => by have f := f10 (by simpa using h); (obtain ⟨b, t, k, n, e0, e, e1, e2, e3⟩ := f; exact ⟨b, t, k, n, by simp [e0], e, e1, e2, e3⟩))
            · exact (fun h => f11 (by simpa using h))
            · exact g0
            · exact g1
          · rintro d a x ⟨u73, u74, u75, u76, u77, u78, u72, u79, u80, u20, u21, rfl, f0, f1, f2, f3, f4, f5, f6, f7, f8, f9, f10, f11, g0, g1⟩ hd hdep K hK
            have hd0 : d 0 = true := hdep ⟨0, .data⟩ (by simp) rfl
            have hd2 : d 2 = true := hdep ⟨2, .data⟩ (by simp) rfl
            have hd4 : d 4 = true := hdep ⟨4, .data⟩ (by simp) rfl
            have hd2 : d 2 = true := hdep ⟨2, .chain⟩ (by simp) rfl
            obtain rfl := f0 hd0
            obtain ⟨t4, k4, n4, rfl⟩ := f2 hd2
            obtain rfl := f4 hd4
            rw [if_pos (by rfl)]
            go_big_op
            refine (leaseCancel_no ⟨{ c with g := true, o := O, t := tB, k := kB, n := nB }, N + 7⟩ t4 k4 n4 (N + 9) _ rfl).mono ?_
            rintro e x1 ⟨rfl, hbl⟩
            refine hK _ _ ⟨_, _, _, _, _, _, _, _, _, _, _, rfl, ?_, ?_, ?_, ?_, ?_, ?_, ?_, ?_, ?_, ?_, ?_, ?_, ?_, ?_⟩
            · exact (fun h => f0 (by simpa using h))
            · exact (fun h => f1 (by simpa using h))
            · exact (fun h => f2 (by simpa using h))
            · exact (fun h => f3 (by simpa using h))
            · exact (fun h => f4 (by simpa using h))
            · exact (fun _ => ⟨t4, k4, n4, rfl⟩)
            · exact (fun h => f6 (by simpa using h))
            · exact (fun h => f7 (by simpa using h))
            · exact (fun h => f8 (by simpa using h))
            · exact (fun h => by have f := f9 (by simpa using h); (obtain ⟨b, e, e1, e2, y0, y1, y2, y3, y4, y5, y6, y7, y8, y9, e3⟩ := f; exact ⟨b, e, e1, e2, y0, y1, y2, y3, y4, y5, y6, y7, y8, y9, blk_ext hbl e3⟩))
            · exact (fun h => by have f := f10 (by simpa using h); (obtain ⟨b, t, k, n, e0, e, e1, e2, e3⟩ := f; exact ⟨b, t, k, n, by simp [e0], e, e1, e2, blk_ext hbl e3⟩))
            · exact (fun h => f11 (by simpa using h))
            · exact (g0.ext hbl)
            · exact (g1.trans (Bar.of hbl))
          · rintro d a x ⟨u73, u74, u75, u76, u77, u78, u72, u79, u80, u20, u21, rfl, f0, f1, f2, f3, f4, f5, f6, f7, f8, f9, f10, f11, g0, g1⟩ hd hdep K hK
            have hd5 : d 5 = true := hdep ⟨5, .data⟩ (by simp) rfl
            obtain ⟨t, k, n, rfl⟩ := f5 hd5
            rw [if_pos (by rfl)]
            go_big_op
            refine hK _ _ ⟨_, _, _, _, _, _, _, _, _, _, _, rfl, ?_, ?_, ?_, ?_, ?_, ?_, ?_, ?_, ?_, ?_, ?_, ?_, ?_, ?_⟩
            · exact (fun h => f0 (by simpa using h))
            · exact (fun h => f1 (by simpa using h))
            · exact (fun h => f2 (by simpa using h))
            · exact (fun h => f3 (by simpa using h))
            · exact (fun h => f4 (by simpa using h))
            · exact (fun h => f5 (by simpa using h))
            · exact (fun _ => ⟨t, k, n, rfl⟩)
            · exact (fun h => f7 (by simpa using h))
            · exact (fun h => f8 (by simpa using h))
            · exact (fun h => f9 (by simpa using h))
            · exact (fun h => by have f := f10 (by simpa using h); (obtain ⟨b, t, k, n, e0, e, e1, e2, e3⟩ := f; exact ⟨b, t, k, n, by simp [e0], e, e1, e2, e3⟩))
            · exact (fun h => f11 (by simpa using h))
            · exact g0
            · exact g1
          · rintro d a x ⟨u73, u74, u75, u76, u77, u78, u72, u79, u80, u20, u21, rfl, f0, f1, f2, f3, f4, f5, f6, f7, f8, f9, f10, f11, g0, g1⟩ hd hdep K hK
            have hd6 : d 6 = true := hdep ⟨6, .data⟩ (by simp) rfl
            obtain ⟨t, k, n, rfl⟩ := f6 hd6
            rw [if_pos (by rfl)]
            go_big_op
            refine hK _ _ ⟨_, _, _, _, _, _, _, _, _, _, _, rfl, ?_, ?_, ?_, ?_, ?_, ?_, ?_, ?_, ?_, ?_, ?_, ?_, ?_, ?_⟩
            · exact (fun h => f0 (by simpa using h))
            · exact (fun h => f1 (by simpa using h))
            · exact (fun h => f2 (by simpa using h))
            · exact (fun h => f3 (by simpa using h))
            · exact (fun h => f4 (by simpa using h))
            · exact (fun h => f5 (by simpa using h))
            · exact (fun h => f6 (by simpa using h))
            · exact (fun _ => ⟨t, k, n, rfl⟩)
            · exact (fun h => f8 (by simpa using h))
            · exact (fun h => f9 (by simpa using h))
            · exact (fun h => by have f := f10 (by simpa using h); (obtain ⟨b, t, k, n, e0, e, e1, e2, e3⟩ := f; exact ⟨b, t, k, n, by simp [e0], e, e1, e2, e3⟩))
            · exact (fun h => f11 (by simpa using h))
            · exact g0
            · exact g1
          · rintro d a x ⟨u73, u74, u75, u76, u77, u78, u72, u79, u80, u20, u21, rfl, f0, f1, f2, f3, f4, f5, f6, f7, f8, f9, f10, f11, g0, g1⟩ hd hdep K hK
            have hd6 : d 6 = true := hdep ⟨6, .data⟩ (by simp) rfl
            obtain ⟨t, k, n, rfl⟩ := f6 hd6
            rw [if_pos (by rfl)]
            go_big_op
            refine hK _ _ ⟨_, _, _, _, _, _, _, _, _, _, _, rfl, ?_, ?_, ?_, ?_, ?_, ?_, ?_, ?_, ?_, ?_, ?_, ?_, ?_, ?_⟩
            · exact (fun h => f0 (by simpa using h))
            · exact (fun h => f1 (by simpa using h))
            · exact (fun h => f2 (by simpa using h))
            · exact (fun h => f3 (by simpa using h))
            · exact (fun h => f4 (by simpa using h))
            · exact (fun h => f5 (by simpa using h))
            · exact (fun h => f6 (by simpa using h))
            · exact (fun h => f7 (by simpa using h))
            · exact (fun _ => rfl)
            · exact (fun h => f9 (by simpa using h))
            · exact (fun h => by have f := f10 (by simpa using h); (obtain ⟨b, t, k, n, e0, e, e1, e2, e3⟩ := f; exact ⟨b, t, k, n, by simp [e0], e, e1, e2, e3⟩))
            · exact (fun h => f11 (by simpa using h))
            · exact g0
            · exact g1
          · rintro d a x ⟨u73, u74, u75, u76, u77, u78, u72, u79, u80, u20, u21, rfl, f0, f1, f2, f3, f4, f5, f6, f7, f8, f9, f10, f11, g0, g1⟩ hd hdep K hK
            rw [if_pos (by rfl)]
            go_big_op
            refine hK _ _ ⟨_, _, _, _, _, _, _, _, _, _, _, rfl, ?_, ?_, ?_, ?_, ?_, ?_, ?_, ?_, ?_, ?_, ?_, ?_, ?_, ?_⟩
            · exact (fun h => f0 (by simpa using h))
            · exact (fun h => f1 (by simpa using h))
            · exact (fun h => f2 (by simpa using h))
            · exact (fun h => f3 (by simpa using h))
            · exact (fun h => f4 (by simpa using h))
            · exact (fun h => f5 (by simpa using h))
            · exact (fun h => f6 (by simpa using h))
            · exact (fun h => f7 (by simpa using h))
            · exact (fun h => f8 (by simpa using h))
            · exact (fun _ => ⟨_, rfl, by have := g1.size; omega, by have := g0.lt; omega, _, _, _, _, _, _, _, _, _, _, blk_new _ _ _⟩)
            · exact (fun h => by obtain ⟨b, t, k, n, e0, -⟩ := f10 (by simpa using h); rw [hd] at e0; cases e0)
            · exact (fun h => f11 (by simpa using h))
            · exact (g0.ext ((Below.refl _ _).alloc (Nat.le_refl _) _))
            · exact (g1.trans (Bar.of ((Below.refl _ _).alloc (Nat.le_refl _) _)))
          · rintro d a x ⟨u73, u74, u75, u76, u77, u78, u72, u79, u80, u20, u21, rfl, f0, f1, f2, f3, f4, f5, f6, f7, f8, f9, f10, f11, g0, g1⟩ hd hdep K hK
            have hd9 : d 9 = true := hdep ⟨9, .data⟩ (by simp) rfl
            have hd7 : d 7 = true := hdep ⟨7, .data⟩ (by simp) rfl
            have hd7 : d 7 = true := hdep ⟨7, .phase⟩ (by simp) rfl
            have hd9 : d 9 = true := hdep ⟨9, .phase⟩ (by simp) rfl
            obtain ⟨bn, rfl, bn1, bn2, y0, y1, y2, y3, y4, y5, y6, y7, y8, y9, hbn⟩ := f9 hd9
            obtain ⟨t, k, n, rfl⟩ := f7 hd7
            have hbc := blk_cell hbn
            have hbf := blk_free hbn
            have hbl2 := blk_lt hbn
            rw [if_pos (by rfl)]
            go_big_op
            have hkp : Kept bn x ((((((((((x.setCell ⟨bn, 0, none⟩ (.string ⟨#[]⟩)).setCell ⟨bn, 1, none⟩ (.string ⟨#[]⟩)).setCell ⟨bn, 2, none⟩ (.int .i64 0)).setCell ⟨bn, 3, none⟩ (.int .i64 0)).setCell ⟨bn, 4, none⟩ (.int .i64 0)).setCell ⟨bn, 5, none⟩ (.int .i64 0)).setCell ⟨bn, 6, none⟩ (.int .i64 0)).setCell ⟨bn, 7, none⟩ (.int .i64 0)).setCell ⟨bn, 8, none⟩ (.bool false)).setCell ⟨bn, 9, none⟩ (.int .i64 0)) := (((((((((((Kept.refl bn x).setCell _ _).setCell _ _).setCell _ _).setCell _ _).setCell _ _).setCell _ _).setCell _ _).setCell _ _).setCell _ _).setCell _ _)
            have RB : ((((((((((x.setCell ⟨bn, 0, none⟩ (.string ⟨#[]⟩)).setCell ⟨bn, 1, none⟩ (.string ⟨#[]⟩)).setCell ⟨bn, 2, none⟩ (.int .i64 0)).setCell ⟨bn, 3, none⟩ (.int .i64 0)).setCell ⟨bn, 4, none⟩ (.int .i64 0)).setCell ⟨bn, 5, none⟩ (.int .i64 0)).setCell ⟨bn, 6, none⟩ (.int .i64 0)).setCell ⟨bn, 7, none⟩ (.int .i64 0)).setCell ⟨bn, 8, none⟩ (.bool false)).setCell ⟨bn, 9, none⟩ (.int .i64 0)).heap[bn]? = some (.cells #[.string ⟨#[]⟩, .string ⟨#[]⟩, .int .i64 0, .int .i64 0, .int .i64 0, .int .i64 0, .int .i64 0, .int .i64 0, .bool false, .int .i64 0] 30 (0, 0)) := by repeat (first | (with_reducible assumption) | (with_reducible refine blk_new_at ?_ _ _; first | (with_reducible rfl) | (simp; done)) | (with_reducible refine blk_alloc ?_ _) | (with_reducible refine blk_drew ?_) | (with_reducible apply blk_set) | (show Array.setIfInBounds _ _ _ = _; first | (simp; done) | (simp; rfl)) | (with_reducible refine blk_set_other ?_ ?_; omega))
            have hTn : TapeK a0 len cap ((((((((((x.setCell ⟨bn, 0, none⟩ (.string ⟨#[]⟩)).setCell ⟨bn, 1, none⟩ (.string ⟨#[]⟩)).setCell ⟨bn, 2, none⟩ (.int .i64 0)).setCell ⟨bn, 3, none⟩ (.int .i64 0)).setCell ⟨bn, 4, none⟩ (.int .i64 0)).setCell ⟨bn, 5, none⟩ (.int .i64 0)).setCell ⟨bn, 6, none⟩ (.int .i64 0)).setCell ⟨bn, 7, none⟩ (.int .i64 0)).setCell ⟨bn, 8, none⟩ (.bool false)).setCell ⟨bn, 9, none⟩ (.int .i64 0)) tb := by
              obtain ⟨q, e1, e2⟩ := g0
              exact ⟨q, (hkp.block tb (Ne.symm bn2)).trans e1, e2⟩
            have hbn2 : Bar tb w9 ((((((((((x.setCell ⟨bn, 0, none⟩ (.string ⟨#[]⟩)).setCell ⟨bn, 1, none⟩ (.string ⟨#[]⟩)).setCell ⟨bn, 2, none⟩ (.int .i64 0)).setCell ⟨bn, 3, none⟩ (.int .i64 0)).setCell ⟨bn, 4, none⟩ (.int .i64 0)).setCell ⟨bn, 5, none⟩ (.int .i64 0)).setCell ⟨bn, 6, none⟩ (.int .i64 0)).setCell ⟨bn, 7, none⟩ (.int .i64 0)).setCell ⟨bn, 8, none⟩ (.bool false)).setCell ⟨bn, 9, none⟩ (.int .i64 0)) := ⟨hkp.os.trans g1.os, hkp.tape.trans g1.tape, hkp.output.trans g1.output, Nat.le_trans g1.size (Nat.le_of_eq hkp.size.symm), fun k hk hl => (hkp.block k (by omega)).trans (g1.block k hk hl)⟩
            generalize ((((((((((x.setCell ⟨bn, 0, none⟩ (.string ⟨#[]⟩)).setCell ⟨bn, 1, none⟩ (.string ⟨#[]⟩)).setCell ⟨bn, 2, none⟩ (.int .i64 0)).setCell ⟨bn, 3, none⟩ (.int .i64 0)).setCell ⟨bn, 4, none⟩ (.int .i64 0)).setCell ⟨bn, 5, none⟩ (.int .i64 0)).setCell ⟨bn, 6, none⟩ (.int .i64 0)).setCell ⟨bn, 7, none⟩ (.int .i64 0)).setCell ⟨bn, 8, none⟩ (.bool false)).setCell ⟨bn, 9, none⟩ (.int .i64 0)) = X at *
            refine hK _ _ ⟨_, _, _, _, _, _, _, _, _, _, _, rfl, ?_, ?_, ?_, ?_, ?_, ?_, ?_, ?_, ?_, ?_, ?_, ?_, ?_, ?_⟩
            · exact (fun h => f0 (by simpa using h))
            · exact (fun h => f1 (by simpa using h))
            · exact (fun h => f2 (by simpa using h))
            · exact (fun h => f3 (by simpa using h))
            · exact (fun h => f4 (by simpa using h))
            · exact (fun h => f5 (by simpa using h))
            · exact (fun h => f6 (by simpa using h))
            · exact (fun h => f7 (by simpa using h))
            · exact (fun h => f8 (by simpa using h))
            · exact (fun _ => ⟨bn, rfl, bn1, bn2, _, _, _, _, _, _, _, _, _, _, RB⟩)
            · exact (fun _ => ⟨bn, t, k, n, by simp [hd9], rfl, bn1, bn2, RB⟩)
            · exact (fun h => f11 (by simpa using h))
            · exact hTn
            · exact hbn2
          · rintro d a x ⟨u73, u74, u75, u76, u77, u78, u72, u79, u80, u20, u21, rfl, f0, f1, f2, f3, f4, f5, f6, f7, f8, f9, f10, f11, g0, g1⟩ hd hdep K hK
            have hd8 : d 8 = true := hdep ⟨8, .data⟩ (by simp) rfl
            have hd8 : d 8 = true := hdep ⟨8, .phase⟩ (by simp) rfl
            obtain rfl := f8 hd8
            rw [if_pos (by rfl)]
            go_big_op
            refine hK _ _ ⟨_, _, _, _, _, _, _, _, _, _, _, rfl, ?_, ?_, ?_, ?_, ?_, ?_, ?_, ?_, ?_, ?_, ?_, ?_, ?_, ?_⟩
            · exact (fun h => f0 (by simpa using h))
            · exact (fun h => f1 (by simpa using h))
            · exact (fun h => f2 (by simpa using h))
            · exact (fun h => f3 (by simpa using h))
            · exact (fun h => f4 (by simpa using h))
            · exact (fun h => f5 (by simpa using h))
            · exact (fun h => f6 (by simpa using h))
            · exact (fun h => f7 (by simpa using h))
            · exact (fun h => f8 (by simpa using h))
            · exact (fun h => f9 (by simpa using h))
            · exact (fun h => by have f := f10 (by simpa using h); (obtain ⟨b, t, k, n, e0, e, e1, e2, e3⟩ := f; exact ⟨b, t, k, n, by simp [e0], e, e1, e2, e3⟩))
            · exact (fun _ => rfl)
            · exact g0
            · exact g1
        · rintro d a x ⟨u73, u74, u75, u76, u77, u78, u72, u79, u80, u20, u21, rfl, f0, f1, f2, f3, f4, f5, f6, f7, f8, f9, f10, f11, g0, g1⟩ hall
          obtain ⟨bnD, tD, kD, nD, -, rfl, bqD, bpD, hbn⟩ := f10 (hall 10 (by decide))
          obtain rfl := f11 (hall 11 (by decide))
          clear f0 f1 f2 f3 f4 f5 f6 f7 f8 f9 f10 f11 hall
          have hrowx := hrowW.bar g1
          have z11_r0 : x.heap[w1.heap.size]? = some (.cells #[.string c.a, .string c.i, .int .i64 c.s, .int .i64 c.o, .int .i64 c.l, .int .i64 c.t, .int .i64 c.k, .int .i64 c.n, .bool false] 28 (0, 0)) := g1.blk (by omega) z10_h0.out
          have z11_r1 : x.heap[w2.heap.size]? = some (.cells #[.string c.a, .string c.i, .int .i64 c.s, .int .i64 0, .int .i64 c.l, .int .i64 c.t, .int .i64 c.k, .int .i64 c.n, .bool false, .int .i64 N] 30 (0, 0)) := g1.blk (by omega) z10_h1.out
          have z11_r2 : x.heap[bnA]? = some (.cells #[.string c.a, .string c.i, .int .i64 c.s, .int .i64 O, .int .i64 c.l, .int .i64 tA, .int .i64 kA, .int .i64 nA, .bool false, .int .i64 N] 30 (0, 0)) := g1.blk (by omega) z10_h2.out
          have z11_r3 : x.heap[w5.heap.size]? = some (.cells #[.string c.a, .string c.i, .int .i64 c.s, .int .i64 O, .int .i64 c.l, .int .i64 c.t, .int .i64 c.k, .int .i64 c.n, .bool false, .int .i64 (N + 5)] 30 (0, 0)) := g1.blk (by omega) z10_h3.out
          have z11_r4 : x.heap[bnB]? = some (.cells #[.string c.a, .string c.i, .int .i64 c.s, .int .i64 O, .int .i64 c.l, .int .i64 tB, .int .i64 kB, .int .i64 nB, .bool true, .int .i64 (N + 7)] 30 (0, 0)) := g1.blk (by omega) z10_h4.out
          have z11_r5 : x.heap[w7.heap.size]? = some (.cells #[.string ⟨#[]⟩, .string ⟨#[]⟩, .int .i64 0, .int .i64 0, .int .i64 0, .int .i64 0, .int .i64 0, .int .i64 0, .bool false, .int .i64 0] 30 (0, 0)) := g1.blk (by omega) z10_h5.out
          have z11_r6 : x.heap[bnC]? = some (.cells #[.string ⟨#[]⟩, .string ⟨#[]⟩, .int .i64 0, .int .i64 0, .int .i64 0, .int .i64 0, .int .i64 0, .int .i64 0, .bool false, .int .i64 0] 30 (0, 0)) := g1.blk (by omega) z10_h6.out
          have z11_r7 : x.heap[bnD]? = some (.cells #[.string ⟨#[]⟩, .string ⟨#[]⟩, .int .i64 0, .int .i64 0, .int .i64 0, .int .i64 0, .int .i64 0, .int .i64 0, .bool false, .int .i64 0] 30 (0, 0)) := hbn
          have z11_htk : TapeK a0 len cap x tb := g0
          have z11_hrow : RowOk a0 len cap zs x tb := hrowx
          have z11_B : Below w.heap.size w x := z10_B.trans (g1.below (by omega) (by omega))
          have z11_z := z11_B.size
          clear z10_htk z10_hrow z10_B z10_z z10_c0 z10_l0 z10_k0_0 z10_k0_1 z10_c1 z10_l1 z10_k1_0 z10_k1_1 z10_c2 z10_l2 z10_k2_0 z10_k2_1 z10_c3 z10_l3 z10_k3_0 z10_k3_1 z10_c4 z10_l4 z10_k4_0 z10_k4_1 z10_c5 z10_l5 z10_k5_0 z10_k5_1 z10_c6 z10_l6 z10_k6_0 z10_k6_1 z10_h0 z10_h1 z10_h2 z10_h3 z10_h4 z10_h5 z10_h6 g0 g1 hrowx hrowW hbn
          have z11_c0 := blk_cell z11_r0
          have z11_l0 := blk_lt z11_r0
          have z11_k0_0 : w1.heap.size ≤ x.heap.size := by omega
          have z11_k0_1 : w1.heap.size ≤ x.heap.size + 1 := by omega
          have z11_c1 := blk_cell z11_r1
          have z11_l1 := blk_lt z11_r1
          have z11_k1_0 : w2.heap.size ≤ x.heap.size := by omega
          have z11_k1_1 : w2.heap.size ≤ x.heap.size + 1 := by omega
          have z11_c2 := blk_cell z11_r2
          have z11_l2 := blk_lt z11_r2
          have z11_k2_0 : bnA ≤ x.heap.size := by omega
          have z11_k2_1 : bnA ≤ x.heap.size + 1 := by omega
          have z11_c3 := blk_cell z11_r3
          have z11_l3 := blk_lt z11_r3
          have z11_k3_0 : w5.heap.size ≤ x.heap.size := by omega
          have z11_k3_1 : w5.heap.size ≤ x.heap.size + 1 := by omega
          have z11_c4 := blk_cell z11_r4
          have z11_l4 := blk_lt z11_r4
          have z11_k4_0 : bnB ≤ x.heap.size := by omega
          have z11_k4_1 : bnB ≤ x.heap.size + 1 := by omega
          have z11_c5 := blk_cell z11_r5
          have z11_l5 := blk_lt z11_r5
          have z11_k5_0 : w7.heap.size ≤ x.heap.size := by omega
          have z11_k5_1 : w7.heap.size ≤ x.heap.size + 1 := by omega
          have z11_c6 := blk_cell z11_r6
          have z11_l6 := blk_lt z11_r6
          have z11_k6_0 : bnC ≤ x.heap.size := by omega
          have z11_k6_1 : bnC ≤ x.heap.size + 1 := by omega
          have z11_c7 := blk_cell z11_r7
          have z11_l7 := blk_lt z11_r7
          have z11_k7_0 : bnD ≤ x.heap.size := by omega
          have z11_k7_1 : bnD ≤ x.heap.size + 1 := by omega
          have z11_h0 := Lib.hid z11_r0
          have z11_h1 := Lib.hid z11_r1
          have z11_h2 := Lib.hid z11_r2
          have z11_h3 := Lib.hid z11_r3
          have z11_h4 := Lib.hid z11_r4
          have z11_h5 := Lib.hid z11_r5
          have z11_h6 := Lib.hid z11_r6
          have z11_h7 := Lib.hid z11_r7
          clear z11_r0 z11_r1 z11_r2 z11_r3 z11_r4 z11_r5 z11_r6 z11_r7
          obtain ⟨xD, rfl⟩ : ∃ y, y = x := ⟨_, rfl⟩
          go_wp2_with fail
          refine (leaseRegister_new ⟨{ c with g := true, o := O, t := tB, k := kB, n := nB }, N + 7⟩ true { c with g := false } (N + 9) _ (.inr rfl)).mono ?_
          rintro e w10 ⟨rfl, hb⟩
          have z11_s0 := z11_h0.out
          have z11_s1 := z11_h1.out
          have z11_s2 := z11_h2.out
          have z11_s3 := z11_h3.out
          have z11_s4 := z11_h4.out
          have z11_s5 := z11_h5.out
          have z11_s6 := z11_h6.out
          have z11_s7 := z11_h7.out
          have z12_r0 : w10.heap[w1.heap.size]? = some (.cells #[.string c.a, .string c.i, .int .i64 c.s, .int .i64 c.o, .int .i64 c.l, .int .i64 c.t, .int .i64 c.k, .int .i64 c.n, .bool false] 28 (0, 0)) := blk_ext hb (by repeat (first | (with_reducible assumption) | (with_reducible refine blk_new_at ?_ _ _; first | (with_reducible rfl) | (simp; done)) | (with_reducible refine blk_alloc ?_ _) | (with_reducible refine blk_drew ?_) | (with_reducible apply blk_set) | (show Array.setIfInBounds _ _ _ = _; first | (simp; done) | (simp; rfl)) | (with_reducible refine blk_set_other ?_ ?_; omega)))
          have z12_r1 : w10.heap[w2.heap.size]? = some (.cells #[.string c.a, .string c.i, .int .i64 c.s, .int .i64 0, .int .i64 c.l, .int .i64 c.t, .int .i64 c.k, .int .i64 c.n, .bool false, .int .i64 N] 30 (0, 0)) := blk_ext hb (by repeat (first | (with_reducible assumption) | (with_reducible refine blk_new_at ?_ _ _; first | (with_reducible rfl) | (simp; done)) | (with_reducible refine blk_alloc ?_ _) | (with_reducible refine blk_drew ?_) | (with_reducible apply blk_set) | (show Array.setIfInBounds _ _ _ = _; first | (simp; done) | (simp; rfl)) | (with_reducible refine blk_set_other ?_ ?_; omega)))
          have z12_r2 : w10.heap[bnA]? = some (.cells #[.string c.a, .string c.i, .int .i64 c.s, .int .i64 O, .int .i64 c.l, .int .i64 tA, .int .i64 kA, .int .i64 nA, .bool false, .int .i64 N] 30 (0, 0)) := blk_ext hb (by repeat (first | (with_reducible assumption) | (with_reducible refine blk_new_at ?_ _ _; first | (with_reducible rfl) | (simp; done)) | (with_reducible refine blk_alloc ?_ _) | (with_reducible refine blk_drew ?_) | (with_reducible apply blk_set) | (show Array.setIfInBounds _ _ _ = _; first | (simp; done) | (simp; rfl)) | (with_reducible refine blk_set_other ?_ ?_; omega)))
          have z12_r3 : w10.heap[w5.heap.size]? = some (.cells #[.string c.a, .string c.i, .int .i64 c.s, .int .i64 O, .int .i64 c.l, .int .i64 c.t, .int .i64 c.k, .int .i64 c.n, .bool false, .int .i64 (N + 5)] 30 (0, 0)) := blk_ext hb (by repeat (first | (with_reducible assumption) | (with_reducible refine blk_new_at ?_ _ _; first | (with_reducible rfl) | (simp; done)) | (with_reducible refine blk_alloc ?_ _) | (with_reducible refine blk_drew ?_) | (with_reducible apply blk_set) | (show Array.setIfInBounds _ _ _ = _; first | (simp; done) | (simp; rfl)) | (with_reducible refine blk_set_other ?_ ?_; omega)))
          have z12_r4 : w10.heap[bnB]? = some (.cells #[.string c.a, .string c.i, .int .i64 c.s, .int .i64 O, .int .i64 c.l, .int .i64 tB, .int .i64 kB, .int .i64 nB, .bool true, .int .i64 (N + 7)] 30 (0, 0)) := blk_ext hb (by repeat (first | (with_reducible assumption) | (with_reducible refine blk_new_at ?_ _ _; first | (with_reducible rfl) | (simp; done)) | (with_reducible refine blk_alloc ?_ _) | (with_reducible refine blk_drew ?_) | (with_reducible apply blk_set) | (show Array.setIfInBounds _ _ _ = _; first | (simp; done) | (simp; rfl)) | (with_reducible refine blk_set_other ?_ ?_; omega)))
          have z12_r5 : w10.heap[w7.heap.size]? = some (.cells #[.string ⟨#[]⟩, .string ⟨#[]⟩, .int .i64 0, .int .i64 0, .int .i64 0, .int .i64 0, .int .i64 0, .int .i64 0, .bool false, .int .i64 0] 30 (0, 0)) := blk_ext hb (by repeat (first | (with_reducible assumption) | (with_reducible refine blk_new_at ?_ _ _; first | (with_reducible rfl) | (simp; done)) | (with_reducible refine blk_alloc ?_ _) | (with_reducible refine blk_drew ?_) | (with_reducible apply blk_set) | (show Array.setIfInBounds _ _ _ = _; first | (simp; done) | (simp; rfl)) | (with_reducible refine blk_set_other ?_ ?_; omega)))
          have z12_r6 : w10.heap[bnC]? = some (.cells #[.string ⟨#[]⟩, .string ⟨#[]⟩, .int .i64 0, .int .i64 0, .int .i64 0, .int .i64 0, .int .i64 0, .int .i64 0, .bool false, .int .i64 0] 30 (0, 0)) := blk_ext hb (by repeat (first | (with_reducible assumption) | (with_reducible refine blk_new_at ?_ _ _; first | (with_reducible rfl) | (simp; done)) | (with_reducible refine blk_alloc ?_ _) | (with_reducible refine blk_drew ?_) | (with_reducible apply blk_set) | (show Array.setIfInBounds _ _ _ = _; first | (simp; done) | (simp; rfl)) | (with_reducible refine blk_set_other ?_ ?_; omega)))
          have z12_r7 : w10.heap[bnD]? = some (.cells #[.string ⟨#[]⟩, .string ⟨#[]⟩, .int .i64 0, .int .i64 0, .int .i64 0, .int .i64 0, .int .i64 0, .int .i64 0, .bool false, .int .i64 0] 30 (0, 0)) := blk_ext hb (by repeat (first | (with_reducible assumption) | (with_reducible refine blk_new_at ?_ _ _; first | (with_reducible rfl) | (simp; done)) | (with_reducible refine blk_alloc ?_ _) | (with_reducible refine blk_drew ?_) | (with_reducible apply blk_set) | (show Array.setIfInBounds _ _ _ = _; first | (simp; done) | (simp; rfl)) | (with_reducible refine blk_set_other ?_ ?_; omega)))
          have z12_htk : TapeK a0 len cap w10 tb := TapeK.ext (TapeK.ext (z11_htk) (by go_grown)) (hb)
          have z12_hrow : RowOk a0 len cap zs w10 tb := RowOk.bar (RowOk.bar (z11_hrow) (Bar.of (by go_grown))) (Bar.of (hb))
          have z12_B : Below w.heap.size w w10 := ext_trans (a := w) (by go_grown) hb
          have z12_z := z12_B.size
          clear z11_htk z11_hrow z11_B z11_z z11_c0 z11_l0 z11_k0_0 z11_k0_1 z11_c1 z11_l1 z11_k1_0 z11_k1_1 z11_c2 z11_l2 z11_k2_0 z11_k2_1 z11_c3 z11_l3 z11_k3_0 z11_k3_1 z11_c4 z11_l4 z11_k4_0 z11_k4_1 z11_c5 z11_l5 z11_k5_0 z11_k5_1 z11_c6 z11_l6 z11_k6_0 z11_k6_1 z11_c7 z11_l7 z11_k7_0 z11_k7_1 z11_h0 z11_h1 z11_h2 z11_h3 z11_h4 z11_h5 z11_h6 z11_h7 z11_s0 z11_s1 z11_s2 z11_s3 z11_s4 z11_s5 z11_s6 z11_s7 hb
          have z12_c0 := blk_cell z12_r0
          have z12_l0 := blk_lt z12_r0
          have z12_k0_0 : w1.heap.size ≤ w10.heap.size := by omega
          have z12_k0_1 : w1.heap.size ≤ w10.heap.size + 1 := by omega
          have z12_c1 := blk_cell z12_r1
          have z12_l1 := blk_lt z12_r1
          have z12_k1_0 : w2.heap.size ≤ w10.heap.size := by omega
          have z12_k1_1 : w2.heap.size ≤ w10.heap.size + 1 := by omega
          have z12_c2 := blk_cell z12_r2
          have z12_l2 := blk_lt z12_r2
          have z12_k2_0 : bnA ≤ w10.heap.size := by omega
          have z12_k2_1 : bnA ≤ w10.heap.size + 1 := by omega
          have z12_c3 := blk_cell z12_r3
          have z12_l3 := blk_lt z12_r3
          have z12_k3_0 : w5.heap.size ≤ w10.heap.size := by omega
          have z12_k3_1 : w5.heap.size ≤ w10.heap.size + 1 := by omega
          have z12_c4 := blk_cell z12_r4
          have z12_l4 := blk_lt z12_r4
          have z12_k4_0 : bnB ≤ w10.heap.size := by omega
          have z12_k4_1 : bnB ≤ w10.heap.size + 1 := by omega
          have z12_c5 := blk_cell z12_r5
          have z12_l5 := blk_lt z12_r5
          have z12_k5_0 : w7.heap.size ≤ w10.heap.size := by omega
          have z12_k5_1 : w7.heap.size ≤ w10.heap.size + 1 := by omega
          have z12_c6 := blk_cell z12_r6
          have z12_l6 := blk_lt z12_r6
          have z12_k6_0 : bnC ≤ w10.heap.size := by omega
          have z12_k6_1 : bnC ≤ w10.heap.size + 1 := by omega
          have z12_c7 := blk_cell z12_r7
          have z12_l7 := blk_lt z12_r7
          have z12_k7_0 : bnD ≤ w10.heap.size := by omega
          have z12_k7_1 : bnD ≤ w10.heap.size + 1 := by omega
          have z12_h0 := Lib.hid z12_r0
          have z12_h1 := Lib.hid z12_r1
          have z12_h2 := Lib.hid z12_r2
          have z12_h3 := Lib.hid z12_r3
          have z12_h4 := Lib.hid z12_r4
          have z12_h5 := Lib.hid z12_r5
          have z12_h6 := Lib.hid z12_r6
          have z12_h7 := Lib.hid z12_r7
          clear z12_r0 z12_r1 z12_r2 z12_r3 z12_r4 z12_r5 z12_r6 z12_r7
          go_upto_region 13 with fail
          have z12_s0 := z12_h0.out
          have z12_s1 := z12_h1.out
          have z12_s2 := z12_h2.out
          have z12_s3 := z12_h3.out
          have z12_s4 := z12_h4.out
          have z12_s5 := z12_h5.out
          have z12_s6 := z12_h6.out
          have z12_s7 := z12_h7.out
          refine wp_letter (fun W => Below w.heap.size w W ∧ W.heap[w1.heap.size]? = some (.cells #[.string c.a, .string c.i, .int .i64 c.s, .int .i64 c.o, .int .i64 c.l, .int .i64 c.t, .int .i64 c.k, .int .i64 c.n, .bool false] 28 (0, 0)) ∧ W.heap[w2.heap.size]? = some (.cells #[.string c.a, .string c.i, .int .i64 c.s, .int .i64 0, .int .i64 c.l, .int .i64 c.t, .int .i64 c.k, .int .i64 c.n, .bool false, .int .i64 N] 30 (0, 0)) ∧ W.heap[bnA]? = some (.cells #[.string c.a, .string c.i, .int .i64 c.s, .int .i64 O, .int .i64 c.l, .int .i64 tA, .int .i64 kA, .int .i64 nA, .bool false, .int .i64 N] 30 (0, 0)) ∧ W.heap[w5.heap.size]? = some (.cells #[.string c.a, .string c.i, .int .i64 c.s, .int .i64 O, .int .i64 c.l, .int .i64 c.t, .int .i64 c.k, .int .i64 c.n, .bool false, .int .i64 (N + 5)] 30 (0, 0)) ∧ W.heap[bnB]? = some (.cells #[.string c.a, .string c.i, .int .i64 c.s, .int .i64 O, .int .i64 c.l, .int .i64 tB, .int .i64 kB, .int .i64 nB, .bool true, .int .i64 (N + 7)] 30 (0, 0)) ∧ W.heap[w7.heap.size]? = some (.cells #[.string ⟨#[]⟩, .string ⟨#[]⟩, .int .i64 0, .int .i64 0, .int .i64 0, .int .i64 0, .int .i64 0, .int .i64 0, .bool false, .int .i64 0] 30 (0, 0)) ∧ W.heap[bnC]? = some (.cells #[.string ⟨#[]⟩, .string ⟨#[]⟩, .int .i64 0, .int .i64 0, .int .i64 0, .int .i64 0, .int .i64 0, .int .i64 0, .bool false, .int .i64 0] 30 (0, 0)) ∧ W.heap[bnD]? = some (.cells #[.string ⟨#[]⟩, .string ⟨#[]⟩, .int .i64 0, .int .i64 0, .int .i64 0, .int .i64 0, .int .i64 0, .int .i64 0, .bool false, .int .i64 0] 30 (0, 0)) ∧ W.heap[w10.heap.size]? = some (.cells #[.string c.a, .string c.i, .int .i64 c.s, .int .i64 0, .int .i64 c.l, .int .i64 c.t, .int .i64 c.k, .int .i64 c.n, .bool false, .int .i64 (N + 9)] 30 (0, 0)) ∧ TapeK a0 len cap W tb ∧ RowOk a0 len cap zs W tb) ⟨by go_grown, by repeat (first | (with_reducible assumption) | (with_reducible refine blk_new_at ?_ _ _; first | (with_reducible rfl) | (simp; done)) | (with_reducible refine blk_alloc ?_ _) | (with_reducible refine blk_drew ?_) | (with_reducible apply blk_set) | (show Array.setIfInBounds _ _ _ = _; first | (simp; done) | (simp; rfl)) | (with_reducible refine blk_set_other ?_ ?_; omega)), by repeat (first | (with_reducible assumption) | (with_reducible refine blk_new_at ?_ _ _; first | (with_reducible rfl) | (simp; done)) | (with_reducible refine blk_alloc ?_ _) | (with_reducible refine blk_drew ?_) | (with_reducible apply blk_set) | (show Array.setIfInBounds _ _ _ = _; first | (simp; done) | (simp; rfl)) | (with_reducible refine blk_set_other ?_ ?_; omega)), by repeat (first | (with_reducible assumption) | (with_reducible refine blk_new_at ?_ _ _; first | (with_reducible rfl) | (simp; done)) | (with_reducible refine blk_alloc ?_ _) | (with_reducible refine blk_drew ?_) | (with_reducible apply blk_set) | (show Array.setIfInBounds _ _ _ = _; first | (simp; done) | (simp; rfl)) | (with_reducible refine blk_set_other ?_ ?_; omega)), by repeat (first | (with_reducible assumption) | (with_reducible refine blk_new_at ?_ _ _; first | (with_reducible rfl) | (simp; done)) | (with_reducible refine blk_alloc ?_ _) | (with_reducible refine blk_drew ?_) | (with_reducible apply blk_set) | (show Array.setIfInBounds _ _ _ = _; first | (simp; done) | (simp; rfl)) | (with_reducible refine blk_set_other ?_ ?_; omega)), by repeat (first | (with_reducible assumption) | (with_reducible refine blk_new_at ?_ _ _; first | (with_reducible rfl) | (simp; done)) | (with_reducible refine blk_alloc ?_ _) | (with_reducible refine blk_drew ?_) | (with_reducible apply blk_set) | (show Array.setIfInBounds _ _ _ = _; first | (simp; done) | (simp; rfl)) | (with_reducible refine blk_set_other ?_ ?_; omega)), by repeat (first | (with_reducible assumption) | (with_reducible refine blk_new_at ?_ _ _; first | (with_reducible rfl) | (simp; done)) | (with_reducible refine blk_alloc ?_ _) | (with_reducible refine blk_drew ?_) | (with_reducible apply blk_set) | (show Array.setIfInBounds _ _ _ = _; first | (simp; done) | (simp; rfl)) | (with_reducible refine blk_set_other ?_ ?_; omega)), by repeat (first | (with_reducible assumption) | (with_reducible refine blk_new_at ?_ _ _; first | (with_reducible rfl) | (simp; done)) | (with_reducible refine blk_alloc ?_ _) | (with_reducible refine blk_drew ?_) | (with_reducible apply blk_set) | (show Array.setIfInBounds _ _ _ = _; first | (simp; done) | (simp; rfl)) | (with_reducible refine blk_set_other ?_ ?_; omega)), by repeat (first | (with_reducible assumption) | (with_reducible refine blk_new_at ?_ _ _; first | (with_reducible rfl) | (simp; done)) | (with_reducible refine blk_alloc ?_ _) | (with_reducible refine blk_drew ?_) | (with_reducible apply blk_set) | (show Array.setIfInBounds _ _ _ = _; first | (simp; done) | (simp; rfl)) | (with_reducible refine blk_set_other ?_ ?_; omega)), by repeat (first | (with_reducible assumption) | (with_reducible refine blk_new_at ?_ _ _; first | (with_reducible rfl) | (simp; done)) | (with_reducible refine blk_alloc ?_ _) | (with_reducible refine blk_drew ?_) | (with_reducible apply blk_set) | (show Array.setIfInBounds _ _ _ = _; first | (simp; done) | (simp; rfl)) | (with_reducible refine blk_set_other ?_ ?_; omega)), TapeK.ext (z12_htk) (by go_grown), RowOk.bar (z12_hrow) (Bar.of (by go_grown))⟩ ?_
          rintro w11 ⟨hBl, hl0, hl1, hl2, hl3, hl4, hl5, hl6, hl7, hl8, hxhtk, hxhrow⟩
          have z13_r0 : w11.heap[w1.heap.size]? = some (.cells #[.string c.a, .string c.i, .int .i64 c.s, .int .i64 c.o, .int .i64 c.l, .int .i64 c.t, .int .i64 c.k, .int .i64 c.n, .bool false] 28 (0, 0)) := hl0
          have z13_r1 : w11.heap[w2.heap.size]? = some (.cells #[.string c.a, .string c.i, .int .i64 c.s, .int .i64 0, .int .i64 c.l, .int .i64 c.t, .int .i64 c.k, .int .i64 c.n, .bool false, .int .i64 N] 30 (0, 0)) := hl1
          have z13_r2 : w11.heap[bnA]? = some (.cells #[.string c.a, .string c.i, .int .i64 c.s, .int .i64 O, .int .i64 c.l, .int .i64 tA, .int .i64 kA, .int .i64 nA, .bool false, .int .i64 N] 30 (0, 0)) := hl2
          have z13_r3 : w11.heap[w5.heap.size]? = some (.cells #[.string c.a, .string c.i, .int .i64 c.s, .int .i64 O, .int .i64 c.l, .int .i64 c.t, .int .i64 c.k, .int .i64 c.n, .bool false, .int .i64 (N + 5)] 30 (0, 0)) := hl3
          have z13_r4 : w11.heap[bnB]? = some (.cells #[.string c.a, .string c.i, .int .i64 c.s, .int .i64 O, .int .i64 c.l, .int .i64 tB, .int .i64 kB, .int .i64 nB, .bool true, .int .i64 (N + 7)] 30 (0, 0)) := hl4
          have z13_r5 : w11.heap[w7.heap.size]? = some (.cells #[.string ⟨#[]⟩, .string ⟨#[]⟩, .int .i64 0, .int .i64 0, .int .i64 0, .int .i64 0, .int .i64 0, .int .i64 0, .bool false, .int .i64 0] 30 (0, 0)) := hl5
          have z13_r6 : w11.heap[bnC]? = some (.cells #[.string ⟨#[]⟩, .string ⟨#[]⟩, .int .i64 0, .int .i64 0, .int .i64 0, .int .i64 0, .int .i64 0, .int .i64 0, .bool false, .int .i64 0] 30 (0, 0)) := hl6
          have z13_r7 : w11.heap[bnD]? = some (.cells #[.string ⟨#[]⟩, .string ⟨#[]⟩, .int .i64 0, .int .i64 0, .int .i64 0, .int .i64 0, .int .i64 0, .int .i64 0, .bool false, .int .i64 0] 30 (0, 0)) := hl7
          have z13_r8 : w11.heap[w10.heap.size]? = some (.cells #[.string c.a, .string c.i, .int .i64 c.s, .int .i64 0, .int .i64 c.l, .int .i64 c.t, .int .i64 c.k, .int .i64 c.n, .bool false, .int .i64 (N + 9)] 30 (0, 0)) := hl8
          have z13_htk : TapeK a0 len cap w11 tb := hxhtk
          have z13_hrow : RowOk a0 len cap zs w11 tb := hxhrow
          have z13_B : Below w.heap.size w w11 := hBl
          have z13_z := z13_B.size
          clear z12_htk z12_hrow z12_B z12_z z12_c0 z12_l0 z12_k0_0 z12_k0_1 z12_c1 z12_l1 z12_k1_0 z12_k1_1 z12_c2 z12_l2 z12_k2_0 z12_k2_1 z12_c3 z12_l3 z12_k3_0 z12_k3_1 z12_c4 z12_l4 z12_k4_0 z12_k4_1 z12_c5 z12_l5 z12_k5_0 z12_k5_1 z12_c6 z12_l6 z12_k6_0 z12_k6_1 z12_c7 z12_l7 z12_k7_0 z12_k7_1 z12_h0 z12_h1 z12_h2 z12_h3 z12_h4 z12_h5 z12_h6 z12_h7 z12_s0 z12_s1 z12_s2 z12_s3 z12_s4 z12_s5 z12_s6 z12_s7 hBl hl0 hl1 hl2 hl3 hl4 hl5 hl6 hl7 hl8 hxhtk hxhrow
          have z13_c0 := blk_cell z13_r0
          have z13_l0 := blk_lt z13_r0
          have z13_k0_0 : w1.heap.size ≤ w11.heap.size := by omega
          have z13_k0_1 : w1.heap.size ≤ w11.heap.size + 1 := by omega
          have z13_c1 := blk_cell z13_r1
          have z13_l1 := blk_lt z13_r1
          have z13_k1_0 : w2.heap.size ≤ w11.heap.size := by omega
          have z13_k1_1 : w2.heap.size ≤ w11.heap.size + 1 := by omega
          have z13_c2 := blk_cell z13_r2
          have z13_l2 := blk_lt z13_r2
          have z13_k2_0 : bnA ≤ w11.heap.size := by omega
          have z13_k2_1 : bnA ≤ w11.heap.size + 1 := by omega
          have z13_c3 := blk_cell z13_r3
          have z13_l3 := blk_lt z13_r3
          have z13_k3_0 : w5.heap.size ≤ w11.heap.size := by omega
          have z13_k3_1 : w5.heap.size ≤ w11.heap.size + 1 := by omega
          have z13_c4 := blk_cell z13_r4
          have z13_l4 := blk_lt z13_r4
          have z13_k4_0 : bnB ≤ w11.heap.size := by omega
          have z13_k4_1 : bnB ≤ w11.heap.size + 1 := by omega
          have z13_c5 := blk_cell z13_r5
          have z13_l5 := blk_lt z13_r5
          have z13_k5_0 : w7.heap.size ≤ w11.heap.size := by omega
          have z13_k5_1 : w7.heap.size ≤ w11.heap.size + 1 := by omega
          have z13_c6 := blk_cell z13_r6
          have z13_l6 := blk_lt z13_r6
          have z13_k6_0 : bnC ≤ w11.heap.size := by omega
          have z13_k6_1 : bnC ≤ w11.heap.size + 1 := by omega
          have z13_c7 := blk_cell z13_r7
          have z13_l7 := blk_lt z13_r7
          have z13_k7_0 : bnD ≤ w11.heap.size := by omega
          have z13_k7_1 : bnD ≤ w11.heap.size + 1 := by omega
          have z13_c8 := blk_cell z13_r8
          have z13_l8 := blk_lt z13_r8
          have z13_k8_0 : w10.heap.size ≤ w11.heap.size := by omega
          have z13_k8_1 : w10.heap.size ≤ w11.heap.size + 1 := by omega
          have z13_h0 := Lib.hid z13_r0
          have z13_h1 := Lib.hid z13_r1
          have z13_h2 := Lib.hid z13_r2
          have z13_h3 := Lib.hid z13_r3
          have z13_h4 := Lib.hid z13_r4
          have z13_h5 := Lib.hid z13_r5
          have z13_h6 := Lib.hid z13_r6
          have z13_h7 := Lib.hid z13_r7
          have z13_h8 := Lib.hid z13_r8
          clear z13_r0 z13_r1 z13_r2 z13_r3 z13_r4 z13_r5 z13_r6 z13_r7 z13_r8
          haveI hIq : Nonempty (Of w11) := of_some _
          have hFq0 := blk_of z13_h0.out
          have hFq1 := blk_of z13_h1.out
          have hFq2 := blk_of z13_h2.out
          have hFq3 := blk_of z13_h3.out
          have hFq4 := blk_of z13_h4.out
          have hFq5 := blk_of z13_h5.out
          have hFq6 := blk_of z13_h6.out
          have hFq7 := blk_of z13_h7.out
          have hFq8 := blk_of z13_h8.out
          first | (refine wp_region_stay w11 (by kernel_rfl) (by kernel_rfl) (by go_grown) ?_) | (refine wp_region_stay_seq w11 (by go_grown) ?_)
          repeat (go_big_quiet_step ((first | (go_at_call 10; refine stay_call (law9known _)))))
          refine wpQuiet_nil ?_
          intro w12 hb
          clear hIq hFq0 hFq1 hFq2 hFq3 hFq4 hFq5 hFq6 hFq7 hFq8
          have z14_r0 : w12.heap[w1.heap.size]? = some (.cells #[.string c.a, .string c.i, .int .i64 c.s, .int .i64 c.o, .int .i64 c.l, .int .i64 c.t, .int .i64 c.k, .int .i64 c.n, .bool false] 28 (0, 0)) := blk_ext hb z13_h0.out
          have z14_r1 : w12.heap[w2.heap.size]? = some (.cells #[.string c.a, .string c.i, .int .i64 c.s, .int .i64 0, .int .i64 c.l, .int .i64 c.t, .int .i64 c.k, .int .i64 c.n, .bool false, .int .i64 N] 30 (0, 0)) := blk_ext hb z13_h1.out
          have z14_r2 : w12.heap[bnA]? = some (.cells #[.string c.a, .string c.i, .int .i64 c.s, .int .i64 O, .int .i64 c.l, .int .i64 tA, .int .i64 kA, .int .i64 nA, .bool false, .int .i64 N] 30 (0, 0)) := blk_ext hb z13_h2.out
          have z14_r3 : w12.heap[w5.heap.size]? = some (.cells #[.string c.a, .string c.i, .int .i64 c.s, .int .i64 O, .int .i64 c.l, .int .i64 c.t, .int .i64 c.k, .int .i64 c.n, .bool false, .int .i64 (N + 5)] 30 (0, 0)) := blk_ext hb z13_h3.out
          have z14_r4 : w12.heap[bnB]? = some (.cells #[.string c.a, .string c.i, .int .i64 c.s, .int .i64 O, .int .i64 c.l, .int .i64 tB, .int .i64 kB, .int .i64 nB, .bool true, .int .i64 (N + 7)] 30 (0, 0)) := blk_ext hb z13_h4.out
          have z14_r5 : w12.heap[w7.heap.size]? = some (.cells #[.string ⟨#[]⟩, .string ⟨#[]⟩, .int .i64 0, .int .i64 0, .int .i64 0, .int .i64 0, .int .i64 0, .int .i64 0, .bool false, .int .i64 0] 30 (0, 0)) := blk_ext hb z13_h5.out
          have z14_r6 : w12.heap[bnC]? = some (.cells #[.string ⟨#[]⟩, .string ⟨#[]⟩, .int .i64 0, .int .i64 0, .int .i64 0, .int .i64 0, .int .i64 0, .int .i64 0, .bool false, .int .i64 0] 30 (0, 0)) := blk_ext hb z13_h6.out
          have z14_r7 : w12.heap[bnD]? = some (.cells #[.string ⟨#[]⟩, .string ⟨#[]⟩, .int .i64 0, .int .i64 0, .int .i64 0, .int .i64 0, .int .i64 0, .int .i64 0, .bool false, .int .i64 0] 30 (0, 0)) := blk_ext hb z13_h7.out
          have z14_r8 : w12.heap[w10.heap.size]? = some (.cells #[.string c.a, .string c.i, .int .i64 c.s, .int .i64 0, .int .i64 c.l, .int .i64 c.t, .int .i64 c.k, .int .i64 c.n, .bool false, .int .i64 (N + 9)] 30 (0, 0)) := blk_ext hb z13_h8.out
          have z14_htk : TapeK a0 len cap w12 tb := TapeK.ext (z13_htk) (hb)
          have z14_hrow : RowOk a0 len cap zs w12 tb := RowOk.bar (z13_hrow) (Bar.of (hb))
          have z14_B : Below w.heap.size w w12 := ext_trans z13_B hb
          have z14_z := z14_B.size
          clear z13_htk z13_hrow z13_B z13_z z13_c0 z13_l0 z13_k0_0 z13_k0_1 z13_c1 z13_l1 z13_k1_0 z13_k1_1 z13_c2 z13_l2 z13_k2_0 z13_k2_1 z13_c3 z13_l3 z13_k3_0 z13_k3_1 z13_c4 z13_l4 z13_k4_0 z13_k4_1 z13_c5 z13_l5 z13_k5_0 z13_k5_1 z13_c6 z13_l6 z13_k6_0 z13_k6_1 z13_c7 z13_l7 z13_k7_0 z13_k7_1 z13_c8 z13_l8 z13_k8_0 z13_k8_1 z13_h0 z13_h1 z13_h2 z13_h3 z13_h4 z13_h5 z13_h6 z13_h7 z13_h8 hb
          have z14_c0 := blk_cell z14_r0
          have z14_l0 := blk_lt z14_r0
          have z14_k0_0 : w1.heap.size ≤ w12.heap.size := by omega
          have z14_k0_1 : w1.heap.size ≤ w12.heap.size + 1 := by omega
          have z14_c1 := blk_cell z14_r1
          have z14_l1 := blk_lt z14_r1
          have z14_k1_0 : w2.heap.size ≤ w12.heap.size := by omega
          have z14_k1_1 : w2.heap.size ≤ w12.heap.size + 1 := by omega
          have z14_c2 := blk_cell z14_r2
          have z14_l2 := blk_lt z14_r2
          have z14_k2_0 : bnA ≤ w12.heap.size := by omega
          have z14_k2_1 : bnA ≤ w12.heap.size + 1 := by omega
          have z14_c3 := blk_cell z14_r3
          have z14_l3 := blk_lt z14_r3
          have z14_k3_0 : w5.heap.size ≤ w12.heap.size := by omega
          have z14_k3_1 : w5.heap.size ≤ w12.heap.size + 1 := by omega
          have z14_c4 := blk_cell z14_r4
          have z14_l4 := blk_lt z14_r4
          have z14_k4_0 : bnB ≤ w12.heap.size := by omega
          have z14_k4_1 : bnB ≤ w12.heap.size + 1 := by omega
          have z14_c5 := blk_cell z14_r5
          have z14_l5 := blk_lt z14_r5
          have z14_k5_0 : w7.heap.size ≤ w12.heap.size := by omega
          have z14_k5_1 : w7.heap.size ≤ w12.heap.size + 1 := by omega
          have z14_c6 := blk_cell z14_r6
          have z14_l6 := blk_lt z14_r6
          have z14_k6_0 : bnC ≤ w12.heap.size := by omega
          have z14_k6_1 : bnC ≤ w12.heap.size + 1 := by omega
          have z14_c7 := blk_cell z14_r7
          have z14_l7 := blk_lt z14_r7
          have z14_k7_0 : bnD ≤ w12.heap.size := by omega
          have z14_k7_1 : bnD ≤ w12.heap.size + 1 := by omega
          have z14_c8 := blk_cell z14_r8
          have z14_l8 := blk_lt z14_r8
          have z14_k8_0 : w10.heap.size ≤ w12.heap.size := by omega
          have z14_k8_1 : w10.heap.size ≤ w12.heap.size + 1 := by omega
          have z14_h0 := Lib.hid z14_r0
          have z14_h1 := Lib.hid z14_r1
          have z14_h2 := Lib.hid z14_r2
          have z14_h3 := Lib.hid z14_r3
          have z14_h4 := Lib.hid z14_r4
          have z14_h5 := Lib.hid z14_r5
          have z14_h6 := Lib.hid z14_r6
          have z14_h7 := Lib.hid z14_r7
          have z14_h8 := Lib.hid z14_r8
          clear z14_r0 z14_r1 z14_r2 z14_r3 z14_r4 z14_r5 z14_r6 z14_r7 z14_r8
          go_wp2
          go_ret
          exact ⟨rfl, z14_B⟩

end Go.Proofs.Ytcclncpegdbcbaa
