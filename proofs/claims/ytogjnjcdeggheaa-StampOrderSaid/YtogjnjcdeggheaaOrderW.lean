/- StampOrder: the walk. -/
import Derived.Test.YtogjnjcdeggheaaStampW
import Derived.Test.YtogjnjcdeggheaaInv
import Derived.Test.YtogjnjcdeggheaaMask
import Derived.Test.YtogjnjcdeggheaaLaw4K
import Derived.Deep.DeepCutAuto
namespace Go.Proofs.Ytogjnjcdeggheaa
open Go.RowKit
set_option linter.unusedVariables false

theorem sLess_asym {t k n t' k' n' : Int} (h : sLess t k n t' k' n' = true) : sLess t' k' n' t k n = false := by
  simp only [sLess] at *
  split at h <;> (try split at h) <;> simp at h <;> (split <;> (try split) <;> simp <;> omega)
theorem sLess_tri {t k n t' k' n' : Int} (h : sLess t k n t' k' n' = false) (h' : sLess t' k' n' t k n = false) : t = t' ∧ k = k' ∧ n = n' := by
  simp only [sLess] at *
  split at h <;> (try split at h) <;> simp at h <;> (split at h' <;> (try split at h') <;> simp at h') <;> omega
theorem sLess_trans {t k n t' k' n' t'' k'' n'' : Int} (h : sLess t k n t' k' n' = true) (h' : sLess t' k' n' t'' k'' n'' = true) : sLess t k n t'' k'' n'' = true := by
  simp only [sLess] at *
  split at h <;> (try split at h) <;> simp at h <;> (split at h' <;> (try split at h') <;> simp at h') <;> (split <;> (try split) <;> simp <;> omega)
theorem sLess_ntrans {t k n t' k' n' t'' k'' n'' : Int} (h : sLess t k n t' k' n' = false) (h' : sLess t' k' n' t'' k'' n'' = false) : sLess t k n t'' k'' n'' = false := by
  simp only [sLess] at *
  split at h <;> (try split at h) <;> simp at h <;> (split at h' <;> (try split at h') <;> simp at h') <;> (split <;> (try split) <;> simp <;> omega)

theorem sMax_comm (t k n t' k' n' : Int) : sMax t k n t' k' n' = sMax t' k' n' t k n := by
  unfold sMax
  cases h : sLess t k n t' k' n'
  · cases h' : sLess t' k' n' t k n
    · obtain ⟨rfl, rfl, rfl⟩ := sLess_tri h h'; rfl
    · rfl
  · rw [sLess_asym h]; rfl
theorem sMax_assoc {t k n t' k' n' t'' k'' n'' p1 p2 p3 q1 q2 q3 : Int} (hp : sMax t k n t' k' n' = (p1, p2, p3)) (hq : sMax t' k' n' t'' k'' n'' = (q1, q2, q3)) : sMax p1 p2 p3 t'' k'' n'' = sMax t k n q1 q2 q3 := by
  unfold sMax at *
  cases h : sLess t k n t' k' n' <;> cases h' : sLess t' k' n' t'' k'' n'' <;> simp only [h, h', Bool.false_eq_true, if_false, if_true, Prod.mk.injEq] at hp hq <;> obtain ⟨rfl, rfl, rfl⟩ := hp <;> obtain ⟨rfl, rfl, rfl⟩ := hq
  · rw [sLess_ntrans h h', h]; rfl
  · rfl
  · rw [h, h']; rfl
  · rw [sLess_trans h h', h']; rfl
theorem stampMax_at {t k n t' k' n' x y z : Int} (h : sMax t k n t' k' n' = (x, y, z)) (w : World) :
    Calls Try.prog 12 #[stv t k n, stv t' k' n'] w fun e w' => e = .returned (stv x y z) ∧ Below w.heap.size w w' :=
  (stampMax t k n t' k' n' w).mono fun _ _ ⟨he, hb⟩ => ⟨by rw [he, h], hb⟩
theorem cmp4 (t k n t' k' n' t'' k'' n'' : Int) : (sLess t k n t' k' n' = true ∧ sLess t' k' n' t k n = false ∧ sLess t' k' n' t'' k'' n'' = true ∧ sLess t k n t'' k'' n'' = true) ∨ (sLess t k n t' k' n' = true ∧ sLess t' k' n' t k n = false ∧ sLess t' k' n' t'' k'' n'' = false) ∨
    (sLess t k n t' k' n' = false ∧ sLess t' k' n' t k n = true) ∨ (sLess t k n t' k' n' = false ∧ t = t' ∧ k = k' ∧ n = n') := by
  cases h : sLess t k n t' k' n'
  · cases h' : sLess t' k' n' t k n
    · exact .inr (.inr (.inr ⟨rfl, sLess_tri h h'⟩))
    · exact .inr (.inr (.inl ⟨rfl, rfl⟩))
  · cases h' : sLess t' k' n' t'' k'' n''
    · exact .inr (.inl ⟨rfl, sLess_asym h, rfl⟩)
    · exact .inl ⟨rfl, sLess_asym h, rfl, sLess_trans h h'⟩

set_option maxRecDepth 100000 in
set_option maxHeartbeats 40000000 in
theorem stampOrder_walk (t k n : Int) (t' k' n' : Int) (t'' k'' n'' : Int) (now : Int) (node : Int) (w : World) (_ : StWf t k n) (_ : StWf t' k' n') (_ : StWf t'' k'' n'') (_ : (Lit.int .i64 now).wf = true) (_ : (Lit.int .i64 node).wf = true) :
    Calls Try.prog 5 #[stv t k n, stv t' k' n', stv t'' k'' n'', .int .i64 now, .int .i64 node] w fun e w' => e = .returned (.bool true) ∧ Below w.heap.size w w' := by
  have hA := and_3 n
  obtain ⟨T, hT⟩ : ∃ T, bits BinOp.and IntKind.i64 t 3 = T := ⟨_, rfl⟩
  obtain ⟨K, hK⟩ : ∃ K, bits BinOp.and IntKind.i64 k 1 = K := ⟨_, rfl⟩
  obtain ⟨M, hM⟩ : ∃ M, bits BinOp.and IntKind.i64 n 3 = M := ⟨_, rfl⟩
  obtain ⟨T', hT'⟩ : ∃ T', bits BinOp.and IntKind.i64 t' 3 = T' := ⟨_, rfl⟩
  obtain ⟨K', hK'⟩ : ∃ K', bits BinOp.and IntKind.i64 k' 1 = K' := ⟨_, rfl⟩
  obtain ⟨M', hM'⟩ : ∃ M', bits BinOp.and IntKind.i64 n' 3 = M' := ⟨_, rfl⟩
  obtain ⟨T'', hT''⟩ : ∃ T'', bits BinOp.and IntKind.i64 t'' 3 = T'' := ⟨_, rfl⟩
  obtain ⟨K'', hK''⟩ : ∃ K'', bits BinOp.and IntKind.i64 k'' 1 = K'' := ⟨_, rfl⟩
  obtain ⟨M'', hM''⟩ : ∃ M'', bits BinOp.and IntKind.i64 n'' 3 = M'' := ⟨_, rfl⟩
  have hM0 : 0 ≤ M := by omega
  have hM4 : M < 4 := by omega
  clear hA
  go_enter Try.func5, Try.ntmps5
  go_upto_region 1 with fail
  refine wp_letter (fun W => Below w.heap.size w W ∧ W.heap[w.heap.size]? = some (.cells #[.int .i64 t, .int .i64 k, .int .i64 n] 25 (0, 0)) ∧ W.heap[w.heap.size + 1]? = some (.cells #[.int .i64 t', .int .i64 k', .int .i64 n'] 25 (0, 0)) ∧ W.heap[w.heap.size + 1 + 1]? = some (.cells #[.int .i64 t'', .int .i64 k'', .int .i64 n''] 25 (0, 0))) ⟨by go_grown, by repeat (first | (with_reducible assumption) | (with_reducible refine blk_new_at ?_ _ _; first | (with_reducible rfl) | (simp; done)) | (with_reducible refine blk_alloc ?_ _) | (with_reducible refine blk_drew ?_) | (with_reducible apply blk_set) | (show Array.setIfInBounds _ _ _ = _; first | (simp; done) | (simp; rfl)) | (with_reducible refine blk_set_other ?_ ?_; omega)), by repeat (first | (with_reducible assumption) | (with_reducible refine blk_new_at ?_ _ _; first | (with_reducible rfl) | (simp; done)) | (with_reducible refine blk_alloc ?_ _) | (with_reducible refine blk_drew ?_) | (with_reducible apply blk_set) | (show Array.setIfInBounds _ _ _ = _; first | (simp; done) | (simp; rfl)) | (with_reducible refine blk_set_other ?_ ?_; omega)), by repeat (first | (with_reducible assumption) | (with_reducible refine blk_new_at ?_ _ _; first | (with_reducible rfl) | (simp; done)) | (with_reducible refine blk_alloc ?_ _) | (with_reducible refine blk_drew ?_) | (with_reducible apply blk_set) | (show Array.setIfInBounds _ _ _ = _; first | (simp; done) | (simp; rfl)) | (with_reducible refine blk_set_other ?_ ?_; omega))⟩ ?_
  rintro w1 ⟨hBl, hl0, hl1, hl2⟩
  have z1_r0 : w1.heap[w.heap.size]? = some (.cells #[.int .i64 t, .int .i64 k, .int .i64 n] 25 (0, 0)) := hl0
  have z1_r1 : w1.heap[w.heap.size + 1]? = some (.cells #[.int .i64 t', .int .i64 k', .int .i64 n'] 25 (0, 0)) := hl1
  have z1_r2 : w1.heap[w.heap.size + 1 + 1]? = some (.cells #[.int .i64 t'', .int .i64 k'', .int .i64 n''] 25 (0, 0)) := hl2
  have z1_B : Below w.heap.size w w1 := hBl
  have z1_z := z1_B.size
  clear  hBl hl0 hl1 hl2
  have z1_c0 := blk_cell z1_r0
  have z1_l0 := blk_lt z1_r0
  have z1_k0_0 : w.heap.size ≤ w1.heap.size := by omega
  have z1_k0_1 : w.heap.size ≤ w1.heap.size + 1 := by omega
  have z1_c1 := blk_cell z1_r1
  have z1_l1 := blk_lt z1_r1
  have z1_k1_0 : w.heap.size + 1 ≤ w1.heap.size := by omega
  have z1_k1_1 : w.heap.size + 1 ≤ w1.heap.size + 1 := by omega
  have z1_c2 := blk_cell z1_r2
  have z1_l2 := blk_lt z1_r2
  have z1_k2_0 : w.heap.size + 1 + 1 ≤ w1.heap.size := by omega
  have z1_k2_1 : w.heap.size + 1 + 1 ≤ w1.heap.size + 1 := by omega
  have z1_h0 := Lib.hid z1_r0
  have z1_h1 := Lib.hid z1_r1
  have z1_h2 := Lib.hid z1_r2
  clear z1_r0 z1_r1 z1_r2
  refine wp_region_inv_eq (J := fun A d act x => ∃ u12 u13 u14 u15 u16 u17 u18 u19 u20 u21 u22 u23 u24 u25 u26 u27 u28 u29 u30 u31 u32 u33 u34 u35 : Value, act = ((((((((((((((((((((((((A.put (some 12) u12).put (some 13) u13).put (some 14) u14).put (some 15) u15).put (some 16) u16).put (some 17) u17).put (some 18) u18).put (some 19) u19).put (some 20) u20).put (some 21) u21).put (some 22) u22).put (some 23) u23).put (some 24) u24).put (some 25) u25).put (some 26) u26).put (some 27) u27).put (some 28) u28).put (some 29) u29).put (some 30) u30).put (some 31) u31).put (some 32) u32).put (some 33) u33).put (some 34) u34).put (some 35) u35) ∧ (d 0 = true → u12 = .pointer (some ⟨w.heap.size, 0, none⟩)) ∧ (d 1 = true → u13 = .int .i64 t) ∧ (d 2 = true → u14 = .int .i64 T) ∧ (d 3 = true → u15 = .pointer (some ⟨w.heap.size, 2, none⟩)) ∧ (d 4 = true → u16 = .int .i64 n) ∧ (d 5 = true → u17 = .int .i64 M) ∧ (d 6 = true → u18 = .pointer (some ⟨w.heap.size + 1, 0, none⟩)) ∧ (d 7 = true → u19 = .int .i64 t') ∧ (d 8 = true → u20 = .int .i64 T') ∧ (d 9 = true → u21 = .pointer (some ⟨w.heap.size + 1, 2, none⟩)) ∧ (d 10 = true → u22 = .int .i64 n') ∧ (d 11 = true → u23 = .int .i64 M') ∧ (d 12 = true → u24 = .pointer (some ⟨w.heap.size + 1 + 1, 0, none⟩)) ∧ (d 13 = true → u25 = .int .i64 t'') ∧ (d 14 = true → u26 = .int .i64 T'') ∧ (d 15 = true → u27 = .pointer (some ⟨w.heap.size + 1 + 1, 2, none⟩)) ∧ (d 16 = true → u28 = .int .i64 n'') ∧ (d 17 = true → u29 = .int .i64 M'') ∧ (d 18 = true → u30 = .pointer (some ⟨w.heap.size, 0, none⟩)) ∧ (d 20 = true → u31 = .pointer (some ⟨w.heap.size, 2, none⟩)) ∧ (d 22 = true → u32 = .pointer (some ⟨w.heap.size + 1, 0, none⟩)) ∧ (d 24 = true → u33 = .pointer (some ⟨w.heap.size + 1, 2, none⟩)) ∧ (d 26 = true → u34 = .pointer (some ⟨w.heap.size + 1 + 1, 0, none⟩)) ∧ (d 28 = true → u35 = .pointer (some ⟨w.heap.size + 1 + 1, 2, none⟩)) ∧ Below w.heap.size w x ∧ ∃ y0 y1 y2 y3 y4 y5 : Value, x.heap[w.heap.size]? = some (.cells #[y0, .int .i64 k, y1] 25 (0, 0)) ∧ x.heap[w.heap.size + 1]? = some (.cells #[y2, .int .i64 k', y3] 25 (0, 0)) ∧ x.heap[w.heap.size + 1 + 1]? = some (.cells #[y4, .int .i64 k'', y5] 25 (0, 0)) ∧ (d 19 = false → y0 = .int .i64 t) ∧ (d 19 = true → y0 = .int .i64 T ∧ d 2 = true) ∧ (d 2 = true → d 1 = true) ∧ (d 21 = false → y1 = .int .i64 n) ∧ (d 21 = true → y1 = .int .i64 M ∧ d 5 = true) ∧ (d 5 = true → d 4 = true) ∧ (d 23 = false → y2 = .int .i64 t') ∧ (d 23 = true → y2 = .int .i64 T' ∧ d 8 = true) ∧ (d 8 = true → d 7 = true) ∧ (d 25 = false → y3 = .int .i64 n') ∧ (d 25 = true → y3 = .int .i64 M' ∧ d 11 = true) ∧ (d 11 = true → d 10 = true) ∧ (d 27 = false → y4 = .int .i64 t'') ∧ (d 27 = true → y4 = .int .i64 T'' ∧ d 14 = true) ∧ (d 14 = true → d 13 = true) ∧ (d 29 = false → y5 = .int .i64 n'') ∧ (d 29 = true → y5 = .int .i64 M'' ∧ d 17 = true) ∧ (d 17 = true → d 16 = true)) (by simp only [Act.put, List.setIfInBounds_toArray, List.set_cons_succ, List.set_cons_zero]; rfl) (by kernel_rfl) (by kernel_rfl) ?_ ?_ ?_
  · refine ⟨_, _, _, _, _, _, _, _, _, _, _, _, _, _, _, _, _, _, _, _, _, _, _, _, rfl, ?_, ?_, ?_, ?_, ?_, ?_, ?_, ?_, ?_, ?_, ?_, ?_, ?_, ?_, ?_, ?_, ?_, ?_, ?_, ?_, ?_, ?_, ?_, ?_, ?_, ?_⟩
    · intro h; cases h
    · intro h; cases h
    · intro h; cases h
    · intro h; cases h
    · intro h; cases h
    · intro h; cases h
    · intro h; cases h
    · intro h; cases h
    · intro h; cases h
    · intro h; cases h
    · intro h; cases h
    · intro h; cases h
    · intro h; cases h
    · intro h; cases h
    · intro h; cases h
    · intro h; cases h
    · intro h; cases h
    · intro h; cases h
    · intro h; cases h
    · intro h; cases h
    · intro h; cases h
    · intro h; cases h
    · intro h; cases h
    · intro h; cases h
    · exact z1_B.drew
    · exact ⟨_, _, _, _, _, _, blk_drew z1_h0.out, blk_drew z1_h1.out, blk_drew z1_h2.out, (fun _ => rfl), (fun h => by cases h), (fun h => by cases h), (fun _ => rfl), (fun h => by cases h), (fun h => by cases h), (fun _ => rfl), (fun h => by cases h), (fun h => by cases h), (fun _ => rfl), (fun h => by cases h), (fun h => by cases h), (fun _ => rfl), (fun h => by cases h), (fun h => by cases h), (fun _ => rfl), (fun h => by cases h), (fun h => by cases h)⟩
  · refine stepsOk_cons (k := 0) ?_ (stepsOk_cons (k := 1) ?_ (stepsOk_cons (k := 2) ?_ (stepsOk_cons (k := 3) ?_ (stepsOk_cons (k := 4) ?_ (stepsOk_cons (k := 5) ?_ (stepsOk_cons (k := 6) ?_ (stepsOk_cons (k := 7) ?_ (stepsOk_cons (k := 8) ?_ (stepsOk_cons (k := 9) ?_ (stepsOk_cons (k := 10) ?_ (stepsOk_cons (k := 11) ?_ (stepsOk_cons (k := 12) ?_ (stepsOk_cons (k := 13) ?_ (stepsOk_cons (k := 14) ?_ (stepsOk_cons (k := 15) ?_ (stepsOk_cons (k := 16) ?_ (stepsOk_cons (k := 17) ?_ (stepsOk_cons (k := 18) ?_ (stepsOk_cons (k := 19) ?_ (stepsOk_cons (k := 20) ?_ (stepsOk_cons (k := 21) ?_ (stepsOk_cons (k := 22) ?_ (stepsOk_cons (k := 23) ?_ (stepsOk_cons (k := 24) ?_ (stepsOk_cons (k := 25) ?_ (stepsOk_cons (k := 26) ?_ (stepsOk_cons (k := 27) ?_ (stepsOk_cons (k := 28) ?_ (stepsOk_cons (k := 29) ?_ stepsOk_nil)))))))))))))))))))))))))))))
    · unfold StepOk
      rintro d act x ⟨u12, u13, u14, u15, u16, u17, u18, u19, u20, u21, u22, u23, u24, u25, u26, u27, u28, u29, u30, u31, u32, u33, u34, u35, rfl, f0, f1, f2, f3, f4, f5, f6, f7, f8, f9, f10, f11, f12, f13, f14, f15, f16, f17, f18, f20, f22, f24, f26, f28, g0, g1⟩ hd hdep Kc hKc
      obtain ⟨y0, y1, y2, y3, y4, y5, e0, e1, e2, p0, r0, t0, p1, r1, t1, p2, r2, t2, p3, r3, t3, p4, r4, t4, p5, r5, t5⟩ := g1
      rw [if_pos (by rfl)]
      go_big_op
      refine hKc _ _ ⟨_, _, _, _, _, _, _, _, _, _, _, _, _, _, _, _, _, _, _, _, _, _, _, _, rfl, ?_, ?_, ?_, ?_, ?_, ?_, ?_, ?_, ?_, ?_, ?_, ?_, ?_, ?_, ?_, ?_, ?_, ?_, ?_, ?_, ?_, ?_, ?_, ?_, ?_, ?_⟩
      · exact (fun _ => rfl)
      · exact (fun h => f1 (up h rfl))
      · exact (fun h => f2 (up h rfl))
      · exact (fun h => f3 (up h rfl))
      · exact (fun h => f4 (up h rfl))
      · exact (fun h => f5 (up h rfl))
      · exact (fun h => f6 (up h rfl))
      · exact (fun h => f7 (up h rfl))
      · exact (fun h => f8 (up h rfl))
      · exact (fun h => f9 (up h rfl))
      · exact (fun h => f10 (up h rfl))
      · exact (fun h => f11 (up h rfl))
      · exact (fun h => f12 (up h rfl))
      · exact (fun h => f13 (up h rfl))
      · exact (fun h => f14 (up h rfl))
      · exact (fun h => f15 (up h rfl))
      · exact (fun h => f16 (up h rfl))
      · exact (fun h => f17 (up h rfl))
      · exact (fun h => f18 (up h rfl))
      · exact (fun h => f20 (up h rfl))
      · exact (fun h => f22 (up h rfl))
      · exact (fun h => f24 (up h rfl))
      · exact (fun h => f26 (up h rfl))
      · exact (fun h => f28 (up h rfl))
      · exact g0
      · exact ⟨_, _, _, _, _, _, e0, e1, e2, (fun h => p0 (dn h)), (fun h => ⟨(r0 (up h rfl)).1, upl (r0 (up h rfl)).2⟩), (fun h => upl (t0 (up h rfl))), (fun h => p1 (dn h)), (fun h => ⟨(r1 (up h rfl)).1, upl (r1 (up h rfl)).2⟩), (fun h => upl (t1 (up h rfl))), (fun h => p2 (dn h)), (fun h => ⟨(r2 (up h rfl)).1, upl (r2 (up h rfl)).2⟩), (fun h => upl (t2 (up h rfl))), (fun h => p3 (dn h)), (fun h => ⟨(r3 (up h rfl)).1, upl (r3 (up h rfl)).2⟩), (fun h => upl (t3 (up h rfl))), (fun h => p4 (dn h)), (fun h => ⟨(r4 (up h rfl)).1, upl (r4 (up h rfl)).2⟩), (fun h => upl (t4 (up h rfl))), (fun h => p5 (dn h)), (fun h => ⟨(r5 (up h rfl)).1, upl (r5 (up h rfl)).2⟩), (fun h => upl (t5 (up h rfl)))⟩
    · unfold StepOk
      rintro d act x ⟨u12, u13, u14, u15, u16, u17, u18, u19, u20, u21, u22, u23, u24, u25, u26, u27, u28, u29, u30, u31, u32, u33, u34, u35, rfl, f0, f1, f2, f3, f4, f5, f6, f7, f8, f9, f10, f11, f12, f13, f14, f15, f16, f17, f18, f20, f22, f24, f26, f28, g0, g1⟩ hd hdep Kc hKc
      have hd0 : d 0 = true := hdep ⟨0, .data⟩ (by simp) rfl
      obtain rfl := f0 hd0
      obtain ⟨y0, y1, y2, y3, y4, y5, e0, e1, e2, p0, r0, t0, p1, r1, t1, p2, r2, t2, p3, r3, t3, p4, r4, t4, p5, r5, t5⟩ := g1
      have hy : y0 = .int .i64 t := by
        cases hs : d 19 with
        | false => exact p0 hs
        | true => have h2 := t0 (r0 hs).2; rw [hd] at h2; cases h2
      subst hy
      have hbc := blk_cell e0
      rw [if_pos (by rfl)]
      go_big_op
      refine hKc _ _ ⟨_, _, _, _, _, _, _, _, _, _, _, _, _, _, _, _, _, _, _, _, _, _, _, _, rfl, ?_, ?_, ?_, ?_, ?_, ?_, ?_, ?_, ?_, ?_, ?_, ?_, ?_, ?_, ?_, ?_, ?_, ?_, ?_, ?_, ?_, ?_, ?_, ?_, ?_, ?_⟩
      · exact (fun h => f0 (up h rfl))
      · exact (fun _ => rfl)
      · exact (fun h => f2 (up h rfl))
      · exact (fun h => f3 (up h rfl))
      · exact (fun h => f4 (up h rfl))
      · exact (fun h => f5 (up h rfl))
      · exact (fun h => f6 (up h rfl))
      · exact (fun h => f7 (up h rfl))
      · exact (fun h => f8 (up h rfl))
      · exact (fun h => f9 (up h rfl))
      · exact (fun h => f10 (up h rfl))
      · exact (fun h => f11 (up h rfl))
      · exact (fun h => f12 (up h rfl))
      · exact (fun h => f13 (up h rfl))
      · exact (fun h => f14 (up h rfl))
      · exact (fun h => f15 (up h rfl))
      · exact (fun h => f16 (up h rfl))
      · exact (fun h => f17 (up h rfl))
      · exact (fun h => f18 (up h rfl))
      · exact (fun h => f20 (up h rfl))
      · exact (fun h => f22 (up h rfl))
      · exact (fun h => f24 (up h rfl))
      · exact (fun h => f26 (up h rfl))
      · exact (fun h => f28 (up h rfl))
      · exact g0
      · exact ⟨_, _, _, _, _, _, e0, e1, e2, (fun h => p0 (dn h)), (fun h => ⟨(r0 (up h rfl)).1, upl (r0 (up h rfl)).2⟩), (fun _ => by simp), (fun h => p1 (dn h)), (fun h => ⟨(r1 (up h rfl)).1, upl (r1 (up h rfl)).2⟩), (fun h => upl (t1 (up h rfl))), (fun h => p2 (dn h)), (fun h => ⟨(r2 (up h rfl)).1, upl (r2 (up h rfl)).2⟩), (fun h => upl (t2 (up h rfl))), (fun h => p3 (dn h)), (fun h => ⟨(r3 (up h rfl)).1, upl (r3 (up h rfl)).2⟩), (fun h => upl (t3 (up h rfl))), (fun h => p4 (dn h)), (fun h => ⟨(r4 (up h rfl)).1, upl (r4 (up h rfl)).2⟩), (fun h => upl (t4 (up h rfl))), (fun h => p5 (dn h)), (fun h => ⟨(r5 (up h rfl)).1, upl (r5 (up h rfl)).2⟩), (fun h => upl (t5 (up h rfl)))⟩
    · unfold StepOk
      rintro d act x ⟨u12, u13, u14, u15, u16, u17, u18, u19, u20, u21, u22, u23, u24, u25, u26, u27, u28, u29, u30, u31, u32, u33, u34, u35, rfl, f0, f1, f2, f3, f4, f5, f6, f7, f8, f9, f10, f11, f12, f13, f14, f15, f16, f17, f18, f20, f22, f24, f26, f28, g0, g1⟩ hd hdep Kc hKc
      have hd1 : d 1 = true := hdep ⟨1, .data⟩ (by simp) rfl
      obtain rfl := f1 hd1
      obtain ⟨y0, y1, y2, y3, y4, y5, e0, e1, e2, p0, r0, t0, p1, r1, t1, p2, r2, t2, p3, r3, t3, p4, r4, t4, p5, r5, t5⟩ := g1
      rw [if_pos (by rfl)]
      go_big_op
      refine hKc _ _ ⟨_, _, _, _, _, _, _, _, _, _, _, _, _, _, _, _, _, _, _, _, _, _, _, _, rfl, ?_, ?_, ?_, ?_, ?_, ?_, ?_, ?_, ?_, ?_, ?_, ?_, ?_, ?_, ?_, ?_, ?_, ?_, ?_, ?_, ?_, ?_, ?_, ?_, ?_, ?_⟩
      · exact (fun h => f0 (up h rfl))
      · exact (fun h => f1 (up h rfl))
      · exact (fun _ => rfl)
      · exact (fun h => f3 (up h rfl))
      · exact (fun h => f4 (up h rfl))
      · exact (fun h => f5 (up h rfl))
      · exact (fun h => f6 (up h rfl))
      · exact (fun h => f7 (up h rfl))
      · exact (fun h => f8 (up h rfl))
      · exact (fun h => f9 (up h rfl))
      · exact (fun h => f10 (up h rfl))
      · exact (fun h => f11 (up h rfl))
      · exact (fun h => f12 (up h rfl))
      · exact (fun h => f13 (up h rfl))
      · exact (fun h => f14 (up h rfl))
      · exact (fun h => f15 (up h rfl))
      · exact (fun h => f16 (up h rfl))
      · exact (fun h => f17 (up h rfl))
      · exact (fun h => f18 (up h rfl))
      · exact (fun h => f20 (up h rfl))
      · exact (fun h => f22 (up h rfl))
      · exact (fun h => f24 (up h rfl))
      · exact (fun h => f26 (up h rfl))
      · exact (fun h => f28 (up h rfl))
      · exact g0
      · exact ⟨_, _, _, _, _, _, e0, e1, e2, (fun h => p0 (dn h)), (fun h => ⟨(r0 (up h rfl)).1, by simp⟩), (fun _ => upl hd1), (fun h => p1 (dn h)), (fun h => ⟨(r1 (up h rfl)).1, upl (r1 (up h rfl)).2⟩), (fun h => upl (t1 (up h rfl))), (fun h => p2 (dn h)), (fun h => ⟨(r2 (up h rfl)).1, upl (r2 (up h rfl)).2⟩), (fun h => upl (t2 (up h rfl))), (fun h => p3 (dn h)), (fun h => ⟨(r3 (up h rfl)).1, upl (r3 (up h rfl)).2⟩), (fun h => upl (t3 (up h rfl))), (fun h => p4 (dn h)), (fun h => ⟨(r4 (up h rfl)).1, upl (r4 (up h rfl)).2⟩), (fun h => upl (t4 (up h rfl))), (fun h => p5 (dn h)), (fun h => ⟨(r5 (up h rfl)).1, upl (r5 (up h rfl)).2⟩), (fun h => upl (t5 (up h rfl)))⟩
    · unfold StepOk
      rintro d act x ⟨u12, u13, u14, u15, u16, u17, u18, u19, u20, u21, u22, u23, u24, u25, u26, u27, u28, u29, u30, u31, u32, u33, u34, u35, rfl, f0, f1, f2, f3, f4, f5, f6, f7, f8, f9, f10, f11, f12, f13, f14, f15, f16, f17, f18, f20, f22, f24, f26, f28, g0, g1⟩ hd hdep Kc hKc
      obtain ⟨y0, y1, y2, y3, y4, y5, e0, e1, e2, p0, r0, t0, p1, r1, t1, p2, r2, t2, p3, r3, t3, p4, r4, t4, p5, r5, t5⟩ := g1
      rw [if_pos (by rfl)]
      go_big_op
      refine hKc _ _ ⟨_, _, _, _, _, _, _, _, _, _, _, _, _, _, _, _, _, _, _, _, _, _, _, _, rfl, ?_, ?_, ?_, ?_, ?_, ?_, ?_, ?_, ?_, ?_, ?_, ?_, ?_, ?_, ?_, ?_, ?_, ?_, ?_, ?_, ?_, ?_, ?_, ?_, ?_, ?_⟩
      · exact (fun h => f0 (up h rfl))
      · exact (fun h => f1 (up h rfl))
      · exact (fun h => f2 (up h rfl))
      · exact (fun _ => rfl)
      · exact (fun h => f4 (up h rfl))
      · exact (fun h => f5 (up h rfl))
      · exact (fun h => f6 (up h rfl))
      · exact (fun h => f7 (up h rfl))
      · exact (fun h => f8 (up h rfl))
      · exact (fun h => f9 (up h rfl))
      · exact (fun h => f10 (up h rfl))
      · exact (fun h => f11 (up h rfl))
      · exact (fun h => f12 (up h rfl))
      · exact (fun h => f13 (up h rfl))
      · exact (fun h => f14 (up h rfl))
      · exact (fun h => f15 (up h rfl))
      · exact (fun h => f16 (up h rfl))
      · exact (fun h => f17 (up h rfl))
      · exact (fun h => f18 (up h rfl))
      · exact (fun h => f20 (up h rfl))
      · exact (fun h => f22 (up h rfl))
      · exact (fun h => f24 (up h rfl))
      · exact (fun h => f26 (up h rfl))
      · exact (fun h => f28 (up h rfl))
      · exact g0
      · exact ⟨_, _, _, _, _, _, e0, e1, e2, (fun h => p0 (dn h)), (fun h => ⟨(r0 (up h rfl)).1, upl (r0 (up h rfl)).2⟩), (fun h => upl (t0 (up h rfl))), (fun h => p1 (dn h)), (fun h => ⟨(r1 (up h rfl)).1, upl (r1 (up h rfl)).2⟩), (fun h => upl (t1 (up h rfl))), (fun h => p2 (dn h)), (fun h => ⟨(r2 (up h rfl)).1, upl (r2 (up h rfl)).2⟩), (fun h => upl (t2 (up h rfl))), (fun h => p3 (dn h)), (fun h => ⟨(r3 (up h rfl)).1, upl (r3 (up h rfl)).2⟩), (fun h => upl (t3 (up h rfl))), (fun h => p4 (dn h)), (fun h => ⟨(r4 (up h rfl)).1, upl (r4 (up h rfl)).2⟩), (fun h => upl (t4 (up h rfl))), (fun h => p5 (dn h)), (fun h => ⟨(r5 (up h rfl)).1, upl (r5 (up h rfl)).2⟩), (fun h => upl (t5 (up h rfl)))⟩
    · unfold StepOk
      rintro d act x ⟨u12, u13, u14, u15, u16, u17, u18, u19, u20, u21, u22, u23, u24, u25, u26, u27, u28, u29, u30, u31, u32, u33, u34, u35, rfl, f0, f1, f2, f3, f4, f5, f6, f7, f8, f9, f10, f11, f12, f13, f14, f15, f16, f17, f18, f20, f22, f24, f26, f28, g0, g1⟩ hd hdep Kc hKc
      have hd3 : d 3 = true := hdep ⟨3, .data⟩ (by simp) rfl
      obtain rfl := f3 hd3
      obtain ⟨y0, y1, y2, y3, y4, y5, e0, e1, e2, p0, r0, t0, p1, r1, t1, p2, r2, t2, p3, r3, t3, p4, r4, t4, p5, r5, t5⟩ := g1
      have hy : y1 = .int .i64 n := by
        cases hs : d 21 with
        | false => exact p1 hs
        | true => have h2 := t1 (r1 hs).2; rw [hd] at h2; cases h2
      subst hy
      have hbc := blk_cell e0
      rw [if_pos (by rfl)]
      go_big_op
      refine hKc _ _ ⟨_, _, _, _, _, _, _, _, _, _, _, _, _, _, _, _, _, _, _, _, _, _, _, _, rfl, ?_, ?_, ?_, ?_, ?_, ?_, ?_, ?_, ?_, ?_, ?_, ?_, ?_, ?_, ?_, ?_, ?_, ?_, ?_, ?_, ?_, ?_, ?_, ?_, ?_, ?_⟩
      · exact (fun h => f0 (up h rfl))
      · exact (fun h => f1 (up h rfl))
      · exact (fun h => f2 (up h rfl))
      · exact (fun h => f3 (up h rfl))
      · exact (fun _ => rfl)
      · exact (fun h => f5 (up h rfl))
      · exact (fun h => f6 (up h rfl))
      · exact (fun h => f7 (up h rfl))
      · exact (fun h => f8 (up h rfl))
      · exact (fun h => f9 (up h rfl))
      · exact (fun h => f10 (up h rfl))
      · exact (fun h => f11 (up h rfl))
      · exact (fun h => f12 (up h rfl))
      · exact (fun h => f13 (up h rfl))
      · exact (fun h => f14 (up h rfl))
      · exact (fun h => f15 (up h rfl))
      · exact (fun h => f16 (up h rfl))
      · exact (fun h => f17 (up h rfl))
      · exact (fun h => f18 (up h rfl))
      · exact (fun h => f20 (up h rfl))
      · exact (fun h => f22 (up h rfl))
      · exact (fun h => f24 (up h rfl))
      · exact (fun h => f26 (up h rfl))
      · exact (fun h => f28 (up h rfl))
      · exact g0
      · exact ⟨_, _, _, _, _, _, e0, e1, e2, (fun h => p0 (dn h)), (fun h => ⟨(r0 (up h rfl)).1, upl (r0 (up h rfl)).2⟩), (fun h => upl (t0 (up h rfl))), (fun h => p1 (dn h)), (fun h => ⟨(r1 (up h rfl)).1, upl (r1 (up h rfl)).2⟩), (fun _ => by simp), (fun h => p2 (dn h)), (fun h => ⟨(r2 (up h rfl)).1, upl (r2 (up h rfl)).2⟩), (fun h => upl (t2 (up h rfl))), (fun h => p3 (dn h)), (fun h => ⟨(r3 (up h rfl)).1, upl (r3 (up h rfl)).2⟩), (fun h => upl (t3 (up h rfl))), (fun h => p4 (dn h)), (fun h => ⟨(r4 (up h rfl)).1, upl (r4 (up h rfl)).2⟩), (fun h => upl (t4 (up h rfl))), (fun h => p5 (dn h)), (fun h => ⟨(r5 (up h rfl)).1, upl (r5 (up h rfl)).2⟩), (fun h => upl (t5 (up h rfl)))⟩
    · unfold StepOk
      rintro d act x ⟨u12, u13, u14, u15, u16, u17, u18, u19, u20, u21, u22, u23, u24, u25, u26, u27, u28, u29, u30, u31, u32, u33, u34, u35, rfl, f0, f1, f2, f3, f4, f5, f6, f7, f8, f9, f10, f11, f12, f13, f14, f15, f16, f17, f18, f20, f22, f24, f26, f28, g0, g1⟩ hd hdep Kc hKc
      have hd4 : d 4 = true := hdep ⟨4, .data⟩ (by simp) rfl
      obtain rfl := f4 hd4
      obtain ⟨y0, y1, y2, y3, y4, y5, e0, e1, e2, p0, r0, t0, p1, r1, t1, p2, r2, t2, p3, r3, t3, p4, r4, t4, p5, r5, t5⟩ := g1
      rw [if_pos (by rfl)]
      go_big_op
      refine hKc _ _ ⟨_, _, _, _, _, _, _, _, _, _, _, _, _, _, _, _, _, _, _, _, _, _, _, _, rfl, ?_, ?_, ?_, ?_, ?_, ?_, ?_, ?_, ?_, ?_, ?_, ?_, ?_, ?_, ?_, ?_, ?_, ?_, ?_, ?_, ?_, ?_, ?_, ?_, ?_, ?_⟩
      · exact (fun h => f0 (up h rfl))
      · exact (fun h => f1 (up h rfl))
      · exact (fun h => f2 (up h rfl))
      · exact (fun h => f3 (up h rfl))
      · exact (fun h => f4 (up h rfl))
      · exact (fun _ => rfl)
      · exact (fun h => f6 (up h rfl))
      · exact (fun h => f7 (up h rfl))
      · exact (fun h => f8 (up h rfl))
      · exact (fun h => f9 (up h rfl))
      · exact (fun h => f10 (up h rfl))
      · exact (fun h => f11 (up h rfl))
      · exact (fun h => f12 (up h rfl))
      · exact (fun h => f13 (up h rfl))
      · exact (fun h => f14 (up h rfl))
      · exact (fun h => f15 (up h rfl))
      · exact (fun h => f16 (up h rfl))
      · exact (fun h => f17 (up h rfl))
      · exact (fun h => f18 (up h rfl))
      · exact (fun h => f20 (up h rfl))
      · exact (fun h => f22 (up h rfl))
      · exact (fun h => f24 (up h rfl))
      · exact (fun h => f26 (up h rfl))
      · exact (fun h => f28 (up h rfl))
      · exact g0
      · exact ⟨_, _, _, _, _, _, e0, e1, e2, (fun h => p0 (dn h)), (fun h => ⟨(r0 (up h rfl)).1, upl (r0 (up h rfl)).2⟩), (fun h => upl (t0 (up h rfl))), (fun h => p1 (dn h)), (fun h => ⟨(r1 (up h rfl)).1, by simp⟩), (fun _ => upl hd4), (fun h => p2 (dn h)), (fun h => ⟨(r2 (up h rfl)).1, upl (r2 (up h rfl)).2⟩), (fun h => upl (t2 (up h rfl))), (fun h => p3 (dn h)), (fun h => ⟨(r3 (up h rfl)).1, upl (r3 (up h rfl)).2⟩), (fun h => upl (t3 (up h rfl))), (fun h => p4 (dn h)), (fun h => ⟨(r4 (up h rfl)).1, upl (r4 (up h rfl)).2⟩), (fun h => upl (t4 (up h rfl))), (fun h => p5 (dn h)), (fun h => ⟨(r5 (up h rfl)).1, upl (r5 (up h rfl)).2⟩), (fun h => upl (t5 (up h rfl)))⟩
    · unfold StepOk
      rintro d act x ⟨u12, u13, u14, u15, u16, u17, u18, u19, u20, u21, u22, u23, u24, u25, u26, u27, u28, u29, u30, u31, u32, u33, u34, u35, rfl, f0, f1, f2, f3, f4, f5, f6, f7, f8, f9, f10, f11, f12, f13, f14, f15, f16, f17, f18, f20, f22, f24, f26, f28, g0, g1⟩ hd hdep Kc hKc
      obtain ⟨y0, y1, y2, y3, y4, y5, e0, e1, e2, p0, r0, t0, p1, r1, t1, p2, r2, t2, p3, r3, t3, p4, r4, t4, p5, r5, t5⟩ := g1
      rw [if_pos (by rfl)]
      go_big_op
      refine hKc _ _ ⟨_, _, _, _, _, _, _, _, _, _, _, _, _, _, _, _, _, _, _, _, _, _, _, _, rfl, ?_, ?_, ?_, ?_, ?_, ?_, ?_, ?_, ?_, ?_, ?_, ?_, ?_, ?_, ?_, ?_, ?_, ?_, ?_, ?_, ?_, ?_, ?_, ?_, ?_, ?_⟩
      · exact (fun h => f0 (up h rfl))
      · exact (fun h => f1 (up h rfl))
      · exact (fun h => f2 (up h rfl))
      · exact (fun h => f3 (up h rfl))
      · exact (fun h => f4 (up h rfl))
      · exact (fun h => f5 (up h rfl))
      · exact (fun _ => rfl)
      · exact (fun h => f7 (up h rfl))
      · exact (fun h => f8 (up h rfl))
      · exact (fun h => f9 (up h rfl))
      · exact (fun h => f10 (up h rfl))
      · exact (fun h => f11 (up h rfl))
      · exact (fun h => f12 (up h rfl))
      · exact (fun h => f13 (up h rfl))
      · exact (fun h => f14 (up h rfl))
      · exact (fun h => f15 (up h rfl))
      · exact (fun h => f16 (up h rfl))
      · exact (fun h => f17 (up h rfl))
      · exact (fun h => f18 (up h rfl))
      · exact (fun h => f20 (up h rfl))
      · exact (fun h => f22 (up h rfl))
      · exact (fun h => f24 (up h rfl))
      · exact (fun h => f26 (up h rfl))
      · exact (fun h => f28 (up h rfl))
      · exact g0
      · exact ⟨_, _, _, _, _, _, e0, e1, e2, (fun h => p0 (dn h)), (fun h => ⟨(r0 (up h rfl)).1, upl (r0 (up h rfl)).2⟩), (fun h => upl (t0 (up h rfl))), (fun h => p1 (dn h)), (fun h => ⟨(r1 (up h rfl)).1, upl (r1 (up h rfl)).2⟩), (fun h => upl (t1 (up h rfl))), (fun h => p2 (dn h)), (fun h => ⟨(r2 (up h rfl)).1, upl (r2 (up h rfl)).2⟩), (fun h => upl (t2 (up h rfl))), (fun h => p3 (dn h)), (fun h => ⟨(r3 (up h rfl)).1, upl (r3 (up h rfl)).2⟩), (fun h => upl (t3 (up h rfl))), (fun h => p4 (dn h)), (fun h => ⟨(r4 (up h rfl)).1, upl (r4 (up h rfl)).2⟩), (fun h => upl (t4 (up h rfl))), (fun h => p5 (dn h)), (fun h => ⟨(r5 (up h rfl)).1, upl (r5 (up h rfl)).2⟩), (fun h => upl (t5 (up h rfl)))⟩
    · unfold StepOk
      rintro d act x ⟨u12, u13, u14, u15, u16, u17, u18, u19, u20, u21, u22, u23, u24, u25, u26, u27, u28, u29, u30, u31, u32, u33, u34, u35, rfl, f0, f1, f2, f3, f4, f5, f6, f7, f8, f9, f10, f11, f12, f13, f14, f15, f16, f17, f18, f20, f22, f24, f26, f28, g0, g1⟩ hd hdep Kc hKc
      have hd6 : d 6 = true := hdep ⟨6, .data⟩ (by simp) rfl
      obtain rfl := f6 hd6
      obtain ⟨y0, y1, y2, y3, y4, y5, e0, e1, e2, p0, r0, t0, p1, r1, t1, p2, r2, t2, p3, r3, t3, p4, r4, t4, p5, r5, t5⟩ := g1
      have hy : y2 = .int .i64 t' := by
        cases hs : d 23 with
        | false => exact p2 hs
        | true => have h2 := t2 (r2 hs).2; rw [hd] at h2; cases h2
      subst hy
      have hbc := blk_cell e1
      rw [if_pos (by rfl)]
      go_big_op
      refine hKc _ _ ⟨_, _, _, _, _, _, _, _, _, _, _, _, _, _, _, _, _, _, _, _, _, _, _, _, rfl, ?_, ?_, ?_, ?_, ?_, ?_, ?_, ?_, ?_, ?_, ?_, ?_, ?_, ?_, ?_, ?_, ?_, ?_, ?_, ?_, ?_, ?_, ?_, ?_, ?_, ?_⟩
      · exact (fun h => f0 (up h rfl))
      · exact (fun h => f1 (up h rfl))
      · exact (fun h => f2 (up h rfl))
      · exact (fun h => f3 (up h rfl))
      · exact (fun h => f4 (up h rfl))
      · exact (fun h => f5 (up h rfl))
      · exact (fun h => f6 (up h rfl))
      · exact (fun _ => rfl)
      · exact (fun h => f8 (up h rfl))
      · exact (fun h => f9 (up h rfl))
      · exact (fun h => f10 (up h rfl))
      · exact (fun h => f11 (up h rfl))
      · exact (fun h => f12 (up h rfl))
      · exact (fun h => f13 (up h rfl))
      · exact (fun h => f14 (up h rfl))
      · exact (fun h => f15 (up h rfl))
      · exact (fun h => f16 (up h rfl))
      · exact (fun h => f17 (up h rfl))
      · exact (fun h => f18 (up h rfl))
      · exact (fun h => f20 (up h rfl))
      · exact (fun h => f22 (up h rfl))
      · exact (fun h => f24 (up h rfl))
      · exact (fun h => f26 (up h rfl))
      · exact (fun h => f28 (up h rfl))
      · exact g0
      · exact ⟨_, _, _, _, _, _, e0, e1, e2, (fun h => p0 (dn h)), (fun h => ⟨(r0 (up h rfl)).1, upl (r0 (up h rfl)).2⟩), (fun h => upl (t0 (up h rfl))), (fun h => p1 (dn h)), (fun h => ⟨(r1 (up h rfl)).1, upl (r1 (up h rfl)).2⟩), (fun h => upl (t1 (up h rfl))), (fun h => p2 (dn h)), (fun h => ⟨(r2 (up h rfl)).1, upl (r2 (up h rfl)).2⟩), (fun _ => by simp), (fun h => p3 (dn h)), (fun h => ⟨(r3 (up h rfl)).1, upl (r3 (up h rfl)).2⟩), (fun h => upl (t3 (up h rfl))), (fun h => p4 (dn h)), (fun h => ⟨(r4 (up h rfl)).1, upl (r4 (up h rfl)).2⟩), (fun h => upl (t4 (up h rfl))), (fun h => p5 (dn h)), (fun h => ⟨(r5 (up h rfl)).1, upl (r5 (up h rfl)).2⟩), (fun h => upl (t5 (up h rfl)))⟩
    · unfold StepOk
      rintro d act x ⟨u12, u13, u14, u15, u16, u17, u18, u19, u20, u21, u22, u23, u24, u25, u26, u27, u28, u29, u30, u31, u32, u33, u34, u35, rfl, f0, f1, f2, f3, f4, f5, f6, f7, f8, f9, f10, f11, f12, f13, f14, f15, f16, f17, f18, f20, f22, f24, f26, f28, g0, g1⟩ hd hdep Kc hKc
      have hd7 : d 7 = true := hdep ⟨7, .data⟩ (by simp) rfl
      obtain rfl := f7 hd7
      obtain ⟨y0, y1, y2, y3, y4, y5, e0, e1, e2, p0, r0, t0, p1, r1, t1, p2, r2, t2, p3, r3, t3, p4, r4, t4, p5, r5, t5⟩ := g1
      rw [if_pos (by rfl)]
      go_big_op
      refine hKc _ _ ⟨_, _, _, _, _, _, _, _, _, _, _, _, _, _, _, _, _, _, _, _, _, _, _, _, rfl, ?_, ?_, ?_, ?_, ?_, ?_, ?_, ?_, ?_, ?_, ?_, ?_, ?_, ?_, ?_, ?_, ?_, ?_, ?_, ?_, ?_, ?_, ?_, ?_, ?_, ?_⟩
      · exact (fun h => f0 (up h rfl))
      · exact (fun h => f1 (up h rfl))
      · exact (fun h => f2 (up h rfl))
      · exact (fun h => f3 (up h rfl))
      · exact (fun h => f4 (up h rfl))
      · exact (fun h => f5 (up h rfl))
      · exact (fun h => f6 (up h rfl))
      · exact (fun h => f7 (up h rfl))
      · exact (fun _ => rfl)
      · exact (fun h => f9 (up h rfl))
      · exact (fun h => f10 (up h rfl))
      · exact (fun h => f11 (up h rfl))
      · exact (fun h => f12 (up h rfl))
      · exact (fun h => f13 (up h rfl))
      · exact (fun h => f14 (up h rfl))
      · exact (fun h => f15 (up h rfl))
      · exact (fun h => f16 (up h rfl))
      · exact (fun h => f17 (up h rfl))
      · exact (fun h => f18 (up h rfl))
      · exact (fun h => f20 (up h rfl))
      · exact (fun h => f22 (up h rfl))
      · exact (fun h => f24 (up h rfl))
      · exact (fun h => f26 (up h rfl))
      · exact (fun h => f28 (up h rfl))
      · exact g0
      · exact ⟨_, _, _, _, _, _, e0, e1, e2, (fun h => p0 (dn h)), (fun h => ⟨(r0 (up h rfl)).1, upl (r0 (up h rfl)).2⟩), (fun h => upl (t0 (up h rfl))), (fun h => p1 (dn h)), (fun h => ⟨(r1 (up h rfl)).1, upl (r1 (up h rfl)).2⟩), (fun h => upl (t1 (up h rfl))), (fun h => p2 (dn h)), (fun h => ⟨(r2 (up h rfl)).1, by simp⟩), (fun _ => upl hd7), (fun h => p3 (dn h)), (fun h => ⟨(r3 (up h rfl)).1, upl (r3 (up h rfl)).2⟩), (fun h => upl (t3 (up h rfl))), (fun h => p4 (dn h)), (fun h => ⟨(r4 (up h rfl)).1, upl (r4 (up h rfl)).2⟩), (fun h => upl (t4 (up h rfl))), (fun h => p5 (dn h)), (fun h => ⟨(r5 (up h rfl)).1, upl (r5 (up h rfl)).2⟩), (fun h => upl (t5 (up h rfl)))⟩
    · unfold StepOk
      rintro d act x ⟨u12, u13, u14, u15, u16, u17, u18, u19, u20, u21, u22, u23, u24, u25, u26, u27, u28, u29, u30, u31, u32, u33, u34, u35, rfl, f0, f1, f2, f3, f4, f5, f6, f7, f8, f9, f10, f11, f12, f13, f14, f15, f16, f17, f18, f20, f22, f24, f26, f28, g0, g1⟩ hd hdep Kc hKc
      obtain ⟨y0, y1, y2, y3, y4, y5, e0, e1, e2, p0, r0, t0, p1, r1, t1, p2, r2, t2, p3, r3, t3, p4, r4, t4, p5, r5, t5⟩ := g1
      rw [if_pos (by rfl)]
      go_big_op
      refine hKc _ _ ⟨_, _, _, _, _, _, _, _, _, _, _, _, _, _, _, _, _, _, _, _, _, _, _, _, rfl, ?_, ?_, ?_, ?_, ?_, ?_, ?_, ?_, ?_, ?_, ?_, ?_, ?_, ?_, ?_, ?_, ?_, ?_, ?_, ?_, ?_, ?_, ?_, ?_, ?_, ?_⟩
      · exact (fun h => f0 (up h rfl))
      · exact (fun h => f1 (up h rfl))
      · exact (fun h => f2 (up h rfl))
      · exact (fun h => f3 (up h rfl))
      · exact (fun h => f4 (up h rfl))
      · exact (fun h => f5 (up h rfl))
      · exact (fun h => f6 (up h rfl))
      · exact (fun h => f7 (up h rfl))
      · exact (fun h => f8 (up h rfl))
      · exact (fun _ => rfl)
      · exact (fun h => f10 (up h rfl))
      · exact (fun h => f11 (up h rfl))
      · exact (fun h => f12 (up h rfl))
      · exact (fun h => f13 (up h rfl))
      · exact (fun h => f14 (up h rfl))
      · exact (fun h => f15 (up h rfl))
      · exact (fun h => f16 (up h rfl))
      · exact (fun h => f17 (up h rfl))
      · exact (fun h => f18 (up h rfl))
      · exact (fun h => f20 (up h rfl))
      · exact (fun h => f22 (up h rfl))
      · exact (fun h => f24 (up h rfl))
      · exact (fun h => f26 (up h rfl))
      · exact (fun h => f28 (up h rfl))
      · exact g0
      · exact ⟨_, _, _, _, _, _, e0, e1, e2, (fun h => p0 (dn h)), (fun h => ⟨(r0 (up h rfl)).1, upl (r0 (up h rfl)).2⟩), (fun h => upl (t0 (up h rfl))), (fun h => p1 (dn h)), (fun h => ⟨(r1 (up h rfl)).1, upl (r1 (up h rfl)).2⟩), (fun h => upl (t1 (up h rfl))), (fun h => p2 (dn h)), (fun h => ⟨(r2 (up h rfl)).1, upl (r2 (up h rfl)).2⟩), (fun h => upl (t2 (up h rfl))), (fun h => p3 (dn h)), (fun h => ⟨(r3 (up h rfl)).1, upl (r3 (up h rfl)).2⟩), (fun h => upl (t3 (up h rfl))), (fun h => p4 (dn h)), (fun h => ⟨(r4 (up h rfl)).1, upl (r4 (up h rfl)).2⟩), (fun h => upl (t4 (up h rfl))), (fun h => p5 (dn h)), (fun h => ⟨(r5 (up h rfl)).1, upl (r5 (up h rfl)).2⟩), (fun h => upl (t5 (up h rfl)))⟩
    · unfold StepOk
      rintro d act x ⟨u12, u13, u14, u15, u16, u17, u18, u19, u20, u21, u22, u23, u24, u25, u26, u27, u28, u29, u30, u31, u32, u33, u34, u35, rfl, f0, f1, f2, f3, f4, f5, f6, f7, f8, f9, f10, f11, f12, f13, f14, f15, f16, f17, f18, f20, f22, f24, f26, f28, g0, g1⟩ hd hdep Kc hKc
      have hd9 : d 9 = true := hdep ⟨9, .data⟩ (by simp) rfl
      obtain rfl := f9 hd9
      obtain ⟨y0, y1, y2, y3, y4, y5, e0, e1, e2, p0, r0, t0, p1, r1, t1, p2, r2, t2, p3, r3, t3, p4, r4, t4, p5, r5, t5⟩ := g1
      have hy : y3 = .int .i64 n' := by
        cases hs : d 25 with
        | false => exact p3 hs
        | true => have h2 := t3 (r3 hs).2; rw [hd] at h2; cases h2
      subst hy
      have hbc := blk_cell e1
      rw [if_pos (by rfl)]
      go_big_op
      refine hKc _ _ ⟨_, _, _, _, _, _, _, _, _, _, _, _, _, _, _, _, _, _, _, _, _, _, _, _, rfl, ?_, ?_, ?_, ?_, ?_, ?_, ?_, ?_, ?_, ?_, ?_, ?_, ?_, ?_, ?_, ?_, ?_, ?_, ?_, ?_, ?_, ?_, ?_, ?_, ?_, ?_⟩
      · exact (fun h => f0 (up h rfl))
      · exact (fun h => f1 (up h rfl))
      · exact (fun h => f2 (up h rfl))
      · exact (fun h => f3 (up h rfl))
      · exact (fun h => f4 (up h rfl))
      · exact (fun h => f5 (up h rfl))
      · exact (fun h => f6 (up h rfl))
      · exact (fun h => f7 (up h rfl))
      · exact (fun h => f8 (up h rfl))
      · exact (fun h => f9 (up h rfl))
      · exact (fun _ => rfl)
      · exact (fun h => f11 (up h rfl))
      · exact (fun h => f12 (up h rfl))
      · exact (fun h => f13 (up h rfl))
      · exact (fun h => f14 (up h rfl))
      · exact (fun h => f15 (up h rfl))
      · exact (fun h => f16 (up h rfl))
      · exact (fun h => f17 (up h rfl))
      · exact (fun h => f18 (up h rfl))
      · exact (fun h => f20 (up h rfl))
      · exact (fun h => f22 (up h rfl))
      · exact (fun h => f24 (up h rfl))
      · exact (fun h => f26 (up h rfl))
      · exact (fun h => f28 (up h rfl))
      · exact g0
      · exact ⟨_, _, _, _, _, _, e0, e1, e2, (fun h => p0 (dn h)), (fun h => ⟨(r0 (up h rfl)).1, upl (r0 (up h rfl)).2⟩), (fun h => upl (t0 (up h rfl))), (fun h => p1 (dn h)), (fun h => ⟨(r1 (up h rfl)).1, upl (r1 (up h rfl)).2⟩), (fun h => upl (t1 (up h rfl))), (fun h => p2 (dn h)), (fun h => ⟨(r2 (up h rfl)).1, upl (r2 (up h rfl)).2⟩), (fun h => upl (t2 (up h rfl))), (fun h => p3 (dn h)), (fun h => ⟨(r3 (up h rfl)).1, upl (r3 (up h rfl)).2⟩), (fun _ => by simp), (fun h => p4 (dn h)), (fun h => ⟨(r4 (up h rfl)).1, upl (r4 (up h rfl)).2⟩), (fun h => upl (t4 (up h rfl))), (fun h => p5 (dn h)), (fun h => ⟨(r5 (up h rfl)).1, upl (r5 (up h rfl)).2⟩), (fun h => upl (t5 (up h rfl)))⟩
    · unfold StepOk
      rintro d act x ⟨u12, u13, u14, u15, u16, u17, u18, u19, u20, u21, u22, u23, u24, u25, u26, u27, u28, u29, u30, u31, u32, u33, u34, u35, rfl, f0, f1, f2, f3, f4, f5, f6, f7, f8, f9, f10, f11, f12, f13, f14, f15, f16, f17, f18, f20, f22, f24, f26, f28, g0, g1⟩ hd hdep Kc hKc
      have hd10 : d 10 = true := hdep ⟨10, .data⟩ (by simp) rfl
      obtain rfl := f10 hd10
      obtain ⟨y0, y1, y2, y3, y4, y5, e0, e1, e2, p0, r0, t0, p1, r1, t1, p2, r2, t2, p3, r3, t3, p4, r4, t4, p5, r5, t5⟩ := g1
      rw [if_pos (by rfl)]
      go_big_op
      refine hKc _ _ ⟨_, _, _, _, _, _, _, _, _, _, _, _, _, _, _, _, _, _, _, _, _, _, _, _, rfl, ?_, ?_, ?_, ?_, ?_, ?_, ?_, ?_, ?_, ?_, ?_, ?_, ?_, ?_, ?_, ?_, ?_, ?_, ?_, ?_, ?_, ?_, ?_, ?_, ?_, ?_⟩
      · exact (fun h => f0 (up h rfl))
      · exact (fun h => f1 (up h rfl))
      · exact (fun h => f2 (up h rfl))
      · exact (fun h => f3 (up h rfl))
      · exact (fun h => f4 (up h rfl))
      · exact (fun h => f5 (up h rfl))
      · exact (fun h => f6 (up h rfl))
      · exact (fun h => f7 (up h rfl))
      · exact (fun h => f8 (up h rfl))
      · exact (fun h => f9 (up h rfl))
      · exact (fun h => f10 (up h rfl))
      · exact (fun _ => rfl)
      · exact (fun h => f12 (up h rfl))
      · exact (fun h => f13 (up h rfl))
      · exact (fun h => f14 (up h rfl))
      · exact (fun h => f15 (up h rfl))
      · exact (fun h => f16 (up h rfl))
      · exact (fun h => f17 (up h rfl))
      · exact (fun h => f18 (up h rfl))
      · exact (fun h => f20 (up h rfl))
      · exact (fun h => f22 (up h rfl))
      · exact (fun h => f24 (up h rfl))
      · exact (fun h => f26 (up h rfl))
      · exact (fun h => f28 (up h rfl))
      · exact g0
      · exact ⟨_, _, _, _, _, _, e0, e1, e2, (fun h => p0 (dn h)), (fun h => ⟨(r0 (up h rfl)).1, upl (r0 (up h rfl)).2⟩), (fun h => upl (t0 (up h rfl))), (fun h => p1 (dn h)), (fun h => ⟨(r1 (up h rfl)).1, upl (r1 (up h rfl)).2⟩), (fun h => upl (t1 (up h rfl))), (fun h => p2 (dn h)), (fun h => ⟨(r2 (up h rfl)).1, upl (r2 (up h rfl)).2⟩), (fun h => upl (t2 (up h rfl))), (fun h => p3 (dn h)), (fun h => ⟨(r3 (up h rfl)).1, by simp⟩), (fun _ => upl hd10), (fun h => p4 (dn h)), (fun h => ⟨(r4 (up h rfl)).1, upl (r4 (up h rfl)).2⟩), (fun h => upl (t4 (up h rfl))), (fun h => p5 (dn h)), (fun h => ⟨(r5 (up h rfl)).1, upl (r5 (up h rfl)).2⟩), (fun h => upl (t5 (up h rfl)))⟩
    · unfold StepOk
      rintro d act x ⟨u12, u13, u14, u15, u16, u17, u18, u19, u20, u21, u22, u23, u24, u25, u26, u27, u28, u29, u30, u31, u32, u33, u34, u35, rfl, f0, f1, f2, f3, f4, f5, f6, f7, f8, f9, f10, f11, f12, f13, f14, f15, f16, f17, f18, f20, f22, f24, f26, f28, g0, g1⟩ hd hdep Kc hKc
      obtain ⟨y0, y1, y2, y3, y4, y5, e0, e1, e2, p0, r0, t0, p1, r1, t1, p2, r2, t2, p3, r3, t3, p4, r4, t4, p5, r5, t5⟩ := g1
      rw [if_pos (by rfl)]
      go_big_op
      refine hKc _ _ ⟨_, _, _, _, _, _, _, _, _, _, _, _, _, _, _, _, _, _, _, _, _, _, _, _, rfl, ?_, ?_, ?_, ?_, ?_, ?_, ?_, ?_, ?_, ?_, ?_, ?_, ?_, ?_, ?_, ?_, ?_, ?_, ?_, ?_, ?_, ?_, ?_, ?_, ?_, ?_⟩
      · exact (fun h => f0 (up h rfl))
      · exact (fun h => f1 (up h rfl))
      · exact (fun h => f2 (up h rfl))
      · exact (fun h => f3 (up h rfl))
      · exact (fun h => f4 (up h rfl))
      · exact (fun h => f5 (up h rfl))
      · exact (fun h => f6 (up h rfl))
      · exact (fun h => f7 (up h rfl))
      · exact (fun h => f8 (up h rfl))
      · exact (fun h => f9 (up h rfl))
      · exact (fun h => f10 (up h rfl))
      · exact (fun h => f11 (up h rfl))
      · exact (fun _ => rfl)
      · exact (fun h => f13 (up h rfl))
      · exact (fun h => f14 (up h rfl))
      · exact (fun h => f15 (up h rfl))
      · exact (fun h => f16 (up h rfl))
      · exact (fun h => f17 (up h rfl))
      · exact (fun h => f18 (up h rfl))
      · exact (fun h => f20 (up h rfl))
      · exact (fun h => f22 (up h rfl))
      · exact (fun h => f24 (up h rfl))
      · exact (fun h => f26 (up h rfl))
      · exact (fun h => f28 (up h rfl))
      · exact g0
      · exact ⟨_, _, _, _, _, _, e0, e1, e2, (fun h => p0 (dn h)), (fun h => ⟨(r0 (up h rfl)).1, upl (r0 (up h rfl)).2⟩), (fun h => upl (t0 (up h rfl))), (fun h => p1 (dn h)), (fun h => ⟨(r1 (up h rfl)).1, upl (r1 (up h rfl)).2⟩), (fun h => upl (t1 (up h rfl))), (fun h => p2 (dn h)), (fun h => ⟨(r2 (up h rfl)).1, upl (r2 (up h rfl)).2⟩), (fun h => upl (t2 (up h rfl))), (fun h => p3 (dn h)), (fun h => ⟨(r3 (up h rfl)).1, upl (r3 (up h rfl)).2⟩), (fun h => upl (t3 (up h rfl))), (fun h => p4 (dn h)), (fun h => ⟨(r4 (up h rfl)).1, upl (r4 (up h rfl)).2⟩), (fun h => upl (t4 (up h rfl))), (fun h => p5 (dn h)), (fun h => ⟨(r5 (up h rfl)).1, upl (r5 (up h rfl)).2⟩), (fun h => upl (t5 (up h rfl)))⟩
    · unfold StepOk
      rintro d act x ⟨u12, u13, u14, u15, u16, u17, u18, u19, u20, u21, u22, u23, u24, u25, u26, u27, u28, u29, u30, u31, u32, u33, u34, u35, rfl, f0, f1, f2, f3, f4, f5, f6, f7, f8, f9, f10, f11, f12, f13, f14, f15, f16, f17, f18, f20, f22, f24, f26, f28, g0, g1⟩ hd hdep Kc hKc
      have hd12 : d 12 = true := hdep ⟨12, .data⟩ (by simp) rfl
      obtain rfl := f12 hd12
      obtain ⟨y0, y1, y2, y3, y4, y5, e0, e1, e2, p0, r0, t0, p1, r1, t1, p2, r2, t2, p3, r3, t3, p4, r4, t4, p5, r5, t5⟩ := g1
      have hy : y4 = .int .i64 t'' := by
        cases hs : d 27 with
        | false => exact p4 hs
        | true => have h2 := t4 (r4 hs).2; rw [hd] at h2; cases h2
      subst hy
      have hbc := blk_cell e2
      rw [if_pos (by rfl)]
      go_big_op
      refine hKc _ _ ⟨_, _, _, _, _, _, _, _, _, _, _, _, _, _, _, _, _, _, _, _, _, _, _, _, rfl, ?_, ?_, ?_, ?_, ?_, ?_, ?_, ?_, ?_, ?_, ?_, ?_, ?_, ?_, ?_, ?_, ?_, ?_, ?_, ?_, ?_, ?_, ?_, ?_, ?_, ?_⟩
      · exact (fun h => f0 (up h rfl))
      · exact (fun h => f1 (up h rfl))
      · exact (fun h => f2 (up h rfl))
      · exact (fun h => f3 (up h rfl))
      · exact (fun h => f4 (up h rfl))
      · exact (fun h => f5 (up h rfl))
      · exact (fun h => f6 (up h rfl))
      · exact (fun h => f7 (up h rfl))
      · exact (fun h => f8 (up h rfl))
      · exact (fun h => f9 (up h rfl))
      · exact (fun h => f10 (up h rfl))
      · exact (fun h => f11 (up h rfl))
      · exact (fun h => f12 (up h rfl))
      · exact (fun _ => rfl)
      · exact (fun h => f14 (up h rfl))
      · exact (fun h => f15 (up h rfl))
      · exact (fun h => f16 (up h rfl))
      · exact (fun h => f17 (up h rfl))
      · exact (fun h => f18 (up h rfl))
      · exact (fun h => f20 (up h rfl))
      · exact (fun h => f22 (up h rfl))
      · exact (fun h => f24 (up h rfl))
      · exact (fun h => f26 (up h rfl))
      · exact (fun h => f28 (up h rfl))
      · exact g0
      · exact ⟨_, _, _, _, _, _, e0, e1, e2, (fun h => p0 (dn h)), (fun h => ⟨(r0 (up h rfl)).1, upl (r0 (up h rfl)).2⟩), (fun h => upl (t0 (up h rfl))), (fun h => p1 (dn h)), (fun h => ⟨(r1 (up h rfl)).1, upl (r1 (up h rfl)).2⟩), (fun h => upl (t1 (up h rfl))), (fun h => p2 (dn h)), (fun h => ⟨(r2 (up h rfl)).1, upl (r2 (up h rfl)).2⟩), (fun h => upl (t2 (up h rfl))), (fun h => p3 (dn h)), (fun h => ⟨(r3 (up h rfl)).1, upl (r3 (up h rfl)).2⟩), (fun h => upl (t3 (up h rfl))), (fun h => p4 (dn h)), (fun h => ⟨(r4 (up h rfl)).1, upl (r4 (up h rfl)).2⟩), (fun _ => by simp), (fun h => p5 (dn h)), (fun h => ⟨(r5 (up h rfl)).1, upl (r5 (up h rfl)).2⟩), (fun h => upl (t5 (up h rfl)))⟩
    · unfold StepOk
      rintro d act x ⟨u12, u13, u14, u15, u16, u17, u18, u19, u20, u21, u22, u23, u24, u25, u26, u27, u28, u29, u30, u31, u32, u33, u34, u35, rfl, f0, f1, f2, f3, f4, f5, f6, f7, f8, f9, f10, f11, f12, f13, f14, f15, f16, f17, f18, f20, f22, f24, f26, f28, g0, g1⟩ hd hdep Kc hKc
      have hd13 : d 13 = true := hdep ⟨13, .data⟩ (by simp) rfl
      obtain rfl := f13 hd13
      obtain ⟨y0, y1, y2, y3, y4, y5, e0, e1, e2, p0, r0, t0, p1, r1, t1, p2, r2, t2, p3, r3, t3, p4, r4, t4, p5, r5, t5⟩ := g1
      rw [if_pos (by rfl)]
      go_big_op
      refine hKc _ _ ⟨_, _, _, _, _, _, _, _, _, _, _, _, _, _, _, _, _, _, _, _, _, _, _, _, rfl, ?_, ?_, ?_, ?_, ?_, ?_, ?_, ?_, ?_, ?_, ?_, ?_, ?_, ?_, ?_, ?_, ?_, ?_, ?_, ?_, ?_, ?_, ?_, ?_, ?_, ?_⟩
      · exact (fun h => f0 (up h rfl))
      · exact (fun h => f1 (up h rfl))
      · exact (fun h => f2 (up h rfl))
      · exact (fun h => f3 (up h rfl))
      · exact (fun h => f4 (up h rfl))
      · exact (fun h => f5 (up h rfl))
      · exact (fun h => f6 (up h rfl))
      · exact (fun h => f7 (up h rfl))
      · exact (fun h => f8 (up h rfl))
      · exact (fun h => f9 (up h rfl))
      · exact (fun h => f10 (up h rfl))
      · exact (fun h => f11 (up h rfl))
      · exact (fun h => f12 (up h rfl))
      · exact (fun h => f13 (up h rfl))
      · exact (fun _ => rfl)
      · exact (fun h => f15 (up h rfl))
      · exact (fun h => f16 (up h rfl))
      · exact (fun h => f17 (up h rfl))
      · exact (fun h => f18 (up h rfl))
      · exact (fun h => f20 (up h rfl))
      · exact (fun h => f22 (up h rfl))
      · exact (fun h => f24 (up h rfl))
      · exact (fun h => f26 (up h rfl))
      · exact (fun h => f28 (up h rfl))
      · exact g0
      · exact ⟨_, _, _, _, _, _, e0, e1, e2, (fun h => p0 (dn h)), (fun h => ⟨(r0 (up h rfl)).1, upl (r0 (up h rfl)).2⟩), (fun h => upl (t0 (up h rfl))), (fun h => p1 (dn h)), (fun h => ⟨(r1 (up h rfl)).1, upl (r1 (up h rfl)).2⟩), (fun h => upl (t1 (up h rfl))), (fun h => p2 (dn h)), (fun h => ⟨(r2 (up h rfl)).1, upl (r2 (up h rfl)).2⟩), (fun h => upl (t2 (up h rfl))), (fun h => p3 (dn h)), (fun h => ⟨(r3 (up h rfl)).1, upl (r3 (up h rfl)).2⟩), (fun h => upl (t3 (up h rfl))), (fun h => p4 (dn h)), (fun h => ⟨(r4 (up h rfl)).1, by simp⟩), (fun _ => upl hd13), (fun h => p5 (dn h)), (fun h => ⟨(r5 (up h rfl)).1, upl (r5 (up h rfl)).2⟩), (fun h => upl (t5 (up h rfl)))⟩
    · unfold StepOk
      rintro d act x ⟨u12, u13, u14, u15, u16, u17, u18, u19, u20, u21, u22, u23, u24, u25, u26, u27, u28, u29, u30, u31, u32, u33, u34, u35, rfl, f0, f1, f2, f3, f4, f5, f6, f7, f8, f9, f10, f11, f12, f13, f14, f15, f16, f17, f18, f20, f22, f24, f26, f28, g0, g1⟩ hd hdep Kc hKc
      obtain ⟨y0, y1, y2, y3, y4, y5, e0, e1, e2, p0, r0, t0, p1, r1, t1, p2, r2, t2, p3, r3, t3, p4, r4, t4, p5, r5, t5⟩ := g1
      rw [if_pos (by rfl)]
      go_big_op
      refine hKc _ _ ⟨_, _, _, _, _, _, _, _, _, _, _, _, _, _, _, _, _, _, _, _, _, _, _, _, rfl, ?_, ?_, ?_, ?_, ?_, ?_, ?_, ?_, ?_, ?_, ?_, ?_, ?_, ?_, ?_, ?_, ?_, ?_, ?_, ?_, ?_, ?_, ?_, ?_, ?_, ?_⟩
      · exact (fun h => f0 (up h rfl))
      · exact (fun h => f1 (up h rfl))
      · exact (fun h => f2 (up h rfl))
      · exact (fun h => f3 (up h rfl))
      · exact (fun h => f4 (up h rfl))
      · exact (fun h => f5 (up h rfl))
      · exact (fun h => f6 (up h rfl))
      · exact (fun h => f7 (up h rfl))
      · exact (fun h => f8 (up h rfl))
      · exact (fun h => f9 (up h rfl))
      · exact (fun h => f10 (up h rfl))
      · exact (fun h => f11 (up h rfl))
      · exact (fun h => f12 (up h rfl))
      · exact (fun h => f13 (up h rfl))
      · exact (fun h => f14 (up h rfl))
      · exact (fun _ => rfl)
      · exact (fun h => f16 (up h rfl))
      · exact (fun h => f17 (up h rfl))
      · exact (fun h => f18 (up h rfl))
      · exact (fun h => f20 (up h rfl))
      · exact (fun h => f22 (up h rfl))
      · exact (fun h => f24 (up h rfl))
      · exact (fun h => f26 (up h rfl))
      · exact (fun h => f28 (up h rfl))
      · exact g0
      · exact ⟨_, _, _, _, _, _, e0, e1, e2, (fun h => p0 (dn h)), (fun h => ⟨(r0 (up h rfl)).1, upl (r0 (up h rfl)).2⟩), (fun h => upl (t0 (up h rfl))), (fun h => p1 (dn h)), (fun h => ⟨(r1 (up h rfl)).1, upl (r1 (up h rfl)).2⟩), (fun h => upl (t1 (up h rfl))), (fun h => p2 (dn h)), (fun h => ⟨(r2 (up h rfl)).1, upl (r2 (up h rfl)).2⟩), (fun h => upl (t2 (up h rfl))), (fun h => p3 (dn h)), (fun h => ⟨(r3 (up h rfl)).1, upl (r3 (up h rfl)).2⟩), (fun h => upl (t3 (up h rfl))), (fun h => p4 (dn h)), (fun h => ⟨(r4 (up h rfl)).1, upl (r4 (up h rfl)).2⟩), (fun h => upl (t4 (up h rfl))), (fun h => p5 (dn h)), (fun h => ⟨(r5 (up h rfl)).1, upl (r5 (up h rfl)).2⟩), (fun h => upl (t5 (up h rfl)))⟩
    · unfold StepOk
      rintro d act x ⟨u12, u13, u14, u15, u16, u17, u18, u19, u20, u21, u22, u23, u24, u25, u26, u27, u28, u29, u30, u31, u32, u33, u34, u35, rfl, f0, f1, f2, f3, f4, f5, f6, f7, f8, f9, f10, f11, f12, f13, f14, f15, f16, f17, f18, f20, f22, f24, f26, f28, g0, g1⟩ hd hdep Kc hKc
      have hd15 : d 15 = true := hdep ⟨15, .data⟩ (by simp) rfl
      obtain rfl := f15 hd15
      obtain ⟨y0, y1, y2, y3, y4, y5, e0, e1, e2, p0, r0, t0, p1, r1, t1, p2, r2, t2, p3, r3, t3, p4, r4, t4, p5, r5, t5⟩ := g1
      have hy : y5 = .int .i64 n'' := by
        cases hs : d 29 with
        | false => exact p5 hs
        | true => have h2 := t5 (r5 hs).2; rw [hd] at h2; cases h2
      subst hy
      have hbc := blk_cell e2
      rw [if_pos (by rfl)]
      go_big_op
      refine hKc _ _ ⟨_, _, _, _, _, _, _, _, _, _, _, _, _, _, _, _, _, _, _, _, _, _, _, _, rfl, ?_, ?_, ?_, ?_, ?_, ?_, ?_, ?_, ?_, ?_, ?_, ?_, ?_, ?_, ?_, ?_, ?_, ?_, ?_, ?_, ?_, ?_, ?_, ?_, ?_, ?_⟩
      · exact (fun h => f0 (up h rfl))
      · exact (fun h => f1 (up h rfl))
      · exact (fun h => f2 (up h rfl))
      · exact (fun h => f3 (up h rfl))
      · exact (fun h => f4 (up h rfl))
      · exact (fun h => f5 (up h rfl))
      · exact (fun h => f6 (up h rfl))
      · exact (fun h => f7 (up h rfl))
      · exact (fun h => f8 (up h rfl))
      · exact (fun h => f9 (up h rfl))
      · exact (fun h => f10 (up h rfl))
      · exact (fun h => f11 (up h rfl))
      · exact (fun h => f12 (up h rfl))
      · exact (fun h => f13 (up h rfl))
      · exact (fun h => f14 (up h rfl))
      · exact (fun h => f15 (up h rfl))
      · exact (fun _ => rfl)
      · exact (fun h => f17 (up h rfl))
      · exact (fun h => f18 (up h rfl))
      · exact (fun h => f20 (up h rfl))
      · exact (fun h => f22 (up h rfl))
      · exact (fun h => f24 (up h rfl))
      · exact (fun h => f26 (up h rfl))
      · exact (fun h => f28 (up h rfl))
      · exact g0
      · exact ⟨_, _, _, _, _, _, e0, e1, e2, (fun h => p0 (dn h)), (fun h => ⟨(r0 (up h rfl)).1, upl (r0 (up h rfl)).2⟩), (fun h => upl (t0 (up h rfl))), (fun h => p1 (dn h)), (fun h => ⟨(r1 (up h rfl)).1, upl (r1 (up h rfl)).2⟩), (fun h => upl (t1 (up h rfl))), (fun h => p2 (dn h)), (fun h => ⟨(r2 (up h rfl)).1, upl (r2 (up h rfl)).2⟩), (fun h => upl (t2 (up h rfl))), (fun h => p3 (dn h)), (fun h => ⟨(r3 (up h rfl)).1, upl (r3 (up h rfl)).2⟩), (fun h => upl (t3 (up h rfl))), (fun h => p4 (dn h)), (fun h => ⟨(r4 (up h rfl)).1, upl (r4 (up h rfl)).2⟩), (fun h => upl (t4 (up h rfl))), (fun h => p5 (dn h)), (fun h => ⟨(r5 (up h rfl)).1, upl (r5 (up h rfl)).2⟩), (fun _ => by simp)⟩
    · unfold StepOk
      rintro d act x ⟨u12, u13, u14, u15, u16, u17, u18, u19, u20, u21, u22, u23, u24, u25, u26, u27, u28, u29, u30, u31, u32, u33, u34, u35, rfl, f0, f1, f2, f3, f4, f5, f6, f7, f8, f9, f10, f11, f12, f13, f14, f15, f16, f17, f18, f20, f22, f24, f26, f28, g0, g1⟩ hd hdep Kc hKc
      have hd16 : d 16 = true := hdep ⟨16, .data⟩ (by simp) rfl
      obtain rfl := f16 hd16
      obtain ⟨y0, y1, y2, y3, y4, y5, e0, e1, e2, p0, r0, t0, p1, r1, t1, p2, r2, t2, p3, r3, t3, p4, r4, t4, p5, r5, t5⟩ := g1
      rw [if_pos (by rfl)]
      go_big_op
      refine hKc _ _ ⟨_, _, _, _, _, _, _, _, _, _, _, _, _, _, _, _, _, _, _, _, _, _, _, _, rfl, ?_, ?_, ?_, ?_, ?_, ?_, ?_, ?_, ?_, ?_, ?_, ?_, ?_, ?_, ?_, ?_, ?_, ?_, ?_, ?_, ?_, ?_, ?_, ?_, ?_, ?_⟩
      · exact (fun h => f0 (up h rfl))
      · exact (fun h => f1 (up h rfl))
      · exact (fun h => f2 (up h rfl))
      · exact (fun h => f3 (up h rfl))
      · exact (fun h => f4 (up h rfl))
      · exact (fun h => f5 (up h rfl))
      · exact (fun h => f6 (up h rfl))
      · exact (fun h => f7 (up h rfl))
      · exact (fun h => f8 (up h rfl))
      · exact (fun h => f9 (up h rfl))
      · exact (fun h => f10 (up h rfl))
      · exact (fun h => f11 (up h rfl))
      · exact (fun h => f12 (up h rfl))
      · exact (fun h => f13 (up h rfl))
      · exact (fun h => f14 (up h rfl))
      · exact (fun h => f15 (up h rfl))
      · exact (fun h => f16 (up h rfl))
      · exact (fun _ => rfl)
      · exact (fun h => f18 (up h rfl))
      · exact (fun h => f20 (up h rfl))
      · exact (fun h => f22 (up h rfl))
      · exact (fun h => f24 (up h rfl))
      · exact (fun h => f26 (up h rfl))
      · exact (fun h => f28 (up h rfl))
      · exact g0
      · exact ⟨_, _, _, _, _, _, e0, e1, e2, (fun h => p0 (dn h)), (fun h => ⟨(r0 (up h rfl)).1, upl (r0 (up h rfl)).2⟩), (fun h => upl (t0 (up h rfl))), (fun h => p1 (dn h)), (fun h => ⟨(r1 (up h rfl)).1, upl (r1 (up h rfl)).2⟩), (fun h => upl (t1 (up h rfl))), (fun h => p2 (dn h)), (fun h => ⟨(r2 (up h rfl)).1, upl (r2 (up h rfl)).2⟩), (fun h => upl (t2 (up h rfl))), (fun h => p3 (dn h)), (fun h => ⟨(r3 (up h rfl)).1, upl (r3 (up h rfl)).2⟩), (fun h => upl (t3 (up h rfl))), (fun h => p4 (dn h)), (fun h => ⟨(r4 (up h rfl)).1, upl (r4 (up h rfl)).2⟩), (fun h => upl (t4 (up h rfl))), (fun h => p5 (dn h)), (fun h => ⟨(r5 (up h rfl)).1, by simp⟩), (fun _ => upl hd16)⟩
    · unfold StepOk
      rintro d act x ⟨u12, u13, u14, u15, u16, u17, u18, u19, u20, u21, u22, u23, u24, u25, u26, u27, u28, u29, u30, u31, u32, u33, u34, u35, rfl, f0, f1, f2, f3, f4, f5, f6, f7, f8, f9, f10, f11, f12, f13, f14, f15, f16, f17, f18, f20, f22, f24, f26, f28, g0, g1⟩ hd hdep Kc hKc
      obtain ⟨y0, y1, y2, y3, y4, y5, e0, e1, e2, p0, r0, t0, p1, r1, t1, p2, r2, t2, p3, r3, t3, p4, r4, t4, p5, r5, t5⟩ := g1
      rw [if_pos (by rfl)]
      go_big_op
      refine hKc _ _ ⟨_, _, _, _, _, _, _, _, _, _, _, _, _, _, _, _, _, _, _, _, _, _, _, _, rfl, ?_, ?_, ?_, ?_, ?_, ?_, ?_, ?_, ?_, ?_, ?_, ?_, ?_, ?_, ?_, ?_, ?_, ?_, ?_, ?_, ?_, ?_, ?_, ?_, ?_, ?_⟩
      · exact (fun h => f0 (up h rfl))
      · exact (fun h => f1 (up h rfl))
      · exact (fun h => f2 (up h rfl))
      · exact (fun h => f3 (up h rfl))
      · exact (fun h => f4 (up h rfl))
      · exact (fun h => f5 (up h rfl))
      · exact (fun h => f6 (up h rfl))
      · exact (fun h => f7 (up h rfl))
      · exact (fun h => f8 (up h rfl))
      · exact (fun h => f9 (up h rfl))
      · exact (fun h => f10 (up h rfl))
      · exact (fun h => f11 (up h rfl))
      · exact (fun h => f12 (up h rfl))
      · exact (fun h => f13 (up h rfl))
      · exact (fun h => f14 (up h rfl))
      · exact (fun h => f15 (up h rfl))
      · exact (fun h => f16 (up h rfl))
      · exact (fun h => f17 (up h rfl))
      · exact (fun _ => rfl)
      · exact (fun h => f20 (up h rfl))
      · exact (fun h => f22 (up h rfl))
      · exact (fun h => f24 (up h rfl))
      · exact (fun h => f26 (up h rfl))
      · exact (fun h => f28 (up h rfl))
      · exact g0
      · exact ⟨_, _, _, _, _, _, e0, e1, e2, (fun h => p0 (dn h)), (fun h => ⟨(r0 (up h rfl)).1, upl (r0 (up h rfl)).2⟩), (fun h => upl (t0 (up h rfl))), (fun h => p1 (dn h)), (fun h => ⟨(r1 (up h rfl)).1, upl (r1 (up h rfl)).2⟩), (fun h => upl (t1 (up h rfl))), (fun h => p2 (dn h)), (fun h => ⟨(r2 (up h rfl)).1, upl (r2 (up h rfl)).2⟩), (fun h => upl (t2 (up h rfl))), (fun h => p3 (dn h)), (fun h => ⟨(r3 (up h rfl)).1, upl (r3 (up h rfl)).2⟩), (fun h => upl (t3 (up h rfl))), (fun h => p4 (dn h)), (fun h => ⟨(r4 (up h rfl)).1, upl (r4 (up h rfl)).2⟩), (fun h => upl (t4 (up h rfl))), (fun h => p5 (dn h)), (fun h => ⟨(r5 (up h rfl)).1, upl (r5 (up h rfl)).2⟩), (fun h => upl (t5 (up h rfl)))⟩
    · unfold StepOk
      rintro d act x ⟨u12, u13, u14, u15, u16, u17, u18, u19, u20, u21, u22, u23, u24, u25, u26, u27, u28, u29, u30, u31, u32, u33, u34, u35, rfl, f0, f1, f2, f3, f4, f5, f6, f7, f8, f9, f10, f11, f12, f13, f14, f15, f16, f17, f18, f20, f22, f24, f26, f28, g0, g1⟩ hd hdep Kc hKc
      have hd18 : d 18 = true := hdep ⟨18, .data⟩ (by simp) rfl
      have hd2 : d 2 = true := hdep ⟨2, .data⟩ (by simp) rfl
      have hd2 : d 2 = true := hdep ⟨2, .phase⟩ (by simp) rfl
      obtain rfl := f18 hd18
      obtain rfl := f2 hd2
      obtain ⟨y0, y1, y2, y3, y4, y5, e0, e1, e2, p0, r0, t0, p1, r1, t1, p2, r2, t2, p3, r3, t3, p4, r4, t4, p5, r5, t5⟩ := g1
      have hbc := blk_cell e0
      have hbf := blk_free e0
      have hbl2 := blk_lt e0
      rw [if_pos (by rfl)]
      go_big_op
      have hBn : Below w.heap.size w (x.setCell ⟨w.heap.size, 0, none⟩ (.int .i64 T)) := g0.setCell (by show w.heap.size ≤ w.heap.size; omega) _
      have RB0 : (x.setCell ⟨w.heap.size, 0, none⟩ (.int .i64 T)).heap[w.heap.size]? = some (.cells #[.int .i64 T, .int .i64 k, y1] 25 (0, 0)) := by repeat (first | (with_reducible assumption) | (with_reducible refine blk_new_at ?_ _ _; first | (with_reducible rfl) | (simp; done)) | (with_reducible refine blk_alloc ?_ _) | (with_reducible refine blk_drew ?_) | (with_reducible apply blk_set) | (show Array.setIfInBounds _ _ _ = _; first | (simp; done) | (simp; rfl)) | (with_reducible refine blk_set_other ?_ ?_; omega))
      have RB1 : (x.setCell ⟨w.heap.size, 0, none⟩ (.int .i64 T)).heap[w.heap.size + 1]? = some (.cells #[y2, .int .i64 k', y3] 25 (0, 0)) := by repeat (first | (with_reducible assumption) | (with_reducible refine blk_new_at ?_ _ _; first | (with_reducible rfl) | (simp; done)) | (with_reducible refine blk_alloc ?_ _) | (with_reducible refine blk_drew ?_) | (with_reducible apply blk_set) | (show Array.setIfInBounds _ _ _ = _; first | (simp; done) | (simp; rfl)) | (with_reducible refine blk_set_other ?_ ?_; omega))
      have RB2 : (x.setCell ⟨w.heap.size, 0, none⟩ (.int .i64 T)).heap[w.heap.size + 1 + 1]? = some (.cells #[y4, .int .i64 k'', y5] 25 (0, 0)) := by repeat (first | (with_reducible assumption) | (with_reducible refine blk_new_at ?_ _ _; first | (with_reducible rfl) | (simp; done)) | (with_reducible refine blk_alloc ?_ _) | (with_reducible refine blk_drew ?_) | (with_reducible apply blk_set) | (show Array.setIfInBounds _ _ _ = _; first | (simp; done) | (simp; rfl)) | (with_reducible refine blk_set_other ?_ ?_; omega))
      generalize (x.setCell ⟨w.heap.size, 0, none⟩ (.int .i64 T)) = X at *
      refine hKc _ _ ⟨_, _, _, _, _, _, _, _, _, _, _, _, _, _, _, _, _, _, _, _, _, _, _, _, rfl, ?_, ?_, ?_, ?_, ?_, ?_, ?_, ?_, ?_, ?_, ?_, ?_, ?_, ?_, ?_, ?_, ?_, ?_, ?_, ?_, ?_, ?_, ?_, ?_, ?_, ?_⟩
      · exact (fun h => f0 (up h rfl))
      · exact (fun h => f1 (up h rfl))
      · exact (fun h => f2 (up h rfl))
      · exact (fun h => f3 (up h rfl))
      · exact (fun h => f4 (up h rfl))
      · exact (fun h => f5 (up h rfl))
      · exact (fun h => f6 (up h rfl))
      · exact (fun h => f7 (up h rfl))
      · exact (fun h => f8 (up h rfl))
      · exact (fun h => f9 (up h rfl))
      · exact (fun h => f10 (up h rfl))
      · exact (fun h => f11 (up h rfl))
      · exact (fun h => f12 (up h rfl))
      · exact (fun h => f13 (up h rfl))
      · exact (fun h => f14 (up h rfl))
      · exact (fun h => f15 (up h rfl))
      · exact (fun h => f16 (up h rfl))
      · exact (fun h => f17 (up h rfl))
      · exact (fun h => f18 (up h rfl))
      · exact (fun h => f20 (up h rfl))
      · exact (fun h => f22 (up h rfl))
      · exact (fun h => f24 (up h rfl))
      · exact (fun h => f26 (up h rfl))
      · exact (fun h => f28 (up h rfl))
      · exact hBn
      · exact ⟨_, _, _, _, _, _, RB0, RB1, RB2, (fun h => by simp at h), (fun _ => ⟨rfl, upl hd2⟩), (fun h => upl (t0 (up h rfl))), (fun h => p1 (dn h)), (fun h => ⟨(r1 (up h rfl)).1, upl (r1 (up h rfl)).2⟩), (fun h => upl (t1 (up h rfl))), (fun h => p2 (dn h)), (fun h => ⟨(r2 (up h rfl)).1, upl (r2 (up h rfl)).2⟩), (fun h => upl (t2 (up h rfl))), (fun h => p3 (dn h)), (fun h => ⟨(r3 (up h rfl)).1, upl (r3 (up h rfl)).2⟩), (fun h => upl (t3 (up h rfl))), (fun h => p4 (dn h)), (fun h => ⟨(r4 (up h rfl)).1, upl (r4 (up h rfl)).2⟩), (fun h => upl (t4 (up h rfl))), (fun h => p5 (dn h)), (fun h => ⟨(r5 (up h rfl)).1, upl (r5 (up h rfl)).2⟩), (fun h => upl (t5 (up h rfl)))⟩
    · unfold StepOk
      rintro d act x ⟨u12, u13, u14, u15, u16, u17, u18, u19, u20, u21, u22, u23, u24, u25, u26, u27, u28, u29, u30, u31, u32, u33, u34, u35, rfl, f0, f1, f2, f3, f4, f5, f6, f7, f8, f9, f10, f11, f12, f13, f14, f15, f16, f17, f18, f20, f22, f24, f26, f28, g0, g1⟩ hd hdep Kc hKc
      obtain ⟨y0, y1, y2, y3, y4, y5, e0, e1, e2, p0, r0, t0, p1, r1, t1, p2, r2, t2, p3, r3, t3, p4, r4, t4, p5, r5, t5⟩ := g1
      rw [if_pos (by rfl)]
      go_big_op
      refine hKc _ _ ⟨_, _, _, _, _, _, _, _, _, _, _, _, _, _, _, _, _, _, _, _, _, _, _, _, rfl, ?_, ?_, ?_, ?_, ?_, ?_, ?_, ?_, ?_, ?_, ?_, ?_, ?_, ?_, ?_, ?_, ?_, ?_, ?_, ?_, ?_, ?_, ?_, ?_, ?_, ?_⟩
      · exact (fun h => f0 (up h rfl))
      · exact (fun h => f1 (up h rfl))
      · exact (fun h => f2 (up h rfl))
      · exact (fun h => f3 (up h rfl))
      · exact (fun h => f4 (up h rfl))
      · exact (fun h => f5 (up h rfl))
      · exact (fun h => f6 (up h rfl))
      · exact (fun h => f7 (up h rfl))
      · exact (fun h => f8 (up h rfl))
      · exact (fun h => f9 (up h rfl))
      · exact (fun h => f10 (up h rfl))
      · exact (fun h => f11 (up h rfl))
      · exact (fun h => f12 (up h rfl))
      · exact (fun h => f13 (up h rfl))
      · exact (fun h => f14 (up h rfl))
      · exact (fun h => f15 (up h rfl))
      · exact (fun h => f16 (up h rfl))
      · exact (fun h => f17 (up h rfl))
      · exact (fun h => f18 (up h rfl))
      · exact (fun _ => rfl)
      · exact (fun h => f22 (up h rfl))
      · exact (fun h => f24 (up h rfl))
      · exact (fun h => f26 (up h rfl))
      · exact (fun h => f28 (up h rfl))
      · exact g0
      · exact ⟨_, _, _, _, _, _, e0, e1, e2, (fun h => p0 (dn h)), (fun h => ⟨(r0 (up h rfl)).1, upl (r0 (up h rfl)).2⟩), (fun h => upl (t0 (up h rfl))), (fun h => p1 (dn h)), (fun h => ⟨(r1 (up h rfl)).1, upl (r1 (up h rfl)).2⟩), (fun h => upl (t1 (up h rfl))), (fun h => p2 (dn h)), (fun h => ⟨(r2 (up h rfl)).1, upl (r2 (up h rfl)).2⟩), (fun h => upl (t2 (up h rfl))), (fun h => p3 (dn h)), (fun h => ⟨(r3 (up h rfl)).1, upl (r3 (up h rfl)).2⟩), (fun h => upl (t3 (up h rfl))), (fun h => p4 (dn h)), (fun h => ⟨(r4 (up h rfl)).1, upl (r4 (up h rfl)).2⟩), (fun h => upl (t4 (up h rfl))), (fun h => p5 (dn h)), (fun h => ⟨(r5 (up h rfl)).1, upl (r5 (up h rfl)).2⟩), (fun h => upl (t5 (up h rfl)))⟩
    · unfold StepOk
      rintro d act x ⟨u12, u13, u14, u15, u16, u17, u18, u19, u20, u21, u22, u23, u24, u25, u26, u27, u28, u29, u30, u31, u32, u33, u34, u35, rfl, f0, f1, f2, f3, f4, f5, f6, f7, f8, f9, f10, f11, f12, f13, f14, f15, f16, f17, f18, f20, f22, f24, f26, f28, g0, g1⟩ hd hdep Kc hKc
      have hd20 : d 20 = true := hdep ⟨20, .data⟩ (by simp) rfl
      have hd5 : d 5 = true := hdep ⟨5, .data⟩ (by simp) rfl
      have hd5 : d 5 = true := hdep ⟨5, .phase⟩ (by simp) rfl
      obtain rfl := f20 hd20
      obtain rfl := f5 hd5
      obtain ⟨y0, y1, y2, y3, y4, y5, e0, e1, e2, p0, r0, t0, p1, r1, t1, p2, r2, t2, p3, r3, t3, p4, r4, t4, p5, r5, t5⟩ := g1
      have hbc := blk_cell e0
      have hbf := blk_free e0
      have hbl2 := blk_lt e0
      rw [if_pos (by rfl)]
      go_big_op
      have hBn : Below w.heap.size w (x.setCell ⟨w.heap.size, 2, none⟩ (.int .i64 M)) := g0.setCell (by show w.heap.size ≤ w.heap.size; omega) _
      have RB0 : (x.setCell ⟨w.heap.size, 2, none⟩ (.int .i64 M)).heap[w.heap.size]? = some (.cells #[y0, .int .i64 k, .int .i64 M] 25 (0, 0)) := by repeat (first | (with_reducible assumption) | (with_reducible refine blk_new_at ?_ _ _; first | (with_reducible rfl) | (simp; done)) | (with_reducible refine blk_alloc ?_ _) | (with_reducible refine blk_drew ?_) | (with_reducible apply blk_set) | (show Array.setIfInBounds _ _ _ = _; first | (simp; done) | (simp; rfl)) | (with_reducible refine blk_set_other ?_ ?_; omega))
      have RB1 : (x.setCell ⟨w.heap.size, 2, none⟩ (.int .i64 M)).heap[w.heap.size + 1]? = some (.cells #[y2, .int .i64 k', y3] 25 (0, 0)) := by repeat (first | (with_reducible assumption) | (with_reducible refine blk_new_at ?_ _ _; first | (with_reducible rfl) | (simp; done)) | (with_reducible refine blk_alloc ?_ _) | (with_reducible refine blk_drew ?_) | (with_reducible apply blk_set) | (show Array.setIfInBounds _ _ _ = _; first | (simp; done) | (simp; rfl)) | (with_reducible refine blk_set_other ?_ ?_; omega))
      have RB2 : (x.setCell ⟨w.heap.size, 2, none⟩ (.int .i64 M)).heap[w.heap.size + 1 + 1]? = some (.cells #[y4, .int .i64 k'', y5] 25 (0, 0)) := by repeat (first | (with_reducible assumption) | (with_reducible refine blk_new_at ?_ _ _; first | (with_reducible rfl) | (simp; done)) | (with_reducible refine blk_alloc ?_ _) | (with_reducible refine blk_drew ?_) | (with_reducible apply blk_set) | (show Array.setIfInBounds _ _ _ = _; first | (simp; done) | (simp; rfl)) | (with_reducible refine blk_set_other ?_ ?_; omega))
      generalize (x.setCell ⟨w.heap.size, 2, none⟩ (.int .i64 M)) = X at *
      refine hKc _ _ ⟨_, _, _, _, _, _, _, _, _, _, _, _, _, _, _, _, _, _, _, _, _, _, _, _, rfl, ?_, ?_, ?_, ?_, ?_, ?_, ?_, ?_, ?_, ?_, ?_, ?_, ?_, ?_, ?_, ?_, ?_, ?_, ?_, ?_, ?_, ?_, ?_, ?_, ?_, ?_⟩
      · exact (fun h => f0 (up h rfl))
      · exact (fun h => f1 (up h rfl))
      · exact (fun h => f2 (up h rfl))
      · exact (fun h => f3 (up h rfl))
      · exact (fun h => f4 (up h rfl))
      · exact (fun h => f5 (up h rfl))
      · exact (fun h => f6 (up h rfl))
      · exact (fun h => f7 (up h rfl))
      · exact (fun h => f8 (up h rfl))
      · exact (fun h => f9 (up h rfl))
      · exact (fun h => f10 (up h rfl))
      · exact (fun h => f11 (up h rfl))
      · exact (fun h => f12 (up h rfl))
      · exact (fun h => f13 (up h rfl))
      · exact (fun h => f14 (up h rfl))
      · exact (fun h => f15 (up h rfl))
      · exact (fun h => f16 (up h rfl))
      · exact (fun h => f17 (up h rfl))
      · exact (fun h => f18 (up h rfl))
      · exact (fun h => f20 (up h rfl))
      · exact (fun h => f22 (up h rfl))
      · exact (fun h => f24 (up h rfl))
      · exact (fun h => f26 (up h rfl))
      · exact (fun h => f28 (up h rfl))
      · exact hBn
      · exact ⟨_, _, _, _, _, _, RB0, RB1, RB2, (fun h => p0 (dn h)), (fun h => ⟨(r0 (up h rfl)).1, upl (r0 (up h rfl)).2⟩), (fun h => upl (t0 (up h rfl))), (fun h => by simp at h), (fun _ => ⟨rfl, upl hd5⟩), (fun h => upl (t1 (up h rfl))), (fun h => p2 (dn h)), (fun h => ⟨(r2 (up h rfl)).1, upl (r2 (up h rfl)).2⟩), (fun h => upl (t2 (up h rfl))), (fun h => p3 (dn h)), (fun h => ⟨(r3 (up h rfl)).1, upl (r3 (up h rfl)).2⟩), (fun h => upl (t3 (up h rfl))), (fun h => p4 (dn h)), (fun h => ⟨(r4 (up h rfl)).1, upl (r4 (up h rfl)).2⟩), (fun h => upl (t4 (up h rfl))), (fun h => p5 (dn h)), (fun h => ⟨(r5 (up h rfl)).1, upl (r5 (up h rfl)).2⟩), (fun h => upl (t5 (up h rfl)))⟩
    · unfold StepOk
      rintro d act x ⟨u12, u13, u14, u15, u16, u17, u18, u19, u20, u21, u22, u23, u24, u25, u26, u27, u28, u29, u30, u31, u32, u33, u34, u35, rfl, f0, f1, f2, f3, f4, f5, f6, f7, f8, f9, f10, f11, f12, f13, f14, f15, f16, f17, f18, f20, f22, f24, f26, f28, g0, g1⟩ hd hdep Kc hKc
      obtain ⟨y0, y1, y2, y3, y4, y5, e0, e1, e2, p0, r0, t0, p1, r1, t1, p2, r2, t2, p3, r3, t3, p4, r4, t4, p5, r5, t5⟩ := g1
      rw [if_pos (by rfl)]
      go_big_op
      refine hKc _ _ ⟨_, _, _, _, _, _, _, _, _, _, _, _, _, _, _, _, _, _, _, _, _, _, _, _, rfl, ?_, ?_, ?_, ?_, ?_, ?_, ?_, ?_, ?_, ?_, ?_, ?_, ?_, ?_, ?_, ?_, ?_, ?_, ?_, ?_, ?_, ?_, ?_, ?_, ?_, ?_⟩
      · exact (fun h => f0 (up h rfl))
      · exact (fun h => f1 (up h rfl))
      · exact (fun h => f2 (up h rfl))
      · exact (fun h => f3 (up h rfl))
      · exact (fun h => f4 (up h rfl))
      · exact (fun h => f5 (up h rfl))
      · exact (fun h => f6 (up h rfl))
      · exact (fun h => f7 (up h rfl))
      · exact (fun h => f8 (up h rfl))
      · exact (fun h => f9 (up h rfl))
      · exact (fun h => f10 (up h rfl))
      · exact (fun h => f11 (up h rfl))
      · exact (fun h => f12 (up h rfl))
      · exact (fun h => f13 (up h rfl))
      · exact (fun h => f14 (up h rfl))
      · exact (fun h => f15 (up h rfl))
      · exact (fun h => f16 (up h rfl))
      · exact (fun h => f17 (up h rfl))
      · exact (fun h => f18 (up h rfl))
      · exact (fun h => f20 (up h rfl))
      · exact (fun _ => rfl)
      · exact (fun h => f24 (up h rfl))
      · exact (fun h => f26 (up h rfl))
      · exact (fun h => f28 (up h rfl))
      · exact g0
      · exact ⟨_, _, _, _, _, _, e0, e1, e2, (fun h => p0 (dn h)), (fun h => ⟨(r0 (up h rfl)).1, upl (r0 (up h rfl)).2⟩), (fun h => upl (t0 (up h rfl))), (fun h => p1 (dn h)), (fun h => ⟨(r1 (up h rfl)).1, upl (r1 (up h rfl)).2⟩), (fun h => upl (t1 (up h rfl))), (fun h => p2 (dn h)), (fun h => ⟨(r2 (up h rfl)).1, upl (r2 (up h rfl)).2⟩), (fun h => upl (t2 (up h rfl))), (fun h => p3 (dn h)), (fun h => ⟨(r3 (up h rfl)).1, upl (r3 (up h rfl)).2⟩), (fun h => upl (t3 (up h rfl))), (fun h => p4 (dn h)), (fun h => ⟨(r4 (up h rfl)).1, upl (r4 (up h rfl)).2⟩), (fun h => upl (t4 (up h rfl))), (fun h => p5 (dn h)), (fun h => ⟨(r5 (up h rfl)).1, upl (r5 (up h rfl)).2⟩), (fun h => upl (t5 (up h rfl)))⟩
    · unfold StepOk
      rintro d act x ⟨u12, u13, u14, u15, u16, u17, u18, u19, u20, u21, u22, u23, u24, u25, u26, u27, u28, u29, u30, u31, u32, u33, u34, u35, rfl, f0, f1, f2, f3, f4, f5, f6, f7, f8, f9, f10, f11, f12, f13, f14, f15, f16, f17, f18, f20, f22, f24, f26, f28, g0, g1⟩ hd hdep Kc hKc
      have hd22 : d 22 = true := hdep ⟨22, .data⟩ (by simp) rfl
      have hd8 : d 8 = true := hdep ⟨8, .data⟩ (by simp) rfl
      have hd8 : d 8 = true := hdep ⟨8, .phase⟩ (by simp) rfl
      obtain rfl := f22 hd22
      obtain rfl := f8 hd8
      obtain ⟨y0, y1, y2, y3, y4, y5, e0, e1, e2, p0, r0, t0, p1, r1, t1, p2, r2, t2, p3, r3, t3, p4, r4, t4, p5, r5, t5⟩ := g1
      have hbc := blk_cell e1
      have hbf := blk_free e1
      have hbl2 := blk_lt e1
      rw [if_pos (by rfl)]
      go_big_op
      have hBn : Below w.heap.size w (x.setCell ⟨w.heap.size + 1, 0, none⟩ (.int .i64 T')) := g0.setCell (by show w.heap.size ≤ w.heap.size + 1; omega) _
      have RB0 : (x.setCell ⟨w.heap.size + 1, 0, none⟩ (.int .i64 T')).heap[w.heap.size]? = some (.cells #[y0, .int .i64 k, y1] 25 (0, 0)) := by repeat (first | (with_reducible assumption) | (with_reducible refine blk_new_at ?_ _ _; first | (with_reducible rfl) | (simp; done)) | (with_reducible refine blk_alloc ?_ _) | (with_reducible refine blk_drew ?_) | (with_reducible apply blk_set) | (show Array.setIfInBounds _ _ _ = _; first | (simp; done) | (simp; rfl)) | (with_reducible refine blk_set_other ?_ ?_; omega))
      have RB1 : (x.setCell ⟨w.heap.size + 1, 0, none⟩ (.int .i64 T')).heap[w.heap.size + 1]? = some (.cells #[.int .i64 T', .int .i64 k', y3] 25 (0, 0)) := by repeat (first | (with_reducible assumption) | (with_reducible refine blk_new_at ?_ _ _; first | (with_reducible rfl) | (simp; done)) | (with_reducible refine blk_alloc ?_ _) | (with_reducible refine blk_drew ?_) | (with_reducible apply blk_set) | (show Array.setIfInBounds _ _ _ = _; first | (simp; done) | (simp; rfl)) | (with_reducible refine blk_set_other ?_ ?_; omega))
      have RB2 : (x.setCell ⟨w.heap.size + 1, 0, none⟩ (.int .i64 T')).heap[w.heap.size + 1 + 1]? = some (.cells #[y4, .int .i64 k'', y5] 25 (0, 0)) := by repeat (first | (with_reducible assumption) | (with_reducible refine blk_new_at ?_ _ _; first | (with_reducible rfl) | (simp; done)) | (with_reducible refine blk_alloc ?_ _) | (with_reducible refine blk_drew ?_) | (with_reducible apply blk_set) | (show Array.setIfInBounds _ _ _ = _; first | (simp; done) | (simp; rfl)) | (with_reducible refine blk_set_other ?_ ?_; omega))
      generalize (x.setCell ⟨w.heap.size + 1, 0, none⟩ (.int .i64 T')) = X at *
      refine hKc _ _ ⟨_, _, _, _, _, _, _, _, _, _, _, _, _, _, _, _, _, _, _, _, _, _, _, _, rfl, ?_, ?_, ?_, ?_, ?_, ?_, ?_, ?_, ?_, ?_, ?_, ?_, ?_, ?_, ?_, ?_, ?_, ?_, ?_, ?_, ?_, ?_, ?_, ?_, ?_, ?_⟩
      · exact (fun h => f0 (up h rfl))
      · exact (fun h => f1 (up h rfl))
      · exact (fun h => f2 (up h rfl))
      · exact (fun h => f3 (up h rfl))
      · exact (fun h => f4 (up h rfl))
      · exact (fun h => f5 (up h rfl))
      · exact (fun h => f6 (up h rfl))
      · exact (fun h => f7 (up h rfl))
      · exact (fun h => f8 (up h rfl))
      · exact (fun h => f9 (up h rfl))
      · exact (fun h => f10 (up h rfl))
      · exact (fun h => f11 (up h rfl))
      · exact (fun h => f12 (up h rfl))
      · exact (fun h => f13 (up h rfl))
      · exact (fun h => f14 (up h rfl))
      · exact (fun h => f15 (up h rfl))
      · exact (fun h => f16 (up h rfl))
      · exact (fun h => f17 (up h rfl))
      · exact (fun h => f18 (up h rfl))
      · exact (fun h => f20 (up h rfl))
      · exact (fun h => f22 (up h rfl))
      · exact (fun h => f24 (up h rfl))
      · exact (fun h => f26 (up h rfl))
      · exact (fun h => f28 (up h rfl))
      · exact hBn
      · exact ⟨_, _, _, _, _, _, RB0, RB1, RB2, (fun h => p0 (dn h)), (fun h => ⟨(r0 (up h rfl)).1, upl (r0 (up h rfl)).2⟩), (fun h => upl (t0 (up h rfl))), (fun h => p1 (dn h)), (fun h => ⟨(r1 (up h rfl)).1, upl (r1 (up h rfl)).2⟩), (fun h => upl (t1 (up h rfl))), (fun h => by simp at h), (fun _ => ⟨rfl, upl hd8⟩), (fun h => upl (t2 (up h rfl))), (fun h => p3 (dn h)), (fun h => ⟨(r3 (up h rfl)).1, upl (r3 (up h rfl)).2⟩), (fun h => upl (t3 (up h rfl))), (fun h => p4 (dn h)), (fun h => ⟨(r4 (up h rfl)).1, upl (r4 (up h rfl)).2⟩), (fun h => upl (t4 (up h rfl))), (fun h => p5 (dn h)), (fun h => ⟨(r5 (up h rfl)).1, upl (r5 (up h rfl)).2⟩), (fun h => upl (t5 (up h rfl)))⟩
    · unfold StepOk
      rintro d act x ⟨u12, u13, u14, u15, u16, u17, u18, u19, u20, u21, u22, u23, u24, u25, u26, u27, u28, u29, u30, u31, u32, u33, u34, u35, rfl, f0, f1, f2, f3, f4, f5, f6, f7, f8, f9, f10, f11, f12, f13, f14, f15, f16, f17, f18, f20, f22, f24, f26, f28, g0, g1⟩ hd hdep Kc hKc
      obtain ⟨y0, y1, y2, y3, y4, y5, e0, e1, e2, p0, r0, t0, p1, r1, t1, p2, r2, t2, p3, r3, t3, p4, r4, t4, p5, r5, t5⟩ := g1
      rw [if_pos (by rfl)]
      go_big_op
      refine hKc _ _ ⟨_, _, _, _, _, _, _, _, _, _, _, _, _, _, _, _, _, _, _, _, _, _, _, _, rfl, ?_, ?_, ?_, ?_, ?_, ?_, ?_, ?_, ?_, ?_, ?_, ?_, ?_, ?_, ?_, ?_, ?_, ?_, ?_, ?_, ?_, ?_, ?_, ?_, ?_, ?_⟩
      · exact (fun h => f0 (up h rfl))
      · exact (fun h => f1 (up h rfl))
      · exact (fun h => f2 (up h rfl))
      · exact (fun h => f3 (up h rfl))
      · exact (fun h => f4 (up h rfl))
      · exact (fun h => f5 (up h rfl))
      · exact (fun h => f6 (up h rfl))
      · exact (fun h => f7 (up h rfl))
      · exact (fun h => f8 (up h rfl))
      · exact (fun h => f9 (up h rfl))
      · exact (fun h => f10 (up h rfl))
      · exact (fun h => f11 (up h rfl))
      · exact (fun h => f12 (up h rfl))
      · exact (fun h => f13 (up h rfl))
      · exact (fun h => f14 (up h rfl))
      · exact (fun h => f15 (up h rfl))
      · exact (fun h => f16 (up h rfl))
      · exact (fun h => f17 (up h rfl))
      · exact (fun h => f18 (up h rfl))
      · exact (fun h => f20 (up h rfl))
      · exact (fun h => f22 (up h rfl))
      · exact (fun _ => rfl)
      · exact (fun h => f26 (up h rfl))
      · exact (fun h => f28 (up h rfl))
      · exact g0
      · exact ⟨_, _, _, _, _, _, e0, e1, e2, (fun h => p0 (dn h)), (fun h => ⟨(r0 (up h rfl)).1, upl (r0 (up h rfl)).2⟩), (fun h => upl (t0 (up h rfl))), (fun h => p1 (dn h)), (fun h => ⟨(r1 (up h rfl)).1, upl (r1 (up h rfl)).2⟩), (fun h => upl (t1 (up h rfl))), (fun h => p2 (dn h)), (fun h => ⟨(r2 (up h rfl)).1, upl (r2 (up h rfl)).2⟩), (fun h => upl (t2 (up h rfl))), (fun h => p3 (dn h)), (fun h => ⟨(r3 (up h rfl)).1, upl (r3 (up h rfl)).2⟩), (fun h => upl (t3 (up h rfl))), (fun h => p4 (dn h)), (fun h => ⟨(r4 (up h rfl)).1, upl (r4 (up h rfl)).2⟩), (fun h => upl (t4 (up h rfl))), (fun h => p5 (dn h)), (fun h => ⟨(r5 (up h rfl)).1, upl (r5 (up h rfl)).2⟩), (fun h => upl (t5 (up h rfl)))⟩
    · unfold StepOk
      rintro d act x ⟨u12, u13, u14, u15, u16, u17, u18, u19, u20, u21, u22, u23, u24, u25, u26, u27, u28, u29, u30, u31, u32, u33, u34, u35, rfl, f0, f1, f2, f3, f4, f5, f6, f7, f8, f9, f10, f11, f12, f13, f14, f15, f16, f17, f18, f20, f22, f24, f26, f28, g0, g1⟩ hd hdep Kc hKc
      have hd24 : d 24 = true := hdep ⟨24, .data⟩ (by simp) rfl
      have hd11 : d 11 = true := hdep ⟨11, .data⟩ (by simp) rfl
      have hd11 : d 11 = true := hdep ⟨11, .phase⟩ (by simp) rfl
      obtain rfl := f24 hd24
      obtain rfl := f11 hd11
      obtain ⟨y0, y1, y2, y3, y4, y5, e0, e1, e2, p0, r0, t0, p1, r1, t1, p2, r2, t2, p3, r3, t3, p4, r4, t4, p5, r5, t5⟩ := g1
      have hbc := blk_cell e1
      have hbf := blk_free e1
      have hbl2 := blk_lt e1
      rw [if_pos (by rfl)]
      go_big_op
      have hBn : Below w.heap.size w (x.setCell ⟨w.heap.size + 1, 2, none⟩ (.int .i64 M')) := g0.setCell (by show w.heap.size ≤ w.heap.size + 1; omega) _
      have RB0 : (x.setCell ⟨w.heap.size + 1, 2, none⟩ (.int .i64 M')).heap[w.heap.size]? = some (.cells #[y0, .int .i64 k, y1] 25 (0, 0)) := by repeat (first | (with_reducible assumption) | (with_reducible refine blk_new_at ?_ _ _; first | (with_reducible rfl) | (simp; done)) | (with_reducible refine blk_alloc ?_ _) | (with_reducible refine blk_drew ?_) | (with_reducible apply blk_set) | (show Array.setIfInBounds _ _ _ = _; first | (simp; done) | (simp; rfl)) | (with_reducible refine blk_set_other ?_ ?_; omega))
      have RB1 : (x.setCell ⟨w.heap.size + 1, 2, none⟩ (.int .i64 M')).heap[w.heap.size + 1]? = some (.cells #[y2, .int .i64 k', .int .i64 M'] 25 (0, 0)) := by repeat (first | (with_reducible assumption) | (with_reducible refine blk_new_at ?_ _ _; first | (with_reducible rfl) | (simp; done)) | (with_reducible refine blk_alloc ?_ _) | (with_reducible refine blk_drew ?_) | (with_reducible apply blk_set) | (show Array.setIfInBounds _ _ _ = _; first | (simp; done) | (simp; rfl)) | (with_reducible refine blk_set_other ?_ ?_; omega))
      have RB2 : (x.setCell ⟨w.heap.size + 1, 2, none⟩ (.int .i64 M')).heap[w.heap.size + 1 + 1]? = some (.cells #[y4, .int .i64 k'', y5] 25 (0, 0)) := by repeat (first | (with_reducible assumption) | (with_reducible refine blk_new_at ?_ _ _; first | (with_reducible rfl) | (simp; done)) | (with_reducible refine blk_alloc ?_ _) | (with_reducible refine blk_drew ?_) | (with_reducible apply blk_set) | (show Array.setIfInBounds _ _ _ = _; first | (simp; done) | (simp; rfl)) | (with_reducible refine blk_set_other ?_ ?_; omega))
      generalize (x.setCell ⟨w.heap.size + 1, 2, none⟩ (.int .i64 M')) = X at *
      refine hKc _ _ ⟨_, _, _, _, _, _, _, _, _, _, _, _, _, _, _, _, _, _, _, _, _, _, _, _, rfl, ?_, ?_, ?_, ?_, ?_, ?_, ?_, ?_, ?_, ?_, ?_, ?_, ?_, ?_, ?_, ?_, ?_, ?_, ?_, ?_, ?_, ?_, ?_, ?_, ?_, ?_⟩
      · exact (fun h => f0 (up h rfl))
      · exact (fun h => f1 (up h rfl))
      · exact (fun h => f2 (up h rfl))
      · exact (fun h => f3 (up h rfl))
      · exact (fun h => f4 (up h rfl))
      · exact (fun h => f5 (up h rfl))
      · exact (fun h => f6 (up h rfl))
      · exact (fun h => f7 (up h rfl))
      · exact (fun h => f8 (up h rfl))
      · exact (fun h => f9 (up h rfl))
      · exact (fun h => f10 (up h rfl))
      · exact (fun h => f11 (up h rfl))
      · exact (fun h => f12 (up h rfl))
      · exact (fun h => f13 (up h rfl))
      · exact (fun h => f14 (up h rfl))
      · exact (fun h => f15 (up h rfl))
      · exact (fun h => f16 (up h rfl))
      · exact (fun h => f17 (up h rfl))
      · exact (fun h => f18 (up h rfl))
      · exact (fun h => f20 (up h rfl))
      · exact (fun h => f22 (up h rfl))
      · exact (fun h => f24 (up h rfl))
      · exact (fun h => f26 (up h rfl))
      · exact (fun h => f28 (up h rfl))
      · exact hBn
      · exact ⟨_, _, _, _, _, _, RB0, RB1, RB2, (fun h => p0 (dn h)), (fun h => ⟨(r0 (up h rfl)).1, upl (r0 (up h rfl)).2⟩), (fun h => upl (t0 (up h rfl))), (fun h => p1 (dn h)), (fun h => ⟨(r1 (up h rfl)).1, upl (r1 (up h rfl)).2⟩), (fun h => upl (t1 (up h rfl))), (fun h => p2 (dn h)), (fun h => ⟨(r2 (up h rfl)).1, upl (r2 (up h rfl)).2⟩), (fun h => upl (t2 (up h rfl))), (fun h => by simp at h), (fun _ => ⟨rfl, upl hd11⟩), (fun h => upl (t3 (up h rfl))), (fun h => p4 (dn h)), (fun h => ⟨(r4 (up h rfl)).1, upl (r4 (up h rfl)).2⟩), (fun h => upl (t4 (up h rfl))), (fun h => p5 (dn h)), (fun h => ⟨(r5 (up h rfl)).1, upl (r5 (up h rfl)).2⟩), (fun h => upl (t5 (up h rfl)))⟩
    · unfold StepOk
      rintro d act x ⟨u12, u13, u14, u15, u16, u17, u18, u19, u20, u21, u22, u23, u24, u25, u26, u27, u28, u29, u30, u31, u32, u33, u34, u35, rfl, f0, f1, f2, f3, f4, f5, f6, f7, f8, f9, f10, f11, f12, f13, f14, f15, f16, f17, f18, f20, f22, f24, f26, f28, g0, g1⟩ hd hdep Kc hKc
      obtain ⟨y0, y1, y2, y3, y4, y5, e0, e1, e2, p0, r0, t0, p1, r1, t1, p2, r2, t2, p3, r3, t3, p4, r4, t4, p5, r5, t5⟩ := g1
      rw [if_pos (by rfl)]
      go_big_op
      refine hKc _ _ ⟨_, _, _, _, _, _, _, _, _, _, _, _, _, _, _, _, _, _, _, _, _, _, _, _, rfl, ?_, ?_, ?_, ?_, ?_, ?_, ?_, ?_, ?_, ?_, ?_, ?_, ?_, ?_, ?_, ?_, ?_, ?_, ?_, ?_, ?_, ?_, ?_, ?_, ?_, ?_⟩
      · exact (fun h => f0 (up h rfl))
      · exact (fun h => f1 (up h rfl))
      · exact (fun h => f2 (up h rfl))
      · exact (fun h => f3 (up h rfl))
      · exact (fun h => f4 (up h rfl))
      · exact (fun h => f5 (up h rfl))
      · exact (fun h => f6 (up h rfl))
      · exact (fun h => f7 (up h rfl))
      · exact (fun h => f8 (up h rfl))
      · exact (fun h => f9 (up h rfl))
      · exact (fun h => f10 (up h rfl))
      · exact (fun h => f11 (up h rfl))
      · exact (fun h => f12 (up h rfl))
      · exact (fun h => f13 (up h rfl))
      · exact (fun h => f14 (up h rfl))
      · exact (fun h => f15 (up h rfl))
      · exact (fun h => f16 (up h rfl))
      · exact (fun h => f17 (up h rfl))
      · exact (fun h => f18 (up h rfl))
      · exact (fun h => f20 (up h rfl))
      · exact (fun h => f22 (up h rfl))
      · exact (fun h => f24 (up h rfl))
      · exact (fun _ => rfl)
      · exact (fun h => f28 (up h rfl))
      · exact g0
      · exact ⟨_, _, _, _, _, _, e0, e1, e2, (fun h => p0 (dn h)), (fun h => ⟨(r0 (up h rfl)).1, upl (r0 (up h rfl)).2⟩), (fun h => upl (t0 (up h rfl))), (fun h => p1 (dn h)), (fun h => ⟨(r1 (up h rfl)).1, upl (r1 (up h rfl)).2⟩), (fun h => upl (t1 (up h rfl))), (fun h => p2 (dn h)), (fun h => ⟨(r2 (up h rfl)).1, upl (r2 (up h rfl)).2⟩), (fun h => upl (t2 (up h rfl))), (fun h => p3 (dn h)), (fun h => ⟨(r3 (up h rfl)).1, upl (r3 (up h rfl)).2⟩), (fun h => upl (t3 (up h rfl))), (fun h => p4 (dn h)), (fun h => ⟨(r4 (up h rfl)).1, upl (r4 (up h rfl)).2⟩), (fun h => upl (t4 (up h rfl))), (fun h => p5 (dn h)), (fun h => ⟨(r5 (up h rfl)).1, upl (r5 (up h rfl)).2⟩), (fun h => upl (t5 (up h rfl)))⟩
    · unfold StepOk
      rintro d act x ⟨u12, u13, u14, u15, u16, u17, u18, u19, u20, u21, u22, u23, u24, u25, u26, u27, u28, u29, u30, u31, u32, u33, u34, u35, rfl, f0, f1, f2, f3, f4, f5, f6, f7, f8, f9, f10, f11, f12, f13, f14, f15, f16, f17, f18, f20, f22, f24, f26, f28, g0, g1⟩ hd hdep Kc hKc
      have hd26 : d 26 = true := hdep ⟨26, .data⟩ (by simp) rfl
      have hd14 : d 14 = true := hdep ⟨14, .data⟩ (by simp) rfl
      have hd14 : d 14 = true := hdep ⟨14, .phase⟩ (by simp) rfl
      obtain rfl := f26 hd26
      obtain rfl := f14 hd14
      obtain ⟨y0, y1, y2, y3, y4, y5, e0, e1, e2, p0, r0, t0, p1, r1, t1, p2, r2, t2, p3, r3, t3, p4, r4, t4, p5, r5, t5⟩ := g1
      have hbc := blk_cell e2
      have hbf := blk_free e2
      have hbl2 := blk_lt e2
      rw [if_pos (by rfl)]
      go_big_op
      have hBn : Below w.heap.size w (x.setCell ⟨w.heap.size + 1 + 1, 0, none⟩ (.int .i64 T'')) := g0.setCell (by show w.heap.size ≤ w.heap.size + 1 + 1; omega) _
      have RB0 : (x.setCell ⟨w.heap.size + 1 + 1, 0, none⟩ (.int .i64 T'')).heap[w.heap.size]? = some (.cells #[y0, .int .i64 k, y1] 25 (0, 0)) := by repeat (first | (with_reducible assumption) | (with_reducible refine blk_new_at ?_ _ _; first | (with_reducible rfl) | (simp; done)) | (with_reducible refine blk_alloc ?_ _) | (with_reducible refine blk_drew ?_) | (with_reducible apply blk_set) | (show Array.setIfInBounds _ _ _ = _; first | (simp; done) | (simp; rfl)) | (with_reducible refine blk_set_other ?_ ?_; omega))
      have RB1 : (x.setCell ⟨w.heap.size + 1 + 1, 0, none⟩ (.int .i64 T'')).heap[w.heap.size + 1]? = some (.cells #[y2, .int .i64 k', y3] 25 (0, 0)) := by repeat (first | (with_reducible assumption) | (with_reducible refine blk_new_at ?_ _ _; first | (with_reducible rfl) | (simp; done)) | (with_reducible refine blk_alloc ?_ _) | (with_reducible refine blk_drew ?_) | (with_reducible apply blk_set) | (show Array.setIfInBounds _ _ _ = _; first | (simp; done) | (simp; rfl)) | (with_reducible refine blk_set_other ?_ ?_; omega))
      have RB2 : (x.setCell ⟨w.heap.size + 1 + 1, 0, none⟩ (.int .i64 T'')).heap[w.heap.size + 1 + 1]? = some (.cells #[.int .i64 T'', .int .i64 k'', y5] 25 (0, 0)) := by repeat (first | (with_reducible assumption) | (with_reducible refine blk_new_at ?_ _ _; first | (with_reducible rfl) | (simp; done)) | (with_reducible refine blk_alloc ?_ _) | (with_reducible refine blk_drew ?_) | (with_reducible apply blk_set) | (show Array.setIfInBounds _ _ _ = _; first | (simp; done) | (simp; rfl)) | (with_reducible refine blk_set_other ?_ ?_; omega))
      generalize (x.setCell ⟨w.heap.size + 1 + 1, 0, none⟩ (.int .i64 T'')) = X at *
      refine hKc _ _ ⟨_, _, _, _, _, _, _, _, _, _, _, _, _, _, _, _, _, _, _, _, _, _, _, _, rfl, ?_, ?_, ?_, ?_, ?_, ?_, ?_, ?_, ?_, ?_, ?_, ?_, ?_, ?_, ?_, ?_, ?_, ?_, ?_, ?_, ?_, ?_, ?_, ?_, ?_, ?_⟩
      · exact (fun h => f0 (up h rfl))
      · exact (fun h => f1 (up h rfl))
      · exact (fun h => f2 (up h rfl))
      · exact (fun h => f3 (up h rfl))
      · exact (fun h => f4 (up h rfl))
      · exact (fun h => f5 (up h rfl))
      · exact (fun h => f6 (up h rfl))
      · exact (fun h => f7 (up h rfl))
      · exact (fun h => f8 (up h rfl))
      · exact (fun h => f9 (up h rfl))
      · exact (fun h => f10 (up h rfl))
      · exact (fun h => f11 (up h rfl))
      · exact (fun h => f12 (up h rfl))
      · exact (fun h => f13 (up h rfl))
      · exact (fun h => f14 (up h rfl))
      · exact (fun h => f15 (up h rfl))
      · exact (fun h => f16 (up h rfl))
      · exact (fun h => f17 (up h rfl))
      · exact (fun h => f18 (up h rfl))
      · exact (fun h => f20 (up h rfl))
      · exact (fun h => f22 (up h rfl))
      · exact (fun h => f24 (up h rfl))
      · exact (fun h => f26 (up h rfl))
      · exact (fun h => f28 (up h rfl))
      · exact hBn
      · exact ⟨_, _, _, _, _, _, RB0, RB1, RB2, (fun h => p0 (dn h)), (fun h => ⟨(r0 (up h rfl)).1, upl (r0 (up h rfl)).2⟩), (fun h => upl (t0 (up h rfl))), (fun h => p1 (dn h)), (fun h => ⟨(r1 (up h rfl)).1, upl (r1 (up h rfl)).2⟩), (fun h => upl (t1 (up h rfl))), (fun h => p2 (dn h)), (fun h => ⟨(r2 (up h rfl)).1, upl (r2 (up h rfl)).2⟩), (fun h => upl (t2 (up h rfl))), (fun h => p3 (dn h)), (fun h => ⟨(r3 (up h rfl)).1, upl (r3 (up h rfl)).2⟩), (fun h => upl (t3 (up h rfl))), (fun h => by simp at h), (fun _ => ⟨rfl, upl hd14⟩), (fun h => upl (t4 (up h rfl))), (fun h => p5 (dn h)), (fun h => ⟨(r5 (up h rfl)).1, upl (r5 (up h rfl)).2⟩), (fun h => upl (t5 (up h rfl)))⟩
    · unfold StepOk
      rintro d act x ⟨u12, u13, u14, u15, u16, u17, u18, u19, u20, u21, u22, u23, u24, u25, u26, u27, u28, u29, u30, u31, u32, u33, u34, u35, rfl, f0, f1, f2, f3, f4, f5, f6, f7, f8, f9, f10, f11, f12, f13, f14, f15, f16, f17, f18, f20, f22, f24, f26, f28, g0, g1⟩ hd hdep Kc hKc
      obtain ⟨y0, y1, y2, y3, y4, y5, e0, e1, e2, p0, r0, t0, p1, r1, t1, p2, r2, t2, p3, r3, t3, p4, r4, t4, p5, r5, t5⟩ := g1
      rw [if_pos (by rfl)]
      go_big_op
      refine hKc _ _ ⟨_, _, _, _, _, _, _, _, _, _, _, _, _, _, _, _, _, _, _, _, _, _, _, _, rfl, ?_, ?_, ?_, ?_, ?_, ?_, ?_, ?_, ?_, ?_, ?_, ?_, ?_, ?_, ?_, ?_, ?_, ?_, ?_, ?_, ?_, ?_, ?_, ?_, ?_, ?_⟩
      · exact (fun h => f0 (up h rfl))
      · exact (fun h => f1 (up h rfl))
      · exact (fun h => f2 (up h rfl))
      · exact (fun h => f3 (up h rfl))
      · exact (fun h => f4 (up h rfl))
      · exact (fun h => f5 (up h rfl))
      · exact (fun h => f6 (up h rfl))
      · exact (fun h => f7 (up h rfl))
      · exact (fun h => f8 (up h rfl))
      · exact (fun h => f9 (up h rfl))
      · exact (fun h => f10 (up h rfl))
      · exact (fun h => f11 (up h rfl))
      · exact (fun h => f12 (up h rfl))
      · exact (fun h => f13 (up h rfl))
      · exact (fun h => f14 (up h rfl))
      · exact (fun h => f15 (up h rfl))
      · exact (fun h => f16 (up h rfl))
      · exact (fun h => f17 (up h rfl))
      · exact (fun h => f18 (up h rfl))
      · exact (fun h => f20 (up h rfl))
      · exact (fun h => f22 (up h rfl))
      · exact (fun h => f24 (up h rfl))
      · exact (fun h => f26 (up h rfl))
      · exact (fun _ => rfl)
      · exact g0
      · exact ⟨_, _, _, _, _, _, e0, e1, e2, (fun h => p0 (dn h)), (fun h => ⟨(r0 (up h rfl)).1, upl (r0 (up h rfl)).2⟩), (fun h => upl (t0 (up h rfl))), (fun h => p1 (dn h)), (fun h => ⟨(r1 (up h rfl)).1, upl (r1 (up h rfl)).2⟩), (fun h => upl (t1 (up h rfl))), (fun h => p2 (dn h)), (fun h => ⟨(r2 (up h rfl)).1, upl (r2 (up h rfl)).2⟩), (fun h => upl (t2 (up h rfl))), (fun h => p3 (dn h)), (fun h => ⟨(r3 (up h rfl)).1, upl (r3 (up h rfl)).2⟩), (fun h => upl (t3 (up h rfl))), (fun h => p4 (dn h)), (fun h => ⟨(r4 (up h rfl)).1, upl (r4 (up h rfl)).2⟩), (fun h => upl (t4 (up h rfl))), (fun h => p5 (dn h)), (fun h => ⟨(r5 (up h rfl)).1, upl (r5 (up h rfl)).2⟩), (fun h => upl (t5 (up h rfl)))⟩
    · unfold StepOk
      rintro d act x ⟨u12, u13, u14, u15, u16, u17, u18, u19, u20, u21, u22, u23, u24, u25, u26, u27, u28, u29, u30, u31, u32, u33, u34, u35, rfl, f0, f1, f2, f3, f4, f5, f6, f7, f8, f9, f10, f11, f12, f13, f14, f15, f16, f17, f18, f20, f22, f24, f26, f28, g0, g1⟩ hd hdep Kc hKc
      have hd28 : d 28 = true := hdep ⟨28, .data⟩ (by simp) rfl
      have hd17 : d 17 = true := hdep ⟨17, .data⟩ (by simp) rfl
      have hd17 : d 17 = true := hdep ⟨17, .phase⟩ (by simp) rfl
      obtain rfl := f28 hd28
      obtain rfl := f17 hd17
      obtain ⟨y0, y1, y2, y3, y4, y5, e0, e1, e2, p0, r0, t0, p1, r1, t1, p2, r2, t2, p3, r3, t3, p4, r4, t4, p5, r5, t5⟩ := g1
      have hbc := blk_cell e2
      have hbf := blk_free e2
      have hbl2 := blk_lt e2
      rw [if_pos (by rfl)]
      go_big_op
      have hBn : Below w.heap.size w (x.setCell ⟨w.heap.size + 1 + 1, 2, none⟩ (.int .i64 M'')) := g0.setCell (by show w.heap.size ≤ w.heap.size + 1 + 1; omega) _
      have RB0 : (x.setCell ⟨w.heap.size + 1 + 1, 2, none⟩ (.int .i64 M'')).heap[w.heap.size]? = some (.cells #[y0, .int .i64 k, y1] 25 (0, 0)) := by repeat (first | (with_reducible assumption) | (with_reducible refine blk_new_at ?_ _ _; first | (with_reducible rfl) | (simp; done)) | (with_reducible refine blk_alloc ?_ _) | (with_reducible refine blk_drew ?_) | (with_reducible apply blk_set) | (show Array.setIfInBounds _ _ _ = _; first | (simp; done) | (simp; rfl)) | (with_reducible refine blk_set_other ?_ ?_; omega))
      have RB1 : (x.setCell ⟨w.heap.size + 1 + 1, 2, none⟩ (.int .i64 M'')).heap[w.heap.size + 1]? = some (.cells #[y2, .int .i64 k', y3] 25 (0, 0)) := by repeat (first | (with_reducible assumption) | (with_reducible refine blk_new_at ?_ _ _; first | (with_reducible rfl) | (simp; done)) | (with_reducible refine blk_alloc ?_ _) | (with_reducible refine blk_drew ?_) | (with_reducible apply blk_set) | (show Array.setIfInBounds _ _ _ = _; first | (simp; done) | (simp; rfl)) | (with_reducible refine blk_set_other ?_ ?_; omega))
      have RB2 : (x.setCell ⟨w.heap.size + 1 + 1, 2, none⟩ (.int .i64 M'')).heap[w.heap.size + 1 + 1]? = some (.cells #[y4, .int .i64 k'', .int .i64 M''] 25 (0, 0)) := by repeat (first | (with_reducible assumption) | (with_reducible refine blk_new_at ?_ _ _; first | (with_reducible rfl) | (simp; done)) | (with_reducible refine blk_alloc ?_ _) | (with_reducible refine blk_drew ?_) | (with_reducible apply blk_set) | (show Array.setIfInBounds _ _ _ = _; first | (simp; done) | (simp; rfl)) | (with_reducible refine blk_set_other ?_ ?_; omega))
      generalize (x.setCell ⟨w.heap.size + 1 + 1, 2, none⟩ (.int .i64 M'')) = X at *
      refine hKc _ _ ⟨_, _, _, _, _, _, _, _, _, _, _, _, _, _, _, _, _, _, _, _, _, _, _, _, rfl, ?_, ?_, ?_, ?_, ?_, ?_, ?_, ?_, ?_, ?_, ?_, ?_, ?_, ?_, ?_, ?_, ?_, ?_, ?_, ?_, ?_, ?_, ?_, ?_, ?_, ?_⟩
      · exact (fun h => f0 (up h rfl))
      · exact (fun h => f1 (up h rfl))
      · exact (fun h => f2 (up h rfl))
      · exact (fun h => f3 (up h rfl))
      · exact (fun h => f4 (up h rfl))
      · exact (fun h => f5 (up h rfl))
      · exact (fun h => f6 (up h rfl))
      · exact (fun h => f7 (up h rfl))
      · exact (fun h => f8 (up h rfl))
      · exact (fun h => f9 (up h rfl))
      · exact (fun h => f10 (up h rfl))
      · exact (fun h => f11 (up h rfl))
      · exact (fun h => f12 (up h rfl))
      · exact (fun h => f13 (up h rfl))
      · exact (fun h => f14 (up h rfl))
      · exact (fun h => f15 (up h rfl))
      · exact (fun h => f16 (up h rfl))
      · exact (fun h => f17 (up h rfl))
      · exact (fun h => f18 (up h rfl))
      · exact (fun h => f20 (up h rfl))
      · exact (fun h => f22 (up h rfl))
      · exact (fun h => f24 (up h rfl))
      · exact (fun h => f26 (up h rfl))
      · exact (fun h => f28 (up h rfl))
      · exact hBn
      · exact ⟨_, _, _, _, _, _, RB0, RB1, RB2, (fun h => p0 (dn h)), (fun h => ⟨(r0 (up h rfl)).1, upl (r0 (up h rfl)).2⟩), (fun h => upl (t0 (up h rfl))), (fun h => p1 (dn h)), (fun h => ⟨(r1 (up h rfl)).1, upl (r1 (up h rfl)).2⟩), (fun h => upl (t1 (up h rfl))), (fun h => p2 (dn h)), (fun h => ⟨(r2 (up h rfl)).1, upl (r2 (up h rfl)).2⟩), (fun h => upl (t2 (up h rfl))), (fun h => p3 (dn h)), (fun h => ⟨(r3 (up h rfl)).1, upl (r3 (up h rfl)).2⟩), (fun h => upl (t3 (up h rfl))), (fun h => p4 (dn h)), (fun h => ⟨(r4 (up h rfl)).1, upl (r4 (up h rfl)).2⟩), (fun h => upl (t4 (up h rfl))), (fun h => by simp at h), (fun _ => ⟨rfl, upl hd17⟩), (fun h => upl (t5 (up h rfl)))⟩
  · rintro d act x ⟨u12, u13, u14, u15, u16, u17, u18, u19, u20, u21, u22, u23, u24, u25, u26, u27, u28, u29, u30, u31, u32, u33, u34, u35, rfl, f0, f1, f2, f3, f4, f5, f6, f7, f8, f9, f10, f11, f12, f13, f14, f15, f16, f17, f18, f20, f22, f24, f26, f28, g0, g1⟩ hall
    obtain ⟨y0, y1, y2, y3, y4, y5, e0, e1, e2, p0, r0, t0, p1, r1, t1, p2, r2, t2, p3, r3, t3, p4, r4, t4, p5, r5, t5⟩ := g1
    obtain ⟨rfl, -⟩ := r0 (hall 19 (by decide))
    obtain ⟨rfl, -⟩ := r1 (hall 21 (by decide))
    obtain ⟨rfl, -⟩ := r2 (hall 23 (by decide))
    obtain ⟨rfl, -⟩ := r3 (hall 25 (by decide))
    obtain ⟨rfl, -⟩ := r4 (hall 27 (by decide))
    obtain ⟨rfl, -⟩ := r5 (hall 29 (by decide))
    clear f0 f1 f2 f3 f4 f5 f6 f7 f8 f9 f10 f11 f12 f13 f14 f15 f16 f17 f18 f20 f22 f24 f26 f28 hall p0 r0 t0 p1 r1 t1 p2 r2 t2 p3 r3 t3 p4 r4 t4 p5 r5 t5
    have z2_r0 : x.heap[w.heap.size]? = some (.cells #[.int .i64 T, .int .i64 k, .int .i64 M] 25 (0, 0)) := e0
    have z2_r1 : x.heap[w.heap.size + 1]? = some (.cells #[.int .i64 T', .int .i64 k', .int .i64 M'] 25 (0, 0)) := e1
    have z2_r2 : x.heap[w.heap.size + 1 + 1]? = some (.cells #[.int .i64 T'', .int .i64 k'', .int .i64 M''] 25 (0, 0)) := e2
    have z2_B : Below w.heap.size w x := g0
    have z2_z := z2_B.size
    clear z1_B z1_z z1_c0 z1_l0 z1_k0_0 z1_k0_1 z1_c1 z1_l1 z1_k1_0 z1_k1_1 z1_c2 z1_l2 z1_k2_0 z1_k2_1 z1_h0 z1_h1 z1_h2 e0 e1 e2 g0
    have z2_c0 := blk_cell z2_r0
    have z2_l0 := blk_lt z2_r0
    have z2_k0_0 : w.heap.size ≤ x.heap.size := by omega
    have z2_k0_1 : w.heap.size ≤ x.heap.size + 1 := by omega
    have z2_c1 := blk_cell z2_r1
    have z2_l1 := blk_lt z2_r1
    have z2_k1_0 : w.heap.size + 1 ≤ x.heap.size := by omega
    have z2_k1_1 : w.heap.size + 1 ≤ x.heap.size + 1 := by omega
    have z2_c2 := blk_cell z2_r2
    have z2_l2 := blk_lt z2_r2
    have z2_k2_0 : w.heap.size + 1 + 1 ≤ x.heap.size := by omega
    have z2_k2_1 : w.heap.size + 1 + 1 ≤ x.heap.size + 1 := by omega
    have z2_h0 := Lib.hid z2_r0
    have z2_h1 := Lib.hid z2_r1
    have z2_h2 := Lib.hid z2_r2
    clear z2_r0 z2_r1 z2_r2
    obtain ⟨w2, rfl⟩ : ∃ y, y = x := ⟨_, rfl⟩
    go_upto_region 2 with fail
    refine wp_region_inv_eq (J := fun A d act x => ∃ u36 u37 u38 u39 u40 u41 u42 u43 u44 u45 u46 u47 : Value, act = ((((((((((((A.put (some 36) u36).put (some 37) u37).put (some 38) u38).put (some 39) u39).put (some 40) u40).put (some 41) u41).put (some 42) u42).put (some 43) u43).put (some 44) u44).put (some 45) u45).put (some 46) u46).put (some 47) u47) ∧ (d 0 = true → u36 = .pointer (some ⟨w.heap.size, 1, none⟩)) ∧ (d 1 = true → u37 = .int .i64 k) ∧ (d 2 = true → u38 = .int .i64 K) ∧ (d 3 = true → u39 = .pointer (some ⟨w.heap.size + 1, 1, none⟩)) ∧ (d 4 = true → u40 = .int .i64 k') ∧ (d 5 = true → u41 = .int .i64 K') ∧ (d 6 = true → u42 = .pointer (some ⟨w.heap.size + 1 + 1, 1, none⟩)) ∧ (d 7 = true → u43 = .int .i64 k'') ∧ (d 8 = true → u44 = .int .i64 K'') ∧ (d 9 = true → u45 = .pointer (some ⟨w.heap.size, 1, none⟩)) ∧ (d 11 = true → u46 = .pointer (some ⟨w.heap.size + 1, 1, none⟩)) ∧ (d 13 = true → u47 = .pointer (some ⟨w.heap.size + 1 + 1, 1, none⟩)) ∧ Below w.heap.size w x ∧ ∃ y0 y1 y2 : Value, x.heap[w.heap.size]? = some (.cells #[.int .i64 T, y0, .int .i64 M] 25 (0, 0)) ∧ x.heap[w.heap.size + 1]? = some (.cells #[.int .i64 T', y1, .int .i64 M'] 25 (0, 0)) ∧ x.heap[w.heap.size + 1 + 1]? = some (.cells #[.int .i64 T'', y2, .int .i64 M''] 25 (0, 0)) ∧ (d 10 = false → y0 = .int .i64 k) ∧ (d 10 = true → y0 = .int .i64 K ∧ d 2 = true) ∧ (d 2 = true → d 1 = true) ∧ (d 12 = false → y1 = .int .i64 k') ∧ (d 12 = true → y1 = .int .i64 K' ∧ d 5 = true) ∧ (d 5 = true → d 4 = true) ∧ (d 14 = false → y2 = .int .i64 k'') ∧ (d 14 = true → y2 = .int .i64 K'' ∧ d 8 = true) ∧ (d 8 = true → d 7 = true)) (by simp only [Act.put, List.setIfInBounds_toArray, List.set_cons_succ, List.set_cons_zero]; rfl) (by kernel_rfl) (by kernel_rfl) ?_ ?_ ?_
    · refine ⟨_, _, _, _, _, _, _, _, _, _, _, _, rfl, ?_, ?_, ?_, ?_, ?_, ?_, ?_, ?_, ?_, ?_, ?_, ?_, ?_, ?_⟩
      · intro h; cases h
      · intro h; cases h
      · intro h; cases h
      · intro h; cases h
      · intro h; cases h
      · intro h; cases h
      · intro h; cases h
      · intro h; cases h
      · intro h; cases h
      · intro h; cases h
      · intro h; cases h
      · intro h; cases h
      · exact z2_B.drew
      · exact ⟨_, _, _, blk_drew z2_h0.out, blk_drew z2_h1.out, blk_drew z2_h2.out, (fun _ => rfl), (fun h => by cases h), (fun h => by cases h), (fun _ => rfl), (fun h => by cases h), (fun h => by cases h), (fun _ => rfl), (fun h => by cases h), (fun h => by cases h)⟩
    · refine stepsOk_cons (k := 0) ?_ (stepsOk_cons (k := 1) ?_ (stepsOk_cons (k := 2) ?_ (stepsOk_cons (k := 3) ?_ (stepsOk_cons (k := 4) ?_ (stepsOk_cons (k := 5) ?_ (stepsOk_cons (k := 6) ?_ (stepsOk_cons (k := 7) ?_ (stepsOk_cons (k := 8) ?_ (stepsOk_cons (k := 9) ?_ (stepsOk_cons (k := 10) ?_ (stepsOk_cons (k := 11) ?_ (stepsOk_cons (k := 12) ?_ (stepsOk_cons (k := 13) ?_ (stepsOk_cons (k := 14) ?_ stepsOk_nil))))))))))))))
      · unfold StepOk
        rintro d act x ⟨u36, u37, u38, u39, u40, u41, u42, u43, u44, u45, u46, u47, rfl, f0, f1, f2, f3, f4, f5, f6, f7, f8, f9, f11, f13, g0, g1⟩ hd hdep Kc hKc
        obtain ⟨y0, y1, y2, e0, e1, e2, p0, r0, t0, p1, r1, t1, p2, r2, t2⟩ := g1
        rw [if_pos (by rfl)]
        go_big_op
        refine hKc _ _ ⟨_, _, _, _, _, _, _, _, _, _, _, _, rfl, ?_, ?_, ?_, ?_, ?_, ?_, ?_, ?_, ?_, ?_, ?_, ?_, ?_, ?_⟩
        · exact (fun _ => rfl)
        · exact (fun h => f1 (up h rfl))
        · exact (fun h => f2 (up h rfl))
        · exact (fun h => f3 (up h rfl))
        · exact (fun h => f4 (up h rfl))
        · exact (fun h => f5 (up h rfl))
        · exact (fun h => f6 (up h rfl))
        · exact (fun h => f7 (up h rfl))
        · exact (fun h => f8 (up h rfl))
        · exact (fun h => f9 (up h rfl))
        · exact (fun h => f11 (up h rfl))
        · exact (fun h => f13 (up h rfl))
        · exact g0
        · exact ⟨_, _, _, e0, e1, e2, (fun h => p0 (dn h)), (fun h => ⟨(r0 (up h rfl)).1, upl (r0 (up h rfl)).2⟩), (fun h => upl (t0 (up h rfl))), (fun h => p1 (dn h)), (fun h => ⟨(r1 (up h rfl)).1, upl (r1 (up h rfl)).2⟩), (fun h => upl (t1 (up h rfl))), (fun h => p2 (dn h)), (fun h => ⟨(r2 (up h rfl)).1, upl (r2 (up h rfl)).2⟩), (fun h => upl (t2 (up h rfl)))⟩
      · unfold StepOk
        rintro d act x ⟨u36, u37, u38, u39, u40, u41, u42, u43, u44, u45, u46, u47, rfl, f0, f1, f2, f3, f4, f5, f6, f7, f8, f9, f11, f13, g0, g1⟩ hd hdep Kc hKc
        have hd0 : d 0 = true := hdep ⟨0, .data⟩ (by simp) rfl
        obtain rfl := f0 hd0
        obtain ⟨y0, y1, y2, e0, e1, e2, p0, r0, t0, p1, r1, t1, p2, r2, t2⟩ := g1
        have hy : y0 = .int .i64 k := by
          cases hs : d 10 with
          | false => exact p0 hs
          | true => have h2 := t0 (r0 hs).2; rw [hd] at h2; cases h2
        subst hy
        have hbc := blk_cell e0
        rw [if_pos (by rfl)]
        go_big_op
        refine hKc _ _ ⟨_, _, _, _, _, _, _, _, _, _, _, _, rfl, ?_, ?_, ?_, ?_, ?_, ?_, ?_, ?_, ?_, ?_, ?_, ?_, ?_, ?_⟩
        · exact (fun h => f0 (up h rfl))
        · exact (fun _ => rfl)
        · exact (fun h => f2 (up h rfl))
        · exact (fun h => f3 (up h rfl))
        · exact (fun h => f4 (up h rfl))
        · exact (fun h => f5 (up h rfl))
        · exact (fun h => f6 (up h rfl))
        · exact (fun h => f7 (up h rfl))
        · exact (fun h => f8 (up h rfl))
        · exact (fun h => f9 (up h rfl))
        · exact (fun h => f11 (up h rfl))
        · exact (fun h => f13 (up h rfl))
        · exact g0
        · exact ⟨_, _, _, e0, e1, e2, (fun h => p0 (dn h)), (fun h => ⟨(r0 (up h rfl)).1, upl (r0 (up h rfl)).2⟩), (fun _ => by simp), (fun h => p1 (dn h)), (fun h => ⟨(r1 (up h rfl)).1, upl (r1 (up h rfl)).2⟩), (fun h => upl (t1 (up h rfl))), (fun h => p2 (dn h)), (fun h => ⟨(r2 (up h rfl)).1, upl (r2 (up h rfl)).2⟩), (fun h => upl (t2 (up h rfl)))⟩
      · unfold StepOk
        rintro d act x ⟨u36, u37, u38, u39, u40, u41, u42, u43, u44, u45, u46, u47, rfl, f0, f1, f2, f3, f4, f5, f6, f7, f8, f9, f11, f13, g0, g1⟩ hd hdep Kc hKc
        have hd1 : d 1 = true := hdep ⟨1, .data⟩ (by simp) rfl
        obtain rfl := f1 hd1
        obtain ⟨y0, y1, y2, e0, e1, e2, p0, r0, t0, p1, r1, t1, p2, r2, t2⟩ := g1
        rw [if_pos (by rfl)]
        go_big_op
        refine hKc _ _ ⟨_, _, _, _, _, _, _, _, _, _, _, _, rfl, ?_, ?_, ?_, ?_, ?_, ?_, ?_, ?_, ?_, ?_, ?_, ?_, ?_, ?_⟩
        · exact (fun h => f0 (up h rfl))
        · exact (fun h => f1 (up h rfl))
        · exact (fun _ => rfl)
        · exact (fun h => f3 (up h rfl))
        · exact (fun h => f4 (up h rfl))
        · exact (fun h => f5 (up h rfl))
        · exact (fun h => f6 (up h rfl))
        · exact (fun h => f7 (up h rfl))
        · exact (fun h => f8 (up h rfl))
        · exact (fun h => f9 (up h rfl))
        · exact (fun h => f11 (up h rfl))
        · exact (fun h => f13 (up h rfl))
        · exact g0
        · exact ⟨_, _, _, e0, e1, e2, (fun h => p0 (dn h)), (fun h => ⟨(r0 (up h rfl)).1, by simp⟩), (fun _ => upl hd1), (fun h => p1 (dn h)), (fun h => ⟨(r1 (up h rfl)).1, upl (r1 (up h rfl)).2⟩), (fun h => upl (t1 (up h rfl))), (fun h => p2 (dn h)), (fun h => ⟨(r2 (up h rfl)).1, upl (r2 (up h rfl)).2⟩), (fun h => upl (t2 (up h rfl)))⟩
      · unfold StepOk
        rintro d act x ⟨u36, u37, u38, u39, u40, u41, u42, u43, u44, u45, u46, u47, rfl, f0, f1, f2, f3, f4, f5, f6, f7, f8, f9, f11, f13, g0, g1⟩ hd hdep Kc hKc
        obtain ⟨y0, y1, y2, e0, e1, e2, p0, r0, t0, p1, r1, t1, p2, r2, t2⟩ := g1
        rw [if_pos (by rfl)]
        go_big_op
        refine hKc _ _ ⟨_, _, _, _, _, _, _, _, _, _, _, _, rfl, ?_, ?_, ?_, ?_, ?_, ?_, ?_, ?_, ?_, ?_, ?_, ?_, ?_, ?_⟩
        · exact (fun h => f0 (up h rfl))
        · exact (fun h => f1 (up h rfl))
        · exact (fun h => f2 (up h rfl))
        · exact (fun _ => rfl)
        · exact (fun h => f4 (up h rfl))
        · exact (fun h => f5 (up h rfl))
        · exact (fun h => f6 (up h rfl))
        · exact (fun h => f7 (up h rfl))
        · exact (fun h => f8 (up h rfl))
        · exact (fun h => f9 (up h rfl))
        · exact (fun h => f11 (up h rfl))
        · exact (fun h => f13 (up h rfl))
        · exact g0
        · exact ⟨_, _, _, e0, e1, e2, (fun h => p0 (dn h)), (fun h => ⟨(r0 (up h rfl)).1, upl (r0 (up h rfl)).2⟩), (fun h => upl (t0 (up h rfl))), (fun h => p1 (dn h)), (fun h => ⟨(r1 (up h rfl)).1, upl (r1 (up h rfl)).2⟩), (fun h => upl (t1 (up h rfl))), (fun h => p2 (dn h)), (fun h => ⟨(r2 (up h rfl)).1, upl (r2 (up h rfl)).2⟩), (fun h => upl (t2 (up h rfl)))⟩
      · unfold StepOk
        rintro d act x ⟨u36, u37, u38, u39, u40, u41, u42, u43, u44, u45, u46, u47, rfl, f0, f1, f2, f3, f4, f5, f6, f7, f8, f9, f11, f13, g0, g1⟩ hd hdep Kc hKc
        have hd3 : d 3 = true := hdep ⟨3, .data⟩ (by simp) rfl
        obtain rfl := f3 hd3
        obtain ⟨y0, y1, y2, e0, e1, e2, p0, r0, t0, p1, r1, t1, p2, r2, t2⟩ := g1
        have hy : y1 = .int .i64 k' := by
          cases hs : d 12 with
          | false => exact p1 hs
          | true => have h2 := t1 (r1 hs).2; rw [hd] at h2; cases h2
        subst hy
        have hbc := blk_cell e1
        rw [if_pos (by rfl)]
        go_big_op
        refine hKc _ _ ⟨_, _, _, _, _, _, _, _, _, _, _, _, rfl, ?_, ?_, ?_, ?_, ?_, ?_, ?_, ?_, ?_, ?_, ?_, ?_, ?_, ?_⟩
        · exact (fun h => f0 (up h rfl))
        · exact (fun h => f1 (up h rfl))
        · exact (fun h => f2 (up h rfl))
        · exact (fun h => f3 (up h rfl))
        · exact (fun _ => rfl)
        · exact (fun h => f5 (up h rfl))
        · exact (fun h => f6 (up h rfl))
        · exact (fun h => f7 (up h rfl))
        · exact (fun h => f8 (up h rfl))
        · exact (fun h => f9 (up h rfl))
        · exact (fun h => f11 (up h rfl))
        · exact (fun h => f13 (up h rfl))
        · exact g0
        · exact ⟨_, _, _, e0, e1, e2, (fun h => p0 (dn h)), (fun h => ⟨(r0 (up h rfl)).1, upl (r0 (up h rfl)).2⟩), (fun h => upl (t0 (up h rfl))), (fun h => p1 (dn h)), (fun h => ⟨(r1 (up h rfl)).1, upl (r1 (up h rfl)).2⟩), (fun _ => by simp), (fun h => p2 (dn h)), (fun h => ⟨(r2 (up h rfl)).1, upl (r2 (up h rfl)).2⟩), (fun h => upl (t2 (up h rfl)))⟩
      · unfold StepOk
        rintro d act x ⟨u36, u37, u38, u39, u40, u41, u42, u43, u44, u45, u46, u47, rfl, f0, f1, f2, f3, f4, f5, f6, f7, f8, f9, f11, f13, g0, g1⟩ hd hdep Kc hKc
        have hd4 : d 4 = true := hdep ⟨4, .data⟩ (by simp) rfl
        obtain rfl := f4 hd4
        obtain ⟨y0, y1, y2, e0, e1, e2, p0, r0, t0, p1, r1, t1, p2, r2, t2⟩ := g1
        rw [if_pos (by rfl)]
        go_big_op
        refine hKc _ _ ⟨_, _, _, _, _, _, _, _, _, _, _, _, rfl, ?_, ?_, ?_, ?_, ?_, ?_, ?_, ?_, ?_, ?_, ?_, ?_, ?_, ?_⟩
        · exact (fun h => f0 (up h rfl))
        · exact (fun h => f1 (up h rfl))
        · exact (fun h => f2 (up h rfl))
        · exact (fun h => f3 (up h rfl))
        · exact (fun h => f4 (up h rfl))
        · exact (fun _ => rfl)
        · exact (fun h => f6 (up h rfl))
        · exact (fun h => f7 (up h rfl))
        · exact (fun h => f8 (up h rfl))
        · exact (fun h => f9 (up h rfl))
        · exact (fun h => f11 (up h rfl))
        · exact (fun h => f13 (up h rfl))
        · exact g0
        · exact ⟨_, _, _, e0, e1, e2, (fun h => p0 (dn h)), (fun h => ⟨(r0 (up h rfl)).1, upl (r0 (up h rfl)).2⟩), (fun h => upl (t0 (up h rfl))), (fun h => p1 (dn h)), (fun h => ⟨(r1 (up h rfl)).1, by simp⟩), (fun _ => upl hd4), (fun h => p2 (dn h)), (fun h => ⟨(r2 (up h rfl)).1, upl (r2 (up h rfl)).2⟩), (fun h => upl (t2 (up h rfl)))⟩
      · unfold StepOk
        rintro d act x ⟨u36, u37, u38, u39, u40, u41, u42, u43, u44, u45, u46, u47, rfl, f0, f1, f2, f3, f4, f5, f6, f7, f8, f9, f11, f13, g0, g1⟩ hd hdep Kc hKc
        obtain ⟨y0, y1, y2, e0, e1, e2, p0, r0, t0, p1, r1, t1, p2, r2, t2⟩ := g1
        rw [if_pos (by rfl)]
        go_big_op
        refine hKc _ _ ⟨_, _, _, _, _, _, _, _, _, _, _, _, rfl, ?_, ?_, ?_, ?_, ?_, ?_, ?_, ?_, ?_, ?_, ?_, ?_, ?_, ?_⟩
        · exact (fun h => f0 (up h rfl))
        · exact (fun h => f1 (up h rfl))
        · exact (fun h => f2 (up h rfl))
        · exact (fun h => f3 (up h rfl))
        · exact (fun h => f4 (up h rfl))
        · exact (fun h => f5 (up h rfl))
        · exact (fun _ => rfl)
        · exact (fun h => f7 (up h rfl))
        · exact (fun h => f8 (up h rfl))
        · exact (fun h => f9 (up h rfl))
        · exact (fun h => f11 (up h rfl))
        · exact (fun h => f13 (up h rfl))
        · exact g0
        · exact ⟨_, _, _, e0, e1, e2, (fun h => p0 (dn h)), (fun h => ⟨(r0 (up h rfl)).1, upl (r0 (up h rfl)).2⟩), (fun h => upl (t0 (up h rfl))), (fun h => p1 (dn h)), (fun h => ⟨(r1 (up h rfl)).1, upl (r1 (up h rfl)).2⟩), (fun h => upl (t1 (up h rfl))), (fun h => p2 (dn h)), (fun h => ⟨(r2 (up h rfl)).1, upl (r2 (up h rfl)).2⟩), (fun h => upl (t2 (up h rfl)))⟩
      · unfold StepOk
        rintro d act x ⟨u36, u37, u38, u39, u40, u41, u42, u43, u44, u45, u46, u47, rfl, f0, f1, f2, f3, f4, f5, f6, f7, f8, f9, f11, f13, g0, g1⟩ hd hdep Kc hKc
        have hd6 : d 6 = true := hdep ⟨6, .data⟩ (by simp) rfl
        obtain rfl := f6 hd6
        obtain ⟨y0, y1, y2, e0, e1, e2, p0, r0, t0, p1, r1, t1, p2, r2, t2⟩ := g1
        have hy : y2 = .int .i64 k'' := by
          cases hs : d 14 with
          | false => exact p2 hs
          | true => have h2 := t2 (r2 hs).2; rw [hd] at h2; cases h2
        subst hy
        have hbc := blk_cell e2
        rw [if_pos (by rfl)]
        go_big_op
        refine hKc _ _ ⟨_, _, _, _, _, _, _, _, _, _, _, _, rfl, ?_, ?_, ?_, ?_, ?_, ?_, ?_, ?_, ?_, ?_, ?_, ?_, ?_, ?_⟩
        · exact (fun h => f0 (up h rfl))
        · exact (fun h => f1 (up h rfl))
        · exact (fun h => f2 (up h rfl))
        · exact (fun h => f3 (up h rfl))
        · exact (fun h => f4 (up h rfl))
        · exact (fun h => f5 (up h rfl))
        · exact (fun h => f6 (up h rfl))
        · exact (fun _ => rfl)
        · exact (fun h => f8 (up h rfl))
        · exact (fun h => f9 (up h rfl))
        · exact (fun h => f11 (up h rfl))
        · exact (fun h => f13 (up h rfl))
        · exact g0
        · exact ⟨_, _, _, e0, e1, e2, (fun h => p0 (dn h)), (fun h => ⟨(r0 (up h rfl)).1, upl (r0 (up h rfl)).2⟩), (fun h => upl (t0 (up h rfl))), (fun h => p1 (dn h)), (fun h => ⟨(r1 (up h rfl)).1, upl (r1 (up h rfl)).2⟩), (fun h => upl (t1 (up h rfl))), (fun h => p2 (dn h)), (fun h => ⟨(r2 (up h rfl)).1, upl (r2 (up h rfl)).2⟩), (fun _ => by simp)⟩
      · unfold StepOk
        rintro d act x ⟨u36, u37, u38, u39, u40, u41, u42, u43, u44, u45, u46, u47, rfl, f0, f1, f2, f3, f4, f5, f6, f7, f8, f9, f11, f13, g0, g1⟩ hd hdep Kc hKc
        have hd7 : d 7 = true := hdep ⟨7, .data⟩ (by simp) rfl
        obtain rfl := f7 hd7
        obtain ⟨y0, y1, y2, e0, e1, e2, p0, r0, t0, p1, r1, t1, p2, r2, t2⟩ := g1
        rw [if_pos (by rfl)]
        go_big_op
        refine hKc _ _ ⟨_, _, _, _, _, _, _, _, _, _, _, _, rfl, ?_, ?_, ?_, ?_, ?_, ?_, ?_, ?_, ?_, ?_, ?_, ?_, ?_, ?_⟩
        · exact (fun h => f0 (up h rfl))
        · exact (fun h => f1 (up h rfl))
        · exact (fun h => f2 (up h rfl))
        · exact (fun h => f3 (up h rfl))
        · exact (fun h => f4 (up h rfl))
        · exact (fun h => f5 (up h rfl))
        · exact (fun h => f6 (up h rfl))
        · exact (fun h => f7 (up h rfl))
        · exact (fun _ => rfl)
        · exact (fun h => f9 (up h rfl))
        · exact (fun h => f11 (up h rfl))
        · exact (fun h => f13 (up h rfl))
        · exact g0
        · exact ⟨_, _, _, e0, e1, e2, (fun h => p0 (dn h)), (fun h => ⟨(r0 (up h rfl)).1, upl (r0 (up h rfl)).2⟩), (fun h => upl (t0 (up h rfl))), (fun h => p1 (dn h)), (fun h => ⟨(r1 (up h rfl)).1, upl (r1 (up h rfl)).2⟩), (fun h => upl (t1 (up h rfl))), (fun h => p2 (dn h)), (fun h => ⟨(r2 (up h rfl)).1, by simp⟩), (fun _ => upl hd7)⟩
      · unfold StepOk
        rintro d act x ⟨u36, u37, u38, u39, u40, u41, u42, u43, u44, u45, u46, u47, rfl, f0, f1, f2, f3, f4, f5, f6, f7, f8, f9, f11, f13, g0, g1⟩ hd hdep Kc hKc
        obtain ⟨y0, y1, y2, e0, e1, e2, p0, r0, t0, p1, r1, t1, p2, r2, t2⟩ := g1
        rw [if_pos (by rfl)]
        go_big_op
        refine hKc _ _ ⟨_, _, _, _, _, _, _, _, _, _, _, _, rfl, ?_, ?_, ?_, ?_, ?_, ?_, ?_, ?_, ?_, ?_, ?_, ?_, ?_, ?_⟩
        · exact (fun h => f0 (up h rfl))
        · exact (fun h => f1 (up h rfl))
        · exact (fun h => f2 (up h rfl))
        · exact (fun h => f3 (up h rfl))
        · exact (fun h => f4 (up h rfl))
        · exact (fun h => f5 (up h rfl))
        · exact (fun h => f6 (up h rfl))
        · exact (fun h => f7 (up h rfl))
        · exact (fun h => f8 (up h rfl))
        · exact (fun _ => rfl)
        · exact (fun h => f11 (up h rfl))
        · exact (fun h => f13 (up h rfl))
        · exact g0
        · exact ⟨_, _, _, e0, e1, e2, (fun h => p0 (dn h)), (fun h => ⟨(r0 (up h rfl)).1, upl (r0 (up h rfl)).2⟩), (fun h => upl (t0 (up h rfl))), (fun h => p1 (dn h)), (fun h => ⟨(r1 (up h rfl)).1, upl (r1 (up h rfl)).2⟩), (fun h => upl (t1 (up h rfl))), (fun h => p2 (dn h)), (fun h => ⟨(r2 (up h rfl)).1, upl (r2 (up h rfl)).2⟩), (fun h => upl (t2 (up h rfl)))⟩
      · unfold StepOk
        rintro d act x ⟨u36, u37, u38, u39, u40, u41, u42, u43, u44, u45, u46, u47, rfl, f0, f1, f2, f3, f4, f5, f6, f7, f8, f9, f11, f13, g0, g1⟩ hd hdep Kc hKc
        have hd9 : d 9 = true := hdep ⟨9, .data⟩ (by simp) rfl
        have hd2 : d 2 = true := hdep ⟨2, .data⟩ (by simp) rfl
        have hd2 : d 2 = true := hdep ⟨2, .phase⟩ (by simp) rfl
        obtain rfl := f9 hd9
        obtain rfl := f2 hd2
        obtain ⟨y0, y1, y2, e0, e1, e2, p0, r0, t0, p1, r1, t1, p2, r2, t2⟩ := g1
        have hbc := blk_cell e0
        have hbf := blk_free e0
        have hbl2 := blk_lt e0
        rw [if_pos (by rfl)]
        go_big_op
        have hBn : Below w.heap.size w (x.setCell ⟨w.heap.size, 1, none⟩ (.int .i64 K)) := g0.setCell (by show w.heap.size ≤ w.heap.size; omega) _
        have RB0 : (x.setCell ⟨w.heap.size, 1, none⟩ (.int .i64 K)).heap[w.heap.size]? = some (.cells #[.int .i64 T, .int .i64 K, .int .i64 M] 25 (0, 0)) := by repeat (first | (with_reducible assumption) | (with_reducible refine blk_new_at ?_ _ _; first | (with_reducible rfl) | (simp; done)) | (with_reducible refine blk_alloc ?_ _) | (with_reducible refine blk_drew ?_) | (with_reducible apply blk_set) | (show Array.setIfInBounds _ _ _ = _; first | (simp; done) | (simp; rfl)) | (with_reducible refine blk_set_other ?_ ?_; omega))
        have RB1 : (x.setCell ⟨w.heap.size, 1, none⟩ (.int .i64 K)).heap[w.heap.size + 1]? = some (.cells #[.int .i64 T', y1, .int .i64 M'] 25 (0, 0)) := by repeat (first | (with_reducible assumption) | (with_reducible refine blk_new_at ?_ _ _; first | (with_reducible rfl) | (simp; done)) | (with_reducible refine blk_alloc ?_ _) | (with_reducible refine blk_drew ?_) | (with_reducible apply blk_set) | (show Array.setIfInBounds _ _ _ = _; first | (simp; done) | (simp; rfl)) | (with_reducible refine blk_set_other ?_ ?_; omega))
        have RB2 : (x.setCell ⟨w.heap.size, 1, none⟩ (.int .i64 K)).heap[w.heap.size + 1 + 1]? = some (.cells #[.int .i64 T'', y2, .int .i64 M''] 25 (0, 0)) := by repeat (first | (with_reducible assumption) | (with_reducible refine blk_new_at ?_ _ _; first | (with_reducible rfl) | (simp; done)) | (with_reducible refine blk_alloc ?_ _) | (with_reducible refine blk_drew ?_) | (with_reducible apply blk_set) | (show Array.setIfInBounds _ _ _ = _; first | (simp; done) | (simp; rfl)) | (with_reducible refine blk_set_other ?_ ?_; omega))
        generalize (x.setCell ⟨w.heap.size, 1, none⟩ (.int .i64 K)) = X at *
        refine hKc _ _ ⟨_, _, _, _, _, _, _, _, _, _, _, _, rfl, ?_, ?_, ?_, ?_, ?_, ?_, ?_, ?_, ?_, ?_, ?_, ?_, ?_, ?_⟩
        · exact (fun h => f0 (up h rfl))
        · exact (fun h => f1 (up h rfl))
        · exact (fun h => f2 (up h rfl))
        · exact (fun h => f3 (up h rfl))
        · exact (fun h => f4 (up h rfl))
        · exact (fun h => f5 (up h rfl))
        · exact (fun h => f6 (up h rfl))
        · exact (fun h => f7 (up h rfl))
        · exact (fun h => f8 (up h rfl))
        · exact (fun h => f9 (up h rfl))
        · exact (fun h => f11 (up h rfl))
        · exact (fun h => f13 (up h rfl))
        · exact hBn
        · exact ⟨_, _, _, RB0, RB1, RB2, (fun h => by simp at h), (fun _ => ⟨rfl, upl hd2⟩), (fun h => upl (t0 (up h rfl))), (fun h => p1 (dn h)), (fun h => ⟨(r1 (up h rfl)).1, upl (r1 (up h rfl)).2⟩), (fun h => upl (t1 (up h rfl))), (fun h => p2 (dn h)), (fun h => ⟨(r2 (up h rfl)).1, upl (r2 (up h rfl)).2⟩), (fun h => upl (t2 (up h rfl)))⟩
      · unfold StepOk
        rintro d act x ⟨u36, u37, u38, u39, u40, u41, u42, u43, u44, u45, u46, u47, rfl, f0, f1, f2, f3, f4, f5, f6, f7, f8, f9, f11, f13, g0, g1⟩ hd hdep Kc hKc
        obtain ⟨y0, y1, y2, e0, e1, e2, p0, r0, t0, p1, r1, t1, p2, r2, t2⟩ := g1
        rw [if_pos (by rfl)]
        go_big_op
        refine hKc _ _ ⟨_, _, _, _, _, _, _, _, _, _, _, _, rfl, ?_, ?_, ?_, ?_, ?_, ?_, ?_, ?_, ?_, ?_, ?_, ?_, ?_, ?_⟩
        · exact (fun h => f0 (up h rfl))
        · exact (fun h => f1 (up h rfl))
        · exact (fun h => f2 (up h rfl))
        · exact (fun h => f3 (up h rfl))
        · exact (fun h => f4 (up h rfl))
        · exact (fun h => f5 (up h rfl))
        · exact (fun h => f6 (up h rfl))
        · exact (fun h => f7 (up h rfl))
        · exact (fun h => f8 (up h rfl))
        · exact (fun h => f9 (up h rfl))
        · exact (fun _ => rfl)
        · exact (fun h => f13 (up h rfl))
        · exact g0
        · exact ⟨_, _, _, e0, e1, e2, (fun h => p0 (dn h)), (fun h => ⟨(r0 (up h rfl)).1, upl (r0 (up h rfl)).2⟩), (fun h => upl (t0 (up h rfl))), (fun h => p1 (dn h)), (fun h => ⟨(r1 (up h rfl)).1, upl (r1 (up h rfl)).2⟩), (fun h => upl (t1 (up h rfl))), (fun h => p2 (dn h)), (fun h => ⟨(r2 (up h rfl)).1, upl (r2 (up h rfl)).2⟩), (fun h => upl (t2 (up h rfl)))⟩
      · unfold StepOk
        rintro d act x ⟨u36, u37, u38, u39, u40, u41, u42, u43, u44, u45, u46, u47, rfl, f0, f1, f2, f3, f4, f5, f6, f7, f8, f9, f11, f13, g0, g1⟩ hd hdep Kc hKc
        have hd11 : d 11 = true := hdep ⟨11, .data⟩ (by simp) rfl
        have hd5 : d 5 = true := hdep ⟨5, .data⟩ (by simp) rfl
        have hd5 : d 5 = true := hdep ⟨5, .phase⟩ (by simp) rfl
        obtain rfl := f11 hd11
        obtain rfl := f5 hd5
        obtain ⟨y0, y1, y2, e0, e1, e2, p0, r0, t0, p1, r1, t1, p2, r2, t2⟩ := g1
        have hbc := blk_cell e1
        have hbf := blk_free e1
        have hbl2 := blk_lt e1
        rw [if_pos (by rfl)]
        go_big_op
        have hBn : Below w.heap.size w (x.setCell ⟨w.heap.size + 1, 1, none⟩ (.int .i64 K')) := g0.setCell (by show w.heap.size ≤ w.heap.size + 1; omega) _
        have RB0 : (x.setCell ⟨w.heap.size + 1, 1, none⟩ (.int .i64 K')).heap[w.heap.size]? = some (.cells #[.int .i64 T, y0, .int .i64 M] 25 (0, 0)) := by repeat (first | (with_reducible assumption) | (with_reducible refine blk_new_at ?_ _ _; first | (with_reducible rfl) | (simp; done)) | (with_reducible refine blk_alloc ?_ _) | (with_reducible refine blk_drew ?_) | (with_reducible apply blk_set) | (show Array.setIfInBounds _ _ _ = _; first | (simp; done) | (simp; rfl)) | (with_reducible refine blk_set_other ?_ ?_; omega))
        have RB1 : (x.setCell ⟨w.heap.size + 1, 1, none⟩ (.int .i64 K')).heap[w.heap.size + 1]? = some (.cells #[.int .i64 T', .int .i64 K', .int .i64 M'] 25 (0, 0)) := by repeat (first | (with_reducible assumption) | (with_reducible refine blk_new_at ?_ _ _; first | (with_reducible rfl) | (simp; done)) | (with_reducible refine blk_alloc ?_ _) | (with_reducible refine blk_drew ?_) | (with_reducible apply blk_set) | (show Array.setIfInBounds _ _ _ = _; first | (simp; done) | (simp; rfl)) | (with_reducible refine blk_set_other ?_ ?_; omega))
        have RB2 : (x.setCell ⟨w.heap.size + 1, 1, none⟩ (.int .i64 K')).heap[w.heap.size + 1 + 1]? = some (.cells #[.int .i64 T'', y2, .int .i64 M''] 25 (0, 0)) := by repeat (first | (with_reducible assumption) | (with_reducible refine blk_new_at ?_ _ _; first | (with_reducible rfl) | (simp; done)) | (with_reducible refine blk_alloc ?_ _) | (with_reducible refine blk_drew ?_) | (with_reducible apply blk_set) | (show Array.setIfInBounds _ _ _ = _; first | (simp; done) | (simp; rfl)) | (with_reducible refine blk_set_other ?_ ?_; omega))
        generalize (x.setCell ⟨w.heap.size + 1, 1, none⟩ (.int .i64 K')) = X at *
        refine hKc _ _ ⟨_, _, _, _, _, _, _, _, _, _, _, _, rfl, ?_, ?_, ?_, ?_, ?_, ?_, ?_, ?_, ?_, ?_, ?_, ?_, ?_, ?_⟩
        · exact (fun h => f0 (up h rfl))
        · exact (fun h => f1 (up h rfl))
        · exact (fun h => f2 (up h rfl))
        · exact (fun h => f3 (up h rfl))
        · exact (fun h => f4 (up h rfl))
        · exact (fun h => f5 (up h rfl))
        · exact (fun h => f6 (up h rfl))
        · exact (fun h => f7 (up h rfl))
        · exact (fun h => f8 (up h rfl))
        · exact (fun h => f9 (up h rfl))
        · exact (fun h => f11 (up h rfl))
        · exact (fun h => f13 (up h rfl))
        · exact hBn
        · exact ⟨_, _, _, RB0, RB1, RB2, (fun h => p0 (dn h)), (fun h => ⟨(r0 (up h rfl)).1, upl (r0 (up h rfl)).2⟩), (fun h => upl (t0 (up h rfl))), (fun h => by simp at h), (fun _ => ⟨rfl, upl hd5⟩), (fun h => upl (t1 (up h rfl))), (fun h => p2 (dn h)), (fun h => ⟨(r2 (up h rfl)).1, upl (r2 (up h rfl)).2⟩), (fun h => upl (t2 (up h rfl)))⟩
      · unfold StepOk
        rintro d act x ⟨u36, u37, u38, u39, u40, u41, u42, u43, u44, u45, u46, u47, rfl, f0, f1, f2, f3, f4, f5, f6, f7, f8, f9, f11, f13, g0, g1⟩ hd hdep Kc hKc
        obtain ⟨y0, y1, y2, e0, e1, e2, p0, r0, t0, p1, r1, t1, p2, r2, t2⟩ := g1
        rw [if_pos (by rfl)]
        go_big_op
        refine hKc _ _ ⟨_, _, _, _, _, _, _, _, _, _, _, _, rfl, ?_, ?_, ?_, ?_, ?_, ?_, ?_, ?_, ?_, ?_, ?_, ?_, ?_, ?_⟩
        · exact (fun h => f0 (up h rfl))
        · exact (fun h => f1 (up h rfl))
        · exact (fun h => f2 (up h rfl))
        · exact (fun h => f3 (up h rfl))
        · exact (fun h => f4 (up h rfl))
        · exact (fun h => f5 (up h rfl))
        · exact (fun h => f6 (up h rfl))
        · exact (fun h => f7 (up h rfl))
        · exact (fun h => f8 (up h rfl))
        · exact (fun h => f9 (up h rfl))
        · exact (fun h => f11 (up h rfl))
        · exact (fun _ => rfl)
        · exact g0
        · exact ⟨_, _, _, e0, e1, e2, (fun h => p0 (dn h)), (fun h => ⟨(r0 (up h rfl)).1, upl (r0 (up h rfl)).2⟩), (fun h => upl (t0 (up h rfl))), (fun h => p1 (dn h)), (fun h => ⟨(r1 (up h rfl)).1, upl (r1 (up h rfl)).2⟩), (fun h => upl (t1 (up h rfl))), (fun h => p2 (dn h)), (fun h => ⟨(r2 (up h rfl)).1, upl (r2 (up h rfl)).2⟩), (fun h => upl (t2 (up h rfl)))⟩
      · unfold StepOk
        rintro d act x ⟨u36, u37, u38, u39, u40, u41, u42, u43, u44, u45, u46, u47, rfl, f0, f1, f2, f3, f4, f5, f6, f7, f8, f9, f11, f13, g0, g1⟩ hd hdep Kc hKc
        have hd13 : d 13 = true := hdep ⟨13, .data⟩ (by simp) rfl
        have hd8 : d 8 = true := hdep ⟨8, .data⟩ (by simp) rfl
        have hd8 : d 8 = true := hdep ⟨8, .phase⟩ (by simp) rfl
        obtain rfl := f13 hd13
        obtain rfl := f8 hd8
        obtain ⟨y0, y1, y2, e0, e1, e2, p0, r0, t0, p1, r1, t1, p2, r2, t2⟩ := g1
        have hbc := blk_cell e2
        have hbf := blk_free e2
        have hbl2 := blk_lt e2
        rw [if_pos (by rfl)]
        go_big_op
        have hBn : Below w.heap.size w (x.setCell ⟨w.heap.size + 1 + 1, 1, none⟩ (.int .i64 K'')) := g0.setCell (by show w.heap.size ≤ w.heap.size + 1 + 1; omega) _
        have RB0 : (x.setCell ⟨w.heap.size + 1 + 1, 1, none⟩ (.int .i64 K'')).heap[w.heap.size]? = some (.cells #[.int .i64 T, y0, .int .i64 M] 25 (0, 0)) := by repeat (first | (with_reducible assumption) | (with_reducible refine blk_new_at ?_ _ _; first | (with_reducible rfl) | (simp; done)) | (with_reducible refine blk_alloc ?_ _) | (with_reducible refine blk_drew ?_) | (with_reducible apply blk_set) | (show Array.setIfInBounds _ _ _ = _; first | (simp; done) | (simp; rfl)) | (with_reducible refine blk_set_other ?_ ?_; omega))
        have RB1 : (x.setCell ⟨w.heap.size + 1 + 1, 1, none⟩ (.int .i64 K'')).heap[w.heap.size + 1]? = some (.cells #[.int .i64 T', y1, .int .i64 M'] 25 (0, 0)) := by repeat (first | (with_reducible assumption) | (with_reducible refine blk_new_at ?_ _ _; first | (with_reducible rfl) | (simp; done)) | (with_reducible refine blk_alloc ?_ _) | (with_reducible refine blk_drew ?_) | (with_reducible apply blk_set) | (show Array.setIfInBounds _ _ _ = _; first | (simp; done) | (simp; rfl)) | (with_reducible refine blk_set_other ?_ ?_; omega))
        have RB2 : (x.setCell ⟨w.heap.size + 1 + 1, 1, none⟩ (.int .i64 K'')).heap[w.heap.size + 1 + 1]? = some (.cells #[.int .i64 T'', .int .i64 K'', .int .i64 M''] 25 (0, 0)) := by repeat (first | (with_reducible assumption) | (with_reducible refine blk_new_at ?_ _ _; first | (with_reducible rfl) | (simp; done)) | (with_reducible refine blk_alloc ?_ _) | (with_reducible refine blk_drew ?_) | (with_reducible apply blk_set) | (show Array.setIfInBounds _ _ _ = _; first | (simp; done) | (simp; rfl)) | (with_reducible refine blk_set_other ?_ ?_; omega))
        generalize (x.setCell ⟨w.heap.size + 1 + 1, 1, none⟩ (.int .i64 K'')) = X at *
        refine hKc _ _ ⟨_, _, _, _, _, _, _, _, _, _, _, _, rfl, ?_, ?_, ?_, ?_, ?_, ?_, ?_, ?_, ?_, ?_, ?_, ?_, ?_, ?_⟩
        · exact (fun h => f0 (up h rfl))
        · exact (fun h => f1 (up h rfl))
        · exact (fun h => f2 (up h rfl))
        · exact (fun h => f3 (up h rfl))
        · exact (fun h => f4 (up h rfl))
        · exact (fun h => f5 (up h rfl))
        · exact (fun h => f6 (up h rfl))
        · exact (fun h => f7 (up h rfl))
        · exact (fun h => f8 (up h rfl))
        · exact (fun h => f9 (up h rfl))
        · exact (fun h => f11 (up h rfl))
        · exact (fun h => f13 (up h rfl))
        · exact hBn
        · exact ⟨_, _, _, RB0, RB1, RB2, (fun h => p0 (dn h)), (fun h => ⟨(r0 (up h rfl)).1, upl (r0 (up h rfl)).2⟩), (fun h => upl (t0 (up h rfl))), (fun h => p1 (dn h)), (fun h => ⟨(r1 (up h rfl)).1, upl (r1 (up h rfl)).2⟩), (fun h => upl (t1 (up h rfl))), (fun h => by simp at h), (fun _ => ⟨rfl, upl hd8⟩), (fun h => upl (t2 (up h rfl)))⟩
    · rintro d act x ⟨u36, u37, u38, u39, u40, u41, u42, u43, u44, u45, u46, u47, rfl, f0, f1, f2, f3, f4, f5, f6, f7, f8, f9, f11, f13, g0, g1⟩ hall
      obtain ⟨y0, y1, y2, e0, e1, e2, p0, r0, t0, p1, r1, t1, p2, r2, t2⟩ := g1
      obtain ⟨rfl, -⟩ := r0 (hall 10 (by decide))
      obtain ⟨rfl, -⟩ := r1 (hall 12 (by decide))
      obtain ⟨rfl, -⟩ := r2 (hall 14 (by decide))
      clear f0 f1 f2 f3 f4 f5 f6 f7 f8 f9 f11 f13 hall p0 r0 t0 p1 r1 t1 p2 r2 t2
      have z3_r0 : x.heap[w.heap.size]? = some (.cells #[.int .i64 T, .int .i64 K, .int .i64 M] 25 (0, 0)) := e0
      have z3_r1 : x.heap[w.heap.size + 1]? = some (.cells #[.int .i64 T', .int .i64 K', .int .i64 M'] 25 (0, 0)) := e1
      have z3_r2 : x.heap[w.heap.size + 1 + 1]? = some (.cells #[.int .i64 T'', .int .i64 K'', .int .i64 M''] 25 (0, 0)) := e2
      have z3_B : Below w.heap.size w x := g0
      have z3_z := z3_B.size
      clear z2_B z2_z z2_c0 z2_l0 z2_k0_0 z2_k0_1 z2_c1 z2_l1 z2_k1_0 z2_k1_1 z2_c2 z2_l2 z2_k2_0 z2_k2_1 z2_h0 z2_h1 z2_h2 e0 e1 e2 g0
      have z3_c0 := blk_cell z3_r0
      have z3_l0 := blk_lt z3_r0
      have z3_k0_0 : w.heap.size ≤ x.heap.size := by omega
      have z3_k0_1 : w.heap.size ≤ x.heap.size + 1 := by omega
      have z3_c1 := blk_cell z3_r1
      have z3_l1 := blk_lt z3_r1
      have z3_k1_0 : w.heap.size + 1 ≤ x.heap.size := by omega
      have z3_k1_1 : w.heap.size + 1 ≤ x.heap.size + 1 := by omega
      have z3_c2 := blk_cell z3_r2
      have z3_l2 := blk_lt z3_r2
      have z3_k2_0 : w.heap.size + 1 + 1 ≤ x.heap.size := by omega
      have z3_k2_1 : w.heap.size + 1 + 1 ≤ x.heap.size + 1 := by omega
      have z3_h0 := Lib.hid z3_r0
      have z3_h1 := Lib.hid z3_r1
      have z3_h2 := Lib.hid z3_r2
      clear z3_r0 z3_r1 z3_r2
      obtain ⟨w3, rfl⟩ : ∃ y, y = x := ⟨_, rfl⟩
      clear hT hK hM hT' hK' hM' hT'' hK'' hM''
      go_wp2_with fail
      refine (stampNext_later T K M now node _ (by omega) (by omega)).mono ?_
      rintro e w4 ⟨X, rfl, hX, -, hb⟩
      have z3_s0 := z3_h0.out
      have z3_s1 := z3_h1.out
      have z3_s2 := z3_h2.out
      have z4_r0 : w4.heap[w.heap.size]? = some (.cells #[.int .i64 T, .int .i64 K, .int .i64 M] 25 (0, 0)) := blk_ext hb (by repeat (first | (with_reducible assumption) | (with_reducible refine blk_new_at ?_ _ _; first | (with_reducible rfl) | (simp; done)) | (with_reducible refine blk_alloc ?_ _) | (with_reducible refine blk_drew ?_) | (with_reducible apply blk_set) | (show Array.setIfInBounds _ _ _ = _; first | (simp; done) | (simp; rfl)) | (with_reducible refine blk_set_other ?_ ?_; omega)))
      have z4_r1 : w4.heap[w.heap.size + 1]? = some (.cells #[.int .i64 T', .int .i64 K', .int .i64 M'] 25 (0, 0)) := blk_ext hb (by repeat (first | (with_reducible assumption) | (with_reducible refine blk_new_at ?_ _ _; first | (with_reducible rfl) | (simp; done)) | (with_reducible refine blk_alloc ?_ _) | (with_reducible refine blk_drew ?_) | (with_reducible apply blk_set) | (show Array.setIfInBounds _ _ _ = _; first | (simp; done) | (simp; rfl)) | (with_reducible refine blk_set_other ?_ ?_; omega)))
      have z4_r2 : w4.heap[w.heap.size + 1 + 1]? = some (.cells #[.int .i64 T'', .int .i64 K'', .int .i64 M''] 25 (0, 0)) := blk_ext hb (by repeat (first | (with_reducible assumption) | (with_reducible refine blk_new_at ?_ _ _; first | (with_reducible rfl) | (simp; done)) | (with_reducible refine blk_alloc ?_ _) | (with_reducible refine blk_drew ?_) | (with_reducible apply blk_set) | (show Array.setIfInBounds _ _ _ = _; first | (simp; done) | (simp; rfl)) | (with_reducible refine blk_set_other ?_ ?_; omega)))
      have z4_B : Below w.heap.size w w4 := ext_trans (a := w) (by go_grown) hb
      have z4_z := z4_B.size
      clear z3_B z3_z z3_c0 z3_l0 z3_k0_0 z3_k0_1 z3_c1 z3_l1 z3_k1_0 z3_k1_1 z3_c2 z3_l2 z3_k2_0 z3_k2_1 z3_h0 z3_h1 z3_h2 z3_s0 z3_s1 z3_s2 hb
      have z4_c0 := blk_cell z4_r0
      have z4_l0 := blk_lt z4_r0
      have z4_k0_0 : w.heap.size ≤ w4.heap.size := by omega
      have z4_k0_1 : w.heap.size ≤ w4.heap.size + 1 := by omega
      have z4_c1 := blk_cell z4_r1
      have z4_l1 := blk_lt z4_r1
      have z4_k1_0 : w.heap.size + 1 ≤ w4.heap.size := by omega
      have z4_k1_1 : w.heap.size + 1 ≤ w4.heap.size + 1 := by omega
      have z4_c2 := blk_cell z4_r2
      have z4_l2 := blk_lt z4_r2
      have z4_k2_0 : w.heap.size + 1 + 1 ≤ w4.heap.size := by omega
      have z4_k2_1 : w.heap.size + 1 + 1 ≤ w4.heap.size + 1 := by omega
      have z4_h0 := Lib.hid z4_r0
      have z4_h1 := Lib.hid z4_r1
      have z4_h2 := Lib.hid z4_r2
      clear z4_r0 z4_r1 z4_r2
      have L1 := Lib.hid (sLess_later (k := K) (n := M) (k' := node) hX)
      have L2 := Lib.hid (sLess_asym L1.out)
      clear hX
      go_upto_region 4 with fail
      have z4_s0 := z4_h0.out
      have z4_s1 := z4_h1.out
      have z4_s2 := z4_h2.out
      refine wp_letter (fun W => Below w.heap.size w W ∧ W.heap[w.heap.size]? = some (.cells #[.int .i64 T, .int .i64 K, .int .i64 M] 25 (0, 0)) ∧ W.heap[w.heap.size + 1]? = some (.cells #[.int .i64 T', .int .i64 K', .int .i64 M'] 25 (0, 0)) ∧ W.heap[w.heap.size + 1 + 1]? = some (.cells #[.int .i64 T'', .int .i64 K'', .int .i64 M''] 25 (0, 0)) ∧ W.heap[w4.heap.size]? = some (.cells #[.int .i64 X, .int .i64 node, .int .i64 (M + 1)] 25 (0, 0))) ⟨by go_grown, by repeat (first | (with_reducible assumption) | (with_reducible refine blk_new_at ?_ _ _; first | (with_reducible rfl) | (simp; done)) | (with_reducible refine blk_alloc ?_ _) | (with_reducible refine blk_drew ?_) | (with_reducible apply blk_set) | (show Array.setIfInBounds _ _ _ = _; first | (simp; done) | (simp; rfl)) | (with_reducible refine blk_set_other ?_ ?_; omega)), by repeat (first | (with_reducible assumption) | (with_reducible refine blk_new_at ?_ _ _; first | (with_reducible rfl) | (simp; done)) | (with_reducible refine blk_alloc ?_ _) | (with_reducible refine blk_drew ?_) | (with_reducible apply blk_set) | (show Array.setIfInBounds _ _ _ = _; first | (simp; done) | (simp; rfl)) | (with_reducible refine blk_set_other ?_ ?_; omega)), by repeat (first | (with_reducible assumption) | (with_reducible refine blk_new_at ?_ _ _; first | (with_reducible rfl) | (simp; done)) | (with_reducible refine blk_alloc ?_ _) | (with_reducible refine blk_drew ?_) | (with_reducible apply blk_set) | (show Array.setIfInBounds _ _ _ = _; first | (simp; done) | (simp; rfl)) | (with_reducible refine blk_set_other ?_ ?_; omega)), by repeat (first | (with_reducible assumption) | (with_reducible refine blk_new_at ?_ _ _; first | (with_reducible rfl) | (simp; done)) | (with_reducible refine blk_alloc ?_ _) | (with_reducible refine blk_drew ?_) | (with_reducible apply blk_set) | (show Array.setIfInBounds _ _ _ = _; first | (simp; done) | (simp; rfl)) | (with_reducible refine blk_set_other ?_ ?_; omega))⟩ ?_
      rintro w5 ⟨hBl, hl0, hl1, hl2, hl3⟩
      have z5_r0 : w5.heap[w.heap.size]? = some (.cells #[.int .i64 T, .int .i64 K, .int .i64 M] 25 (0, 0)) := hl0
      have z5_r1 : w5.heap[w.heap.size + 1]? = some (.cells #[.int .i64 T', .int .i64 K', .int .i64 M'] 25 (0, 0)) := hl1
      have z5_r2 : w5.heap[w.heap.size + 1 + 1]? = some (.cells #[.int .i64 T'', .int .i64 K'', .int .i64 M''] 25 (0, 0)) := hl2
      have z5_r3 : w5.heap[w4.heap.size]? = some (.cells #[.int .i64 X, .int .i64 node, .int .i64 (M + 1)] 25 (0, 0)) := hl3
      have z5_B : Below w.heap.size w w5 := hBl
      have z5_z := z5_B.size
      clear z4_B z4_z z4_c0 z4_l0 z4_k0_0 z4_k0_1 z4_c1 z4_l1 z4_k1_0 z4_k1_1 z4_c2 z4_l2 z4_k2_0 z4_k2_1 z4_h0 z4_h1 z4_h2 z4_s0 z4_s1 z4_s2 hBl hl0 hl1 hl2 hl3
      have z5_c0 := blk_cell z5_r0
      have z5_l0 := blk_lt z5_r0
      have z5_k0_0 : w.heap.size ≤ w5.heap.size := by omega
      have z5_k0_1 : w.heap.size ≤ w5.heap.size + 1 := by omega
      have z5_c1 := blk_cell z5_r1
      have z5_l1 := blk_lt z5_r1
      have z5_k1_0 : w.heap.size + 1 ≤ w5.heap.size := by omega
      have z5_k1_1 : w.heap.size + 1 ≤ w5.heap.size + 1 := by omega
      have z5_c2 := blk_cell z5_r2
      have z5_l2 := blk_lt z5_r2
      have z5_k2_0 : w.heap.size + 1 + 1 ≤ w5.heap.size := by omega
      have z5_k2_1 : w.heap.size + 1 + 1 ≤ w5.heap.size + 1 := by omega
      have z5_c3 := blk_cell z5_r3
      have z5_l3 := blk_lt z5_r3
      have z5_k3_0 : w4.heap.size ≤ w5.heap.size := by omega
      have z5_k3_1 : w4.heap.size ≤ w5.heap.size + 1 := by omega
      have z5_h0 := Lib.hid z5_r0
      have z5_h1 := Lib.hid z5_r1
      have z5_h2 := Lib.hid z5_r2
      have z5_h3 := Lib.hid z5_r3
      clear z5_r0 z5_r1 z5_r2 z5_r3
      haveI hIq : Nonempty (Of w5) := of_some _
      have hFq0 := blk_of z5_h0.out
      have hFq1 := blk_of z5_h1.out
      have hFq2 := blk_of z5_h2.out
      have hFq3 := blk_of z5_h3.out
      first | (refine wp_region_stay w5 (by kernel_rfl) (by kernel_rfl) (by go_grown) ?_) | (refine wp_region_stay_seq w5 (by go_grown) ?_)
      repeat (go_big_quiet_step ((first | (go_at_call 11; with_reducible refine stay_bool (u := true) (stampLess T K M X node (M + 1) _) L1.out) | (go_at_call 11; with_reducible refine stay_bool (u := false) (stampLess X node (M + 1) T K M _) L2.out))))
      refine wpQuiet_nil ?_
      intro w6 hb
      clear hIq hFq0 hFq1 hFq2 hFq3
      have z6_r0 : w6.heap[w.heap.size]? = some (.cells #[.int .i64 T, .int .i64 K, .int .i64 M] 25 (0, 0)) := blk_ext hb z5_h0.out
      have z6_r1 : w6.heap[w.heap.size + 1]? = some (.cells #[.int .i64 T', .int .i64 K', .int .i64 M'] 25 (0, 0)) := blk_ext hb z5_h1.out
      have z6_r2 : w6.heap[w.heap.size + 1 + 1]? = some (.cells #[.int .i64 T'', .int .i64 K'', .int .i64 M''] 25 (0, 0)) := blk_ext hb z5_h2.out
      have z6_r3 : w6.heap[w4.heap.size]? = some (.cells #[.int .i64 X, .int .i64 node, .int .i64 (M + 1)] 25 (0, 0)) := blk_ext hb z5_h3.out
      have z6_B : Below w.heap.size w w6 := ext_trans z5_B hb
      have z6_z := z6_B.size
      clear z5_B z5_z z5_c0 z5_l0 z5_k0_0 z5_k0_1 z5_c1 z5_l1 z5_k1_0 z5_k1_1 z5_c2 z5_l2 z5_k2_0 z5_k2_1 z5_c3 z5_l3 z5_k3_0 z5_k3_1 z5_h0 z5_h1 z5_h2 z5_h3 hb
      have z6_c0 := blk_cell z6_r0
      have z6_l0 := blk_lt z6_r0
      have z6_k0_0 : w.heap.size ≤ w6.heap.size := by omega
      have z6_k0_1 : w.heap.size ≤ w6.heap.size + 1 := by omega
      have z6_c1 := blk_cell z6_r1
      have z6_l1 := blk_lt z6_r1
      have z6_k1_0 : w.heap.size + 1 ≤ w6.heap.size := by omega
      have z6_k1_1 : w.heap.size + 1 ≤ w6.heap.size + 1 := by omega
      have z6_c2 := blk_cell z6_r2
      have z6_l2 := blk_lt z6_r2
      have z6_k2_0 : w.heap.size + 1 + 1 ≤ w6.heap.size := by omega
      have z6_k2_1 : w.heap.size + 1 + 1 ≤ w6.heap.size + 1 := by omega
      have z6_c3 := blk_cell z6_r3
      have z6_l3 := blk_lt z6_r3
      have z6_k3_0 : w4.heap.size ≤ w6.heap.size := by omega
      have z6_k3_1 : w4.heap.size ≤ w6.heap.size + 1 := by omega
      have z6_h0 := Lib.hid z6_r0
      have z6_h1 := Lib.hid z6_r1
      have z6_h2 := Lib.hid z6_r2
      have z6_h3 := Lib.hid z6_r3
      clear z6_r0 z6_r1 z6_r2 z6_r3
      have cm := cmp4 T K M T' K' M' T'' K'' M''
      obtain ⟨⟨p1, p2, p3⟩, hp⟩ : ∃ p, sMax T K M T' K' M' = p := ⟨_, rfl⟩
      obtain ⟨⟨q1, q2, q3⟩, hq⟩ : ∃ p, sMax T' K' M' T'' K'' M'' = p := ⟨_, rfl⟩
      obtain ⟨⟨r1, r2, r3⟩, hr⟩ : ∃ p, sMax T K M q1 q2 q3 = p := ⟨_, rfl⟩
      have E1 := Lib.hid hp
      have E2 := Lib.hid ((sMax_comm T' K' M' T K M).trans hp)
      have E3 := Lib.hid hq
      have E4 := Lib.hid hr
      have E5 := Lib.hid ((sMax_assoc hp hq).trans hr)
      clear hp hq hr L1 L2
      rcases cm with ⟨c1, c2, c3, c4⟩ | ⟨c1, c2, c3⟩ | ⟨c1, c2⟩ | ⟨c1, rfl, rfl, rfl⟩
      · have C1 := Lib.hid c1
        have C2 := Lib.hid c2
        have C3 := Lib.hid c3
        have C4 := Lib.hid c4
        clear c1 c2 c3 c4
        go_upto_region 6 with fail
        haveI hIq : Nonempty (Of w6) := of_some _
        have hFq0 := blk_of z6_h0.out
        have hFq1 := blk_of z6_h1.out
        have hFq2 := blk_of z6_h2.out
        have hFq3 := blk_of z6_h3.out
        first | (refine wp_region_stay w6 (by kernel_rfl) (by kernel_rfl) (by go_grown) ?_) | (refine wp_region_stay_seq w6 (by go_grown) ?_)
        repeat (go_big_quiet_step ((first | (go_at_call 11; with_reducible refine stay_bool (u := true) (stampLess T K M T' K' M' _) C1.out) | (go_at_call 11; with_reducible refine stay_bool (u := false) (stampLess T' K' M' T K M _) C2.out) | (go_at_call 11; with_reducible refine stay_bool (u := true) (stampLess T' K' M' T'' K'' M'' _) C3.out) | (go_at_call 11; with_reducible refine stay_bool (u := true) (stampLess T K M T'' K'' M'' _) C4.out))))
        refine wpQuiet_nil ?_
        intro w7 hb
        clear hIq hFq0 hFq1 hFq2 hFq3
        have z7_r0 : w7.heap[w.heap.size]? = some (.cells #[.int .i64 T, .int .i64 K, .int .i64 M] 25 (0, 0)) := blk_ext hb z6_h0.out
        have z7_r1 : w7.heap[w.heap.size + 1]? = some (.cells #[.int .i64 T', .int .i64 K', .int .i64 M'] 25 (0, 0)) := blk_ext hb z6_h1.out
        have z7_r2 : w7.heap[w.heap.size + 1 + 1]? = some (.cells #[.int .i64 T'', .int .i64 K'', .int .i64 M''] 25 (0, 0)) := blk_ext hb z6_h2.out
        have z7_r3 : w7.heap[w4.heap.size]? = some (.cells #[.int .i64 X, .int .i64 node, .int .i64 (M + 1)] 25 (0, 0)) := blk_ext hb z6_h3.out
        have z7_B : Below w.heap.size w w7 := ext_trans z6_B hb
        have z7_z := z7_B.size
        clear z6_B z6_z z6_c0 z6_l0 z6_k0_0 z6_k0_1 z6_c1 z6_l1 z6_k1_0 z6_k1_1 z6_c2 z6_l2 z6_k2_0 z6_k2_1 z6_c3 z6_l3 z6_k3_0 z6_k3_1 z6_h0 z6_h1 z6_h2 z6_h3 hb
        have z7_c0 := blk_cell z7_r0
        have z7_l0 := blk_lt z7_r0
        have z7_k0_0 : w.heap.size ≤ w7.heap.size := by omega
        have z7_k0_1 : w.heap.size ≤ w7.heap.size + 1 := by omega
        have z7_c1 := blk_cell z7_r1
        have z7_l1 := blk_lt z7_r1
        have z7_k1_0 : w.heap.size + 1 ≤ w7.heap.size := by omega
        have z7_k1_1 : w.heap.size + 1 ≤ w7.heap.size + 1 := by omega
        have z7_c2 := blk_cell z7_r2
        have z7_l2 := blk_lt z7_r2
        have z7_k2_0 : w.heap.size + 1 + 1 ≤ w7.heap.size := by omega
        have z7_k2_1 : w.heap.size + 1 + 1 ≤ w7.heap.size + 1 := by omega
        have z7_c3 := blk_cell z7_r3
        have z7_l3 := blk_lt z7_r3
        have z7_k3_0 : w4.heap.size ≤ w7.heap.size := by omega
        have z7_k3_1 : w4.heap.size ≤ w7.heap.size + 1 := by omega
        have z7_h0 := Lib.hid z7_r0
        have z7_h1 := Lib.hid z7_r1
        have z7_h2 := Lib.hid z7_r2
        have z7_h3 := Lib.hid z7_r3
        clear z7_r0 z7_r1 z7_r2 z7_r3
        go_upto_region 8 with fail
        haveI hIq : Nonempty (Of w7) := of_some _
        have hFq0 := blk_of z7_h0.out
        have hFq1 := blk_of z7_h1.out
        have hFq2 := blk_of z7_h2.out
        have hFq3 := blk_of z7_h3.out
        first | (refine wp_region_stay w7 (by kernel_rfl) (by kernel_rfl) (by go_grown) ?_) | (refine wp_region_stay_seq w7 (by go_grown) ?_)
        repeat (go_big_quiet_step ((first | (go_at_call 12; with_reducible refine stay_call (stampMax_at E1.out _)) | (go_at_call 12; with_reducible refine stay_call (stampMax_at E2.out _)) | (go_at_call 12; with_reducible refine stay_call (stampMax_at E3.out _)) | (go_at_call 12; with_reducible refine stay_call (stampMax_at E4.out _)) | (go_at_call 12; with_reducible refine stay_call (stampMax_at E5.out _)) | (go_at_call 9; refine stay_call (law4known _)))))
        refine wpQuiet_nil ?_
        intro w8 hb
        clear hIq hFq0 hFq1 hFq2 hFq3
        have z8_r0 : w8.heap[w.heap.size]? = some (.cells #[.int .i64 T, .int .i64 K, .int .i64 M] 25 (0, 0)) := blk_ext hb z7_h0.out
        have z8_r1 : w8.heap[w.heap.size + 1]? = some (.cells #[.int .i64 T', .int .i64 K', .int .i64 M'] 25 (0, 0)) := blk_ext hb z7_h1.out
        have z8_r2 : w8.heap[w.heap.size + 1 + 1]? = some (.cells #[.int .i64 T'', .int .i64 K'', .int .i64 M''] 25 (0, 0)) := blk_ext hb z7_h2.out
        have z8_r3 : w8.heap[w4.heap.size]? = some (.cells #[.int .i64 X, .int .i64 node, .int .i64 (M + 1)] 25 (0, 0)) := blk_ext hb z7_h3.out
        have z8_B : Below w.heap.size w w8 := ext_trans z7_B hb
        have z8_z := z8_B.size
        clear z7_B z7_z z7_c0 z7_l0 z7_k0_0 z7_k0_1 z7_c1 z7_l1 z7_k1_0 z7_k1_1 z7_c2 z7_l2 z7_k2_0 z7_k2_1 z7_c3 z7_l3 z7_k3_0 z7_k3_1 z7_h0 z7_h1 z7_h2 z7_h3 hb
        have z8_c0 := blk_cell z8_r0
        have z8_l0 := blk_lt z8_r0
        have z8_k0_0 : w.heap.size ≤ w8.heap.size := by omega
        have z8_k0_1 : w.heap.size ≤ w8.heap.size + 1 := by omega
        have z8_c1 := blk_cell z8_r1
        have z8_l1 := blk_lt z8_r1
        have z8_k1_0 : w.heap.size + 1 ≤ w8.heap.size := by omega
        have z8_k1_1 : w.heap.size + 1 ≤ w8.heap.size + 1 := by omega
        have z8_c2 := blk_cell z8_r2
        have z8_l2 := blk_lt z8_r2
        have z8_k2_0 : w.heap.size + 1 + 1 ≤ w8.heap.size := by omega
        have z8_k2_1 : w.heap.size + 1 + 1 ≤ w8.heap.size + 1 := by omega
        have z8_c3 := blk_cell z8_r3
        have z8_l3 := blk_lt z8_r3
        have z8_k3_0 : w4.heap.size ≤ w8.heap.size := by omega
        have z8_k3_1 : w4.heap.size ≤ w8.heap.size + 1 := by omega
        have z8_h0 := Lib.hid z8_r0
        have z8_h1 := Lib.hid z8_r1
        have z8_h2 := Lib.hid z8_r2
        have z8_h3 := Lib.hid z8_r3
        clear z8_r0 z8_r1 z8_r2 z8_r3
        go_wp2
        go_ret
        exact ⟨rfl, z8_B⟩
      · have C1 := Lib.hid c1
        have C2 := Lib.hid c2
        have C3 := Lib.hid c3
        clear c1 c2 c3
        go_upto_region 6 with fail
        haveI hIq : Nonempty (Of w6) := of_some _
        have hFq0 := blk_of z6_h0.out
        have hFq1 := blk_of z6_h1.out
        have hFq2 := blk_of z6_h2.out
        have hFq3 := blk_of z6_h3.out
        first | (refine wp_region_stay w6 (by kernel_rfl) (by kernel_rfl) (by go_grown) ?_) | (refine wp_region_stay_seq w6 (by go_grown) ?_)
        repeat (go_big_quiet_step ((first | (go_at_call 11; with_reducible refine stay_bool (u := true) (stampLess T K M T' K' M' _) C1.out) | (go_at_call 11; with_reducible refine stay_bool (u := false) (stampLess T' K' M' T K M _) C2.out) | (go_at_call 11; with_reducible refine stay_bool (u := false) (stampLess T' K' M' T'' K'' M'' _) C3.out))))
        refine wpQuiet_nil ?_
        intro w7 hb
        clear hIq hFq0 hFq1 hFq2 hFq3
        have z7_r0 : w7.heap[w.heap.size]? = some (.cells #[.int .i64 T, .int .i64 K, .int .i64 M] 25 (0, 0)) := blk_ext hb z6_h0.out
        have z7_r1 : w7.heap[w.heap.size + 1]? = some (.cells #[.int .i64 T', .int .i64 K', .int .i64 M'] 25 (0, 0)) := blk_ext hb z6_h1.out
        have z7_r2 : w7.heap[w.heap.size + 1 + 1]? = some (.cells #[.int .i64 T'', .int .i64 K'', .int .i64 M''] 25 (0, 0)) := blk_ext hb z6_h2.out
        have z7_r3 : w7.heap[w4.heap.size]? = some (.cells #[.int .i64 X, .int .i64 node, .int .i64 (M + 1)] 25 (0, 0)) := blk_ext hb z6_h3.out
        have z7_B : Below w.heap.size w w7 := ext_trans z6_B hb
        have z7_z := z7_B.size
        clear z6_B z6_z z6_c0 z6_l0 z6_k0_0 z6_k0_1 z6_c1 z6_l1 z6_k1_0 z6_k1_1 z6_c2 z6_l2 z6_k2_0 z6_k2_1 z6_c3 z6_l3 z6_k3_0 z6_k3_1 z6_h0 z6_h1 z6_h2 z6_h3 hb
        have z7_c0 := blk_cell z7_r0
        have z7_l0 := blk_lt z7_r0
        have z7_k0_0 : w.heap.size ≤ w7.heap.size := by omega
        have z7_k0_1 : w.heap.size ≤ w7.heap.size + 1 := by omega
        have z7_c1 := blk_cell z7_r1
        have z7_l1 := blk_lt z7_r1
        have z7_k1_0 : w.heap.size + 1 ≤ w7.heap.size := by omega
        have z7_k1_1 : w.heap.size + 1 ≤ w7.heap.size + 1 := by omega
        have z7_c2 := blk_cell z7_r2
        have z7_l2 := blk_lt z7_r2
        have z7_k2_0 : w.heap.size + 1 + 1 ≤ w7.heap.size := by omega
        have z7_k2_1 : w.heap.size + 1 + 1 ≤ w7.heap.size + 1 := by omega
        have z7_c3 := blk_cell z7_r3
        have z7_l3 := blk_lt z7_r3
        have z7_k3_0 : w4.heap.size ≤ w7.heap.size := by omega
        have z7_k3_1 : w4.heap.size ≤ w7.heap.size + 1 := by omega
        have z7_h0 := Lib.hid z7_r0
        have z7_h1 := Lib.hid z7_r1
        have z7_h2 := Lib.hid z7_r2
        have z7_h3 := Lib.hid z7_r3
        clear z7_r0 z7_r1 z7_r2 z7_r3
        go_upto_region 8 with fail
        haveI hIq : Nonempty (Of w7) := of_some _
        have hFq0 := blk_of z7_h0.out
        have hFq1 := blk_of z7_h1.out
        have hFq2 := blk_of z7_h2.out
        have hFq3 := blk_of z7_h3.out
        first | (refine wp_region_stay w7 (by kernel_rfl) (by kernel_rfl) (by go_grown) ?_) | (refine wp_region_stay_seq w7 (by go_grown) ?_)
        repeat (go_big_quiet_step ((first | (go_at_call 12; with_reducible refine stay_call (stampMax_at E1.out _)) | (go_at_call 12; with_reducible refine stay_call (stampMax_at E2.out _)) | (go_at_call 12; with_reducible refine stay_call (stampMax_at E3.out _)) | (go_at_call 12; with_reducible refine stay_call (stampMax_at E4.out _)) | (go_at_call 12; with_reducible refine stay_call (stampMax_at E5.out _)) | (go_at_call 9; refine stay_call (law4known _)))))
        refine wpQuiet_nil ?_
        intro w8 hb
        clear hIq hFq0 hFq1 hFq2 hFq3
        have z8_r0 : w8.heap[w.heap.size]? = some (.cells #[.int .i64 T, .int .i64 K, .int .i64 M] 25 (0, 0)) := blk_ext hb z7_h0.out
        have z8_r1 : w8.heap[w.heap.size + 1]? = some (.cells #[.int .i64 T', .int .i64 K', .int .i64 M'] 25 (0, 0)) := blk_ext hb z7_h1.out
        have z8_r2 : w8.heap[w.heap.size + 1 + 1]? = some (.cells #[.int .i64 T'', .int .i64 K'', .int .i64 M''] 25 (0, 0)) := blk_ext hb z7_h2.out
        have z8_r3 : w8.heap[w4.heap.size]? = some (.cells #[.int .i64 X, .int .i64 node, .int .i64 (M + 1)] 25 (0, 0)) := blk_ext hb z7_h3.out
        have z8_B : Below w.heap.size w w8 := ext_trans z7_B hb
        have z8_z := z8_B.size
        clear z7_B z7_z z7_c0 z7_l0 z7_k0_0 z7_k0_1 z7_c1 z7_l1 z7_k1_0 z7_k1_1 z7_c2 z7_l2 z7_k2_0 z7_k2_1 z7_c3 z7_l3 z7_k3_0 z7_k3_1 z7_h0 z7_h1 z7_h2 z7_h3 hb
        have z8_c0 := blk_cell z8_r0
        have z8_l0 := blk_lt z8_r0
        have z8_k0_0 : w.heap.size ≤ w8.heap.size := by omega
        have z8_k0_1 : w.heap.size ≤ w8.heap.size + 1 := by omega
        have z8_c1 := blk_cell z8_r1
        have z8_l1 := blk_lt z8_r1
        have z8_k1_0 : w.heap.size + 1 ≤ w8.heap.size := by omega
        have z8_k1_1 : w.heap.size + 1 ≤ w8.heap.size + 1 := by omega
        have z8_c2 := blk_cell z8_r2
        have z8_l2 := blk_lt z8_r2
        have z8_k2_0 : w.heap.size + 1 + 1 ≤ w8.heap.size := by omega
        have z8_k2_1 : w.heap.size + 1 + 1 ≤ w8.heap.size + 1 := by omega
        have z8_c3 := blk_cell z8_r3
        have z8_l3 := blk_lt z8_r3
        have z8_k3_0 : w4.heap.size ≤ w8.heap.size := by omega
        have z8_k3_1 : w4.heap.size ≤ w8.heap.size + 1 := by omega
        have z8_h0 := Lib.hid z8_r0
        have z8_h1 := Lib.hid z8_r1
        have z8_h2 := Lib.hid z8_r2
        have z8_h3 := Lib.hid z8_r3
        clear z8_r0 z8_r1 z8_r2 z8_r3
        go_wp2
        go_ret
        exact ⟨rfl, z8_B⟩
      · have C1 := Lib.hid c1
        have C2 := Lib.hid c2
        clear c1 c2
        go_upto_region 6 with fail
        haveI hIq : Nonempty (Of w6) := of_some _
        have hFq0 := blk_of z6_h0.out
        have hFq1 := blk_of z6_h1.out
        have hFq2 := blk_of z6_h2.out
        have hFq3 := blk_of z6_h3.out
        first | (refine wp_region_stay w6 (by kernel_rfl) (by kernel_rfl) (by go_grown) ?_) | (refine wp_region_stay_seq w6 (by go_grown) ?_)
        repeat (go_big_quiet_step ((first | (go_at_call 11; with_reducible refine stay_bool (u := false) (stampLess T K M T' K' M' _) C1.out) | (go_at_call 11; with_reducible refine stay_bool (u := true) (stampLess T' K' M' T K M _) C2.out))))
        refine wpQuiet_nil ?_
        intro w7 hb
        clear hIq hFq0 hFq1 hFq2 hFq3
        have z7_r0 : w7.heap[w.heap.size]? = some (.cells #[.int .i64 T, .int .i64 K, .int .i64 M] 25 (0, 0)) := blk_ext hb z6_h0.out
        have z7_r1 : w7.heap[w.heap.size + 1]? = some (.cells #[.int .i64 T', .int .i64 K', .int .i64 M'] 25 (0, 0)) := blk_ext hb z6_h1.out
        have z7_r2 : w7.heap[w.heap.size + 1 + 1]? = some (.cells #[.int .i64 T'', .int .i64 K'', .int .i64 M''] 25 (0, 0)) := blk_ext hb z6_h2.out
        have z7_r3 : w7.heap[w4.heap.size]? = some (.cells #[.int .i64 X, .int .i64 node, .int .i64 (M + 1)] 25 (0, 0)) := blk_ext hb z6_h3.out
        have z7_B : Below w.heap.size w w7 := ext_trans z6_B hb
        have z7_z := z7_B.size
        clear z6_B z6_z z6_c0 z6_l0 z6_k0_0 z6_k0_1 z6_c1 z6_l1 z6_k1_0 z6_k1_1 z6_c2 z6_l2 z6_k2_0 z6_k2_1 z6_c3 z6_l3 z6_k3_0 z6_k3_1 z6_h0 z6_h1 z6_h2 z6_h3 hb
        have z7_c0 := blk_cell z7_r0
        have z7_l0 := blk_lt z7_r0
        have z7_k0_0 : w.heap.size ≤ w7.heap.size := by omega
        have z7_k0_1 : w.heap.size ≤ w7.heap.size + 1 := by omega
        have z7_c1 := blk_cell z7_r1
        have z7_l1 := blk_lt z7_r1
        have z7_k1_0 : w.heap.size + 1 ≤ w7.heap.size := by omega
        have z7_k1_1 : w.heap.size + 1 ≤ w7.heap.size + 1 := by omega
        have z7_c2 := blk_cell z7_r2
        have z7_l2 := blk_lt z7_r2
        have z7_k2_0 : w.heap.size + 1 + 1 ≤ w7.heap.size := by omega
        have z7_k2_1 : w.heap.size + 1 + 1 ≤ w7.heap.size + 1 := by omega
        have z7_c3 := blk_cell z7_r3
        have z7_l3 := blk_lt z7_r3
        have z7_k3_0 : w4.heap.size ≤ w7.heap.size := by omega
        have z7_k3_1 : w4.heap.size ≤ w7.heap.size + 1 := by omega
        have z7_h0 := Lib.hid z7_r0
        have z7_h1 := Lib.hid z7_r1
        have z7_h2 := Lib.hid z7_r2
        have z7_h3 := Lib.hid z7_r3
        clear z7_r0 z7_r1 z7_r2 z7_r3
        go_upto_region 8 with fail
        haveI hIq : Nonempty (Of w7) := of_some _
        have hFq0 := blk_of z7_h0.out
        have hFq1 := blk_of z7_h1.out
        have hFq2 := blk_of z7_h2.out
        have hFq3 := blk_of z7_h3.out
        first | (refine wp_region_stay w7 (by kernel_rfl) (by kernel_rfl) (by go_grown) ?_) | (refine wp_region_stay_seq w7 (by go_grown) ?_)
        repeat (go_big_quiet_step ((first | (go_at_call 12; with_reducible refine stay_call (stampMax_at E1.out _)) | (go_at_call 12; with_reducible refine stay_call (stampMax_at E2.out _)) | (go_at_call 12; with_reducible refine stay_call (stampMax_at E3.out _)) | (go_at_call 12; with_reducible refine stay_call (stampMax_at E4.out _)) | (go_at_call 12; with_reducible refine stay_call (stampMax_at E5.out _)) | (go_at_call 9; refine stay_call (law4known _)))))
        refine wpQuiet_nil ?_
        intro w8 hb
        clear hIq hFq0 hFq1 hFq2 hFq3
        have z8_r0 : w8.heap[w.heap.size]? = some (.cells #[.int .i64 T, .int .i64 K, .int .i64 M] 25 (0, 0)) := blk_ext hb z7_h0.out
        have z8_r1 : w8.heap[w.heap.size + 1]? = some (.cells #[.int .i64 T', .int .i64 K', .int .i64 M'] 25 (0, 0)) := blk_ext hb z7_h1.out
        have z8_r2 : w8.heap[w.heap.size + 1 + 1]? = some (.cells #[.int .i64 T'', .int .i64 K'', .int .i64 M''] 25 (0, 0)) := blk_ext hb z7_h2.out
        have z8_r3 : w8.heap[w4.heap.size]? = some (.cells #[.int .i64 X, .int .i64 node, .int .i64 (M + 1)] 25 (0, 0)) := blk_ext hb z7_h3.out
        have z8_B : Below w.heap.size w w8 := ext_trans z7_B hb
        have z8_z := z8_B.size
        clear z7_B z7_z z7_c0 z7_l0 z7_k0_0 z7_k0_1 z7_c1 z7_l1 z7_k1_0 z7_k1_1 z7_c2 z7_l2 z7_k2_0 z7_k2_1 z7_c3 z7_l3 z7_k3_0 z7_k3_1 z7_h0 z7_h1 z7_h2 z7_h3 hb
        have z8_c0 := blk_cell z8_r0
        have z8_l0 := blk_lt z8_r0
        have z8_k0_0 : w.heap.size ≤ w8.heap.size := by omega
        have z8_k0_1 : w.heap.size ≤ w8.heap.size + 1 := by omega
        have z8_c1 := blk_cell z8_r1
        have z8_l1 := blk_lt z8_r1
        have z8_k1_0 : w.heap.size + 1 ≤ w8.heap.size := by omega
        have z8_k1_1 : w.heap.size + 1 ≤ w8.heap.size + 1 := by omega
        have z8_c2 := blk_cell z8_r2
        have z8_l2 := blk_lt z8_r2
        have z8_k2_0 : w.heap.size + 1 + 1 ≤ w8.heap.size := by omega
        have z8_k2_1 : w.heap.size + 1 + 1 ≤ w8.heap.size + 1 := by omega
        have z8_c3 := blk_cell z8_r3
        have z8_l3 := blk_lt z8_r3
        have z8_k3_0 : w4.heap.size ≤ w8.heap.size := by omega
        have z8_k3_1 : w4.heap.size ≤ w8.heap.size + 1 := by omega
        have z8_h0 := Lib.hid z8_r0
        have z8_h1 := Lib.hid z8_r1
        have z8_h2 := Lib.hid z8_r2
        have z8_h3 := Lib.hid z8_r3
        clear z8_r0 z8_r1 z8_r2 z8_r3
        go_wp2
        go_ret
        exact ⟨rfl, z8_B⟩
      · have C1 := Lib.hid c1
        clear c1
        go_upto_region 6 with fail
        haveI hIq : Nonempty (Of w6) := of_some _
        have hFq0 := blk_of z6_h0.out
        have hFq1 := blk_of z6_h1.out
        have hFq2 := blk_of z6_h2.out
        have hFq3 := blk_of z6_h3.out
        first | (refine wp_region_stay w6 (by kernel_rfl) (by kernel_rfl) (by go_grown) ?_) | (refine wp_region_stay_seq w6 (by go_grown) ?_)
        repeat (go_big_quiet_step ((first | (go_at_call 11; with_reducible refine stay_bool (u := false) (stampLess T K M T K M _) C1.out))))
        refine wpQuiet_nil ?_
        intro w7 hb
        clear hIq hFq0 hFq1 hFq2 hFq3
        have z7_r0 : w7.heap[w.heap.size]? = some (.cells #[.int .i64 T, .int .i64 K, .int .i64 M] 25 (0, 0)) := blk_ext hb z6_h0.out
        have z7_r1 : w7.heap[w.heap.size + 1]? = some (.cells #[.int .i64 T, .int .i64 K, .int .i64 M] 25 (0, 0)) := blk_ext hb z6_h1.out
        have z7_r2 : w7.heap[w.heap.size + 1 + 1]? = some (.cells #[.int .i64 T'', .int .i64 K'', .int .i64 M''] 25 (0, 0)) := blk_ext hb z6_h2.out
        have z7_r3 : w7.heap[w4.heap.size]? = some (.cells #[.int .i64 X, .int .i64 node, .int .i64 (M + 1)] 25 (0, 0)) := blk_ext hb z6_h3.out
        have z7_B : Below w.heap.size w w7 := ext_trans z6_B hb
        have z7_z := z7_B.size
        clear z6_B z6_z z6_c0 z6_l0 z6_k0_0 z6_k0_1 z6_c1 z6_l1 z6_k1_0 z6_k1_1 z6_c2 z6_l2 z6_k2_0 z6_k2_1 z6_c3 z6_l3 z6_k3_0 z6_k3_1 z6_h0 z6_h1 z6_h2 z6_h3 hb
        have z7_c0 := blk_cell z7_r0
        have z7_l0 := blk_lt z7_r0
        have z7_k0_0 : w.heap.size ≤ w7.heap.size := by omega
        have z7_k0_1 : w.heap.size ≤ w7.heap.size + 1 := by omega
        have z7_c1 := blk_cell z7_r1
        have z7_l1 := blk_lt z7_r1
        have z7_k1_0 : w.heap.size + 1 ≤ w7.heap.size := by omega
        have z7_k1_1 : w.heap.size + 1 ≤ w7.heap.size + 1 := by omega
        have z7_c2 := blk_cell z7_r2
        have z7_l2 := blk_lt z7_r2
        have z7_k2_0 : w.heap.size + 1 + 1 ≤ w7.heap.size := by omega
        have z7_k2_1 : w.heap.size + 1 + 1 ≤ w7.heap.size + 1 := by omega
        have z7_c3 := blk_cell z7_r3
        have z7_l3 := blk_lt z7_r3
        have z7_k3_0 : w4.heap.size ≤ w7.heap.size := by omega
        have z7_k3_1 : w4.heap.size ≤ w7.heap.size + 1 := by omega
        have z7_h0 := Lib.hid z7_r0
        have z7_h1 := Lib.hid z7_r1
        have z7_h2 := Lib.hid z7_r2
        have z7_h3 := Lib.hid z7_r3
        clear z7_r0 z7_r1 z7_r2 z7_r3
        go_upto_region 8 with fail
        haveI hIq : Nonempty (Of w7) := of_some _
        have hFq0 := blk_of z7_h0.out
        have hFq1 := blk_of z7_h1.out
        have hFq2 := blk_of z7_h2.out
        have hFq3 := blk_of z7_h3.out
        first | (refine wp_region_stay w7 (by kernel_rfl) (by kernel_rfl) (by go_grown) ?_) | (refine wp_region_stay_seq w7 (by go_grown) ?_)
        repeat (go_big_quiet_step ((first | (go_at_call 12; with_reducible refine stay_call (stampMax_at E1.out _)) | (go_at_call 12; with_reducible refine stay_call (stampMax_at E2.out _)) | (go_at_call 12; with_reducible refine stay_call (stampMax_at E3.out _)) | (go_at_call 12; with_reducible refine stay_call (stampMax_at E4.out _)) | (go_at_call 12; with_reducible refine stay_call (stampMax_at E5.out _)) | (go_at_call 9; refine stay_call (law4known _)))))
        refine wpQuiet_nil ?_
        intro w8 hb
        clear hIq hFq0 hFq1 hFq2 hFq3
        have z8_r0 : w8.heap[w.heap.size]? = some (.cells #[.int .i64 T, .int .i64 K, .int .i64 M] 25 (0, 0)) := blk_ext hb z7_h0.out
        have z8_r1 : w8.heap[w.heap.size + 1]? = some (.cells #[.int .i64 T, .int .i64 K, .int .i64 M] 25 (0, 0)) := blk_ext hb z7_h1.out
        have z8_r2 : w8.heap[w.heap.size + 1 + 1]? = some (.cells #[.int .i64 T'', .int .i64 K'', .int .i64 M''] 25 (0, 0)) := blk_ext hb z7_h2.out
        have z8_r3 : w8.heap[w4.heap.size]? = some (.cells #[.int .i64 X, .int .i64 node, .int .i64 (M + 1)] 25 (0, 0)) := blk_ext hb z7_h3.out
        have z8_B : Below w.heap.size w w8 := ext_trans z7_B hb
        have z8_z := z8_B.size
        clear z7_B z7_z z7_c0 z7_l0 z7_k0_0 z7_k0_1 z7_c1 z7_l1 z7_k1_0 z7_k1_1 z7_c2 z7_l2 z7_k2_0 z7_k2_1 z7_c3 z7_l3 z7_k3_0 z7_k3_1 z7_h0 z7_h1 z7_h2 z7_h3 hb
        have z8_c0 := blk_cell z8_r0
        have z8_l0 := blk_lt z8_r0
        have z8_k0_0 : w.heap.size ≤ w8.heap.size := by omega
        have z8_k0_1 : w.heap.size ≤ w8.heap.size + 1 := by omega
        have z8_c1 := blk_cell z8_r1
        have z8_l1 := blk_lt z8_r1
        have z8_k1_0 : w.heap.size + 1 ≤ w8.heap.size := by omega
        have z8_k1_1 : w.heap.size + 1 ≤ w8.heap.size + 1 := by omega
        have z8_c2 := blk_cell z8_r2
        have z8_l2 := blk_lt z8_r2
        have z8_k2_0 : w.heap.size + 1 + 1 ≤ w8.heap.size := by omega
        have z8_k2_1 : w.heap.size + 1 + 1 ≤ w8.heap.size + 1 := by omega
        have z8_c3 := blk_cell z8_r3
        have z8_l3 := blk_lt z8_r3
        have z8_k3_0 : w4.heap.size ≤ w8.heap.size := by omega
        have z8_k3_1 : w4.heap.size ≤ w8.heap.size + 1 := by omega
        have z8_h0 := Lib.hid z8_r0
        have z8_h1 := Lib.hid z8_r1
        have z8_h2 := Lib.hid z8_r2
        have z8_h3 := Lib.hid z8_r3
        clear z8_r0 z8_r1 z8_r2 z8_r3
        go_wp2
        go_ret
        exact ⟨rfl, z8_B⟩

end Go.Proofs.Ytogjnjcdeggheaa
