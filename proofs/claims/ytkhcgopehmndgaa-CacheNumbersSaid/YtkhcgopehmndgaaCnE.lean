/- Apply of what is no feed. -/
import Derived.Test.YtkhcgopehmndgaaCnC
import Derived.Test.YtkhcgopehmndgaaCnA
namespace Go.Proofs.Ytkhcgopehmndgaa
open Go.RowKit
set_option linter.unusedVariables false
set_option linter.unusedSimpArgs false

set_option maxRecDepth 100000 in
set_option maxHeartbeats 1000000 in
theorem rcArg1 (cb : Nat) (kd op cod : Int) (st tg nn q k1 k2 fu su cds kys : Value) (w : World) (h : kd ≠ 2) :
    Calls Try.prog 32 #[.pointer (some ⟨cb, 0, none⟩), .agg #[.int .i64 kd, .int .i64 op, st, .int .i64 cod, tg, nn, q, k1, k2, fu, su, cds, kys]] w fun r w' => r = .returned (.int .i64 1) ∧ Below w.heap.size w w' := by
  have hd : (kd != 2) = true := by simpa using h
  have D0 := Lib.hid (show Below w.heap.size w (w.alloc (.cells #[.int .i64 kd, .int .i64 op, st, .int .i64 cod, tg, nn, q, k1, k2, fu, su, cds, kys] 36)) from (Below.refl _ _).alloc (Nat.le_refl _) _)
  have HX := Lib.hid (blk_new w #[.int .i64 kd, .int .i64 op, st, .int .i64 cod, tg, nn, q, k1, k2, fu, su, cds, kys] 36)
  go_enter Try.func32, Try.ntmps32
  go_upto_region 1 with (fail)
  obtain ⟨p, hp⟩ : ∃ p, w.heap.size = p := ⟨_, rfl⟩
  rw [hp] at HX
  try rw [hp]
  clear hp
  generalize (w.alloc (.cells #[.int .i64 kd, .int .i64 op, st, .int .i64 cod, tg, nn, q, k1, k2, fu, su, cds, kys] 36)) = w1 at *
  have hk := blk_cell HX.out
  have hl := blk_lt HX.out
  go_wp2
  go_ret
  exact ⟨rfl, D0.out⟩

set_option maxRecDepth 100000 in
set_option maxHeartbeats 1000000 in
theorem rcArg2 (cb : Nat) (kd op cod : Int) (st tg nn q k1 k2 fu su cds kys : Value) (w : World) (h : op ≠ 5) :
    Calls Try.prog 32 #[.pointer (some ⟨cb, 0, none⟩), .agg #[.int .i64 2, .int .i64 op, st, .int .i64 cod, tg, nn, q, k1, k2, fu, su, cds, kys]] w fun r w' => r = .returned (.int .i64 1) ∧ Below w.heap.size w w' := by
  have hd : (op != 5) = true := by simpa using h
  have D0 := Lib.hid (show Below w.heap.size w (w.alloc (.cells #[.int .i64 2, .int .i64 op, st, .int .i64 cod, tg, nn, q, k1, k2, fu, su, cds, kys] 36)) from (Below.refl _ _).alloc (Nat.le_refl _) _)
  have HX := Lib.hid (blk_new w #[.int .i64 2, .int .i64 op, st, .int .i64 cod, tg, nn, q, k1, k2, fu, su, cds, kys] 36)
  go_enter Try.func32, Try.ntmps32
  go_upto_region 1 with (fail)
  obtain ⟨p, hp⟩ : ∃ p, w.heap.size = p := ⟨_, rfl⟩
  rw [hp] at HX
  try rw [hp]
  clear hp
  generalize (w.alloc (.cells #[.int .i64 2, .int .i64 op, st, .int .i64 cod, tg, nn, q, k1, k2, fu, su, cds, kys] 36)) = w1 at *
  have hk := blk_cell HX.out
  have hl := blk_lt HX.out
  go_wp2
  go_ret
  exact ⟨rfl, D0.out⟩

set_option maxRecDepth 100000 in
set_option maxHeartbeats 1000000 in
theorem rcArg3 (cb : Nat) (kd op cod : Int) (st tg nn q k1 k2 fu su cds kys : Value) (w : World) (h : cod ≠ 0) :
    Calls Try.prog 32 #[.pointer (some ⟨cb, 0, none⟩), .agg #[.int .i64 2, .int .i64 5, st, .int .i64 cod, tg, nn, q, k1, k2, fu, su, cds, kys]] w fun r w' => r = .returned (.int .i64 1) ∧ Below w.heap.size w w' := by
  have hd : (cod != 0) = true := by simpa using h
  have D0 := Lib.hid (show Below w.heap.size w (w.alloc (.cells #[.int .i64 2, .int .i64 5, st, .int .i64 cod, tg, nn, q, k1, k2, fu, su, cds, kys] 36)) from (Below.refl _ _).alloc (Nat.le_refl _) _)
  have HX := Lib.hid (blk_new w #[.int .i64 2, .int .i64 5, st, .int .i64 cod, tg, nn, q, k1, k2, fu, su, cds, kys] 36)
  go_enter Try.func32, Try.ntmps32
  go_upto_region 1 with (fail)
  obtain ⟨p, hp⟩ : ∃ p, w.heap.size = p := ⟨_, rfl⟩
  rw [hp] at HX
  try rw [hp]
  clear hp
  generalize (w.alloc (.cells #[.int .i64 2, .int .i64 5, st, .int .i64 cod, tg, nn, q, k1, k2, fu, su, cds, kys] 36)) = w1 at *
  have hk := blk_cell HX.out
  have hl := blk_lt HX.out
  go_wp2
  go_ret
  exact ⟨rfl, D0.out⟩

set_option maxRecDepth 100000 in
set_option maxHeartbeats 1000000 in
theorem caArg1 (cb : Nat) (kd op cod : Int) (st tg nn q k1 k2 fu su cds kys : Value) (w : World) (h : kd ≠ 2) :
    Calls Try.prog 18 #[.pointer (some ⟨cb, 0, none⟩), .agg #[.int .i64 kd, .int .i64 op, st, .int .i64 cod, tg, nn, q, k1, k2, fu, su, cds, kys]] w fun r w' => r = .returned (.int .i64 1) ∧ Below w.heap.size w w' := by
  have hd : (kd != 2) = true := by simpa using h
  have D0 := Lib.hid (show Below w.heap.size w (w.alloc (.cells #[.int .i64 kd, .int .i64 op, st, .int .i64 cod, tg, nn, q, k1, k2, fu, su, cds, kys] 36)) from (Below.refl _ _).alloc (Nat.le_refl _) _)
  have HX := Lib.hid (blk_new w #[.int .i64 kd, .int .i64 op, st, .int .i64 cod, tg, nn, q, k1, k2, fu, su, cds, kys] 36)
  go_enter Try.func18, Try.ntmps18
  go_upto_region 1 with (fail)
  obtain ⟨p, hp⟩ : ∃ p, w.heap.size = p := ⟨_, rfl⟩
  rw [hp] at HX
  try rw [hp]
  clear hp
  generalize (w.alloc (.cells #[.int .i64 kd, .int .i64 op, st, .int .i64 cod, tg, nn, q, k1, k2, fu, su, cds, kys] 36)) = w1 at *
  have hk := blk_cell HX.out
  have hl := blk_lt HX.out
  go_wp2
  go_ret
  exact ⟨rfl, D0.out⟩

set_option maxRecDepth 100000 in
set_option maxHeartbeats 1000000 in
theorem caArg2 (cb : Nat) (kd op cod : Int) (st tg nn q k1 k2 fu su cds kys : Value) (w : World) (h : op ≠ 5) :
    Calls Try.prog 18 #[.pointer (some ⟨cb, 0, none⟩), .agg #[.int .i64 2, .int .i64 op, st, .int .i64 cod, tg, nn, q, k1, k2, fu, su, cds, kys]] w fun r w' => r = .returned (.int .i64 1) ∧ Below w.heap.size w w' := by
  have hd : (op != 5) = true := by simpa using h
  have D0 := Lib.hid (show Below w.heap.size w (w.alloc (.cells #[.int .i64 2, .int .i64 op, st, .int .i64 cod, tg, nn, q, k1, k2, fu, su, cds, kys] 36)) from (Below.refl _ _).alloc (Nat.le_refl _) _)
  have HX := Lib.hid (blk_new w #[.int .i64 2, .int .i64 op, st, .int .i64 cod, tg, nn, q, k1, k2, fu, su, cds, kys] 36)
  go_enter Try.func18, Try.ntmps18
  go_upto_region 1 with (fail)
  obtain ⟨p, hp⟩ : ∃ p, w.heap.size = p := ⟨_, rfl⟩
  rw [hp] at HX
  try rw [hp]
  clear hp
  generalize (w.alloc (.cells #[.int .i64 2, .int .i64 op, st, .int .i64 cod, tg, nn, q, k1, k2, fu, su, cds, kys] 36)) = w1 at *
  have hk := blk_cell HX.out
  have hl := blk_lt HX.out
  go_wp2
  go_ret
  exact ⟨rfl, D0.out⟩

set_option maxRecDepth 100000 in
set_option maxHeartbeats 1000000 in
theorem caArg3 (cb : Nat) (kd op cod : Int) (st tg nn q k1 k2 fu su cds kys : Value) (w : World) (h : cod ≠ 0) :
    Calls Try.prog 18 #[.pointer (some ⟨cb, 0, none⟩), .agg #[.int .i64 2, .int .i64 5, st, .int .i64 cod, tg, nn, q, k1, k2, fu, su, cds, kys]] w fun r w' => r = .returned (.int .i64 1) ∧ Below w.heap.size w w' := by
  have hd : (cod != 0) = true := by simpa using h
  have D0 := Lib.hid (show Below w.heap.size w (w.alloc (.cells #[.int .i64 2, .int .i64 5, st, .int .i64 cod, tg, nn, q, k1, k2, fu, su, cds, kys] 36)) from (Below.refl _ _).alloc (Nat.le_refl _) _)
  have HX := Lib.hid (blk_new w #[.int .i64 2, .int .i64 5, st, .int .i64 cod, tg, nn, q, k1, k2, fu, su, cds, kys] 36)
  go_enter Try.func18, Try.ntmps18
  go_upto_region 1 with (fail)
  obtain ⟨p, hp⟩ : ∃ p, w.heap.size = p := ⟨_, rfl⟩
  rw [hp] at HX
  try rw [hp]
  clear hp
  generalize (w.alloc (.cells #[.int .i64 2, .int .i64 5, st, .int .i64 cod, tg, nn, q, k1, k2, fu, su, cds, kys] 36)) = w1 at *
  have hk := blk_cell HX.out
  have hl := blk_lt HX.out
  go_wp2
  go_ret
  exact ⟨rfl, D0.out⟩

end Go.Proofs.Ytkhcgopehmndgaa
