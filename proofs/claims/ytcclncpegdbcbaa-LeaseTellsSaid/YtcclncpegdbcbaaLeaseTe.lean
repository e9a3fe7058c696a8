/- Layer 9's laws, walked: LeaseTells. -/
import Derived.Test.YtcclncpegdbcbaaLeaseSame
import Derived.Test.YtcclncpegdbcbaaTapeCard
import Derived.Test.YtcclncpegdbcbaaMask
import Derived.Test.YtcclncpegdbcbaaChain
namespace Go.Proofs.Ytcclncpegdbcbaa
open Go.RowKit
set_option linter.unusedVariables false

theorem tapeK_new_at {a : Option Addr} {len cap b : Nat} {w : World} (e : w.heap.size = b) : TapeK a len cap (w.alloc (.cells #[.slice a len cap, .int .i64 0] 38)) b := by
  subst e; exact tapeK_new _
theorem rowOk_new_at {a : Option Addr} {len cap b : Nat} {zs : List Int} {w : World} (h : IsRow .i64 w a len cap zs) (o : Obj) (e : w.heap.size = b) : RowOk a len cap zs (w.alloc o) b := by
  subst e; exact rowOk_new h o

set_option maxRecDepth 100000 in
set_option maxHeartbeats 4000000 in
theorem leaseTells_walk0 (a0 : Option Addr) (len cap : Nat) (zs : List Int) (a1 i1 : ByteArray) (s1 o1 l1 t1 k1 n1 : Int) (g1e : Bool) (seen1 : Int) (inn : Bool) (a2 i2 : ByteArray) (s2 o2 l2 t2 k2 n2 : Int) (g2e : Bool) (over t3 k3 n3 now : Int) (w : World) (h0 : IsRow .i64 w a0 len cap zs) :
    Calls Try.prog 4 #[.slice a0 len cap, En.v ⟨⟨a1, i1, s1, o1, l1, t1, k1, n1, g1e⟩, seen1⟩, .bool inn, Cd.v ⟨a2, i2, s2, o2, l2, t2, k2, n2, g2e⟩, .int .i64 over, stv t3 k3 n3, .int .i64 now] w fun e w' => e = .returned (.bool true) ∧ Below w.heap.size w w' := by
  obtain ⟨O, hO⟩ : ∃ O, bits BinOp.and IntKind.i64 over 3 = O := ⟨_, rfl⟩
  obtain ⟨N, hN⟩ : ∃ N, bits BinOp.and IntKind.i64 now 127 = N := ⟨_, rfl⟩
  go_enter Try.func4, Try.ntmps4
  go_upto_region 2 with fail
  refine wp_letter (fun W => Below w.heap.size w W ∧ W.heap[w.heap.size]? = some (.cells #[.string a1, .string i1, .int .i64 s1, .int .i64 o1, .int .i64 l1, .int .i64 t1, .int .i64 k1, .int .i64 n1, .bool g1e, .int .i64 seen1] 30 (0, 0)) ∧ W.heap[w.heap.size + 1]? = some (.cells #[.string a2, .string i2, .int .i64 s2, .int .i64 o2, .int .i64 l2, .int .i64 t2, .int .i64 k2, .int .i64 n2, .bool g2e] 28 (0, 0)) ∧ W.heap[w.heap.size + 1 + 1]? = some (.cells #[.int .i64 t3, .int .i64 k3, .int .i64 n3] 26 (0, 0)) ∧ TapeK a0 len cap W (w.heap.size + 1 + 1 + 1) ∧ RowOk a0 len cap zs W (w.heap.size + 1 + 1 + 1)) ⟨by go_grown, by repeat (first | (with_reducible assumption) | (with_reducible refine blk_new_at ?_ _ _; first | (with_reducible rfl) | (simp; done)) | (with_reducible refine blk_alloc ?_ _) | (with_reducible refine blk_drew ?_) | (with_reducible apply blk_set) | (show Array.setIfInBounds _ _ _ = _; first | (simp; done) | (simp; rfl)) | (with_reducible refine blk_set_other ?_ ?_; omega)), by repeat (first | (with_reducible assumption) | (with_reducible refine blk_new_at ?_ _ _; first | (with_reducible rfl) | (simp; done)) | (with_reducible refine blk_alloc ?_ _) | (with_reducible refine blk_drew ?_) | (with_reducible apply blk_set) | (show Array.setIfInBounds _ _ _ = _; first | (simp; done) | (simp; rfl)) | (with_reducible refine blk_set_other ?_ ?_; omega)), by repeat (first | (with_reducible assumption) | (with_reducible refine blk_new_at ?_ _ _; first | (with_reducible rfl) | (simp; done)) | (with_reducible refine blk_alloc ?_ _) | (with_reducible refine blk_drew ?_) | (with_reducible apply blk_set) | (show Array.setIfInBounds _ _ _ = _; first | (simp; done) | (simp; rfl)) | (with_reducible refine blk_set_other ?_ ?_; omega)), tapeK_new_at (by simp), rowOk_new_at (h0.ext (by go_grown)) _ (by simp)⟩ ?_
  rintro w1 ⟨hBl, hl0, hl1, hl2, hxhtk, hxhrow⟩
  have z1_r0 : w1.heap[w.heap.size]? = some (.cells #[.string a1, .string i1, .int .i64 s1, .int .i64 o1, .int .i64 l1, .int .i64 t1, .int .i64 k1, .int .i64 n1, .bool g1e, .int .i64 seen1] 30 (0, 0)) := hl0
  have z1_r1 : w1.heap[w.heap.size + 1]? = some (.cells #[.string a2, .string i2, .int .i64 s2, .int .i64 o2, .int .i64 l2, .int .i64 t2, .int .i64 k2, .int .i64 n2, .bool g2e] 28 (0, 0)) := hl1
  have z1_r2 : w1.heap[w.heap.size + 1 + 1]? = some (.cells #[.int .i64 t3, .int .i64 k3, .int .i64 n3] 26 (0, 0)) := hl2
  have z1_htk : TapeK a0 len cap w1 (w.heap.size + 1 + 1 + 1) := hxhtk
  have z1_hrow : RowOk a0 len cap zs w1 (w.heap.size + 1 + 1 + 1) := hxhrow
  have z1_B : Below w.heap.size w w1 := hBl
  have z1_z := z1_B.size
  clear  hBl hl0 hl1 hl2 hxhtk hxhrow
  have z1_c0 := blk_cell z1_r0
  have z1_l0 := blk_lt z1_r0
  have z1_k0_0 : w.heap.size ≤ w1.heap.size := by omega
  have z1_k0_1 : w.heap.size ≤ w1.heap.size + 1 := by omega
  have z1_c1 := blk_cell z1_r1
  have z1_l1 := blk_lt z1_r1
  have z1_k1_0 : w.heap.size + 1 ≤ w1.heap.size := by omega
  have z1_k1_1 : w.heap.size + 1 ≤ w1.heap.size + 1 := by omega
  have z1_c2 := blk_cell z1_r2
  have z1_l2 := blk_lt z1_r2
  have z1_k2_0 : w.heap.size + 1 + 1 ≤ w1.heap.size := by omega
  have z1_k2_1 : w.heap.size + 1 + 1 ≤ w1.heap.size + 1 := by omega
  have z1_h0 := Lib.hid z1_r0
  have z1_h1 := Lib.hid z1_r1
  have z1_h2 := Lib.hid z1_r2
  clear z1_r0 z1_r1 z1_r2
  go_wp2_with fail
  refine (tapeCardK a0 len cap zs _ _ z1_htk z1_hrow).mono ?_
  rintro e w2 ⟨c0, rfl, -, htkn, hbar⟩
  have z2_r0 : w2.heap[w.heap.size]? = some (.cells #[.string a1, .string i1, .int .i64 s1, .int .i64 o1, .int .i64 l1, .int .i64 t1, .int .i64 k1, .int .i64 n1, .bool g1e, .int .i64 seen1] 30 (0, 0)) := hbar.blk (by omega) z1_h0.out
  have z2_r1 : w2.heap[w.heap.size + 1]? = some (.cells #[.string a2, .string i2, .int .i64 s2, .int .i64 o2, .int .i64 l2, .int .i64 t2, .int .i64 k2, .int .i64 n2, .bool g2e] 28 (0, 0)) := hbar.blk (by omega) z1_h1.out
  have z2_r2 : w2.heap[w.heap.size + 1 + 1]? = some (.cells #[.int .i64 t3, .int .i64 k3, .int .i64 n3] 26 (0, 0)) := hbar.blk (by omega) z1_h2.out
  have z2_htk : TapeK a0 len cap w2 (w.heap.size + 1 + 1 + 1) := htkn
  have z2_hrow : RowOk a0 len cap zs w2 (w.heap.size + 1 + 1 + 1) := z1_hrow.bar hbar
  have z2_B : Below w.heap.size w w2 := z1_B.trans (hbar.below (by omega) (by omega))
  have z2_z := z2_B.size
  clear z1_htk z1_hrow z1_B z1_z z1_c0 z1_l0 z1_k0_0 z1_k0_1 z1_c1 z1_l1 z1_k1_0 z1_k1_1 z1_c2 z1_l2 z1_k2_0 z1_k2_1 z1_h0 z1_h1 z1_h2 htkn hbar
  have z2_c0 := blk_cell z2_r0
  have z2_l0 := blk_lt z2_r0
  have z2_k0_0 : w.heap.size ≤ w2.heap.size := by omega
  have z2_k0_1 : w.heap.size ≤ w2.heap.size + 1 := by omega
  have z2_c1 := blk_cell z2_r1
  have z2_l1 := blk_lt z2_r1
  have z2_k1_0 : w.heap.size + 1 ≤ w2.heap.size := by omega
  have z2_k1_1 : w.heap.size + 1 ≤ w2.heap.size + 1 := by omega
  have z2_c2 := blk_cell z2_r2
  have z2_l2 := blk_lt z2_r2
  have z2_k2_0 : w.heap.size + 1 + 1 ≤ w2.heap.size := by omega
  have z2_k2_1 : w.heap.size + 1 + 1 ≤ w2.heap.size + 1 := by omega
  have z2_h0 := Lib.hid z2_r0
  have z2_h1 := Lib.hid z2_r1
  have z2_h2 := Lib.hid z2_r2
  clear z2_r0 z2_r1 z2_r2
  go_wp2_with fail
  refine (tapeNextK a0 len cap zs _ 80 _ z2_htk z2_hrow (by omega) (by omega)).mono ?_
  rintro e w3 ⟨q, rfl, hq0, hq1, htkn, hbar⟩
  have z3_r0 : w3.heap[w.heap.size]? = some (.cells #[.string a1, .string i1, .int .i64 s1, .int .i64 o1, .int .i64 l1, .int .i64 t1, .int .i64 k1, .int .i64 n1, .bool g1e, .int .i64 seen1] 30 (0, 0)) := hbar.blk (by omega) z2_h0.out
  have z3_r1 : w3.heap[w.heap.size + 1]? = some (.cells #[.string a2, .string i2, .int .i64 s2, .int .i64 o2, .int .i64 l2, .int .i64 t2, .int .i64 k2, .int .i64 n2, .bool g2e] 28 (0, 0)) := hbar.blk (by omega) z2_h1.out
  have z3_r2 : w3.heap[w.heap.size + 1 + 1]? = some (.cells #[.int .i64 t3, .int .i64 k3, .int .i64 n3] 26 (0, 0)) := hbar.blk (by omega) z2_h2.out
  have z3_htk : TapeK a0 len cap w3 (w.heap.size + 1 + 1 + 1) := htkn
  have z3_hrow : RowOk a0 len cap zs w3 (w.heap.size + 1 + 1 + 1) := z2_hrow.bar hbar
  have z3_B : Below w.heap.size w w3 := z2_B.trans (hbar.below (by omega) (by omega))
  have z3_z := z3_B.size
  clear z2_htk z2_hrow z2_B z2_z z2_c0 z2_l0 z2_k0_0 z2_k0_1 z2_c1 z2_l1 z2_k1_0 z2_k1_1 z2_c2 z2_l2 z2_k2_0 z2_k2_1 z2_h0 z2_h1 z2_h2 htkn hbar
  have z3_c0 := blk_cell z3_r0
  have z3_l0 := blk_lt z3_r0
  have z3_k0_0 : w.heap.size ≤ w3.heap.size := by omega
  have z3_k0_1 : w.heap.size ≤ w3.heap.size + 1 := by omega
  have z3_c1 := blk_cell z3_r1
  have z3_l1 := blk_lt z3_r1
  have z3_k1_0 : w.heap.size + 1 ≤ w3.heap.size := by omega
  have z3_k1_1 : w.heap.size + 1 ≤ w3.heap.size + 1 := by omega
  have z3_c2 := blk_cell z3_r2
  have z3_l2 := blk_lt z3_r2
  have z3_k2_0 : w.heap.size + 1 + 1 ≤ w3.heap.size := by omega
  have z3_k2_1 : w.heap.size + 1 + 1 ≤ w3.heap.size + 1 := by omega
  have z3_h0 := Lib.hid z3_r0
  have z3_h1 := Lib.hid z3_r1
  have z3_h2 := Lib.hid z3_r2
  clear z3_r0 z3_r1 z3_r2
  have tlw3 : w.heap.size + 1 + 1 + 1 < w3.heap.size := z3_htk.lt
  go_upto_region 3 with fail
  have z3_s0 := z3_h0.out
  have z3_s1 := z3_h1.out
  have z3_s2 := z3_h2.out
  refine wp_letter (fun W => Below w.heap.size w W ∧ W.heap[w.heap.size]? = some (.cells #[.string a1, .string i1, .int .i64 s1, .int .i64 o1, .int .i64 l1, .int .i64 t1, .int .i64 k1, .int .i64 n1, .bool g1e, .int .i64 seen1] 30 (0, 0)) ∧ W.heap[w.heap.size + 1]? = some (.cells #[.string a2, .string i2, .int .i64 s2, .int .i64 o2, .int .i64 l2, .int .i64 t2, .int .i64 k2, .int .i64 n2, .bool g2e] 28 (0, 0)) ∧ W.heap[w.heap.size + 1 + 1]? = some (.cells #[.int .i64 t3, .int .i64 k3, .int .i64 n3] 26 (0, 0)) ∧ W.heap[w3.heap.size]? = some (.cells #[.string c0.a, .string c0.i, .int .i64 c0.s, .int .i64 c0.o, .int .i64 c0.l, .int .i64 c0.t, .int .i64 c0.k, .int .i64 c0.n, .bool c0.g, .int .i64 q] 30 (0, 0)) ∧ TapeK a0 len cap W (w.heap.size + 1 + 1 + 1) ∧ RowOk a0 len cap zs W (w.heap.size + 1 + 1 + 1)) ⟨by go_grown, by repeat (first | (with_reducible assumption) | (with_reducible refine blk_new_at ?_ _ _; first | (with_reducible rfl) | (simp; done)) | (with_reducible refine blk_alloc ?_ _) | (with_reducible refine blk_drew ?_) | (with_reducible apply blk_set) | (show Array.setIfInBounds _ _ _ = _; first | (simp; done) | (simp; rfl)) | (with_reducible refine blk_set_other ?_ ?_; omega)), by repeat (first | (with_reducible assumption) | (with_reducible refine blk_new_at ?_ _ _; first | (with_reducible rfl) | (simp; done)) | (with_reducible refine blk_alloc ?_ _) | (with_reducible refine blk_drew ?_) | (with_reducible apply blk_set) | (show Array.setIfInBounds _ _ _ = _; first | (simp; done) | (simp; rfl)) | (with_reducible refine blk_set_other ?_ ?_; omega)), by repeat (first | (with_reducible assumption) | (with_reducible refine blk_new_at ?_ _ _; first | (with_reducible rfl) | (simp; done)) | (with_reducible refine blk_alloc ?_ _) | (with_reducible refine blk_drew ?_) | (with_reducible apply blk_set) | (show Array.setIfInBounds _ _ _ = _; first | (simp; done) | (simp; rfl)) | (with_reducible refine blk_set_other ?_ ?_; omega)), by repeat (first | (with_reducible assumption) | (with_reducible refine blk_new_at ?_ _ _; first | (with_reducible rfl) | (simp; done)) | (with_reducible refine blk_alloc ?_ _) | (with_reducible refine blk_drew ?_) | (with_reducible apply blk_set) | (show Array.setIfInBounds _ _ _ = _; first | (simp; done) | (simp; rfl)) | (with_reducible refine blk_set_other ?_ ?_; omega)), TapeK.ext (z3_htk) (by go_grown), RowOk.bar (z3_hrow) (Bar.of (by go_grown))⟩ ?_
  rintro w4 ⟨hBl, hl0, hl1, hl2, hl3, hxhtk, hxhrow⟩
  have z4_r0 : w4.heap[w.heap.size]? = some (.cells #[.string a1, .string i1, .int .i64 s1, .int .i64 o1, .int .i64 l1, .int .i64 t1, .int .i64 k1, .int .i64 n1, .bool g1e, .int .i64 seen1] 30 (0, 0)) := hl0
  have z4_r1 : w4.heap[w.heap.size + 1]? = some (.cells #[.string a2, .string i2, .int .i64 s2, .int .i64 o2, .int .i64 l2, .int .i64 t2, .int .i64 k2, .int .i64 n2, .bool g2e] 28 (0, 0)) := hl1
  have z4_r2 : w4.heap[w.heap.size + 1 + 1]? = some (.cells #[.int .i64 t3, .int .i64 k3, .int .i64 n3] 26 (0, 0)) := hl2
  have z4_r3 : w4.heap[w3.heap.size]? = some (.cells #[.string c0.a, .string c0.i, .int .i64 c0.s, .int .i64 c0.o, .int .i64 c0.l, .int .i64 c0.t, .int .i64 c0.k, .int .i64 c0.n, .bool c0.g, .int .i64 q] 30 (0, 0)) := hl3
  have z4_htk : TapeK a0 len cap w4 (w.heap.size + 1 + 1 + 1) := hxhtk
  have z4_hrow : RowOk a0 len cap zs w4 (w.heap.size + 1 + 1 + 1) := hxhrow
  have z4_B : Below w.heap.size w w4 := hBl
  have z4_z := z4_B.size
  clear z3_htk z3_hrow z3_B z3_z z3_c0 z3_l0 z3_k0_0 z3_k0_1 z3_c1 z3_l1 z3_k1_0 z3_k1_1 z3_c2 z3_l2 z3_k2_0 z3_k2_1 z3_h0 z3_h1 z3_h2 z3_s0 z3_s1 z3_s2 hBl hl0 hl1 hl2 hl3 hxhtk hxhrow
  have z4_c0 := blk_cell z4_r0
  have z4_l0 := blk_lt z4_r0
  have z4_k0_0 : w.heap.size ≤ w4.heap.size := by omega
  have z4_k0_1 : w.heap.size ≤ w4.heap.size + 1 := by omega
  have z4_c1 := blk_cell z4_r1
  have z4_l1 := blk_lt z4_r1
  have z4_k1_0 : w.heap.size + 1 ≤ w4.heap.size := by omega
  have z4_k1_1 : w.heap.size + 1 ≤ w4.heap.size + 1 := by omega
  have z4_c2 := blk_cell z4_r2
  have z4_l2 := blk_lt z4_r2
  have z4_k2_0 : w.heap.size + 1 + 1 ≤ w4.heap.size := by omega
  have z4_k2_1 : w.heap.size + 1 + 1 ≤ w4.heap.size + 1 := by omega
  have z4_c3 := blk_cell z4_r3
  have z4_l3 := blk_lt z4_r3
  have z4_k3_0 : w3.heap.size ≤ w4.heap.size := by omega
  have z4_k3_1 : w3.heap.size ≤ w4.heap.size + 1 := by omega
  have z4_h0 := Lib.hid z4_r0
  have z4_h1 := Lib.hid z4_r1
  have z4_h2 := Lib.hid z4_r2
  have z4_h3 := Lib.hid z4_r3
  clear z4_r0 z4_r1 z4_r2 z4_r3
  have hrowW := Lib.hid z4_hrow
  have BW := z4_B
  haveI hIc : Nonempty (In (Bar (w.heap.size + 1 + 1 + 1) w4)) := ⟨⟨_, Bar.refl _ _⟩⟩
  have hF0 : ∀ g : In (Bar (w.heap.size + 1 + 1 + 1) w4), ∀ n, g.w.cell? ⟨w.heap.size, n, none⟩ = #[.string a1, .string i1, .int .i64 s1, .int .i64 o1, .int .i64 l1, .int .i64 t1, .int .i64 k1, .int .i64 n1, .bool g1e, .int .i64 seen1][n]? := fun g n => blk_cell (g.h.blk (by omega) z4_h0.out) n
  have hF1 : ∀ g : In (Bar (w.heap.size + 1 + 1 + 1) w4), ∀ n, g.w.cell? ⟨w.heap.size + 1, n, none⟩ = #[.string a2, .string i2, .int .i64 s2, .int .i64 o2, .int .i64 l2, .int .i64 t2, .int .i64 k2, .int .i64 n2, .bool g2e][n]? := fun g n => blk_cell (g.h.blk (by omega) z4_h1.out) n
  have hF2 : ∀ g : In (Bar (w.heap.size + 1 + 1 + 1) w4), ∀ n, g.w.cell? ⟨w.heap.size + 1 + 1, n, none⟩ = #[.int .i64 t3, .int .i64 k3, .int .i64 n3][n]? := fun g n => blk_cell (g.h.blk (by omega) z4_h2.out) n
  have hF3 : ∀ g : In (Bar (w.heap.size + 1 + 1 + 1) w4), ∀ n, g.w.cell? ⟨w3.heap.size, n, none⟩ = #[.string c0.a, .string c0.i, .int .i64 c0.s, .int .i64 c0.o, .int .i64 c0.l, .int .i64 c0.t, .int .i64 c0.k, .int .i64 c0.n, .bool c0.g, .int .i64 q][n]? := fun g n => blk_cell (g.h.blk (by omega) z4_h3.out) n
  refine wp_region_chain (fun w' => ∃ g : In (Bar (w.heap.size + 1 + 1 + 1) w4), w' = g.w) (by kernel_rfl) (by kernel_rfl) (by kernel_rfl) ?_
  refine wpG_letter (fun W => Bar (w.heap.size + 1 + 1 + 1) w4 W ∧ TapeK a0 len cap W (w.heap.size + 1 + 1 + 1)) ⟨Bar.of ((Below.refl _ _).drew), z4_htk.ext ((Below.refl _ _).drew)⟩ ?_
  rintro x0 ⟨hb0, ht0⟩
  clear z4_htk z4_hrow z4_B z4_z z4_c0 z4_l0 z4_k0_0 z4_k0_1 z4_c1 z4_l1 z4_k1_0 z4_k1_1 z4_c2 z4_l2 z4_k2_0 z4_k2_1 z4_c3 z4_l3 z4_k3_0 z4_k3_1 z4_h0 z4_h1 z4_h2 z4_h3
  repeat (refine wpG_plain (by rfl) (by rfl) (fun K hK => ?_); go_big_quiet_op; refine hK _ ?_; clear hK K)
  refine wpG_call (by rfl) (by rfl) ⟨⟨_, hb0⟩, rfl⟩ (fun K hK => ?_)
  go_big_op
  refine (law9same ⟨⟨a1, i1, s1, o1, l1, t1, k1, n1, g1e⟩, seen1⟩ inn ⟨a2, i2, s2, o2, l2, t2, k2, n2, g2e⟩ over t3 k3 n3 now _).mono ?_
  rintro e x1 ⟨rfl, hbl⟩
  have hb1 := hb0.trans (Bar.of hbl)
  have ht1 := ht0.ext hbl
  clear hb0 ht0 hbl
  refine hK _ _ ?_
  clear hK K
  repeat (refine wpG_plain (by rfl) (by rfl) (fun K hK => ?_); go_big_quiet_op; refine hK _ ?_; clear hK K)
  refine wpG_call (by rfl) (by rfl) ⟨⟨_, hb1⟩, rfl⟩ (fun K hK => ?_)
  go_big_op
  refine (tapeCardK _ _ _ zs _ _ ht1 (hrowW.out.bar hb1)).mono ?_
  rintro e x2 ⟨c4, rfl, -, ht2, hbar⟩
  have hb2 := hb1.trans hbar
  clear hb1 ht1 hbar
  refine hK _ _ ?_
  clear hK K
  repeat (refine wpG_plain (by rfl) (by rfl) (fun K hK => ?_); go_big_quiet_op; refine hK _ ?_; clear hK K)
  refine wpG_call (by rfl) (by rfl) ⟨⟨_, hb2⟩, rfl⟩ (fun K hK => ?_)
  go_big_op
  refine (tapeStampK _ _ _ zs _ _ ht2 (hrowW.out.bar hb2)).mono ?_
  rintro e x3 ⟨t4, k4, n4, rfl, -, -, -, -, -, -, ht3, hbar⟩
  have hb3 := hb2.trans hbar
  clear hb2 ht2 hbar
  refine hK _ _ ?_
  clear hK K
  repeat (refine wpG_plain (by rfl) (by rfl) (fun K hK => ?_); go_big_quiet_op; refine hK _ ?_; clear hK K)
  refine wpG_call (by rfl) (by rfl) ⟨⟨_, hb3⟩, rfl⟩ (fun K hK => ?_)
  go_big_op
  refine (law9same ⟨c0, q⟩ inn c4 O t4 k4 n4 N _).mono ?_
  rintro e x4 ⟨rfl, hbl⟩
  have hb4 := hb3.trans (Bar.of hbl)
  have ht4 := ht3.ext hbl
  clear hb3 ht3 hbl
  refine hK _ _ ?_
  clear hK K
  repeat (refine wpG_plain (by rfl) (by rfl) (fun K hK => ?_); go_big_quiet_op; refine hK _ ?_; clear hK K)
  refine wpG_call (by rfl) (by rfl) ⟨⟨_, hb4⟩, rfl⟩ (fun K hK => ?_)
  go_big_op
  refine (law9same ⟨c0, q⟩ inn ⟨a2, i2, s2, o2, l2, t2, k2, n2, g2e⟩ over t3 k3 n3 now _).mono ?_
  rintro e x5 ⟨rfl, hbl⟩
  have hb5 := hb4.trans (Bar.of hbl)
  have ht5 := ht4.ext hbl
  clear hb4 ht4 hbl
  refine hK _ _ ?_
  clear hK K
  repeat (refine wpG_plain (by rfl) (by rfl) (fun K hK => ?_); go_big_quiet_op; refine hK _ ?_; clear hK K)
  refine wpG_call (by rfl) (by rfl) ⟨⟨_, hb5⟩, rfl⟩ (fun K hK => ?_)
  go_big_op
  refine (law9known _).mono ?_
  rintro e x6 ⟨rfl, hbl⟩
  have hb6 := hb5.trans (Bar.of hbl)
  have ht6 := ht5.ext hbl
  clear hb5 ht5 hbl
  refine hK _ _ ?_
  clear hK K
  repeat (refine wpG_plain (by rfl) (by rfl) (fun K hK => ?_); go_big_quiet_op; refine hK _ ?_; clear hK K)
  refine wpG_nil ⟨⟨_, hb6⟩, rfl⟩ ?_
  have hBz := BW.size
  have BF := BW.trans (hb6.below (by omega) (by omega))
  clear hb6 ht6 hrowW BW hIc hF0 hF1 hF2 hF3
  go_wp2
  go_ret
  exact ⟨rfl, BF⟩

end Go.Proofs.Ytcclncpegdbcbaa
