/- Package fault by contracts: firstErrno, Code. -/
import Derived.Test.YtcgembfdejjliaaGreatDoorFauG
import Derived.Deep.DeepCutAuto
namespace Go.Proofs.YtcgembfdejjliaaGreatDoor
open Go.RowKit Go.Extern.Stop Go.Stop Go.Extern
set_option linter.unusedVariables false
set_option linter.unusedSimpArgs false


set_option maxHeartbeats 1000000 in
theorem firstErrno_hit (ops : List ByteArray) (c : Int) (e : Value) (w : World) (hG : EG w) (h : FC w (.iface 39 (.int .i64 c)) ops e) (hn : ops.length ≤ 100) :
    Calls Tryz.prog 28 #[e] w fun r w' => r = .returned (.tuple #[.int .i64 c, .bool true]) ∧ Below w.heap.size w w' := by
  have hmf : ∀ (fn : Fn) (first cap : Array Value) (w : World), (Instr.makeFunc fn first cap).run Tryz.prog w = .ok (.func fn first cap) w := fun _ _ _ _ => rfl
  have D0 := Lib.hid (((Below.refl w.heap.size w).alloc (Nat.le_refl _) (.cells #[.int .i64 0] 39)).alloc (by simp) (.cells #[.bool false] 4))
  have HX := Lib.hid (blk_alloc (blk_new w #[.int .i64 0] 39) (.cells #[.bool false] 4))
  have HY := Lib.hid (blk_new (w.alloc (.cells #[.int .i64 0] 39)) #[.bool false] 4)
  have HG := Lib.hid (hG.ext D0.out)
  have HF := Lib.hid (h.ext D0.out)
  have HB := Lib.hid (Bs.no (w := ((w.alloc (.cells #[.int .i64 0] 39)).alloc (.cells #[.bool false] 4))) c)
  clear hG h
  go_enter_defers Tryz.func28, Tryz.ntmps28
  go_wp2_with fail
  obtain ⟨q, hq⟩ : ∃ q, w.heap.size = q := ⟨_, rfl⟩
  have hqs : (w.alloc (.cells #[.int .i64 0] 39)).heap.size = q + 1 := by simp [hq]
  rw [hq] at HX
  rw [hqs] at HY
  try rw [hq]
  generalize ((w.alloc (.cells #[.int .i64 0] 39)).alloc (.cells #[.bool false] 4)) = w1 at *
  refine (faultEnds ops _ _ w1 HB.out HF.out hn).mono ?_
  rintro r w2 ⟨rfl, hb2⟩
  have HX2 := Lib.hid (blk_ext hb2 HX.out)
  have HY2 := Lib.hid (blk_ext hb2 HY.out)
  have HD2 := Lib.hid (ext_trans D0.out hb2)
  have HG2 := Lib.hid (HG.out.ext hb2)
  have HF2 := Lib.hid (HF.out.ext hb2)
  have HB2 := Lib.hid (HB.out.ext hb2)
  clear hb2
  go_wp2_with fail
  refine (errAsE_hit ops c e q _ w2 HG2.out HX2.out HF2.out).mono ?_
  rintro r w' ⟨rfl, w3, hb3, hk3, rfl⟩
  have HX4 := Lib.hid (blk_set (n := 0) (u := .int .i64 c) (vs' := #[.int .i64 c]) (hk3.trans HX2.out) (by simp))
  have HY4 := Lib.hid (blk_set_other (b := q + 1) (b' := q) (n := 0) (u := .int .i64 c) (by omega) (blk_ext hb3 HY2.out))
  have HD4 := Lib.hid ((ext_trans HD2.out hb3).setCell (p := ⟨q, 0, none⟩) (by show w.heap.size ≤ q; omega) (.int .i64 c))
  clear hb3 hk3
  generalize (w3.setCell ⟨q, 0, none⟩ (.int .i64 c)) = w4 at *
  have HX5 := Lib.hid (blk_set_other (b := q) (b' := q + 1) (n := 0) (u := .bool true) (by omega) HX4.out)
  have HY5 := Lib.hid (blk_set (n := 0) (u := .bool true) (vs' := #[.bool true]) HY4.out (by simp))
  have HD5 := Lib.hid (HD4.out.setCell (p := ⟨q + 1, 0, none⟩) (by show w.heap.size ≤ q + 1; omega) (.bool true))
  have hyf := blk_free HY4.out
  have hyl := blk_lt HY4.out
  have hyc := blk_cell HY4.out
  go_upto_region 3 with (fail)
  clear hyf hyl hyc
  generalize (w4.setCell ⟨q + 1, 0, none⟩ (.bool true)) = w5 at *
  have HS : ∀ u : World, Below w.heap.size w u → u.heap[q]? = some (.cells #[.int .i64 c] 39 (0, 0)) → u.heap[q + 1]? = some (.cells #[.bool true] 4 (0, 0)) → (Below w.heap.size w u ∧ u.heap[q]? = some (.cells #[.int .i64 c] 39 (0, 0)) ∧ u.heap[q + 1]? = some (.cells #[.bool true] 4 (0, 0)) ∧ u.cell? ⟨q, 0, none⟩ = some (.int .i64 c) ∧ u.frozen? ⟨q, 0, none⟩ = false ∧ u.cell? ⟨q + 1, 0, none⟩ = some (.bool true) ∧ u.frozen? ⟨q + 1, 0, none⟩ = false) :=
    fun u a b c => ⟨a, b, c, blk_cell b 0, blk_free b 0, blk_cell c 0, blk_free c 0⟩
  have K0 : ∀ u : World, (Below w.heap.size w u ∧ u.heap[q]? = some (.cells #[.int .i64 c] 39 (0, 0)) ∧ u.heap[q + 1]? = some (.cells #[.bool true] 4 (0, 0)) ∧ u.cell? ⟨q, 0, none⟩ = some (.int .i64 c) ∧ u.frozen? ⟨q, 0, none⟩ = false ∧ u.cell? ⟨q + 1, 0, none⟩ = some (.bool true) ∧ u.frozen? ⟨q + 1, 0, none⟩ = false) → (Below w.heap.size w u.drew ∧ u.drew.heap[q]? = some (.cells #[.int .i64 c] 39 (0, 0)) ∧ u.drew.heap[q + 1]? = some (.cells #[.bool true] 4 (0, 0)) ∧ u.drew.cell? ⟨q, 0, none⟩ = some (.int .i64 c) ∧ u.drew.frozen? ⟨q, 0, none⟩ = false ∧ u.drew.cell? ⟨q + 1, 0, none⟩ = some (.bool true) ∧ u.drew.frozen? ⟨q + 1, 0, none⟩ = false) := fun u ⟨a, b, c, _⟩ => HS _ a.drew b c
  have K1 : ∀ u : World, (Below w.heap.size w u ∧ u.heap[q]? = some (.cells #[.int .i64 c] 39 (0, 0)) ∧ u.heap[q + 1]? = some (.cells #[.bool true] 4 (0, 0)) ∧ u.cell? ⟨q, 0, none⟩ = some (.int .i64 c) ∧ u.frozen? ⟨q, 0, none⟩ = false ∧ u.cell? ⟨q + 1, 0, none⟩ = some (.bool true) ∧ u.frozen? ⟨q + 1, 0, none⟩ = false) → (Below w.heap.size w (u.setCell ⟨q, 0, none⟩ (.int .i64 c)) ∧ (u.setCell ⟨q, 0, none⟩ (.int .i64 c)).heap[q]? = some (.cells #[.int .i64 c] 39 (0, 0)) ∧ (u.setCell ⟨q, 0, none⟩ (.int .i64 c)).heap[q + 1]? = some (.cells #[.bool true] 4 (0, 0)) ∧ (u.setCell ⟨q, 0, none⟩ (.int .i64 c)).cell? ⟨q, 0, none⟩ = some (.int .i64 c) ∧ (u.setCell ⟨q, 0, none⟩ (.int .i64 c)).frozen? ⟨q, 0, none⟩ = false ∧ (u.setCell ⟨q, 0, none⟩ (.int .i64 c)).cell? ⟨q + 1, 0, none⟩ = some (.bool true) ∧ (u.setCell ⟨q, 0, none⟩ (.int .i64 c)).frozen? ⟨q + 1, 0, none⟩ = false) := fun u ⟨a, b, c, _⟩ => HS _ (a.setCell (p := ⟨q, 0, none⟩) (by show w.heap.size ≤ q; omega) _) (blk_set (n := 0) b (by simp)) (blk_set_other (by omega) c)
  have K2 : ∀ u : World, (Below w.heap.size w u ∧ u.heap[q]? = some (.cells #[.int .i64 c] 39 (0, 0)) ∧ u.heap[q + 1]? = some (.cells #[.bool true] 4 (0, 0)) ∧ u.cell? ⟨q, 0, none⟩ = some (.int .i64 c) ∧ u.frozen? ⟨q, 0, none⟩ = false ∧ u.cell? ⟨q + 1, 0, none⟩ = some (.bool true) ∧ u.frozen? ⟨q + 1, 0, none⟩ = false) → (Below w.heap.size w (u.setCell ⟨q + 1, 0, none⟩ (.bool true)) ∧ (u.setCell ⟨q + 1, 0, none⟩ (.bool true)).heap[q]? = some (.cells #[.int .i64 c] 39 (0, 0)) ∧ (u.setCell ⟨q + 1, 0, none⟩ (.bool true)).heap[q + 1]? = some (.cells #[.bool true] 4 (0, 0)) ∧ (u.setCell ⟨q + 1, 0, none⟩ (.bool true)).cell? ⟨q, 0, none⟩ = some (.int .i64 c) ∧ (u.setCell ⟨q + 1, 0, none⟩ (.bool true)).frozen? ⟨q, 0, none⟩ = false ∧ (u.setCell ⟨q + 1, 0, none⟩ (.bool true)).cell? ⟨q + 1, 0, none⟩ = some (.bool true) ∧ (u.setCell ⟨q + 1, 0, none⟩ (.bool true)).frozen? ⟨q + 1, 0, none⟩ = false) := fun u ⟨a, b, c, _⟩ => HS _ (a.setCell (p := ⟨q + 1, 0, none⟩) (by show w.heap.size ≤ q + 1; omega) _) (blk_set_other (by omega) b) (blk_set (n := 0) c (by simp))
  have H0 := HS w5 HD5.out HX5.out HY5.out
  clear HS HG2 HF2 HB2 HX2 HY2 HD2 HX4 HY4 HD4 HX5 HY5 HD5 HX HY HG HF HB D0
  go_region_held3 (fun u => (Below w.heap.size w u ∧ u.heap[q]? = some (.cells #[.int .i64 c] 39 (0, 0)) ∧ u.heap[q + 1]? = some (.cells #[.bool true] 4 (0, 0)) ∧ u.cell? ⟨q, 0, none⟩ = some (.int .i64 c) ∧ u.frozen? ⟨q, 0, none⟩ = false ∧ u.cell? ⟨q + 1, 0, none⟩ = some (.bool true) ∧ u.frozen? ⟨q + 1, 0, none⟩ = false)) (first | exact K0 _ (by assumption) | exact K1 _ (by assumption) | exact K2 _ (by assumption)) (fail)
  have HE := K0 _ (K2 _ (K1 _ H0))
  clear K0 K1 K2 H0
  generalize ((w5.setCell ⟨q, 0, none⟩ (.int .i64 c)).setCell ⟨q + 1, 0, none⟩ (.bool true)).drew = w6 at *
  go_wp2
  refine leaves_cons (f := 44) (args := #[.pointer (some ⟨q, 0, none⟩), .pointer (some ⟨q + 1, 0, none⟩)]) (by simp) (by simp [go_sem]) ?_
  refine (cFE_idle _ _ _).mono ?_
  rintro e u' w'' ⟨rfl, rfl, rfl⟩
  simp [Leaves, settle, results, Tryz.results28, go_sem, HE.2.2.2.1, HE.2.2.2.2.2.1]
  exact HE.1

set_option maxHeartbeats 1000000 in
theorem firstErrno_miss (ops : List ByteArray) (base e : Value) (w : World) (hG : EG w) (h : FC w base ops e) (hB : Bs w base) (hno : ∀ c, base ≠ .iface 39 (.int .i64 c)) (hn : ops.length ≤ 100) :
    Calls Tryz.prog 28 #[e] w fun r w' => r = .returned (.tuple #[.int .i64 0, .bool false]) ∧ Below w.heap.size w w' := by
  have hmf : ∀ (fn : Fn) (first cap : Array Value) (w : World), (Instr.makeFunc fn first cap).run Tryz.prog w = .ok (.func fn first cap) w := fun _ _ _ _ => rfl
  have D0 := Lib.hid (((Below.refl w.heap.size w).alloc (Nat.le_refl _) (.cells #[.int .i64 0] 39)).alloc (by simp) (.cells #[.bool false] 4))
  have HX := Lib.hid (blk_alloc (blk_new w #[.int .i64 0] 39) (.cells #[.bool false] 4))
  have HY := Lib.hid (blk_new (w.alloc (.cells #[.int .i64 0] 39)) #[.bool false] 4)
  have HG := Lib.hid (hG.ext D0.out)
  have HF := Lib.hid (h.ext D0.out)
  have HB := Lib.hid (hB.ext D0.out)
  have HNO := Lib.hid hno
  clear hG h hB hno
  go_enter_defers Tryz.func28, Tryz.ntmps28
  go_wp2_with fail
  obtain ⟨q, hq⟩ : ∃ q, w.heap.size = q := ⟨_, rfl⟩
  have hqs : (w.alloc (.cells #[.int .i64 0] 39)).heap.size = q + 1 := by simp [hq]
  rw [hq] at HX
  rw [hqs] at HY
  try rw [hq]
  generalize ((w.alloc (.cells #[.int .i64 0] 39)).alloc (.cells #[.bool false] 4)) = w1 at *
  refine (faultEnds ops _ _ w1 HB.out HF.out hn).mono ?_
  rintro r w2 ⟨rfl, hb2⟩
  have HX2 := Lib.hid (blk_ext hb2 HX.out)
  have HY2 := Lib.hid (blk_ext hb2 HY.out)
  have HD2 := Lib.hid (ext_trans D0.out hb2)
  have HG2 := Lib.hid (HG.out.ext hb2)
  have HF2 := Lib.hid (HF.out.ext hb2)
  have HB2 := Lib.hid (HB.out.ext hb2)
  clear hb2
  go_wp2_with fail
  refine (errAsE_miss ops base e q _ w2 HG2.out HX2.out HF2.out HB2.out HNO.out).mono ?_
  rintro r w4 ⟨rfl, hb3⟩
  have HX4 := Lib.hid (blk_ext hb3 HX2.out)
  have HY4 := Lib.hid (blk_ext hb3 HY2.out)
  have HD4 := Lib.hid (ext_trans HD2.out hb3)
  clear hb3
  have HX5 := Lib.hid (blk_set_other (b := q) (b' := q + 1) (n := 0) (u := .bool false) (by omega) HX4.out)
  have HY5 := Lib.hid (blk_set (n := 0) (u := .bool false) (vs' := #[.bool false]) HY4.out (by simp))
  have HD5 := Lib.hid (HD4.out.setCell (p := ⟨q + 1, 0, none⟩) (by show w.heap.size ≤ q + 1; omega) (.bool false))
  have hyf := blk_free HY4.out
  have hyl := blk_lt HY4.out
  have hyc := blk_cell HY4.out
  go_upto_region 3 with (fail)
  clear hyf hyl hyc
  generalize (w4.setCell ⟨q + 1, 0, none⟩ (.bool false)) = w5 at *
  have HS : ∀ u : World, Below w.heap.size w u → u.heap[q]? = some (.cells #[.int .i64 0] 39 (0, 0)) → u.heap[q + 1]? = some (.cells #[.bool false] 4 (0, 0)) → (Below w.heap.size w u ∧ u.heap[q]? = some (.cells #[.int .i64 0] 39 (0, 0)) ∧ u.heap[q + 1]? = some (.cells #[.bool false] 4 (0, 0)) ∧ u.cell? ⟨q, 0, none⟩ = some (.int .i64 0) ∧ u.frozen? ⟨q, 0, none⟩ = false ∧ u.cell? ⟨q + 1, 0, none⟩ = some (.bool false) ∧ u.frozen? ⟨q + 1, 0, none⟩ = false) :=
    fun u a b c => ⟨a, b, c, blk_cell b 0, blk_free b 0, blk_cell c 0, blk_free c 0⟩
  have K0 : ∀ u : World, (Below w.heap.size w u ∧ u.heap[q]? = some (.cells #[.int .i64 0] 39 (0, 0)) ∧ u.heap[q + 1]? = some (.cells #[.bool false] 4 (0, 0)) ∧ u.cell? ⟨q, 0, none⟩ = some (.int .i64 0) ∧ u.frozen? ⟨q, 0, none⟩ = false ∧ u.cell? ⟨q + 1, 0, none⟩ = some (.bool false) ∧ u.frozen? ⟨q + 1, 0, none⟩ = false) → (Below w.heap.size w u.drew ∧ u.drew.heap[q]? = some (.cells #[.int .i64 0] 39 (0, 0)) ∧ u.drew.heap[q + 1]? = some (.cells #[.bool false] 4 (0, 0)) ∧ u.drew.cell? ⟨q, 0, none⟩ = some (.int .i64 0) ∧ u.drew.frozen? ⟨q, 0, none⟩ = false ∧ u.drew.cell? ⟨q + 1, 0, none⟩ = some (.bool false) ∧ u.drew.frozen? ⟨q + 1, 0, none⟩ = false) := fun u ⟨a, b, c, _⟩ => HS _ a.drew b c
  have K1 : ∀ u : World, (Below w.heap.size w u ∧ u.heap[q]? = some (.cells #[.int .i64 0] 39 (0, 0)) ∧ u.heap[q + 1]? = some (.cells #[.bool false] 4 (0, 0)) ∧ u.cell? ⟨q, 0, none⟩ = some (.int .i64 0) ∧ u.frozen? ⟨q, 0, none⟩ = false ∧ u.cell? ⟨q + 1, 0, none⟩ = some (.bool false) ∧ u.frozen? ⟨q + 1, 0, none⟩ = false) → (Below w.heap.size w (u.setCell ⟨q, 0, none⟩ (.int .i64 0)) ∧ (u.setCell ⟨q, 0, none⟩ (.int .i64 0)).heap[q]? = some (.cells #[.int .i64 0] 39 (0, 0)) ∧ (u.setCell ⟨q, 0, none⟩ (.int .i64 0)).heap[q + 1]? = some (.cells #[.bool false] 4 (0, 0)) ∧ (u.setCell ⟨q, 0, none⟩ (.int .i64 0)).cell? ⟨q, 0, none⟩ = some (.int .i64 0) ∧ (u.setCell ⟨q, 0, none⟩ (.int .i64 0)).frozen? ⟨q, 0, none⟩ = false ∧ (u.setCell ⟨q, 0, none⟩ (.int .i64 0)).cell? ⟨q + 1, 0, none⟩ = some (.bool false) ∧ (u.setCell ⟨q, 0, none⟩ (.int .i64 0)).frozen? ⟨q + 1, 0, none⟩ = false) := fun u ⟨a, b, c, _⟩ => HS _ (a.setCell (p := ⟨q, 0, none⟩) (by show w.heap.size ≤ q; omega) _) (blk_set (n := 0) b (by simp)) (blk_set_other (by omega) c)
  have K2 : ∀ u : World, (Below w.heap.size w u ∧ u.heap[q]? = some (.cells #[.int .i64 0] 39 (0, 0)) ∧ u.heap[q + 1]? = some (.cells #[.bool false] 4 (0, 0)) ∧ u.cell? ⟨q, 0, none⟩ = some (.int .i64 0) ∧ u.frozen? ⟨q, 0, none⟩ = false ∧ u.cell? ⟨q + 1, 0, none⟩ = some (.bool false) ∧ u.frozen? ⟨q + 1, 0, none⟩ = false) → (Below w.heap.size w (u.setCell ⟨q + 1, 0, none⟩ (.bool false)) ∧ (u.setCell ⟨q + 1, 0, none⟩ (.bool false)).heap[q]? = some (.cells #[.int .i64 0] 39 (0, 0)) ∧ (u.setCell ⟨q + 1, 0, none⟩ (.bool false)).heap[q + 1]? = some (.cells #[.bool false] 4 (0, 0)) ∧ (u.setCell ⟨q + 1, 0, none⟩ (.bool false)).cell? ⟨q, 0, none⟩ = some (.int .i64 0) ∧ (u.setCell ⟨q + 1, 0, none⟩ (.bool false)).frozen? ⟨q, 0, none⟩ = false ∧ (u.setCell ⟨q + 1, 0, none⟩ (.bool false)).cell? ⟨q + 1, 0, none⟩ = some (.bool false) ∧ (u.setCell ⟨q + 1, 0, none⟩ (.bool false)).frozen? ⟨q + 1, 0, none⟩ = false) := fun u ⟨a, b, c, _⟩ => HS _ (a.setCell (p := ⟨q + 1, 0, none⟩) (by show w.heap.size ≤ q + 1; omega) _) (blk_set_other (by omega) b) (blk_set (n := 0) c (by simp))
  have H0 := HS w5 HD5.out HX5.out HY5.out
  clear HS HG2 HF2 HB2 HX2 HY2 HD2 HX4 HY4 HD4 HX5 HY5 HD5 HX HY HG HF HB D0
  go_region_held3 (fun u => (Below w.heap.size w u ∧ u.heap[q]? = some (.cells #[.int .i64 0] 39 (0, 0)) ∧ u.heap[q + 1]? = some (.cells #[.bool false] 4 (0, 0)) ∧ u.cell? ⟨q, 0, none⟩ = some (.int .i64 0) ∧ u.frozen? ⟨q, 0, none⟩ = false ∧ u.cell? ⟨q + 1, 0, none⟩ = some (.bool false) ∧ u.frozen? ⟨q + 1, 0, none⟩ = false)) (first | exact K0 _ (by assumption) | exact K1 _ (by assumption) | exact K2 _ (by assumption)) (fail)
  have HE := K0 _ (K2 _ (K1 _ H0))
  clear K0 K1 K2 H0
  generalize ((w5.setCell ⟨q, 0, none⟩ (.int .i64 0)).setCell ⟨q + 1, 0, none⟩ (.bool false)).drew = w6 at *
  go_wp2
  refine leaves_cons (f := 44) (args := #[.pointer (some ⟨q, 0, none⟩), .pointer (some ⟨q + 1, 0, none⟩)]) (by simp) (by simp [go_sem]) ?_
  refine (cFE_idle _ _ _).mono ?_
  rintro e u' w'' ⟨rfl, rfl, rfl⟩
  simp [Leaves, settle, results, Tryz.results28, go_sem, HE.2.2.2.1, HE.2.2.2.2.2.1]
  exact HE.1

theorem code_nil (w : World) : Calls Tryz.prog 14 #[.nilIface] w fun r w' => r = .returned (.int .i64 0) ∧ w' = w := by
  have hz := run_nil_nil
  go_enter Tryz.func14, Tryz.ntmps14
  go_wp2
  go_ret
  exact ⟨rfl, rfl⟩
theorem code_hitF (ops : List ByteArray) (c : Int) (p : Addr) (w : World) (hG : EG w) (h : FC w (.iface 39 (.int .i64 c)) ops (.iface 68 (.pointer (some p)))) (hn : ops.length ≤ 100) :
    Calls Tryz.prog 14 #[.iface 68 (.pointer (some p))] w fun r w' => r = .returned (.int .i64 c) ∧ Below w.heap.size w w' := by
  have hz := run_fault_nil (.pointer (some p))
  have H := Lib.hid (show _ ∧ _ from ⟨hG, h⟩)
  clear hG h
  go_enter Tryz.func14, Tryz.ntmps14
  go_wp2_with (first | (refine (firstErrno_hit ops c _ _ H.out.1 H.out.2 hn).mono ?_; rintro r w1 ⟨rfl, hb1⟩))
  go_ret
  exact ⟨rfl, hb1⟩
theorem code_missF (ops : List ByteArray) (base : Value) (p : Addr) (w : World) (hG : EG w) (h : FC w base ops (.iface 68 (.pointer (some p)))) (hB : Bs w base) (hno : ∀ c, base ≠ .iface 39 (.int .i64 c)) (hn : ops.length ≤ 100) :
    Calls Tryz.prog 14 #[.iface 68 (.pointer (some p))] w fun r w' => r = .returned (.int .i64 14) ∧ Below w.heap.size w w' := by
  have hz := run_fault_nil (.pointer (some p))
  have H := Lib.hid (show _ ∧ _ ∧ _ ∧ _ from ⟨hG, h, hB, hno⟩)
  clear hG h hB hno
  go_enter Tryz.func14, Tryz.ntmps14
  go_wp2_with (first | (refine (firstErrno_miss ops base _ _ H.out.1 H.out.2.1 H.out.2.2.1 H.out.2.2.2 hn).mono ?_; rintro r w1 ⟨rfl, hb1⟩))
  go_ret
  exact ⟨rfl, hb1⟩
theorem code_hitS (ops : List ByteArray) (c : Int) (p : Addr) (w : World) (hG : EG w) (h : FC w (.iface 39 (.int .i64 c)) ops (.iface 173 (.pointer (some p)))) (hn : ops.length ≤ 100) :
    Calls Tryz.prog 14 #[.iface 173 (.pointer (some p))] w fun r w' => r = .returned (.int .i64 c) ∧ Below w.heap.size w w' := by
  have hz := run_fault_snil (.pointer (some p))
  have H := Lib.hid (show _ ∧ _ from ⟨hG, h⟩)
  clear hG h
  go_enter Tryz.func14, Tryz.ntmps14
  go_wp2_with (first | (refine (firstErrno_hit ops c _ _ H.out.1 H.out.2 hn).mono ?_; rintro r w1 ⟨rfl, hb1⟩))
  go_ret
  exact ⟨rfl, hb1⟩
theorem code_missS (ops : List ByteArray) (base : Value) (p : Addr) (w : World) (hG : EG w) (h : FC w base ops (.iface 173 (.pointer (some p)))) (hB : Bs w base) (hno : ∀ c, base ≠ .iface 39 (.int .i64 c)) (hn : ops.length ≤ 100) :
    Calls Tryz.prog 14 #[.iface 173 (.pointer (some p))] w fun r w' => r = .returned (.int .i64 14) ∧ Below w.heap.size w w' := by
  have hz := run_fault_snil (.pointer (some p))
  have H := Lib.hid (show _ ∧ _ ∧ _ ∧ _ from ⟨hG, h, hB, hno⟩)
  clear hG h hB hno
  go_enter Tryz.func14, Tryz.ntmps14
  go_wp2_with (first | (refine (firstErrno_miss ops base _ _ H.out.1 H.out.2.1 H.out.2.2.1 H.out.2.2.2 hn).mono ?_; rintro r w1 ⟨rfl, hb1⟩))
  go_ret
  exact ⟨rfl, hb1⟩
theorem code_hitE (ops : List ByteArray) (c : Int) (p : Int) (w : World) (hG : EG w) (h : FC w (.iface 39 (.int .i64 c)) ops (.iface 39 (.int .i64 p))) (hn : ops.length ≤ 100) :
    Calls Tryz.prog 14 #[.iface 39 (.int .i64 p)] w fun r w' => r = .returned (.int .i64 c) ∧ Below w.heap.size w w' := by
  have hz := run_fault_isnil (.int .i64 p)
  have H := Lib.hid (show _ ∧ _ from ⟨hG, h⟩)
  clear hG h
  go_enter Tryz.func14, Tryz.ntmps14
  go_wp2_with (first | (refine (firstErrno_hit ops c _ _ H.out.1 H.out.2 hn).mono ?_; rintro r w1 ⟨rfl, hb1⟩))
  go_ret
  exact ⟨rfl, hb1⟩
theorem code_missE (ops : List ByteArray) (base : Value) (p : Int) (w : World) (hG : EG w) (h : FC w base ops (.iface 39 (.int .i64 p))) (hB : Bs w base) (hno : ∀ c, base ≠ .iface 39 (.int .i64 c)) (hn : ops.length ≤ 100) :
    Calls Tryz.prog 14 #[.iface 39 (.int .i64 p)] w fun r w' => r = .returned (.int .i64 14) ∧ Below w.heap.size w w' := by
  have hz := run_fault_isnil (.int .i64 p)
  have H := Lib.hid (show _ ∧ _ ∧ _ ∧ _ from ⟨hG, h, hB, hno⟩)
  clear hG h hB hno
  go_enter Tryz.func14, Tryz.ntmps14
  go_wp2_with (first | (refine (firstErrno_miss ops base _ _ H.out.1 H.out.2.1 H.out.2.2.1 H.out.2.2.2 hn).mono ?_; rintro r w1 ⟨rfl, hb1⟩))
  go_ret
  exact ⟨rfl, hb1⟩

theorem faultCode_hit (ops : List ByteArray) (c : Int) (e : Value) (w : World) (hG : EG w) (h : FC w (.iface 39 (.int .i64 c)) ops e) (hn : ops.length ≤ 100) :
    Calls Tryz.prog 14 #[e] w fun r w' => r = .returned (.int .i64 c) ∧ Below w.heap.size w w' := by
  rcases FC.shape (.no c) h with rfl | ⟨p, rfl⟩ | ⟨p, rfl⟩ | ⟨p, rfl⟩
  · exact absurd (FC.base_nil h) (by simp)
  · exact code_hitF ops c p w hG h hn
  · exact code_hitE ops c p w hG h hn
  · exact code_hitS ops c p w hG h hn
theorem faultCode_miss (ops : List ByteArray) (base e : Value) (w : World) (hG : EG w) (h : FC w base ops e) (hB : Bs w base) (hno : ∀ c, base ≠ .iface 39 (.int .i64 c)) (hne : e ≠ .nilIface) (hn : ops.length ≤ 100) :
    Calls Tryz.prog 14 #[e] w fun r w' => r = .returned (.int .i64 14) ∧ Below w.heap.size w w' := by
  rcases FC.shape hB h with rfl | ⟨p, rfl⟩ | ⟨p, rfl⟩ | ⟨p, rfl⟩
  · exact absurd rfl hne
  · exact code_missF ops base p w hG h hB hno hn
  · exact code_missE ops base p w hG h hB hno hn
  · exact code_missS ops base p w hG h hB hno hn
end Go.Proofs.YtcgembfdejjliaaGreatDoor
