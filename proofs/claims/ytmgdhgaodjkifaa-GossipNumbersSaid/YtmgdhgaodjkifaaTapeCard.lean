/- A stamp, a card read off a tape. -/
import Derived.Test.YtmgdhgaodjkifaaTapeKey
import Derived.BigRegion
namespace Go.Proofs.Ytmgdhgaodjkifaa
open Go.RowKit
set_option linter.unusedVariables false

set_option maxRecDepth 100000 in
set_option maxHeartbeats 1000000 in
theorem tapeStampK (a0 : Option Addr) (len cap : Nat) (zs : List Int) (b : Nat) (w : World) (hT : TapeK a0 len cap w b) (hRow : RowOk a0 len cap zs w b) :
    Calls Try.prog 29 #[.pointer (some ⟨b, 0, none⟩)] w fun r w' => ∃ t k n : Int, r = .returned (stv t k n) ∧ 0 ≤ t ∧ t < 40 ∧ 0 ≤ k ∧ k < 6 ∧ 0 ≤ n ∧ n < 9 ∧ TapeK a0 len cap w' b ∧ Bar b w w' := by
  have htb := hT.lt
  go_enter Try.func29, Try.ntmps29
  go_wp2_with fail
  have hT0 : TapeK a0 len cap (w.alloc (.cells #[.int .i64 0, .int .i64 0, .int .i64 0] 34)) b := hT.ext ((Below.refl _ _).alloc (Nat.le_refl _) _)
  have hb0 : Bar b w (w.alloc (.cells #[.int .i64 0, .int .i64 0, .int .i64 0] 34)) := Bar.of ((Below.refl _ _).alloc (Nat.le_refl _) _)
  have hr0 : (w.alloc (.cells #[.int .i64 0, .int .i64 0, .int .i64 0] 34)).heap[w.heap.size]? = some (.cells #[.int .i64 0, .int .i64 0, .int .i64 0] 34 (0, 0)) := blk_new _ _ _
  have HR0 := Lib.hid hr0
  clear hr0
  refine (tapeNextK _ _ _ zs _ 40 _ hT0 (hRow.bar hb0) (by omega) (by omega)).mono ?_
  rintro e w1 ⟨t, rfl, t0, t1, hT1, hx⟩
  have hb1 := hb0.trans hx
  have HR1 := Lib.hid (hx.blk (c := w.heap.size) (by omega) HR0.out)
  clear hx HR0
  go_wp2_with fail
  refine (tapeNextK _ _ _ zs _ 6 _ hT1 (hRow.bar hb1) (by omega) (by omega)).mono ?_
  rintro e w2 ⟨k, rfl, k0, k1, hT2, hx⟩
  have hb2 := hb1.trans hx
  have HR2 := Lib.hid (hx.blk (c := w.heap.size) (by omega) HR1.out)
  clear hx HR1
  go_wp2_with fail
  refine (tapeNextK _ _ _ zs _ 9 _ hT2 (hRow.bar hb2) (by omega) (by omega)).mono ?_
  rintro e w3 ⟨n, rfl, n0, n1, hT3, hx⟩
  have hb3 := hb2.trans hx
  have HR3 := Lib.hid (hx.blk (c := w.heap.size) (by omega) HR2.out)
  clear hx HR2
  have hr := HR3.out
  have hrc := blk_cell hr
  have hrf := blk_free hr
  have hrl := blk_lt hr
  clear hr
  go_upto_region 99 with fail
  have hr := HR3.out
  have hR : w.heap.size ≠ b := by omega
  obtain ⟨R, hRR⟩ : ∃ R, w.heap.size = R := ⟨_, rfl⟩
  have hRl : ∀ k, k < w.heap.size → k ≠ R := fun k hk => by omega
  rw [hRR] at hr hR hrc hrf hrl ⊢
  have hkp : Kept R w3 (((w3.setCell ⟨R, 0, none⟩ (.int .i64 t)).setCell ⟨R, 1, none⟩ (.int .i64 k)).setCell ⟨R, 2, none⟩ (.int .i64 n)) := ((((Kept.refl R w3).setCell _ _).setCell _ _).setCell _ _)
  have RB : (((w3.setCell ⟨R, 0, none⟩ (.int .i64 t)).setCell ⟨R, 1, none⟩ (.int .i64 k)).setCell ⟨R, 2, none⟩ (.int .i64 n)).heap[R]? = some (.cells #[.int .i64 t, .int .i64 k, .int .i64 n] 34 (0, 0)) := by repeat (first | (with_reducible assumption) | (with_reducible refine blk_new_at ?_ _ _; first | (with_reducible rfl) | (simp; done)) | (with_reducible refine blk_alloc ?_ _) | (with_reducible refine blk_drew ?_) | (with_reducible apply blk_set) | (show Array.setIfInBounds _ _ _ = _; first | (simp; done) | (simp; rfl)) | (with_reducible refine blk_set_other ?_ ?_; omega))
  have hTn : TapeK a0 len cap (((w3.setCell ⟨R, 0, none⟩ (.int .i64 t)).setCell ⟨R, 1, none⟩ (.int .i64 k)).setCell ⟨R, 2, none⟩ (.int .i64 n)) b := by
    obtain ⟨q, e1, e2⟩ := hT3
    exact ⟨q, (hkp.block b (Ne.symm hR)).trans e1, e2⟩
  have hbn : Bar b w (((w3.setCell ⟨R, 0, none⟩ (.int .i64 t)).setCell ⟨R, 1, none⟩ (.int .i64 k)).setCell ⟨R, 2, none⟩ (.int .i64 n)) := ⟨hkp.os.trans hb3.os, hkp.tape.trans hb3.tape, hkp.output.trans hb3.output, Nat.le_trans hb3.size (Nat.le_of_eq hkp.size.symm), fun k hk hl => (hkp.block k (hRl k hl)).trans (hb3.block k hk hl)⟩
  have hc := blk_cell RB
  generalize (((w3.setCell ⟨R, 0, none⟩ (.int .i64 t)).setCell ⟨R, 1, none⟩ (.int .i64 k)).setCell ⟨R, 2, none⟩ (.int .i64 n)) = X at *
  exact bodyPost_ret (v := stv t k n) (by simp [results, Try.results29, go_sem, hc]) rfl ⟨t, k, n, rfl, t0, t1, k0, k1, n0, n1, hTn, hbn⟩

/-- a card that a tape gives -/
def CdOk (c : Cd) : Prop := c.a.size ≤ 4 ∧ c.i.size ≤ 4 ∧ 1 ≤ c.s ∧ c.s ≤ 2 ∧ 0 ≤ c.o ∧ c.o ≤ 3 ∧ 1 ≤ c.l ∧ c.l ≤ 60 ∧ 0 ≤ c.t ∧ c.t < 40 ∧ 0 ≤ c.k ∧ c.k < 6 ∧ 0 ≤ c.n ∧ c.n < 9

set_option maxRecDepth 100000 in
set_option maxHeartbeats 1000000 in
theorem tapeCardK (a0 : Option Addr) (len cap : Nat) (zs : List Int) (b : Nat) (w : World) (hT : TapeK a0 len cap w b) (hRow : RowOk a0 len cap zs w b) :
    Calls Try.prog 17 #[.pointer (some ⟨b, 0, none⟩)] w fun r w' => ∃ c : Cd, r = .returned c.v ∧ CdOk c ∧ TapeK a0 len cap w' b ∧ Bar b w w' := by
  have htb := hT.lt
  go_enter Try.func17, Try.ntmps17
  go_wp2_with fail
  have hT0 : TapeK a0 len cap (w.alloc (.cells #[.string ⟨#[]⟩, .string ⟨#[]⟩, .int .i64 0, .int .i64 0, .int .i64 0, .int .i64 0, .int .i64 0, .int .i64 0, .bool false] 36)) b := hT.ext ((Below.refl _ _).alloc (Nat.le_refl _) _)
  have hb0 : Bar b w (w.alloc (.cells #[.string ⟨#[]⟩, .string ⟨#[]⟩, .int .i64 0, .int .i64 0, .int .i64 0, .int .i64 0, .int .i64 0, .int .i64 0, .bool false] 36)) := Bar.of ((Below.refl _ _).alloc (Nat.le_refl _) _)
  have hr0 : (w.alloc (.cells #[.string ⟨#[]⟩, .string ⟨#[]⟩, .int .i64 0, .int .i64 0, .int .i64 0, .int .i64 0, .int .i64 0, .int .i64 0, .bool false] 36)).heap[w.heap.size]? = some (.cells #[.string ⟨#[]⟩, .string ⟨#[]⟩, .int .i64 0, .int .i64 0, .int .i64 0, .int .i64 0, .int .i64 0, .int .i64 0, .bool false] 36 (0, 0)) := blk_new _ _ _
  have HR0 := Lib.hid hr0
  clear hr0
  refine (tapeKeyK _ _ _ zs _ _ hT0 (hRow.bar hb0)).mono ?_
  rintro e w1 ⟨s, s', rfl, ss, ss', hT1, hx⟩
  have hb1 := hb0.trans hx
  have HR1 := Lib.hid (hx.blk (c := w.heap.size) (by omega) HR0.out)
  clear hx HR0
  go_wp2_with fail
  refine (tapeNextK _ _ _ zs _ 2 _ hT1 (hRow.bar hb1) (by omega) (by omega)).mono ?_
  rintro e w2 ⟨q1, rfl, a1, b1, hT2, hx⟩
  have hb2 := hb1.trans hx
  have HR2 := Lib.hid (hx.blk (c := w.heap.size) (by omega) HR1.out)
  clear hx HR1
  go_wp2_with fail
  refine (tapeNextK _ _ _ zs _ 7 _ hT2 (hRow.bar hb2) (by omega) (by omega)).mono ?_
  rintro e w3 ⟨q2, rfl, a2, b2, hT3, hx⟩
  have hb3 := hb2.trans hx
  have HR3 := Lib.hid (hx.blk (c := w.heap.size) (by omega) HR2.out)
  clear hx HR2
  go_wp2_with fail
  refine (tapeNextK _ _ _ zs _ 60 _ hT3 (hRow.bar hb3) (by omega) (by omega)).mono ?_
  rintro e w4 ⟨q3, rfl, a3, b3, hT4, hx⟩
  have hb4 := hb3.trans hx
  have HR4 := Lib.hid (hx.blk (c := w.heap.size) (by omega) HR3.out)
  clear hx HR3
  go_wp2_with fail
  refine (tapeStampK _ _ _ zs _ _ hT4 (hRow.bar hb4)).mono ?_
  rintro e w5 ⟨t, k, n, rfl, t0, t1, k0, k1, n0, n1, hT5, hx⟩
  have hb5 := hb4.trans hx
  have HR5 := Lib.hid (hx.blk (c := w.heap.size) (by omega) HR4.out)
  clear hx HR4
  go_wp2_with fail
  refine (tapeNextK _ _ _ zs _ 4 _ hT5 (hRow.bar hb5) (by omega) (by omega)).mono ?_
  rintro e w6 ⟨q4, rfl, a4, b4, hT6, hx⟩
  have hb6 := hb5.trans hx
  have HR6 := Lib.hid (hx.blk (c := w.heap.size) (by omega) HR5.out)
  clear hx HR5
  have hr := HR6.out
  have hrc := blk_cell hr
  have hrf := blk_free hr
  have hrl := blk_lt hr
  clear hr
  go_upto_region 99 with fail
  have hr := HR6.out
  have hR : w.heap.size ≠ b := by omega
  obtain ⟨R, hRR⟩ : ∃ R, w.heap.size = R := ⟨_, rfl⟩
  have hRl : ∀ k, k < w.heap.size → k ≠ R := fun k hk => by omega
  rw [hRR] at hr hR hrc hrf hrl ⊢
  have hkp : Kept R w6 (((((((((w6.setCell ⟨R, 0, none⟩ (.string s)).setCell ⟨R, 1, none⟩ (.string s')).setCell ⟨R, 2, none⟩ (.int .i64 (1 + q1))).setCell ⟨R, 3, none⟩ (.int .i64 (q2 / 2))).setCell ⟨R, 4, none⟩ (.int .i64 (1 + q3))).setCell ⟨R, 5, none⟩ (.int .i64 t)).setCell ⟨R, 6, none⟩ (.int .i64 k)).setCell ⟨R, 7, none⟩ (.int .i64 n)).setCell ⟨R, 8, none⟩ (.bool (q4 == 0))) := ((((((((((Kept.refl R w6).setCell _ _).setCell _ _).setCell _ _).setCell _ _).setCell _ _).setCell _ _).setCell _ _).setCell _ _).setCell _ _)
  have RB : (((((((((w6.setCell ⟨R, 0, none⟩ (.string s)).setCell ⟨R, 1, none⟩ (.string s')).setCell ⟨R, 2, none⟩ (.int .i64 (1 + q1))).setCell ⟨R, 3, none⟩ (.int .i64 (q2 / 2))).setCell ⟨R, 4, none⟩ (.int .i64 (1 + q3))).setCell ⟨R, 5, none⟩ (.int .i64 t)).setCell ⟨R, 6, none⟩ (.int .i64 k)).setCell ⟨R, 7, none⟩ (.int .i64 n)).setCell ⟨R, 8, none⟩ (.bool (q4 == 0))).heap[R]? = some (.cells #[.string s, .string s', .int .i64 (1 + q1), .int .i64 (q2 / 2), .int .i64 (1 + q3), .int .i64 t, .int .i64 k, .int .i64 n, .bool (q4 == 0)] 36 (0, 0)) := by repeat (first | (with_reducible assumption) | (with_reducible refine blk_new_at ?_ _ _; first | (with_reducible rfl) | (simp; done)) | (with_reducible refine blk_alloc ?_ _) | (with_reducible refine blk_drew ?_) | (with_reducible apply blk_set) | (show Array.setIfInBounds _ _ _ = _; first | (simp; done) | (simp; rfl)) | (with_reducible refine blk_set_other ?_ ?_; omega))
  have hTn : TapeK a0 len cap (((((((((w6.setCell ⟨R, 0, none⟩ (.string s)).setCell ⟨R, 1, none⟩ (.string s')).setCell ⟨R, 2, none⟩ (.int .i64 (1 + q1))).setCell ⟨R, 3, none⟩ (.int .i64 (q2 / 2))).setCell ⟨R, 4, none⟩ (.int .i64 (1 + q3))).setCell ⟨R, 5, none⟩ (.int .i64 t)).setCell ⟨R, 6, none⟩ (.int .i64 k)).setCell ⟨R, 7, none⟩ (.int .i64 n)).setCell ⟨R, 8, none⟩ (.bool (q4 == 0))) b := by
    obtain ⟨q, e1, e2⟩ := hT6
    exact ⟨q, (hkp.block b (Ne.symm hR)).trans e1, e2⟩
  have hbn : Bar b w (((((((((w6.setCell ⟨R, 0, none⟩ (.string s)).setCell ⟨R, 1, none⟩ (.string s')).setCell ⟨R, 2, none⟩ (.int .i64 (1 + q1))).setCell ⟨R, 3, none⟩ (.int .i64 (q2 / 2))).setCell ⟨R, 4, none⟩ (.int .i64 (1 + q3))).setCell ⟨R, 5, none⟩ (.int .i64 t)).setCell ⟨R, 6, none⟩ (.int .i64 k)).setCell ⟨R, 7, none⟩ (.int .i64 n)).setCell ⟨R, 8, none⟩ (.bool (q4 == 0))) := ⟨hkp.os.trans hb6.os, hkp.tape.trans hb6.tape, hkp.output.trans hb6.output, Nat.le_trans hb6.size (Nat.le_of_eq hkp.size.symm), fun k hk hl => (hkp.block k (hRl k hl)).trans (hb6.block k hk hl)⟩
  have hc := blk_cell RB
  generalize (((((((((w6.setCell ⟨R, 0, none⟩ (.string s)).setCell ⟨R, 1, none⟩ (.string s')).setCell ⟨R, 2, none⟩ (.int .i64 (1 + q1))).setCell ⟨R, 3, none⟩ (.int .i64 (q2 / 2))).setCell ⟨R, 4, none⟩ (.int .i64 (1 + q3))).setCell ⟨R, 5, none⟩ (.int .i64 t)).setCell ⟨R, 6, none⟩ (.int .i64 k)).setCell ⟨R, 7, none⟩ (.int .i64 n)).setCell ⟨R, 8, none⟩ (.bool (q4 == 0))) = X at *
  exact bodyPost_ret (v := Cd.v ⟨s, s', 1 + q1, q2 / 2, 1 + q3, t, k, n, q4 == 0⟩) (by simp [results, Try.results17, go_sem, hc]) rfl ⟨⟨s, s', 1 + q1, q2 / 2, 1 + q3, t, k, n, q4 == 0⟩, rfl, ⟨ss, ss', by simp; omega, by simp; omega, by simp; omega, by simp; omega, by simp; omega, by simp; omega, t0, t1, k0, k1, n0, n1⟩, hTn, hbn⟩

end Go.Proofs.Ytmgdhgaodjkifaa
