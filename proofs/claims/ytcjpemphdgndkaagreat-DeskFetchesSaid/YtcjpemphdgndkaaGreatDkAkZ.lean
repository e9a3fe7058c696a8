/- Asks of a tape. -/
import Derived.Test.YtcjpemphdgndkaaGreatDkQZ
import Derived.Test.YtcjpemphdgndkaaGreatDkWZ
namespace Go.Proofs.YtcjpemphdgndkaaGreat
open Go.RowKit
set_option linter.unusedVariables false
set_option linter.unusedSimpArgs false

/-- what an ask of a tape is -/
def AskOk (op st tag N sq : Int) (k : Ky) : Prop := 1 ≤ op ∧ op ≤ 5 ∧ 0 ≤ tag ∧ tag < 50 ∧ ((op = 5 ∧ st = 0 ∧ N = 0 ∧ k = (⟨#[]⟩, ⟨#[]⟩) ∧ -1 ≤ sq ∧ sq < 39) ∨ (op < 5 ∧ KA k.1 ∧ KI k.2 ∧ 0 ≤ N ∧ N < 60 ∧ 0 ≤ st ∧ st < 5 ∧ sq = 0))
set_option maxRecDepth 100000 in
set_option maxHeartbeats 2000000 in
theorem tapeAsk (a0 : Option Addr) (len cap : Nat) (zs : List Int) (b : Nat) (w : World) (hT : TapeK a0 len cap w b) (hRow : RowOk a0 len cap zs w b) :
    Calls Tryz.prog 37 #[.pointer (some ⟨b, 0, none⟩)] w fun r w' => ∃ (op st tag N sq : Int) (k : Ky), r = .returned (.agg #[.int .i64 1, .int .i64 op, .int .i64 st, .int .i64 0, .int .i64 tag, .int .i64 N, .int .i64 sq, .string k.1, .string k.2, .bool false, .int .u32 0, .slice none 0 0, .slice none 0 0]) ∧ AskOk op st tag N sq k ∧ TapeK a0 len cap w' b ∧ Bar b w w' := by
  have htb := hT.lt
  go_enter Tryz.func37, Tryz.ntmps37
  have hT1 : TapeK a0 len cap (w.alloc (.cells #[.int .i64 0, .int .i64 0, .int .i64 0, .int .i64 0, .int .i64 0, .int .i64 0, .int .i64 0, .string ⟨#[]⟩, .string ⟨#[]⟩, .bool false, .int .u32 0, .slice none 0 0, .slice none 0 0] 33)) b := hT.ext ((Below.refl _ _).alloc (Nat.le_refl _) _)
  have hb1 : Bar b w (w.alloc (.cells #[.int .i64 0, .int .i64 0, .int .i64 0, .int .i64 0, .int .i64 0, .int .i64 0, .int .i64 0, .string ⟨#[]⟩, .string ⟨#[]⟩, .bool false, .int .u32 0, .slice none 0 0, .slice none 0 0] 33)) := Bar.of ((Below.refl _ _).alloc (Nat.le_refl _) _)
  have HR1 := Lib.hid (blk_new w #[.int .i64 0, .int .i64 0, .int .i64 0, .int .i64 0, .int .i64 0, .int .i64 0, .int .i64 0, .string ⟨#[]⟩, .string ⟨#[]⟩, .bool false, .int .u32 0, .slice none 0 0, .slice none 0 0] 33)
  have hRb : w.heap.size ≠ b := by omega
  have hl0 : ∀ k, k < w.heap.size → k ≠ w.heap.size := fun k hk => by omega
  obtain ⟨R, hRe⟩ : ∃ R, w.heap.size = R := ⟨_, rfl⟩
  have HRE := Lib.hid hRe
  go_wp2_with fail
  refine (tapeNextK _ _ _ zs _ 50 _ hT1 (hRow.bar hb1) (by omega) (by omega)).mono ?_
  rintro e w2 ⟨q1, rfl, q1a, q1b, hT2, hx⟩
  have hb2 := hb1.trans hx
  have HR2 := Lib.hid (hx.blk hRb HR1.out)
  clear hx
  go_wp2_with fail
  refine (tapeNextK _ _ _ zs _ 5 _ hT2 (hRow.bar hb2) (by omega) (by omega)).mono ?_
  rintro e w3 ⟨q2, rfl, q2a, q2b, hT3, hx⟩
  have hb3 := hb2.trans hx
  have HR3 := Lib.hid (hx.blk hRb HR2.out)
  clear hx
  rw [hRe] at HR3 hRb
  try rw [hRe]
  have hw2 : wrap64 (1 + q2) = 1 + q2 := by unfold wrap64; omega
  go_upto_region 2 with fail
  try rw [hw2]
  clear hw2
  have D4 : Below w3.heap.size w3 (w3.alloc (.cells #[.int .i64 1, .int .i64 (1 + q2), .int .i64 0, .int .i64 0, .int .i64 q1, .int .i64 0, .int .i64 0, .string ⟨#[]⟩, .string ⟨#[]⟩, .bool false, .int .u32 0, .slice none 0 0, .slice none 0 0] 33)) := (Below.refl _ _).alloc (Nat.le_refl _) _
  have HTT := Lib.hid (blk_new w3 #[.int .i64 1, .int .i64 (1 + q2), .int .i64 0, .int .i64 0, .int .i64 q1, .int .i64 0, .int .i64 0, .string ⟨#[]⟩, .string ⟨#[]⟩, .bool false, .int .u32 0, .slice none 0 0, .slice none 0 0] 33)
  have hT4 := hT3.ext D4
  have hb4 := hb3.trans (Bar.of D4)
  have HRR := Lib.hid (blk_ext D4 HR3.out)
  have hTb : w3.heap.size ≠ b := by have := hT3.lt; omega
  have hTR : w3.heap.size ≠ R := by have := blk_lt HR3.out; omega
  have hTw : w.heap.size ≤ w3.heap.size := hb3.size
  obtain ⟨T, hTe⟩ : ∃ T, w3.heap.size = T := ⟨_, rfl⟩
  rw [hTe] at HTT hTb hTR hTw
  try rw [hTe]
  clear hTe D4 HR1 HR2 HR3
  generalize (w3.alloc (.cells #[.int .i64 1, .int .i64 (1 + q2), .int .i64 0, .int .i64 0, .int .i64 q1, .int .i64 0, .int .i64 0, .string ⟨#[]⟩, .string ⟨#[]⟩, .bool false, .int .u32 0, .slice none 0 0, .slice none 0 0] 33)) = w4 at *
  obtain ⟨o, ho⟩ : ∃ o, o = 1 + q2 := ⟨_, rfl⟩
  rw [← ho] at HTT
  have hoa : 1 ≤ o := by omega
  have hob : o ≤ 5 := by omega
  clear ho
  have htc := blk_cell HTT.out
  have htl := blk_lt HTT.out
  by_cases h5 : o = 5
  · subst h5
    go_wp2_with fail
    refine (tapeNextK _ _ _ zs _ 40 _ hT4 (hRow.bar hb4) (by omega) (by omega)).mono ?_
    rintro e w5 ⟨q3, rfl, q3a, q3b, hT5, hx⟩
    have hb5 := hb4.trans hx
    have HT5 := Lib.hid (hx.blk hTb HTT.out)
    have HR5 := Lib.hid (hx.blk (Ne.symm hRb).symm HRR.out)
    clear hx htc htl HTT HRR
    have htc := blk_cell HT5.out
    have htf := blk_free HT5.out
    have htl := blk_lt HT5.out
    have hw3 : wrap64 (q3 - 1) = q3 - 1 := by unfold wrap64; omega
    go_upto_region 4 with fail
    try rw [hw3]
    clear hw3 htc htf htl
    have hk6 : Kept T w5 (w5.setCell ⟨T, 6, none⟩ (.int .i64 (q3 - 1))) := (Kept.refl T w5).setCell _ _
    have HTT := Lib.hid (show (w5.setCell ⟨T, 6, none⟩ (.int .i64 (q3 - 1))).heap[T]? = some (.cells #[.int .i64 1, .int .i64 5, .int .i64 0, .int .i64 0, .int .i64 q1, .int .i64 0, .int .i64 (q3 - 1), .string ⟨#[]⟩, .string ⟨#[]⟩, .bool false, .int .u32 0, .slice none 0 0, .slice none 0 0] 33 (0, 0)) from blk_set HT5.out (by simp))
    have HRR := Lib.hid ((hk6.block R (Ne.symm hTR)).trans HR5.out)
    have hT6 : TapeK a0 len cap (w5.setCell ⟨T, 6, none⟩ (.int .i64 (q3 - 1))) b := by
      obtain ⟨q, e1, e2⟩ := hT5
      exact ⟨q, (hk6.block b (Ne.symm hTb)).trans e1, e2⟩
    have hb6 : Bar b w (w5.setCell ⟨T, 6, none⟩ (.int .i64 (q3 - 1))) := ⟨hk6.os.trans hb5.os, hk6.tape.trans hb5.tape, hk6.output.trans hb5.output, Nat.le_trans hb5.size (Nat.le_of_eq hk6.size.symm), fun k hk hl => (hk6.block k (by omega)).trans (hb5.block k hk hl)⟩
    clear hk6 HT5 HR5 hT5 hb5
    generalize (w5.setCell ⟨T, 6, none⟩ (.int .i64 (q3 - 1))) = w6 at *
    have htc := blk_cell HTT.out
    have htl := blk_lt HTT.out
    have hrc := blk_cell HRR.out
    have hrf := blk_free HRR.out
    have hrl := blk_lt HRR.out
    go_upto_region 99 with fail
    have hkp : Kept R w6 (((((((((((((w6.setCell ⟨R, 0, none⟩ (.int .i64 1)).setCell ⟨R, 1, none⟩ (.int .i64 5)).setCell ⟨R, 2, none⟩ (.int .i64 0)).setCell ⟨R, 3, none⟩ (.int .i64 0)).setCell ⟨R, 4, none⟩ (.int .i64 q1)).setCell ⟨R, 5, none⟩ (.int .i64 0)).setCell ⟨R, 6, none⟩ (.int .i64 (q3 - 1))).setCell ⟨R, 7, none⟩ (.string ⟨#[]⟩)).setCell ⟨R, 8, none⟩ (.string ⟨#[]⟩)).setCell ⟨R, 9, none⟩ (.bool false)).setCell ⟨R, 10, none⟩ (.int .u32 0)).setCell ⟨R, 11, none⟩ (.slice none 0 0)).setCell ⟨R, 12, none⟩ (.slice none 0 0)) := ((((((((((((((Kept.refl R w6).setCell _ _).setCell _ _).setCell _ _).setCell _ _).setCell _ _).setCell _ _).setCell _ _).setCell _ _).setCell _ _).setCell _ _).setCell _ _).setCell _ _).setCell _ _)
    have RB : (((((((((((((w6.setCell ⟨R, 0, none⟩ (.int .i64 1)).setCell ⟨R, 1, none⟩ (.int .i64 5)).setCell ⟨R, 2, none⟩ (.int .i64 0)).setCell ⟨R, 3, none⟩ (.int .i64 0)).setCell ⟨R, 4, none⟩ (.int .i64 q1)).setCell ⟨R, 5, none⟩ (.int .i64 0)).setCell ⟨R, 6, none⟩ (.int .i64 (q3 - 1))).setCell ⟨R, 7, none⟩ (.string ⟨#[]⟩)).setCell ⟨R, 8, none⟩ (.string ⟨#[]⟩)).setCell ⟨R, 9, none⟩ (.bool false)).setCell ⟨R, 10, none⟩ (.int .u32 0)).setCell ⟨R, 11, none⟩ (.slice none 0 0)).setCell ⟨R, 12, none⟩ (.slice none 0 0)).heap[R]? = some (.cells #[.int .i64 1, .int .i64 5, .int .i64 0, .int .i64 0, .int .i64 q1, .int .i64 0, .int .i64 (q3 - 1), .string ⟨#[]⟩, .string ⟨#[]⟩, .bool false, .int .u32 0, .slice none 0 0, .slice none 0 0] 33 (0, 0)) := blk_fill13 (v0 := .int .i64 1) (v1 := .int .i64 5) (v2 := .int .i64 0) (v3 := .int .i64 0) (v4 := .int .i64 q1) (v5 := .int .i64 0) (v6 := .int .i64 (q3 - 1)) (v7 := .string ⟨#[]⟩) (v8 := .string ⟨#[]⟩) (v9 := .bool false) (v10 := .int .u32 0) (v11 := .slice none 0 0) (v12 := .slice none 0 0) HRR.out rfl
    have hTn : TapeK a0 len cap (((((((((((((w6.setCell ⟨R, 0, none⟩ (.int .i64 1)).setCell ⟨R, 1, none⟩ (.int .i64 5)).setCell ⟨R, 2, none⟩ (.int .i64 0)).setCell ⟨R, 3, none⟩ (.int .i64 0)).setCell ⟨R, 4, none⟩ (.int .i64 q1)).setCell ⟨R, 5, none⟩ (.int .i64 0)).setCell ⟨R, 6, none⟩ (.int .i64 (q3 - 1))).setCell ⟨R, 7, none⟩ (.string ⟨#[]⟩)).setCell ⟨R, 8, none⟩ (.string ⟨#[]⟩)).setCell ⟨R, 9, none⟩ (.bool false)).setCell ⟨R, 10, none⟩ (.int .u32 0)).setCell ⟨R, 11, none⟩ (.slice none 0 0)).setCell ⟨R, 12, none⟩ (.slice none 0 0)) b := by
      obtain ⟨q, e1, e2⟩ := hT6
      exact ⟨q, (hkp.block b (Ne.symm hRb)).trans e1, e2⟩
    have hbn : Bar b w (((((((((((((w6.setCell ⟨R, 0, none⟩ (.int .i64 1)).setCell ⟨R, 1, none⟩ (.int .i64 5)).setCell ⟨R, 2, none⟩ (.int .i64 0)).setCell ⟨R, 3, none⟩ (.int .i64 0)).setCell ⟨R, 4, none⟩ (.int .i64 q1)).setCell ⟨R, 5, none⟩ (.int .i64 0)).setCell ⟨R, 6, none⟩ (.int .i64 (q3 - 1))).setCell ⟨R, 7, none⟩ (.string ⟨#[]⟩)).setCell ⟨R, 8, none⟩ (.string ⟨#[]⟩)).setCell ⟨R, 9, none⟩ (.bool false)).setCell ⟨R, 10, none⟩ (.int .u32 0)).setCell ⟨R, 11, none⟩ (.slice none 0 0)).setCell ⟨R, 12, none⟩ (.slice none 0 0)) := ⟨hkp.os.trans hb6.os, hkp.tape.trans hb6.tape, hkp.output.trans hb6.output, Nat.le_trans hb6.size (Nat.le_of_eq hkp.size.symm), fun k hk hl => (hkp.block k (by omega)).trans (hb6.block k hk hl)⟩
    have hc := blk_cell RB
    generalize (((((((((((((w6.setCell ⟨R, 0, none⟩ (.int .i64 1)).setCell ⟨R, 1, none⟩ (.int .i64 5)).setCell ⟨R, 2, none⟩ (.int .i64 0)).setCell ⟨R, 3, none⟩ (.int .i64 0)).setCell ⟨R, 4, none⟩ (.int .i64 q1)).setCell ⟨R, 5, none⟩ (.int .i64 0)).setCell ⟨R, 6, none⟩ (.int .i64 (q3 - 1))).setCell ⟨R, 7, none⟩ (.string ⟨#[]⟩)).setCell ⟨R, 8, none⟩ (.string ⟨#[]⟩)).setCell ⟨R, 9, none⟩ (.bool false)).setCell ⟨R, 10, none⟩ (.int .u32 0)).setCell ⟨R, 11, none⟩ (.slice none 0 0)).setCell ⟨R, 12, none⟩ (.slice none 0 0)) = X at *
    exact bodyPost_ret (v := .agg #[.int .i64 1, .int .i64 5, .int .i64 0, .int .i64 0, .int .i64 q1, .int .i64 0, .int .i64 (q3 - 1), .string ⟨#[]⟩, .string ⟨#[]⟩, .bool false, .int .u32 0, .slice none 0 0, .slice none 0 0]) (by simp [results, Tryz.results37, go_sem, hc]) rfl ⟨5, 0, q1, 0, q3 - 1, (⟨#[]⟩, ⟨#[]⟩), rfl, ⟨by omega, by omega, by omega, by omega, .inl ⟨by omega, rfl, rfl, rfl, by omega, by omega⟩⟩, hTn, hbn⟩
  · have hd5 : (o == 5) = false := by simpa using h5
    have H5 := Lib.hid h5
    clear h5
    go_wp2_with fail
    refine (tapeKeyF _ _ _ zs _ _ hT4 (hRow.bar hb4)).mono ?_
    rintro e w5 ⟨s, s', rfl, ss, ss', hT5, hx⟩
    have hb5 := hb4.trans hx
    have HT5 := Lib.hid (hx.blk hTb HTT.out)
    have HR5 := Lib.hid (hx.blk hRb HRR.out)
    clear hx htc htl HTT HRR
    go_wp2_with fail
    refine (tapeNextK _ _ _ zs _ 60 _ hT5 (hRow.bar hb5) (by omega) (by omega)).mono ?_
    rintro e w6 ⟨q3, rfl, q3a, q3b, hT6, hx⟩
    have hb6 := hb5.trans hx
    have HT6 := Lib.hid (hx.blk hTb HT5.out)
    have HR6 := Lib.hid (hx.blk hRb HR5.out)
    clear hx HT5 HR5
    go_wp2_with fail
    refine (tapeNextK _ _ _ zs _ 5 _ hT6 (hRow.bar hb6) (by omega) (by omega)).mono ?_
    rintro e w7 ⟨q4, rfl, q4a, q4b, hT7, hx⟩
    have hb7 := hb6.trans hx
    have HT7 := Lib.hid (hx.blk hTb HT6.out)
    have HR7 := Lib.hid (hx.blk hRb HR6.out)
    clear hx HT6 HR6
    have htc := blk_cell HT7.out
    have htf := blk_free HT7.out
    have htl := blk_lt HT7.out
    go_upto_region 6 with fail
    clear htc htf htl
    have hk8 : Kept T w7 ((((w7.setCell ⟨T, 7, none⟩ (.string s)).setCell ⟨T, 8, none⟩ (.string s')).setCell ⟨T, 5, none⟩ (.int .i64 q3)).setCell ⟨T, 2, none⟩ (.int .i64 q4)) := ((((Kept.refl T w7).setCell _ _).setCell _ _).setCell _ _).setCell _ _
    have HTT := Lib.hid (show ((((w7.setCell ⟨T, 7, none⟩ (.string s)).setCell ⟨T, 8, none⟩ (.string s')).setCell ⟨T, 5, none⟩ (.int .i64 q3)).setCell ⟨T, 2, none⟩ (.int .i64 q4)).heap[T]? = some (.cells #[.int .i64 1, .int .i64 o, .int .i64 q4, .int .i64 0, .int .i64 q1, .int .i64 q3, .int .i64 0, .string s, .string s', .bool false, .int .u32 0, .slice none 0 0, .slice none 0 0] 33 (0, 0)) from blk_set (blk_set (blk_set (blk_set HT7.out (by first | rfl | (simp; rfl))) (by first | rfl | (simp; rfl))) (by first | rfl | (simp; rfl))) (by first | rfl | (simp; rfl)))
    have HRR := Lib.hid ((hk8.block R (Ne.symm hTR)).trans HR7.out)
    have hT8 : TapeK a0 len cap ((((w7.setCell ⟨T, 7, none⟩ (.string s)).setCell ⟨T, 8, none⟩ (.string s')).setCell ⟨T, 5, none⟩ (.int .i64 q3)).setCell ⟨T, 2, none⟩ (.int .i64 q4)) b := by
      obtain ⟨q, e1, e2⟩ := hT7
      exact ⟨q, (hk8.block b (Ne.symm hTb)).trans e1, e2⟩
    have hb8 : Bar b w ((((w7.setCell ⟨T, 7, none⟩ (.string s)).setCell ⟨T, 8, none⟩ (.string s')).setCell ⟨T, 5, none⟩ (.int .i64 q3)).setCell ⟨T, 2, none⟩ (.int .i64 q4)) := ⟨hk8.os.trans hb7.os, hk8.tape.trans hb7.tape, hk8.output.trans hb7.output, Nat.le_trans hb7.size (Nat.le_of_eq hk8.size.symm), fun k hk hl => (hk8.block k (by omega)).trans (hb7.block k hk hl)⟩
    clear hk8 HT7 HR7 hT7 hb7
    generalize ((((w7.setCell ⟨T, 7, none⟩ (.string s)).setCell ⟨T, 8, none⟩ (.string s')).setCell ⟨T, 5, none⟩ (.int .i64 q3)).setCell ⟨T, 2, none⟩ (.int .i64 q4)) = w8 at *
    have h5 := H5.out
    have htc := blk_cell HTT.out
    have htl := blk_lt HTT.out
    have hrc := blk_cell HRR.out
    have hrf := blk_free HRR.out
    have hrl := blk_lt HRR.out
    go_upto_region 99 with fail
    have hkp : Kept R w8 (((((((((((((w8.setCell ⟨R, 0, none⟩ (.int .i64 1)).setCell ⟨R, 1, none⟩ (.int .i64 o)).setCell ⟨R, 2, none⟩ (.int .i64 q4)).setCell ⟨R, 3, none⟩ (.int .i64 0)).setCell ⟨R, 4, none⟩ (.int .i64 q1)).setCell ⟨R, 5, none⟩ (.int .i64 q3)).setCell ⟨R, 6, none⟩ (.int .i64 0)).setCell ⟨R, 7, none⟩ (.string s)).setCell ⟨R, 8, none⟩ (.string s')).setCell ⟨R, 9, none⟩ (.bool false)).setCell ⟨R, 10, none⟩ (.int .u32 0)).setCell ⟨R, 11, none⟩ (.slice none 0 0)).setCell ⟨R, 12, none⟩ (.slice none 0 0)) := ((((((((((((((Kept.refl R w8).setCell _ _).setCell _ _).setCell _ _).setCell _ _).setCell _ _).setCell _ _).setCell _ _).setCell _ _).setCell _ _).setCell _ _).setCell _ _).setCell _ _).setCell _ _)
    have RB : (((((((((((((w8.setCell ⟨R, 0, none⟩ (.int .i64 1)).setCell ⟨R, 1, none⟩ (.int .i64 o)).setCell ⟨R, 2, none⟩ (.int .i64 q4)).setCell ⟨R, 3, none⟩ (.int .i64 0)).setCell ⟨R, 4, none⟩ (.int .i64 q1)).setCell ⟨R, 5, none⟩ (.int .i64 q3)).setCell ⟨R, 6, none⟩ (.int .i64 0)).setCell ⟨R, 7, none⟩ (.string s)).setCell ⟨R, 8, none⟩ (.string s')).setCell ⟨R, 9, none⟩ (.bool false)).setCell ⟨R, 10, none⟩ (.int .u32 0)).setCell ⟨R, 11, none⟩ (.slice none 0 0)).setCell ⟨R, 12, none⟩ (.slice none 0 0)).heap[R]? = some (.cells #[.int .i64 1, .int .i64 o, .int .i64 q4, .int .i64 0, .int .i64 q1, .int .i64 q3, .int .i64 0, .string s, .string s', .bool false, .int .u32 0, .slice none 0 0, .slice none 0 0] 33 (0, 0)) := blk_fill13 (v0 := .int .i64 1) (v1 := .int .i64 o) (v2 := .int .i64 q4) (v3 := .int .i64 0) (v4 := .int .i64 q1) (v5 := .int .i64 q3) (v6 := .int .i64 0) (v7 := .string s) (v8 := .string s') (v9 := .bool false) (v10 := .int .u32 0) (v11 := .slice none 0 0) (v12 := .slice none 0 0) HRR.out rfl
    have hTn : TapeK a0 len cap (((((((((((((w8.setCell ⟨R, 0, none⟩ (.int .i64 1)).setCell ⟨R, 1, none⟩ (.int .i64 o)).setCell ⟨R, 2, none⟩ (.int .i64 q4)).setCell ⟨R, 3, none⟩ (.int .i64 0)).setCell ⟨R, 4, none⟩ (.int .i64 q1)).setCell ⟨R, 5, none⟩ (.int .i64 q3)).setCell ⟨R, 6, none⟩ (.int .i64 0)).setCell ⟨R, 7, none⟩ (.string s)).setCell ⟨R, 8, none⟩ (.string s')).setCell ⟨R, 9, none⟩ (.bool false)).setCell ⟨R, 10, none⟩ (.int .u32 0)).setCell ⟨R, 11, none⟩ (.slice none 0 0)).setCell ⟨R, 12, none⟩ (.slice none 0 0)) b := by
      obtain ⟨q, e1, e2⟩ := hT8
      exact ⟨q, (hkp.block b (Ne.symm hRb)).trans e1, e2⟩
    have hbn : Bar b w (((((((((((((w8.setCell ⟨R, 0, none⟩ (.int .i64 1)).setCell ⟨R, 1, none⟩ (.int .i64 o)).setCell ⟨R, 2, none⟩ (.int .i64 q4)).setCell ⟨R, 3, none⟩ (.int .i64 0)).setCell ⟨R, 4, none⟩ (.int .i64 q1)).setCell ⟨R, 5, none⟩ (.int .i64 q3)).setCell ⟨R, 6, none⟩ (.int .i64 0)).setCell ⟨R, 7, none⟩ (.string s)).setCell ⟨R, 8, none⟩ (.string s')).setCell ⟨R, 9, none⟩ (.bool false)).setCell ⟨R, 10, none⟩ (.int .u32 0)).setCell ⟨R, 11, none⟩ (.slice none 0 0)).setCell ⟨R, 12, none⟩ (.slice none 0 0)) := ⟨hkp.os.trans hb8.os, hkp.tape.trans hb8.tape, hkp.output.trans hb8.output, Nat.le_trans hb8.size (Nat.le_of_eq hkp.size.symm), fun k hk hl => (hkp.block k (by omega)).trans (hb8.block k hk hl)⟩
    have hc := blk_cell RB
    generalize (((((((((((((w8.setCell ⟨R, 0, none⟩ (.int .i64 1)).setCell ⟨R, 1, none⟩ (.int .i64 o)).setCell ⟨R, 2, none⟩ (.int .i64 q4)).setCell ⟨R, 3, none⟩ (.int .i64 0)).setCell ⟨R, 4, none⟩ (.int .i64 q1)).setCell ⟨R, 5, none⟩ (.int .i64 q3)).setCell ⟨R, 6, none⟩ (.int .i64 0)).setCell ⟨R, 7, none⟩ (.string s)).setCell ⟨R, 8, none⟩ (.string s')).setCell ⟨R, 9, none⟩ (.bool false)).setCell ⟨R, 10, none⟩ (.int .u32 0)).setCell ⟨R, 11, none⟩ (.slice none 0 0)).setCell ⟨R, 12, none⟩ (.slice none 0 0)) = X at *
    exact bodyPost_ret (v := .agg #[.int .i64 1, .int .i64 o, .int .i64 q4, .int .i64 0, .int .i64 q1, .int .i64 q3, .int .i64 0, .string s, .string s', .bool false, .int .u32 0, .slice none 0 0, .slice none 0 0]) (by simp [results, Tryz.results37, go_sem, hc]) rfl ⟨o, q4, q1, q3, 0, (s, s'), rfl, ⟨by omega, by omega, by omega, by omega, .inr ⟨by omega, ss, ss', by omega, by omega, by omega, by omega, rfl⟩⟩, hTn, hbn⟩



end Go.Proofs.YtcjpemphdgndkaaGreat
