/- A tape gives messages. -/
import Derived.Test.YtkhcgopehmndgaaCnM
import Derived.Test.YtkhcgopehmndgaaHist
namespace Go.Proofs.Ytkhcgopehmndgaa
open Go.RowKit
set_option linter.unusedVariables false
set_option linter.unusedSimpArgs false

set_option maxRecDepth 100000 in
set_option maxHeartbeats 8000000 in
theorem tapeMsg (ra : Option Addr) (rlen rcap : Nat) (rz : List Int) (tb : Nat) (w : World) (hT : TapeK ra rlen rcap w tb) (hR : RowOk ra rlen rcap rz w tb) :
    Calls Try.prog 8 #[.pointer (some ⟨tb, 0, none⟩)] w fun r w' => MsgP ra rlen rcap tb w r w' := by
  have HRW := Lib.hid hR
  have hE := (Below.refl w.heap.size w).alloc (Nat.le_refl _) (.cells #[.int .i64 0, .int .i64 0, .int .i64 0, .int .i64 0, .int .i64 0, .int .i64 0, .int .i64 0, .string ⟨#[]⟩, .string ⟨#[]⟩, .bool false, .int .u32 0, .slice none 0 0, .slice none 0 0] 36)
  have HT0 := Lib.hid (hT.ext hE)
  have HK0 := Lib.hid (Bar.of (b := tb) hE)
  have HZ0 := Lib.hid (blk_new w #[.int .i64 0, .int .i64 0, .int .i64 0, .int .i64 0, .int .i64 0, .int .i64 0, .int .i64 0, .string ⟨#[]⟩, .string ⟨#[]⟩, .bool false, .int .u32 0, .slice none 0 0, .slice none 0 0] 36)
  have htl := hT.lt
  clear hT hR hE
  go_enter Try.func8, Try.ntmps8
  go_upto_region 1 with (fail)
  obtain ⟨z, hz⟩ : ∃ t, w.heap.size = t := ⟨_, rfl⟩
  have zt : z ≠ tb := by omega
  have zn := Lib.hid (show w.heap.size ≤ z by omega)
  rw [hz] at HZ0
  try rw [hz]
  clear hz htl
  generalize (w.alloc (.cells #[.int .i64 0, .int .i64 0, .int .i64 0, .int .i64 0, .int .i64 0, .int .i64 0, .int .i64 0, .string ⟨#[]⟩, .string ⟨#[]⟩, .bool false, .int .u32 0, .slice none 0 0, .slice none 0 0] 36)) = w0 at *
  go_wp2_with fail
  refine (tapeNextK ra rlen rcap rz tb 5 w0 HT0.out (HRW.out.bar HK0.out) (by omega) (by omega)).mono ?_
  rintro e w1 ⟨q, rfl, hq0, hq1, ht, hb⟩
  have HT1 := Lib.hid ht
  have HK1 := Lib.hid (HK0.out.trans hb)
  have HZ1 := Lib.hid (hb.blk zt HZ0.out)
  clear ht hb HT0 HK0 HZ0
  obtain ⟨kd, hkd⟩ : ∃ kd : Int, 1 + q = kd := ⟨_, rfl⟩
  have hw : wrap64 (1 + q) = kd := by unfold wrap64; omega
  have hkk : kd = 1 ∨ kd = 2 ∨ kd = 3 ∨ kd = 4 ∨ kd = 5 := by omega
  have hE := (Below.refl w1.heap.size w1).alloc (Nat.le_refl _) (.cells #[.int .i64 kd, .int .i64 0, .int .i64 0, .int .i64 0, .int .i64 0, .int .i64 0, .int .i64 0, .string ⟨#[]⟩, .string ⟨#[]⟩, .bool false, .int .u32 0, .slice none 0 0, .slice none 0 0] 36)
  have HM2 := Lib.hid (blk_new w1 #[.int .i64 kd, .int .i64 0, .int .i64 0, .int .i64 0, .int .i64 0, .int .i64 0, .int .i64 0, .string ⟨#[]⟩, .string ⟨#[]⟩, .bool false, .int .u32 0, .slice none 0 0, .slice none 0 0] 36)
  have HT2 := Lib.hid (HT1.out.ext hE)
  have HK2 := Lib.hid (HK1.out.trans (Bar.of hE))
  have HZ2 := Lib.hid (blk_ext hE HZ1.out)
  have hs1 := HK1.out.size
  have hs2 := HT1.out.lt
  have hs3 := blk_lt HZ1.out
  clear hE hq0 hq1 HT1 HK1 HZ1
  go_upto_region 2 with (fail)
  try rw [hw]
  clear hw hkd
  obtain ⟨m, hm⟩ : ∃ t, w1.heap.size = t := ⟨_, rfl⟩
  have mt : m ≠ tb := by omega
  have zm : z ≠ m := by omega
  have mn := Lib.hid (show w.heap.size ≤ m by omega)
  rw [hm] at HM2
  try rw [hm]
  clear hm hs1 hs2 hs3
  generalize (w1.alloc (.cells #[.int .i64 kd, .int .i64 0, .int .i64 0, .int .i64 0, .int .i64 0, .int .i64 0, .int .i64 0, .string ⟨#[]⟩, .string ⟨#[]⟩, .bool false, .int .u32 0, .slice none 0 0, .slice none 0 0] 36)) = w2 at *
  rcases hkk with rfl | rfl | rfl | rfl | rfl
  · have hc := blk_cell HM2.out
    have hl := blk_lt HM2.out
    go_wp2_with fail
    refine (tapeNextK ra rlen rcap rz tb 9 w2 HT2.out (HRW.out.bar HK2.out) (by omega) (by omega)).mono ?_
    rintro e w3 ⟨q1, rfl, hq10, hq11, ht, hb⟩
    clear hc hl
    have HT3 := Lib.hid ht
    have HK3 := Lib.hid (HK2.out.trans hb)
    have HZ3 := Lib.hid (hb.blk zt HZ2.out)
    have HM3 := Lib.hid (hb.blk mt HM2.out)
    clear ht hb HT2 HK2 HZ2 HM2
    have hc := blk_cell HM3.out
    have hl := blk_lt HM3.out
    go_wp2_with fail
    refine (tapeNextK ra rlen rcap rz tb 5 w3 HT3.out (HRW.out.bar HK3.out) (by omega) (by omega)).mono ?_
    rintro e w4 ⟨q2, rfl, hq20, hq21, ht, hb⟩
    clear hc hl
    have HT4 := Lib.hid ht
    have HK4 := Lib.hid (HK3.out.trans hb)
    have HZ4 := Lib.hid (hb.blk zt HZ3.out)
    have HM4 := Lib.hid (hb.blk mt HM3.out)
    clear ht hb HT3 HK3 HZ3 HM3
    obtain ⟨op, hop⟩ : ∃ op : Int, 1 + q2 = op := ⟨_, rfl⟩
    have hw : wrap64 (1 + q2) = op := by unfold wrap64; omega
    have ho1 : 1 ≤ op ∧ op ≤ 5 := by omega
    have HO1 := Lib.hid ho1
    have HQ1 := Lib.hid (show 0 ≤ q1 ∧ q1 < 9 from ⟨hq10, hq11⟩)
    clear hq20 hq21 hq10 hq11 ho1 hop
    have hc := blk_cell HM4.out
    have hf := blk_free HM4.out
    have hl := blk_lt HM4.out
    go_upto_region 7 with (fail)
    clear hc hf hl
    have HM5 := Lib.hid (blk_set (n := 1) (u := .int .i64 op) (vs' := #[.int .i64 1, .int .i64 op, .int .i64 0, .int .i64 0, .int .i64 q1, .int .i64 0, .int .i64 0, .string ⟨#[]⟩, .string ⟨#[]⟩, .bool false, .int .u32 0, .slice none 0 0, .slice none 0 0]) ((blk_set (n := 4) (u := .int .i64 q1) (vs' := #[.int .i64 1, .int .i64 0, .int .i64 0, .int .i64 0, .int .i64 q1, .int .i64 0, .int .i64 0, .string ⟨#[]⟩, .string ⟨#[]⟩, .bool false, .int .u32 0, .slice none 0 0, .slice none 0 0]) (HM4.out) (by simp))) (by simp))
    have HK5 := Lib.hid ((((HK4.out).setnew (o := 4) (v := .int .i64 q1) mn.out)).setnew (o := 1) (v := .int .i64 op) mn.out)
    have HZ5 := Lib.hid (blk_set_other (b := z) (b' := m) (n := 1) (u := .int .i64 op) zm ((blk_set_other (b := z) (b' := m) (n := 4) (u := .int .i64 q1) zm (HZ4.out))))
    have HT5 := Lib.hid ((((HT4.out).setn (o := 4) (v := .int .i64 q1) mt)).setn (o := 1) (v := .int .i64 op) mt)
    clear HM4 HK4 HZ4 HT4
    generalize ((w4.setCell ⟨m, 4, none⟩ (.int .i64 q1)).setCell ⟨m, 1, none⟩ (.int .i64 op)) = w5 at *
    clear hw
    by_cases h5 : op = 5
    · subst h5
      have hc := blk_cell HM5.out
      have hl := blk_lt HM5.out
      go_wp2_with fail
      refine (tapeNextK ra rlen rcap rz tb 30 w5 HT5.out (HRW.out.bar HK5.out) (by omega) (by omega)).mono ?_
      rintro e w6 ⟨q3, rfl, hq30, hq31, ht, hb⟩
      clear hc hl
      have HT6 := Lib.hid ht
      have HK6 := Lib.hid (HK5.out.trans hb)
      have HZ6 := Lib.hid (hb.blk zt HZ5.out)
      have HM6 := Lib.hid (hb.blk mt HM5.out)
      clear ht hb HT5 HK5 HZ5 HM5
      obtain ⟨sq, hsq⟩ : ∃ sq : Int, q3 - 1 = sq := ⟨_, rfl⟩
      have hw : wrap64 (q3 - 1) = sq := by unfold wrap64; omega
      have HSQ := Lib.hid (show -1 ≤ sq ∧ sq < 29 by omega)
      clear hq30 hq31 hsq
      have hc := blk_cell HM6.out
      have hf := blk_free HM6.out
      have hl := blk_lt HM6.out
      go_upto_region 10 with (fail)
      clear hc hf hl
      have HM7 := Lib.hid (blk_set (n := 6) (u := .int .i64 sq) (vs' := #[.int .i64 1, .int .i64 5, .int .i64 0, .int .i64 0, .int .i64 q1, .int .i64 0, .int .i64 sq, .string ⟨#[]⟩, .string ⟨#[]⟩, .bool false, .int .u32 0, .slice none 0 0, .slice none 0 0]) (HM6.out) (by simp))
      have HK7 := Lib.hid ((HK6.out).setnew (o := 6) (v := .int .i64 sq) mn.out)
      have HZ7 := Lib.hid (blk_set_other (b := z) (b' := m) (n := 6) (u := .int .i64 sq) zm (HZ6.out))
      have HT7 := Lib.hid ((HT6.out).setn (o := 6) (v := .int .i64 sq) mt)
      clear HM6 HK6 HZ6 HT6
      generalize (w6.setCell ⟨m, 6, none⟩ (.int .i64 sq)) = w7 at *
      clear hw
      have hc := blk_cell HM7.out
      have hl := blk_lt HM7.out
      go_wp2_with fail
      refine (tapeNextK ra rlen rcap rz tb 70 w7 HT7.out (HRW.out.bar HK7.out) (by omega) (by omega)).mono ?_
      rintro e w8 ⟨q4, rfl, hq40, hq41, ht, hb⟩
      clear hc hl
      have HT8 := Lib.hid ht
      have HK8 := Lib.hid (HK7.out.trans hb)
      have HZ8 := Lib.hid (hb.blk zt HZ7.out)
      have HM8 := Lib.hid (hb.blk mt HM7.out)
      clear ht hb HT7 HK7 HZ7 HM7
      have hc := blk_cell HM8.out
      have hl := blk_lt HM8.out
      go_wp2_with fail
      refine (tapeNextK ra rlen rcap rz tb 5 w8 HT8.out (HRW.out.bar HK8.out) (by omega) (by omega)).mono ?_
      rintro e w9 ⟨q5, rfl, hq50, hq51, ht, hb⟩
      clear hc hl
      have HT9 := Lib.hid ht
      have HK9 := Lib.hid (HK8.out.trans hb)
      have HZ9 := Lib.hid (hb.blk zt HZ8.out)
      have HM9 := Lib.hid (hb.blk mt HM8.out)
      clear ht hb HT8 HK8 HZ8 HM8
      have HQ4 := Lib.hid (show 0 ≤ q4 ∧ q4 < 70 from ⟨hq40, hq41⟩)
      have HQ5 := Lib.hid (show 0 ≤ q5 ∧ q5 < 5 from ⟨hq50, hq51⟩)
      clear hq40 hq41 hq50 hq51
      have hc := blk_cell HM9.out
      have hf := blk_free HM9.out
      have hl := blk_lt HM9.out
      go_upto_region 18 with (fail)
      clear hc hf hl
      have HM10 := Lib.hid (blk_set (n := 2) (u := .int .i64 q5) (vs' := #[.int .i64 1, .int .i64 5, .int .i64 q5, .int .i64 0, .int .i64 q1, .int .i64 q4, .int .i64 sq, .string ⟨#[]⟩, .string ⟨#[]⟩, .bool false, .int .u32 0, .slice none 0 0, .slice none 0 0]) ((blk_set (n := 5) (u := .int .i64 q4) (vs' := #[.int .i64 1, .int .i64 5, .int .i64 0, .int .i64 0, .int .i64 q1, .int .i64 q4, .int .i64 sq, .string ⟨#[]⟩, .string ⟨#[]⟩, .bool false, .int .u32 0, .slice none 0 0, .slice none 0 0]) (HM9.out) (by simp))) (by simp))
      have HK10 := Lib.hid ((((HK9.out).setnew (o := 5) (v := .int .i64 q4) mn.out)).setnew (o := 2) (v := .int .i64 q5) mn.out)
      have HZ10 := Lib.hid (blk_set_other (b := z) (b' := m) (n := 2) (u := .int .i64 q5) zm ((blk_set_other (b := z) (b' := m) (n := 5) (u := .int .i64 q4) zm (HZ9.out))))
      have HT10 := Lib.hid ((((HT9.out).setn (o := 5) (v := .int .i64 q4) mt)).setn (o := 2) (v := .int .i64 q5) mt)
      clear HM9 HK9 HZ9 HT9
      generalize ((w9.setCell ⟨m, 5, none⟩ (.int .i64 q4)).setCell ⟨m, 2, none⟩ (.int .i64 q5)) = w10 at *
      have hc := blk_cell HM10.out
      have hl := blk_lt HM10.out
      have hcz := blk_cell HZ10.out
      have hfz := blk_free HZ10.out
      have hlz := blk_lt HZ10.out
      go_wp2_with fail
      have hk2 := blk_cell (blk_fillM (v0 := .int .i64 1) (v1 := .int .i64 5) (v2 := .int .i64 q5) (v3 := .int .i64 0) (v4 := .int .i64 q1) (v5 := .int .i64 q4) (v6 := .int .i64 sq) (v7 := .string ⟨#[]⟩) (v8 := .string ⟨#[]⟩) (v9 := .bool false) (v10 := .int .u32 0) (v11 := .slice none 0 0) (v12 := .slice none 0 0) HZ10.out rfl)
      have hok : MgOk (⟨1, 5, q5, 0, q1, q4, sq, (⟨#[]⟩, ⟨#[]⟩), false, 0, [], []⟩ : Mg) := by
        have h1 := HQ1.out
        have h2 := HQ4.out
        have h3 := HQ5.out
        have h4 := HSQ.out
        refine ⟨⟨by simp only []; omega, by simp only []; omega, by simp only []; omega, by simp⟩, .inl ⟨rfl, rfl, rfl, rfl, rfl, rfl, by simp only []; omega, by simp only []; omega, .inr ⟨rfl, rfl⟩⟩⟩
      exact bodyPost_ret (v := .agg #[.int .i64 1, .int .i64 5, .int .i64 q5, .int .i64 0, .int .i64 q1, .int .i64 q4, .int .i64 sq, .string ⟨#[]⟩, .string ⟨#[]⟩, .bool false, .int .u32 0, .slice none 0 0, .slice none 0 0]) (by simp [results, Try.results8, go_sem, hk2]) rfl ⟨⟨1, 5, q5, 0, q1, q4, sq, (⟨#[]⟩, ⟨#[]⟩), false, 0, [], []⟩, none, 0, 0, none, 0, 0, rfl, ⟨.inl rfl, rfl, Nat.le_refl _, by simp [maxLen], .inl rfl, rfl, Nat.le_refl _, by simp [maxLen], fun _ => ⟨rfl, rfl⟩, fun _ => ⟨rfl, rfl⟩⟩, hok, ((((((((((((((((((((((((((HT10.out).setn (o := 0) (v := .int .i64 1) zt)).setn (o := 1) (v := .int .i64 5) zt)).setn (o := 2) (v := .int .i64 q5) zt)).setn (o := 3) (v := .int .i64 0) zt)).setn (o := 4) (v := .int .i64 q1) zt)).setn (o := 5) (v := .int .i64 q4) zt)).setn (o := 6) (v := .int .i64 sq) zt)).setn (o := 7) (v := .string ⟨#[]⟩) zt)).setn (o := 8) (v := .string ⟨#[]⟩) zt)).setn (o := 9) (v := .bool false) zt)).setn (o := 10) (v := .int .u32 0) zt)).setn (o := 11) (v := .slice none 0 0) zt)).setn (o := 12) (v := .slice none 0 0) zt), ((((((((((((((((((((((((((HK10.out).setnew (o := 0) (v := .int .i64 1) zn.out)).setnew (o := 1) (v := .int .i64 5) zn.out)).setnew (o := 2) (v := .int .i64 q5) zn.out)).setnew (o := 3) (v := .int .i64 0) zn.out)).setnew (o := 4) (v := .int .i64 q1) zn.out)).setnew (o := 5) (v := .int .i64 q4) zn.out)).setnew (o := 6) (v := .int .i64 sq) zn.out)).setnew (o := 7) (v := .string ⟨#[]⟩) zn.out)).setnew (o := 8) (v := .string ⟨#[]⟩) zn.out)).setnew (o := 9) (v := .bool false) zn.out)).setnew (o := 10) (v := .int .u32 0) zn.out)).setnew (o := 11) (v := .slice none 0 0) zn.out)).setnew (o := 12) (v := .slice none 0 0) zn.out)⟩
    · have hne : (op != 5) = true := by simpa using h5
      have HN5 := Lib.hid h5
      clear h5
      have hc := blk_cell HM5.out
      have hl := blk_lt HM5.out
      go_wp2_with fail
      refine (tapeKeyF ra rlen rcap rz tb w5 HT5.out (HRW.out.bar HK5.out)).mono ?_
      rintro e w6 ⟨k1, k2, rfl, hka, hki, ht, hb⟩
      have HKA := Lib.hid hka
      have HKI := Lib.hid hki
      clear hka hki
      clear hc hl
      have HT6 := Lib.hid ht
      have HK6 := Lib.hid (HK5.out.trans hb)
      have HZ6 := Lib.hid (hb.blk zt HZ5.out)
      have HM6 := Lib.hid (hb.blk mt HM5.out)
      clear ht hb HT5 HK5 HZ5 HM5
      have hc := blk_cell HM6.out
      have hf := blk_free HM6.out
      have hl := blk_lt HM6.out
      go_upto_region 9 with (fail)
      clear hc hf hl
      have HM7 := Lib.hid (blk_set (n := 8) (u := .string k2) (vs' := #[.int .i64 1, .int .i64 op, .int .i64 0, .int .i64 0, .int .i64 q1, .int .i64 0, .int .i64 0, .string k1, .string k2, .bool false, .int .u32 0, .slice none 0 0, .slice none 0 0]) ((blk_set (n := 7) (u := .string k1) (vs' := #[.int .i64 1, .int .i64 op, .int .i64 0, .int .i64 0, .int .i64 q1, .int .i64 0, .int .i64 0, .string k1, .string ⟨#[]⟩, .bool false, .int .u32 0, .slice none 0 0, .slice none 0 0]) (HM6.out) (by simp))) (by simp))
      have HK7 := Lib.hid ((((HK6.out).setnew (o := 7) (v := .string k1) mn.out)).setnew (o := 8) (v := .string k2) mn.out)
      have HZ7 := Lib.hid (blk_set_other (b := z) (b' := m) (n := 8) (u := .string k2) zm ((blk_set_other (b := z) (b' := m) (n := 7) (u := .string k1) zm (HZ6.out))))
      have HT7 := Lib.hid ((((HT6.out).setn (o := 7) (v := .string k1) mt)).setn (o := 8) (v := .string k2) mt)
      clear HM6 HK6 HZ6 HT6
      generalize ((w6.setCell ⟨m, 7, none⟩ (.string k1)).setCell ⟨m, 8, none⟩ (.string k2)) = w7 at *
      clear hne
      have hc := blk_cell HM7.out
      have hl := blk_lt HM7.out
      go_wp2_with fail
      refine (tapeNextK ra rlen rcap rz tb 30 w7 HT7.out (HRW.out.bar HK7.out) (by omega) (by omega)).mono ?_
      rintro e w8 ⟨q3, rfl, hq30, hq31, ht, hb⟩
      clear hc hl
      have HT8 := Lib.hid ht
      have HK8 := Lib.hid (HK7.out.trans hb)
      have HZ8 := Lib.hid (hb.blk zt HZ7.out)
      have HM8 := Lib.hid (hb.blk mt HM7.out)
      clear ht hb HT7 HK7 HZ7 HM7
      obtain ⟨sq, hsq⟩ : ∃ sq : Int, q3 - 1 = sq := ⟨_, rfl⟩
      have hw : wrap64 (q3 - 1) = sq := by unfold wrap64; omega
      have HSQ := Lib.hid (show -1 ≤ sq ∧ sq < 29 by omega)
      clear hq30 hq31 hsq
      have hc := blk_cell HM8.out
      have hf := blk_free HM8.out
      have hl := blk_lt HM8.out
      go_upto_region 10 with (fail)
      clear hc hf hl
      have HM9 := Lib.hid (blk_set (n := 6) (u := .int .i64 sq) (vs' := #[.int .i64 1, .int .i64 op, .int .i64 0, .int .i64 0, .int .i64 q1, .int .i64 0, .int .i64 sq, .string k1, .string k2, .bool false, .int .u32 0, .slice none 0 0, .slice none 0 0]) (HM8.out) (by simp))
      have HK9 := Lib.hid ((HK8.out).setnew (o := 6) (v := .int .i64 sq) mn.out)
      have HZ9 := Lib.hid (blk_set_other (b := z) (b' := m) (n := 6) (u := .int .i64 sq) zm (HZ8.out))
      have HT9 := Lib.hid ((HT8.out).setn (o := 6) (v := .int .i64 sq) mt)
      clear HM8 HK8 HZ8 HT8
      generalize (w8.setCell ⟨m, 6, none⟩ (.int .i64 sq)) = w9 at *
      clear hw
      have hc := blk_cell HM9.out
      have hl := blk_lt HM9.out
      go_wp2_with fail
      refine (tapeNextK ra rlen rcap rz tb 70 w9 HT9.out (HRW.out.bar HK9.out) (by omega) (by omega)).mono ?_
      rintro e w10 ⟨q4, rfl, hq40, hq41, ht, hb⟩
      clear hc hl
      have HT10 := Lib.hid ht
      have HK10 := Lib.hid (HK9.out.trans hb)
      have HZ10 := Lib.hid (hb.blk zt HZ9.out)
      have HM10 := Lib.hid (hb.blk mt HM9.out)
      clear ht hb HT9 HK9 HZ9 HM9
      have hc := blk_cell HM10.out
      have hl := blk_lt HM10.out
      go_wp2_with fail
      refine (tapeNextK ra rlen rcap rz tb 5 w10 HT10.out (HRW.out.bar HK10.out) (by omega) (by omega)).mono ?_
      rintro e w11 ⟨q5, rfl, hq50, hq51, ht, hb⟩
      clear hc hl
      have HT11 := Lib.hid ht
      have HK11 := Lib.hid (HK10.out.trans hb)
      have HZ11 := Lib.hid (hb.blk zt HZ10.out)
      have HM11 := Lib.hid (hb.blk mt HM10.out)
      clear ht hb HT10 HK10 HZ10 HM10
      have HQ4 := Lib.hid (show 0 ≤ q4 ∧ q4 < 70 from ⟨hq40, hq41⟩)
      have HQ5 := Lib.hid (show 0 ≤ q5 ∧ q5 < 5 from ⟨hq50, hq51⟩)
      clear hq40 hq41 hq50 hq51
      have hc := blk_cell HM11.out
      have hf := blk_free HM11.out
      have hl := blk_lt HM11.out
      go_upto_region 18 with (fail)
      clear hc hf hl
      have HM12 := Lib.hid (blk_set (n := 2) (u := .int .i64 q5) (vs' := #[.int .i64 1, .int .i64 op, .int .i64 q5, .int .i64 0, .int .i64 q1, .int .i64 q4, .int .i64 sq, .string k1, .string k2, .bool false, .int .u32 0, .slice none 0 0, .slice none 0 0]) ((blk_set (n := 5) (u := .int .i64 q4) (vs' := #[.int .i64 1, .int .i64 op, .int .i64 0, .int .i64 0, .int .i64 q1, .int .i64 q4, .int .i64 sq, .string k1, .string k2, .bool false, .int .u32 0, .slice none 0 0, .slice none 0 0]) (HM11.out) (by simp))) (by simp))
      have HK12 := Lib.hid ((((HK11.out).setnew (o := 5) (v := .int .i64 q4) mn.out)).setnew (o := 2) (v := .int .i64 q5) mn.out)
      have HZ12 := Lib.hid (blk_set_other (b := z) (b' := m) (n := 2) (u := .int .i64 q5) zm ((blk_set_other (b := z) (b' := m) (n := 5) (u := .int .i64 q4) zm (HZ11.out))))
      have HT12 := Lib.hid ((((HT11.out).setn (o := 5) (v := .int .i64 q4) mt)).setn (o := 2) (v := .int .i64 q5) mt)
      clear HM11 HK11 HZ11 HT11
      generalize ((w11.setCell ⟨m, 5, none⟩ (.int .i64 q4)).setCell ⟨m, 2, none⟩ (.int .i64 q5)) = w12 at *
      have hc := blk_cell HM12.out
      have hl := blk_lt HM12.out
      have hcz := blk_cell HZ12.out
      have hfz := blk_free HZ12.out
      have hlz := blk_lt HZ12.out
      go_wp2_with fail
      have hk2 := blk_cell (blk_fillM (v0 := .int .i64 1) (v1 := .int .i64 op) (v2 := .int .i64 q5) (v3 := .int .i64 0) (v4 := .int .i64 q1) (v5 := .int .i64 q4) (v6 := .int .i64 sq) (v7 := .string k1) (v8 := .string k2) (v9 := .bool false) (v10 := .int .u32 0) (v11 := .slice none 0 0) (v12 := .slice none 0 0) HZ12.out rfl)
      have hok : MgOk (⟨1, op, q5, 0, q1, q4, sq, (k1, k2), false, 0, [], []⟩ : Mg) := by
        have h1 := HQ1.out
        have h2 := HQ4.out
        have h3 := HQ5.out
        have h4 := HSQ.out
        refine ⟨⟨by simp only []; omega, by simp only []; omega, by simp only []; omega, by simp⟩, .inl ⟨rfl, rfl, rfl, rfl, rfl, rfl, by simp only []; omega, by simp only []; omega, (by have h7 := HO1.out; have h8 := HN5.out; exact .inl ⟨h7.1, by simp only []; omega, HKA.out.nm, HKI.out.nm⟩)⟩⟩
      exact bodyPost_ret (v := .agg #[.int .i64 1, .int .i64 op, .int .i64 q5, .int .i64 0, .int .i64 q1, .int .i64 q4, .int .i64 sq, .string k1, .string k2, .bool false, .int .u32 0, .slice none 0 0, .slice none 0 0]) (by simp [results, Try.results8, go_sem, hk2]) rfl ⟨⟨1, op, q5, 0, q1, q4, sq, (k1, k2), false, 0, [], []⟩, none, 0, 0, none, 0, 0, rfl, ⟨.inl rfl, rfl, Nat.le_refl _, by simp [maxLen], .inl rfl, rfl, Nat.le_refl _, by simp [maxLen], fun _ => ⟨rfl, rfl⟩, fun _ => ⟨rfl, rfl⟩⟩, hok, ((((((((((((((((((((((((((HT12.out).setn (o := 0) (v := .int .i64 1) zt)).setn (o := 1) (v := .int .i64 op) zt)).setn (o := 2) (v := .int .i64 q5) zt)).setn (o := 3) (v := .int .i64 0) zt)).setn (o := 4) (v := .int .i64 q1) zt)).setn (o := 5) (v := .int .i64 q4) zt)).setn (o := 6) (v := .int .i64 sq) zt)).setn (o := 7) (v := .string k1) zt)).setn (o := 8) (v := .string k2) zt)).setn (o := 9) (v := .bool false) zt)).setn (o := 10) (v := .int .u32 0) zt)).setn (o := 11) (v := .slice none 0 0) zt)).setn (o := 12) (v := .slice none 0 0) zt), ((((((((((((((((((((((((((HK12.out).setnew (o := 0) (v := .int .i64 1) zn.out)).setnew (o := 1) (v := .int .i64 op) zn.out)).setnew (o := 2) (v := .int .i64 q5) zn.out)).setnew (o := 3) (v := .int .i64 0) zn.out)).setnew (o := 4) (v := .int .i64 q1) zn.out)).setnew (o := 5) (v := .int .i64 q4) zn.out)).setnew (o := 6) (v := .int .i64 sq) zn.out)).setnew (o := 7) (v := .string k1) zn.out)).setnew (o := 8) (v := .string k2) zn.out)).setnew (o := 9) (v := .bool false) zn.out)).setnew (o := 10) (v := .int .u32 0) zn.out)).setnew (o := 11) (v := .slice none 0 0) zn.out)).setnew (o := 12) (v := .slice none 0 0) zn.out)⟩
  · have hc := blk_cell HM2.out
    have hl := blk_lt HM2.out
    go_wp2_with fail
    refine (tapeNextK ra rlen rcap rz tb 9 w2 HT2.out (HRW.out.bar HK2.out) (by omega) (by omega)).mono ?_
    rintro e w3 ⟨q1, rfl, hq10, hq11, ht, hb⟩
    clear hc hl
    have HT3 := Lib.hid ht
    have HK3 := Lib.hid (HK2.out.trans hb)
    have HZ3 := Lib.hid (hb.blk zt HZ2.out)
    have HM3 := Lib.hid (hb.blk mt HM2.out)
    clear ht hb HT2 HK2 HZ2 HM2
    have hc := blk_cell HM3.out
    have hl := blk_lt HM3.out
    go_wp2_with fail
    refine (tapeNextK ra rlen rcap rz tb 5 w3 HT3.out (HRW.out.bar HK3.out) (by omega) (by omega)).mono ?_
    rintro e w4 ⟨q2, rfl, hq20, hq21, ht, hb⟩
    clear hc hl
    have HT4 := Lib.hid ht
    have HK4 := Lib.hid (HK3.out.trans hb)
    have HZ4 := Lib.hid (hb.blk zt HZ3.out)
    have HM4 := Lib.hid (hb.blk mt HM3.out)
    clear ht hb HT3 HK3 HZ3 HM3
    obtain ⟨op, hop⟩ : ∃ op : Int, 1 + q2 = op := ⟨_, rfl⟩
    have hw : wrap64 (1 + q2) = op := by unfold wrap64; omega
    have ho1 : 1 ≤ op ∧ op ≤ 5 := by omega
    have HO1 := Lib.hid ho1
    have HQ1 := Lib.hid (show 0 ≤ q1 ∧ q1 < 9 from ⟨hq10, hq11⟩)
    clear hq20 hq21 hq10 hq11 ho1 hop
    have hc := blk_cell HM4.out
    have hf := blk_free HM4.out
    have hl := blk_lt HM4.out
    go_upto_region 7 with (fail)
    clear hc hf hl
    have HM5 := Lib.hid (blk_set (n := 1) (u := .int .i64 op) (vs' := #[.int .i64 2, .int .i64 op, .int .i64 0, .int .i64 0, .int .i64 q1, .int .i64 0, .int .i64 0, .string ⟨#[]⟩, .string ⟨#[]⟩, .bool false, .int .u32 0, .slice none 0 0, .slice none 0 0]) ((blk_set (n := 4) (u := .int .i64 q1) (vs' := #[.int .i64 2, .int .i64 0, .int .i64 0, .int .i64 0, .int .i64 q1, .int .i64 0, .int .i64 0, .string ⟨#[]⟩, .string ⟨#[]⟩, .bool false, .int .u32 0, .slice none 0 0, .slice none 0 0]) (HM4.out) (by simp))) (by simp))
    have HK5 := Lib.hid ((((HK4.out).setnew (o := 4) (v := .int .i64 q1) mn.out)).setnew (o := 1) (v := .int .i64 op) mn.out)
    have HZ5 := Lib.hid (blk_set_other (b := z) (b' := m) (n := 1) (u := .int .i64 op) zm ((blk_set_other (b := z) (b' := m) (n := 4) (u := .int .i64 q1) zm (HZ4.out))))
    have HT5 := Lib.hid ((((HT4.out).setn (o := 4) (v := .int .i64 q1) mt)).setn (o := 1) (v := .int .i64 op) mt)
    clear HM4 HK4 HZ4 HT4
    generalize ((w4.setCell ⟨m, 4, none⟩ (.int .i64 q1)).setCell ⟨m, 1, none⟩ (.int .i64 op)) = w5 at *
    clear hw
    by_cases h5 : op = 5
    · subst h5
      have hc := blk_cell HM5.out
      have hl := blk_lt HM5.out
      go_wp2_with fail
      refine (tapeNextK ra rlen rcap rz tb 30 w5 HT5.out (HRW.out.bar HK5.out) (by omega) (by omega)).mono ?_
      rintro e w6 ⟨q3, rfl, hq30, hq31, ht, hb⟩
      clear hc hl
      have HT6 := Lib.hid ht
      have HK6 := Lib.hid (HK5.out.trans hb)
      have HZ6 := Lib.hid (hb.blk zt HZ5.out)
      have HM6 := Lib.hid (hb.blk mt HM5.out)
      clear ht hb HT5 HK5 HZ5 HM5
      obtain ⟨sq, hsq⟩ : ∃ sq : Int, q3 - 1 = sq := ⟨_, rfl⟩
      have hw : wrap64 (q3 - 1) = sq := by unfold wrap64; omega
      have HSQ := Lib.hid (show -1 ≤ sq ∧ sq < 29 by omega)
      clear hq30 hq31 hsq
      have hc := blk_cell HM6.out
      have hf := blk_free HM6.out
      have hl := blk_lt HM6.out
      go_upto_region 10 with (fail)
      clear hc hf hl
      have HM7 := Lib.hid (blk_set (n := 6) (u := .int .i64 sq) (vs' := #[.int .i64 2, .int .i64 5, .int .i64 0, .int .i64 0, .int .i64 q1, .int .i64 0, .int .i64 sq, .string ⟨#[]⟩, .string ⟨#[]⟩, .bool false, .int .u32 0, .slice none 0 0, .slice none 0 0]) (HM6.out) (by simp))
      have HK7 := Lib.hid ((HK6.out).setnew (o := 6) (v := .int .i64 sq) mn.out)
      have HZ7 := Lib.hid (blk_set_other (b := z) (b' := m) (n := 6) (u := .int .i64 sq) zm (HZ6.out))
      have HT7 := Lib.hid ((HT6.out).setn (o := 6) (v := .int .i64 sq) mt)
      clear HM6 HK6 HZ6 HT6
      generalize (w6.setCell ⟨m, 6, none⟩ (.int .i64 sq)) = w7 at *
      clear hw
      have hc := blk_cell HM7.out
      have hl := blk_lt HM7.out
      go_upto_region 12 with (fail)
      clear hc hl
      refine wp_region_inv_eq (J := fun A d act x => ∃ u43 u44 u45 u46 u47 u48 u49 u50 u51 u52 u53 u54 u55 u56 u57 u58 u59 : Value, act = (((((((((((((((((A.put (some 43) u43).put (some 44) u44).put (some 45) u45).put (some 46) u46).put (some 47) u47).put (some 48) u48).put (some 49) u49).put (some 50) u50).put (some 51) u51).put (some 52) u52).put (some 53) u53).put (some 54) u54).put (some 55) u55).put (some 56) u56).put (some 57) u57).put (some 58) u58).put (some 59) u59) ∧ (d 0 = true → (∃ nb : Nat, u43 = .slice (some ⟨nb, 0, none⟩) 5 5 ∧ x.heap[nb]? = some (.cells #[.int .i64 0, .int .i64 1, .int .i64 22, .int .i64 24, .int .i64 255] 3 (0, 0)))) ∧ (d 1 = true → u44 = .pointer (some ⟨tb, 0, none⟩)) ∧ (d 2 = true → (∃ q : Nat, u45 = .int .i64 (q : Int) ∧ q < 5)) ∧ (d 3 = true → (∃ nb o : Nat, u46 = .pointer (some ⟨nb, o, none⟩) ∧ o < 5 ∧ x.heap[nb]? = some (.cells #[.int .i64 0, .int .i64 1, .int .i64 22, .int .i64 24, .int .i64 255] 3 (0, 0)))) ∧ (d 4 = true → (∃ c : Int, u47 = .int .i64 c ∧ 0 ≤ c ∧ c ≤ 255)) ∧ (d 5 = true → u48 = .pointer (some ⟨tb, 0, none⟩)) ∧ (d 6 = true → (∃ q : Int, u49 = .int .i64 q)) ∧ (d 7 = true → (∃ b : Bool, u50 = .bool b)) ∧ (d 8 = true → u51 = .pointer (some ⟨tb, 0, none⟩)) ∧ (d 9 = true → (∃ q : Int, u52 = .int .i64 q ∧ 0 ≤ q ∧ q < 1073741824)) ∧ (d 10 = true → (∃ q : Int, u53 = .int .u32 q ∧ 0 ≤ q ∧ q < 4294967296)) ∧ (d 11 = true → u54 = .pointer (some ⟨tb, 0, none⟩)) ∧ (d 12 = true → (∃ (ca : Option Addr) (cn cc : Nat) (cs : List Cd), u55 = .slice ca cn cc ∧ CAt x ca cs ∧ cs.length = cn ∧ cn ≤ 5 ∧ cn ≤ cc ∧ cc ≤ maxLen ∧ ∀ c ∈ cs, CdF c)) ∧ (d 13 = true → u56 = .pointer (some ⟨m, 3, none⟩)) ∧ (d 15 = true → u57 = .pointer (some ⟨m, 9, none⟩)) ∧ (d 17 = true → u58 = .pointer (some ⟨m, 10, none⟩)) ∧ (d 19 = true → u59 = .pointer (some ⟨m, 11, none⟩)) ∧ TapeK ra rlen rcap x tb ∧ Bar tb w x ∧ x.heap[z]? = some (.cells #[.int .i64 0, .int .i64 0, .int .i64 0, .int .i64 0, .int .i64 0, .int .i64 0, .int .i64 0, .string ⟨#[]⟩, .string ⟨#[]⟩, .bool false, .int .u32 0, .slice none 0 0, .slice none 0 0] 36 (0, 0)) ∧ (∃ c3 c9 c10 c11 : Value, x.heap[m]? = some (.cells #[.int .i64 2, .int .i64 5, .int .i64 0, c3, .int .i64 q1, .int .i64 0, .int .i64 sq, .string ⟨#[]⟩, .string ⟨#[]⟩, c9, c10, c11, .slice none 0 0] 36 (0, 0)) ∧ (d 14 = true → c3 = u47) ∧ (d 16 = true → c9 = u50) ∧ (d 18 = true → c10 = u53) ∧ (d 20 = true → c11 = u55)) ∧ (d 14 = true → d 4 = true) ∧ (d 16 = true → d 7 = true) ∧ (d 18 = true → d 10 = true) ∧ (d 20 = true → d 12 = true)) (by simp only [Act.put, List.setIfInBounds_toArray, List.set_cons_succ, List.set_cons_zero]; rfl) (by kernel_rfl) (by kernel_rfl) ?_ ?_ ?_
      · refine ⟨_, _, _, _, _, _, _, _, _, _, _, _, _, _, _, _, _, rfl, ?_, ?_, ?_, ?_, ?_, ?_, ?_, ?_, ?_, ?_, ?_, ?_, ?_, ?_, ?_, ?_, ?_, ?_, ?_, ?_, ?_, ?_, ?_, ?_, ?_⟩
        · intro h; cases h
        · intro h; cases h
        · intro h; cases h
        · intro h; cases h
        · intro h; cases h
        · intro h; cases h
        · intro h; cases h
        · intro h; cases h
        · intro h; cases h
        · intro h; cases h
        · intro h; cases h
        · intro h; cases h
        · intro h; cases h
        · intro h; cases h
        · intro h; cases h
        · intro h; cases h
        · intro h; cases h
        · exact HT7.out.ext ((Below.refl _ _).drew)
        · exact HK7.out.trans (Bar.of ((Below.refl _ _).drew))
        · exact blk_drew HZ7.out
        · exact ⟨_, _, _, _, blk_drew HM7.out, (fun h => by cases h), (fun h => by cases h), (fun h => by cases h), (fun h => by cases h)⟩
        · exact (fun h => by cases h)
        · exact (fun h => by cases h)
        · exact (fun h => by cases h)
        · exact (fun h => by cases h)
      · refine stepsOk_cons (k := 0) ?_ (stepsOk_cons (k := 1) ?_ (stepsOk_cons (k := 2) ?_ (stepsOk_cons (k := 3) ?_ (stepsOk_cons (k := 4) ?_ (stepsOk_cons (k := 5) ?_ (stepsOk_cons (k := 6) ?_ (stepsOk_cons (k := 7) ?_ (stepsOk_cons (k := 8) ?_ (stepsOk_cons (k := 9) ?_ (stepsOk_cons (k := 10) ?_ (stepsOk_cons (k := 11) ?_ (stepsOk_cons (k := 12) ?_ (stepsOk_cons (k := 13) ?_ (stepsOk_cons (k := 14) ?_ (stepsOk_cons (k := 15) ?_ (stepsOk_cons (k := 16) ?_ (stepsOk_cons (k := 17) ?_ (stepsOk_cons (k := 18) ?_ (stepsOk_cons (k := 19) ?_ (stepsOk_cons (k := 20) ?_ stepsOk_nil))))))))))))))))))))
        · unfold StepOk
          rintro d act x ⟨u43, u44, u45, u46, u47, u48, u49, u50, u51, u52, u53, u54, u55, u56, u57, u58, u59, rfl, f0, f1, f2, f3, f4, f5, f6, f7, f8, f9, f10, f11, f12, f13, f15, f17, f19, g0, g1, g2, g3, g4, g5, g6, g7⟩ hd hdep Kc hKc
          rw [if_pos (by rfl)]
          go_big_op
          refine hKc _ _ ⟨_, _, _, _, _, _, _, _, _, _, _, _, _, _, _, _, _, rfl, ?_, ?_, ?_, ?_, ?_, ?_, ?_, ?_, ?_, ?_, ?_, ?_, ?_, ?_, ?_, ?_, ?_, ?_, ?_, ?_, ?_, ?_, ?_, ?_, ?_⟩
          · exact (fun _ => ⟨_, rfl, blk_new _ _ _⟩)
          · exact (fun h => f1 (up h rfl))
          · exact (fun h => f2 (up h rfl))
          · exact (fun h => by obtain ⟨nb, o, q1, q3, q2⟩ := f3 (up h rfl); exact ⟨nb, o, q1, q3, (blk_alloc q2 _)⟩)
          · exact (fun h => f4 (up h rfl))
          · exact (fun h => f5 (up h rfl))
          · exact (fun h => f6 (up h rfl))
          · exact (fun h => f7 (up h rfl))
          · exact (fun h => f8 (up h rfl))
          · exact (fun h => f9 (up h rfl))
          · exact (fun h => f10 (up h rfl))
          · exact (fun h => f11 (up h rfl))
          · exact (fun h => by obtain ⟨ca, cn, cc, cs, q1, q2, q3⟩ := f12 (up h rfl); exact ⟨ca, cn, cc, cs, q1, (q2.ext ((Below.refl _ _).alloc (Nat.le_refl _) _)), q3⟩)
          · exact (fun h => f13 (up h rfl))
          · exact (fun h => f15 (up h rfl))
          · exact (fun h => f17 (up h rfl))
          · exact (fun h => f19 (up h rfl))
          · exact (g0.ext ((Below.refl _ _).alloc (Nat.le_refl _) _))
          · exact (g1.trans (Bar.of ((Below.refl _ _).alloc (Nat.le_refl _) _)))
          · exact (blk_alloc g2 _)
          · exact (by obtain ⟨c3, c9, c10, c11, q, r14, r16, r18, r20⟩ := g3; exact ⟨c3, c9, c10, c11, (blk_alloc q _), fun h => r14 (up h rfl), fun h => r16 (up h rfl), fun h => r18 (up h rfl), fun h => r20 (up h rfl)⟩)
          · exact (fun h => upl (g4 (up h rfl)))
          · exact (fun h => upl (g5 (up h rfl)))
          · exact (fun h => upl (g6 (up h rfl)))
          · exact (fun h => upl (g7 (up h rfl)))
        · unfold StepOk
          rintro d act x ⟨u43, u44, u45, u46, u47, u48, u49, u50, u51, u52, u53, u54, u55, u56, u57, u58, u59, rfl, f0, f1, f2, f3, f4, f5, f6, f7, f8, f9, f10, f11, f12, f13, f15, f17, f19, g0, g1, g2, g3, g4, g5, g6, g7⟩ hd hdep Kc hKc
          rw [if_pos (by rfl)]
          go_big_op
          refine hKc _ _ ⟨_, _, _, _, _, _, _, _, _, _, _, _, _, _, _, _, _, rfl, ?_, ?_, ?_, ?_, ?_, ?_, ?_, ?_, ?_, ?_, ?_, ?_, ?_, ?_, ?_, ?_, ?_, ?_, ?_, ?_, ?_, ?_, ?_, ?_, ?_⟩
          · exact (fun h => f0 (up h rfl))
          · exact (fun _ => rfl)
          · exact (fun h => f2 (up h rfl))
          · exact (fun h => f3 (up h rfl))
          · exact (fun h => f4 (up h rfl))
          · exact (fun h => f5 (up h rfl))
          · exact (fun h => f6 (up h rfl))
          · exact (fun h => f7 (up h rfl))
          · exact (fun h => f8 (up h rfl))
          · exact (fun h => f9 (up h rfl))
          · exact (fun h => f10 (up h rfl))
          · exact (fun h => f11 (up h rfl))
          · exact (fun h => f12 (up h rfl))
          · exact (fun h => f13 (up h rfl))
          · exact (fun h => f15 (up h rfl))
          · exact (fun h => f17 (up h rfl))
          · exact (fun h => f19 (up h rfl))
          · exact g0
          · exact g1
          · exact g2
          · exact (by obtain ⟨c3, c9, c10, c11, q, r14, r16, r18, r20⟩ := g3; exact ⟨c3, c9, c10, c11, q, fun h => r14 (up h rfl), fun h => r16 (up h rfl), fun h => r18 (up h rfl), fun h => r20 (up h rfl)⟩)
          · exact (fun h => upl (g4 (up h rfl)))
          · exact (fun h => upl (g5 (up h rfl)))
          · exact (fun h => upl (g6 (up h rfl)))
          · exact (fun h => upl (g7 (up h rfl)))
        · unfold StepOk
          rintro d act x ⟨u43, u44, u45, u46, u47, u48, u49, u50, u51, u52, u53, u54, u55, u56, u57, u58, u59, rfl, f0, f1, f2, f3, f4, f5, f6, f7, f8, f9, f10, f11, f12, f13, f15, f17, f19, g0, g1, g2, g3, g4, g5, g6, g7⟩ hd hdep Kc hKc
          have hd1 : d 1 = true := hdep ⟨1, .data⟩ (by simp) rfl
          obtain rfl := f1 hd1
          rw [if_pos (by rfl)]
          go_big_op
          refine (tapeNextK ra rlen rcap rz tb 5 _ g0 (HRW.out.bar g1) (by omega) (by omega)).mono ?_
          rintro e x1 ⟨v1, rfl, hv0, hv1, hT1, hB1⟩
          refine hKc _ _ ⟨_, _, _, _, _, _, _, _, _, _, _, _, _, _, _, _, _, rfl, ?_, ?_, ?_, ?_, ?_, ?_, ?_, ?_, ?_, ?_, ?_, ?_, ?_, ?_, ?_, ?_, ?_, ?_, ?_, ?_, ?_, ?_, ?_, ?_, ?_⟩
          · exact (fun h => by obtain ⟨nb, q1, q2⟩ := f0 (up h rfl); exact ⟨nb, q1, (hB1.blk (g0.ne (by decide) q2) q2)⟩)
          · exact (fun h => f1 (up h rfl))
          · exact (fun _ => ⟨v1.toNat, by rw [Int.toNat_of_nonneg hv0], by omega⟩)
          · exact (fun h => by obtain ⟨nb, o, q1, q3, q2⟩ := f3 (up h rfl); exact ⟨nb, o, q1, q3, (hB1.blk (g0.ne (by decide) q2) q2)⟩)
          · exact (fun h => f4 (up h rfl))
          · exact (fun h => f5 (up h rfl))
          · exact (fun h => f6 (up h rfl))
          · exact (fun h => f7 (up h rfl))
          · exact (fun h => f8 (up h rfl))
          · exact (fun h => f9 (up h rfl))
          · exact (fun h => f10 (up h rfl))
          · exact (fun h => f11 (up h rfl))
          · exact (fun h => by obtain ⟨ca, cn, cc, cs, q1, q2, q3⟩ := f12 (up h rfl); exact ⟨ca, cn, cc, cs, q1, (q2.bar g0 hB1), q3⟩)
          · exact (fun h => f13 (up h rfl))
          · exact (fun h => f15 (up h rfl))
          · exact (fun h => f17 (up h rfl))
          · exact (fun h => f19 (up h rfl))
          · exact hT1
          · exact (g1.trans hB1)
          · exact (hB1.blk zt g2)
          · exact (by obtain ⟨c3, c9, c10, c11, q, r14, r16, r18, r20⟩ := g3; exact ⟨c3, c9, c10, c11, (hB1.blk mt q), fun h => r14 (up h rfl), fun h => r16 (up h rfl), fun h => r18 (up h rfl), fun h => r20 (up h rfl)⟩)
          · exact (fun h => upl (g4 (up h rfl)))
          · exact (fun h => upl (g5 (up h rfl)))
          · exact (fun h => upl (g6 (up h rfl)))
          · exact (fun h => upl (g7 (up h rfl)))
        · unfold StepOk
          rintro d act x ⟨u43, u44, u45, u46, u47, u48, u49, u50, u51, u52, u53, u54, u55, u56, u57, u58, u59, rfl, f0, f1, f2, f3, f4, f5, f6, f7, f8, f9, f10, f11, f12, f13, f15, f17, f19, g0, g1, g2, g3, g4, g5, g6, g7⟩ hd hdep Kc hKc
          have hd0 : d 0 = true := hdep ⟨0, .data⟩ (by simp) rfl
          have hd2 : d 2 = true := hdep ⟨2, .data⟩ (by simp) rfl
          obtain ⟨nb, rfl, hnb⟩ := f0 hd0
          obtain ⟨q0, rfl, hq0⟩ := f2 hd2
          rw [if_pos (by rfl)]
          go_big_op
          refine hKc _ _ ⟨_, _, _, _, _, _, _, _, _, _, _, _, _, _, _, _, _, rfl, ?_, ?_, ?_, ?_, ?_, ?_, ?_, ?_, ?_, ?_, ?_, ?_, ?_, ?_, ?_, ?_, ?_, ?_, ?_, ?_, ?_, ?_, ?_, ?_, ?_⟩
          · exact (fun h => f0 (up h rfl))
          · exact (fun h => f1 (up h rfl))
          · exact (fun h => f2 (up h rfl))
          · exact (fun _ => ⟨nb, _, rfl, by first | omega | (simp; omega), hnb⟩)
          · exact (fun h => f4 (up h rfl))
          · exact (fun h => f5 (up h rfl))
          · exact (fun h => f6 (up h rfl))
          · exact (fun h => f7 (up h rfl))
          · exact (fun h => f8 (up h rfl))
          · exact (fun h => f9 (up h rfl))
          · exact (fun h => f10 (up h rfl))
          · exact (fun h => f11 (up h rfl))
          · exact (fun h => f12 (up h rfl))
          · exact (fun h => f13 (up h rfl))
          · exact (fun h => f15 (up h rfl))
          · exact (fun h => f17 (up h rfl))
          · exact (fun h => f19 (up h rfl))
          · exact g0
          · exact g1
          · exact g2
          · exact (by obtain ⟨c3, c9, c10, c11, q, r14, r16, r18, r20⟩ := g3; exact ⟨c3, c9, c10, c11, q, fun h => r14 (up h rfl), fun h => r16 (up h rfl), fun h => r18 (up h rfl), fun h => r20 (up h rfl)⟩)
          · exact (fun h => upl (g4 (up h rfl)))
          · exact (fun h => upl (g5 (up h rfl)))
          · exact (fun h => upl (g6 (up h rfl)))
          · exact (fun h => upl (g7 (up h rfl)))
        · unfold StepOk
          rintro d act x ⟨u43, u44, u45, u46, u47, u48, u49, u50, u51, u52, u53, u54, u55, u56, u57, u58, u59, rfl, f0, f1, f2, f3, f4, f5, f6, f7, f8, f9, f10, f11, f12, f13, f15, f17, f19, g0, g1, g2, g3, g4, g5, g6, g7⟩ hd hdep Kc hKc
          have hd3 : d 3 = true := hdep ⟨3, .data⟩ (by simp) rfl
          obtain ⟨nb, o9, rfl, ho9, hnb⟩ := f3 hd3
          obtain ⟨c0, hcc0, hc0, hc1⟩ : ∃ c : Int, x.cell? ⟨nb, o9, none⟩ = some (.int .i64 c) ∧ 0 ≤ c ∧ c ≤ 255 := by
            have hx := blk_cell hnb
            have hcs : o9 = 0 ∨ o9 = 1 ∨ o9 = 2 ∨ o9 = 3 ∨ o9 = 4 := by omega
            rcases hcs with rfl | rfl | rfl | rfl | rfl
            · exact ⟨0, hx 0, by omega, by omega⟩
            · exact ⟨1, hx 1, by omega, by omega⟩
            · exact ⟨22, hx 2, by omega, by omega⟩
            · exact ⟨24, hx 3, by omega, by omega⟩
            · exact ⟨255, hx 4, by omega, by omega⟩
          have hxl := blk_lt hnb
          rw [if_pos (by rfl)]
          go_big_op
          refine hKc _ _ ⟨_, _, _, _, _, _, _, _, _, _, _, _, _, _, _, _, _, rfl, ?_, ?_, ?_, ?_, ?_, ?_, ?_, ?_, ?_, ?_, ?_, ?_, ?_, ?_, ?_, ?_, ?_, ?_, ?_, ?_, ?_, ?_, ?_, ?_, ?_⟩
          · exact (fun h => f0 (up h rfl))
          · exact (fun h => f1 (up h rfl))
          · exact (fun h => f2 (up h rfl))
          · exact (fun h => f3 (up h rfl))
          · exact (fun _ => ⟨c0, rfl, hc0, hc1⟩)
          · exact (fun h => f5 (up h rfl))
          · exact (fun h => f6 (up h rfl))
          · exact (fun h => f7 (up h rfl))
          · exact (fun h => f8 (up h rfl))
          · exact (fun h => f9 (up h rfl))
          · exact (fun h => f10 (up h rfl))
          · exact (fun h => f11 (up h rfl))
          · exact (fun h => f12 (up h rfl))
          · exact (fun h => f13 (up h rfl))
          · exact (fun h => f15 (up h rfl))
          · exact (fun h => f17 (up h rfl))
          · exact (fun h => f19 (up h rfl))
          · exact g0
          · exact g1
          · exact g2
          · exact (by obtain ⟨c3, c9, c10, c11, q, r14, r16, r18, r20⟩ := g3; exact ⟨c3, c9, c10, c11, q, fun h => absurd (g4 (up h rfl)) (by rw [hd]; simp), fun h => r16 (up h rfl), fun h => r18 (up h rfl), fun h => r20 (up h rfl)⟩)
          · exact (fun h => by simp)
          · exact (fun h => upl (g5 (up h rfl)))
          · exact (fun h => upl (g6 (up h rfl)))
          · exact (fun h => upl (g7 (up h rfl)))
        · unfold StepOk
          rintro d act x ⟨u43, u44, u45, u46, u47, u48, u49, u50, u51, u52, u53, u54, u55, u56, u57, u58, u59, rfl, f0, f1, f2, f3, f4, f5, f6, f7, f8, f9, f10, f11, f12, f13, f15, f17, f19, g0, g1, g2, g3, g4, g5, g6, g7⟩ hd hdep Kc hKc
          rw [if_pos (by rfl)]
          go_big_op
          refine hKc _ _ ⟨_, _, _, _, _, _, _, _, _, _, _, _, _, _, _, _, _, rfl, ?_, ?_, ?_, ?_, ?_, ?_, ?_, ?_, ?_, ?_, ?_, ?_, ?_, ?_, ?_, ?_, ?_, ?_, ?_, ?_, ?_, ?_, ?_, ?_, ?_⟩
          · exact (fun h => f0 (up h rfl))
          · exact (fun h => f1 (up h rfl))
          · exact (fun h => f2 (up h rfl))
          · exact (fun h => f3 (up h rfl))
          · exact (fun h => f4 (up h rfl))
          · exact (fun _ => rfl)
          · exact (fun h => f6 (up h rfl))
          · exact (fun h => f7 (up h rfl))
          · exact (fun h => f8 (up h rfl))
          · exact (fun h => f9 (up h rfl))
          · exact (fun h => f10 (up h rfl))
          · exact (fun h => f11 (up h rfl))
          · exact (fun h => f12 (up h rfl))
          · exact (fun h => f13 (up h rfl))
          · exact (fun h => f15 (up h rfl))
          · exact (fun h => f17 (up h rfl))
          · exact (fun h => f19 (up h rfl))
          · exact g0
          · exact g1
          · exact g2
          · exact (by obtain ⟨c3, c9, c10, c11, q, r14, r16, r18, r20⟩ := g3; exact ⟨c3, c9, c10, c11, q, fun h => r14 (up h rfl), fun h => r16 (up h rfl), fun h => r18 (up h rfl), fun h => r20 (up h rfl)⟩)
          · exact (fun h => upl (g4 (up h rfl)))
          · exact (fun h => upl (g5 (up h rfl)))
          · exact (fun h => upl (g6 (up h rfl)))
          · exact (fun h => upl (g7 (up h rfl)))
        · unfold StepOk
          rintro d act x ⟨u43, u44, u45, u46, u47, u48, u49, u50, u51, u52, u53, u54, u55, u56, u57, u58, u59, rfl, f0, f1, f2, f3, f4, f5, f6, f7, f8, f9, f10, f11, f12, f13, f15, f17, f19, g0, g1, g2, g3, g4, g5, g6, g7⟩ hd hdep Kc hKc
          have hd5 : d 5 = true := hdep ⟨5, .data⟩ (by simp) rfl
          obtain rfl := f5 hd5
          rw [if_pos (by rfl)]
          go_big_op
          refine (tapeNextK ra rlen rcap rz tb 2 _ g0 (HRW.out.bar g1) (by omega) (by omega)).mono ?_
          rintro e x1 ⟨v1, rfl, hv0, hv1, hT1, hB1⟩
          refine hKc _ _ ⟨_, _, _, _, _, _, _, _, _, _, _, _, _, _, _, _, _, rfl, ?_, ?_, ?_, ?_, ?_, ?_, ?_, ?_, ?_, ?_, ?_, ?_, ?_, ?_, ?_, ?_, ?_, ?_, ?_, ?_, ?_, ?_, ?_, ?_, ?_⟩
          · exact (fun h => by obtain ⟨nb, q1, q2⟩ := f0 (up h rfl); exact ⟨nb, q1, (hB1.blk (g0.ne (by decide) q2) q2)⟩)
          · exact (fun h => f1 (up h rfl))
          · exact (fun h => f2 (up h rfl))
          · exact (fun h => by obtain ⟨nb, o, q1, q3, q2⟩ := f3 (up h rfl); exact ⟨nb, o, q1, q3, (hB1.blk (g0.ne (by decide) q2) q2)⟩)
          · exact (fun h => f4 (up h rfl))
          · exact (fun h => f5 (up h rfl))
          · exact (fun _ => ⟨_, rfl⟩)
          · exact (fun h => f7 (up h rfl))
          · exact (fun h => f8 (up h rfl))
          · exact (fun h => f9 (up h rfl))
          · exact (fun h => f10 (up h rfl))
          · exact (fun h => f11 (up h rfl))
          · exact (fun h => by obtain ⟨ca, cn, cc, cs, q1, q2, q3⟩ := f12 (up h rfl); exact ⟨ca, cn, cc, cs, q1, (q2.bar g0 hB1), q3⟩)
          · exact (fun h => f13 (up h rfl))
          · exact (fun h => f15 (up h rfl))
          · exact (fun h => f17 (up h rfl))
          · exact (fun h => f19 (up h rfl))
          · exact hT1
          · exact (g1.trans hB1)
          · exact (hB1.blk zt g2)
          · exact (by obtain ⟨c3, c9, c10, c11, q, r14, r16, r18, r20⟩ := g3; exact ⟨c3, c9, c10, c11, (hB1.blk mt q), fun h => r14 (up h rfl), fun h => r16 (up h rfl), fun h => r18 (up h rfl), fun h => r20 (up h rfl)⟩)
          · exact (fun h => upl (g4 (up h rfl)))
          · exact (fun h => upl (g5 (up h rfl)))
          · exact (fun h => upl (g6 (up h rfl)))
          · exact (fun h => upl (g7 (up h rfl)))
        · unfold StepOk
          rintro d act x ⟨u43, u44, u45, u46, u47, u48, u49, u50, u51, u52, u53, u54, u55, u56, u57, u58, u59, rfl, f0, f1, f2, f3, f4, f5, f6, f7, f8, f9, f10, f11, f12, f13, f15, f17, f19, g0, g1, g2, g3, g4, g5, g6, g7⟩ hd hdep Kc hKc
          have hd6 : d 6 = true := hdep ⟨6, .data⟩ (by simp) rfl
          obtain ⟨q6, rfl⟩ := f6 hd6
          rw [if_pos (by rfl)]
          go_big_op
          refine hKc _ _ ⟨_, _, _, _, _, _, _, _, _, _, _, _, _, _, _, _, _, rfl, ?_, ?_, ?_, ?_, ?_, ?_, ?_, ?_, ?_, ?_, ?_, ?_, ?_, ?_, ?_, ?_, ?_, ?_, ?_, ?_, ?_, ?_, ?_, ?_, ?_⟩
          · exact (fun h => f0 (up h rfl))
          · exact (fun h => f1 (up h rfl))
          · exact (fun h => f2 (up h rfl))
          · exact (fun h => f3 (up h rfl))
          · exact (fun h => f4 (up h rfl))
          · exact (fun h => f5 (up h rfl))
          · exact (fun h => f6 (up h rfl))
          · exact (fun _ => ⟨_, rfl⟩)
          · exact (fun h => f8 (up h rfl))
          · exact (fun h => f9 (up h rfl))
          · exact (fun h => f10 (up h rfl))
          · exact (fun h => f11 (up h rfl))
          · exact (fun h => f12 (up h rfl))
          · exact (fun h => f13 (up h rfl))
          · exact (fun h => f15 (up h rfl))
          · exact (fun h => f17 (up h rfl))
          · exact (fun h => f19 (up h rfl))
          · exact g0
          · exact g1
          · exact g2
          · exact (by obtain ⟨c3, c9, c10, c11, q, r14, r16, r18, r20⟩ := g3; exact ⟨c3, c9, c10, c11, q, fun h => r14 (up h rfl), fun h => absurd (g5 (up h rfl)) (by rw [hd]; simp), fun h => r18 (up h rfl), fun h => r20 (up h rfl)⟩)
          · exact (fun h => upl (g4 (up h rfl)))
          · exact (fun h => by simp)
          · exact (fun h => upl (g6 (up h rfl)))
          · exact (fun h => upl (g7 (up h rfl)))
        · unfold StepOk
          rintro d act x ⟨u43, u44, u45, u46, u47, u48, u49, u50, u51, u52, u53, u54, u55, u56, u57, u58, u59, rfl, f0, f1, f2, f3, f4, f5, f6, f7, f8, f9, f10, f11, f12, f13, f15, f17, f19, g0, g1, g2, g3, g4, g5, g6, g7⟩ hd hdep Kc hKc
          rw [if_pos (by rfl)]
          go_big_op
          refine hKc _ _ ⟨_, _, _, _, _, _, _, _, _, _, _, _, _, _, _, _, _, rfl, ?_, ?_, ?_, ?_, ?_, ?_, ?_, ?_, ?_, ?_, ?_, ?_, ?_, ?_, ?_, ?_, ?_, ?_, ?_, ?_, ?_, ?_, ?_, ?_, ?_⟩
          · exact (fun h => f0 (up h rfl))
          · exact (fun h => f1 (up h rfl))
          · exact (fun h => f2 (up h rfl))
          · exact (fun h => f3 (up h rfl))
          · exact (fun h => f4 (up h rfl))
          · exact (fun h => f5 (up h rfl))
          · exact (fun h => f6 (up h rfl))
          · exact (fun h => f7 (up h rfl))
          · exact (fun _ => rfl)
          · exact (fun h => f9 (up h rfl))
          · exact (fun h => f10 (up h rfl))
          · exact (fun h => f11 (up h rfl))
          · exact (fun h => f12 (up h rfl))
          · exact (fun h => f13 (up h rfl))
          · exact (fun h => f15 (up h rfl))
          · exact (fun h => f17 (up h rfl))
          · exact (fun h => f19 (up h rfl))
          · exact g0
          · exact g1
          · exact g2
          · exact (by obtain ⟨c3, c9, c10, c11, q, r14, r16, r18, r20⟩ := g3; exact ⟨c3, c9, c10, c11, q, fun h => r14 (up h rfl), fun h => r16 (up h rfl), fun h => r18 (up h rfl), fun h => r20 (up h rfl)⟩)
          · exact (fun h => upl (g4 (up h rfl)))
          · exact (fun h => upl (g5 (up h rfl)))
          · exact (fun h => upl (g6 (up h rfl)))
          · exact (fun h => upl (g7 (up h rfl)))
        · unfold StepOk
          rintro d act x ⟨u43, u44, u45, u46, u47, u48, u49, u50, u51, u52, u53, u54, u55, u56, u57, u58, u59, rfl, f0, f1, f2, f3, f4, f5, f6, f7, f8, f9, f10, f11, f12, f13, f15, f17, f19, g0, g1, g2, g3, g4, g5, g6, g7⟩ hd hdep Kc hKc
          have hd8 : d 8 = true := hdep ⟨8, .data⟩ (by simp) rfl
          obtain rfl := f8 hd8
          rw [if_pos (by rfl)]
          go_big_op
          refine (tapeNextK ra rlen rcap rz tb 1073741824 _ g0 (HRW.out.bar g1) (by omega) (by omega)).mono ?_
          rintro e x1 ⟨v1, rfl, hv0, hv1, hT1, hB1⟩
          refine hKc _ _ ⟨_, _, _, _, _, _, _, _, _, _, _, _, _, _, _, _, _, rfl, ?_, ?_, ?_, ?_, ?_, ?_, ?_, ?_, ?_, ?_, ?_, ?_, ?_, ?_, ?_, ?_, ?_, ?_, ?_, ?_, ?_, ?_, ?_, ?_, ?_⟩
          · exact (fun h => by obtain ⟨nb, q1, q2⟩ := f0 (up h rfl); exact ⟨nb, q1, (hB1.blk (g0.ne (by decide) q2) q2)⟩)
          · exact (fun h => f1 (up h rfl))
          · exact (fun h => f2 (up h rfl))
          · exact (fun h => by obtain ⟨nb, o, q1, q3, q2⟩ := f3 (up h rfl); exact ⟨nb, o, q1, q3, (hB1.blk (g0.ne (by decide) q2) q2)⟩)
          · exact (fun h => f4 (up h rfl))
          · exact (fun h => f5 (up h rfl))
          · exact (fun h => f6 (up h rfl))
          · exact (fun h => f7 (up h rfl))
          · exact (fun h => f8 (up h rfl))
          · exact (fun _ => ⟨_, rfl, hv0, hv1⟩)
          · exact (fun h => f10 (up h rfl))
          · exact (fun h => f11 (up h rfl))
          · exact (fun h => by obtain ⟨ca, cn, cc, cs, q1, q2, q3⟩ := f12 (up h rfl); exact ⟨ca, cn, cc, cs, q1, (q2.bar g0 hB1), q3⟩)
          · exact (fun h => f13 (up h rfl))
          · exact (fun h => f15 (up h rfl))
          · exact (fun h => f17 (up h rfl))
          · exact (fun h => f19 (up h rfl))
          · exact hT1
          · exact (g1.trans hB1)
          · exact (hB1.blk zt g2)
          · exact (by obtain ⟨c3, c9, c10, c11, q, r14, r16, r18, r20⟩ := g3; exact ⟨c3, c9, c10, c11, (hB1.blk mt q), fun h => r14 (up h rfl), fun h => r16 (up h rfl), fun h => r18 (up h rfl), fun h => r20 (up h rfl)⟩)
          · exact (fun h => upl (g4 (up h rfl)))
          · exact (fun h => upl (g5 (up h rfl)))
          · exact (fun h => upl (g6 (up h rfl)))
          · exact (fun h => upl (g7 (up h rfl)))
        · unfold StepOk
          rintro d act x ⟨u43, u44, u45, u46, u47, u48, u49, u50, u51, u52, u53, u54, u55, u56, u57, u58, u59, rfl, f0, f1, f2, f3, f4, f5, f6, f7, f8, f9, f10, f11, f12, f13, f15, f17, f19, g0, g1, g2, g3, g4, g5, g6, g7⟩ hd hdep Kc hKc
          have hd9 : d 9 = true := hdep ⟨9, .data⟩ (by simp) rfl
          obtain ⟨q9, rfl, hq90, hq91⟩ := f9 hd9
          rw [if_pos (by rfl)]
          go_big_op
          refine hKc _ _ ⟨_, _, _, _, _, _, _, _, _, _, _, _, _, _, _, _, _, rfl, ?_, ?_, ?_, ?_, ?_, ?_, ?_, ?_, ?_, ?_, ?_, ?_, ?_, ?_, ?_, ?_, ?_, ?_, ?_, ?_, ?_, ?_, ?_, ?_, ?_⟩
          · exact (fun h => f0 (up h rfl))
          · exact (fun h => f1 (up h rfl))
          · exact (fun h => f2 (up h rfl))
          · exact (fun h => f3 (up h rfl))
          · exact (fun h => f4 (up h rfl))
          · exact (fun h => f5 (up h rfl))
          · exact (fun h => f6 (up h rfl))
          · exact (fun h => f7 (up h rfl))
          · exact (fun h => f8 (up h rfl))
          · exact (fun h => f9 (up h rfl))
          · exact (fun _ => ⟨_, rfl, by first | omega | (unfold wrapU; omega) | (simp only [IntKind.wrap]; omega) | (simp [go_sem]; omega), by first | omega | (simp [go_sem]; omega)⟩)
          · exact (fun h => f11 (up h rfl))
          · exact (fun h => f12 (up h rfl))
          · exact (fun h => f13 (up h rfl))
          · exact (fun h => f15 (up h rfl))
          · exact (fun h => f17 (up h rfl))
          · exact (fun h => f19 (up h rfl))
          · exact g0
          · exact g1
          · exact g2
          · exact (by obtain ⟨c3, c9, c10, c11, q, r14, r16, r18, r20⟩ := g3; exact ⟨c3, c9, c10, c11, q, fun h => r14 (up h rfl), fun h => r16 (up h rfl), fun h => absurd (g6 (up h rfl)) (by rw [hd]; simp), fun h => r20 (up h rfl)⟩)
          · exact (fun h => upl (g4 (up h rfl)))
          · exact (fun h => upl (g5 (up h rfl)))
          · exact (fun h => by simp)
          · exact (fun h => upl (g7 (up h rfl)))
        · unfold StepOk
          rintro d act x ⟨u43, u44, u45, u46, u47, u48, u49, u50, u51, u52, u53, u54, u55, u56, u57, u58, u59, rfl, f0, f1, f2, f3, f4, f5, f6, f7, f8, f9, f10, f11, f12, f13, f15, f17, f19, g0, g1, g2, g3, g4, g5, g6, g7⟩ hd hdep Kc hKc
          rw [if_pos (by rfl)]
          go_big_op
          refine hKc _ _ ⟨_, _, _, _, _, _, _, _, _, _, _, _, _, _, _, _, _, rfl, ?_, ?_, ?_, ?_, ?_, ?_, ?_, ?_, ?_, ?_, ?_, ?_, ?_, ?_, ?_, ?_, ?_, ?_, ?_, ?_, ?_, ?_, ?_, ?_, ?_⟩
          · exact (fun h => f0 (up h rfl))
          · exact (fun h => f1 (up h rfl))
          · exact (fun h => f2 (up h rfl))
          · exact (fun h => f3 (up h rfl))
          · exact (fun h => f4 (up h rfl))
          · exact (fun h => f5 (up h rfl))
          · exact (fun h => f6 (up h rfl))
          · exact (fun h => f7 (up h rfl))
          · exact (fun h => f8 (up h rfl))
          · exact (fun h => f9 (up h rfl))
          · exact (fun h => f10 (up h rfl))
          · exact (fun _ => rfl)
          · exact (fun h => f12 (up h rfl))
          · exact (fun h => f13 (up h rfl))
          · exact (fun h => f15 (up h rfl))
          · exact (fun h => f17 (up h rfl))
          · exact (fun h => f19 (up h rfl))
          · exact g0
          · exact g1
          · exact g2
          · exact (by obtain ⟨c3, c9, c10, c11, q, r14, r16, r18, r20⟩ := g3; exact ⟨c3, c9, c10, c11, q, fun h => r14 (up h rfl), fun h => r16 (up h rfl), fun h => r18 (up h rfl), fun h => r20 (up h rfl)⟩)
          · exact (fun h => upl (g4 (up h rfl)))
          · exact (fun h => upl (g5 (up h rfl)))
          · exact (fun h => upl (g6 (up h rfl)))
          · exact (fun h => upl (g7 (up h rfl)))
        · unfold StepOk
          rintro d act x ⟨u43, u44, u45, u46, u47, u48, u49, u50, u51, u52, u53, u54, u55, u56, u57, u58, u59, rfl, f0, f1, f2, f3, f4, f5, f6, f7, f8, f9, f10, f11, f12, f13, f15, f17, f19, g0, g1, g2, g3, g4, g5, g6, g7⟩ hd hdep Kc hKc
          have hd11 : d 11 = true := hdep ⟨11, .data⟩ (by simp) rfl
          obtain rfl := f11 hd11
          rw [if_pos (by rfl)]
          go_big_op
          refine (tapeCardsF ra rlen rcap rz tb 5 _ g0 (HRW.out.bar g1) (by omega)).mono ?_
          rintro e x1 ⟨v1, cs1, rfl, ho1, hl1, hok1, hT1, hB1⟩
          obtain ⟨ca1, cc1, rfl, hcc1, hcm1, hat1, -, -⟩ := ho1.read
          refine hKc _ _ ⟨_, _, _, _, _, _, _, _, _, _, _, _, _, _, _, _, _, rfl, ?_, ?_, ?_, ?_, ?_, ?_, ?_, ?_, ?_, ?_, ?_, ?_, ?_, ?_, ?_, ?_, ?_, ?_, ?_, ?_, ?_, ?_, ?_, ?_, ?_⟩
          · exact (fun h => by obtain ⟨nb, q1, q2⟩ := f0 (up h rfl); exact ⟨nb, q1, (hB1.blk (g0.ne (by decide) q2) q2)⟩)
          · exact (fun h => f1 (up h rfl))
          · exact (fun h => f2 (up h rfl))
          · exact (fun h => by obtain ⟨nb, o, q1, q3, q2⟩ := f3 (up h rfl); exact ⟨nb, o, q1, q3, (hB1.blk (g0.ne (by decide) q2) q2)⟩)
          · exact (fun h => f4 (up h rfl))
          · exact (fun h => f5 (up h rfl))
          · exact (fun h => f6 (up h rfl))
          · exact (fun h => f7 (up h rfl))
          · exact (fun h => f8 (up h rfl))
          · exact (fun h => f9 (up h rfl))
          · exact (fun h => f10 (up h rfl))
          · exact (fun h => f11 (up h rfl))
          · exact (fun _ => ⟨ca1, _, cc1, cs1, rfl, hat1, rfl, hl1, hcc1, hcm1, hok1⟩)
          · exact (fun h => f13 (up h rfl))
          · exact (fun h => f15 (up h rfl))
          · exact (fun h => f17 (up h rfl))
          · exact (fun h => f19 (up h rfl))
          · exact hT1
          · exact (g1.trans hB1)
          · exact (hB1.blk zt g2)
          · exact (by obtain ⟨c3, c9, c10, c11, q, r14, r16, r18, r20⟩ := g3; exact ⟨c3, c9, c10, c11, (hB1.blk mt q), fun h => r14 (up h rfl), fun h => r16 (up h rfl), fun h => r18 (up h rfl), fun h => absurd (g7 (up h rfl)) (by rw [hd]; simp)⟩)
          · exact (fun h => upl (g4 (up h rfl)))
          · exact (fun h => upl (g5 (up h rfl)))
          · exact (fun h => upl (g6 (up h rfl)))
          · exact (fun h => by simp)
        · unfold StepOk
          rintro d act x ⟨u43, u44, u45, u46, u47, u48, u49, u50, u51, u52, u53, u54, u55, u56, u57, u58, u59, rfl, f0, f1, f2, f3, f4, f5, f6, f7, f8, f9, f10, f11, f12, f13, f15, f17, f19, g0, g1, g2, g3, g4, g5, g6, g7⟩ hd hdep Kc hKc
          rw [if_pos (by rfl)]
          go_big_op
          refine hKc _ _ ⟨_, _, _, _, _, _, _, _, _, _, _, _, _, _, _, _, _, rfl, ?_, ?_, ?_, ?_, ?_, ?_, ?_, ?_, ?_, ?_, ?_, ?_, ?_, ?_, ?_, ?_, ?_, ?_, ?_, ?_, ?_, ?_, ?_, ?_, ?_⟩
          · exact (fun h => f0 (up h rfl))
          · exact (fun h => f1 (up h rfl))
          · exact (fun h => f2 (up h rfl))
          · exact (fun h => f3 (up h rfl))
          · exact (fun h => f4 (up h rfl))
          · exact (fun h => f5 (up h rfl))
          · exact (fun h => f6 (up h rfl))
          · exact (fun h => f7 (up h rfl))
          · exact (fun h => f8 (up h rfl))
          · exact (fun h => f9 (up h rfl))
          · exact (fun h => f10 (up h rfl))
          · exact (fun h => f11 (up h rfl))
          · exact (fun h => f12 (up h rfl))
          · exact (fun _ => rfl)
          · exact (fun h => f15 (up h rfl))
          · exact (fun h => f17 (up h rfl))
          · exact (fun h => f19 (up h rfl))
          · exact g0
          · exact g1
          · exact g2
          · exact (by obtain ⟨c3, c9, c10, c11, q, r14, r16, r18, r20⟩ := g3; exact ⟨c3, c9, c10, c11, q, fun h => r14 (up h rfl), fun h => r16 (up h rfl), fun h => r18 (up h rfl), fun h => r20 (up h rfl)⟩)
          · exact (fun h => upl (g4 (up h rfl)))
          · exact (fun h => upl (g5 (up h rfl)))
          · exact (fun h => upl (g6 (up h rfl)))
          · exact (fun h => upl (g7 (up h rfl)))
        · unfold StepOk
          rintro d act x ⟨u43, u44, u45, u46, u47, u48, u49, u50, u51, u52, u53, u54, u55, u56, u57, u58, u59, rfl, f0, f1, f2, f3, f4, f5, f6, f7, f8, f9, f10, f11, f12, f13, f15, f17, f19, g0, g1, g2, g3, g4, g5, g6, g7⟩ hd hdep Kc hKc
          have hd13 : d 13 = true := hdep ⟨13, .data⟩ (by simp) rfl
          have hd4 : d 4 = true := hdep ⟨4, .data⟩ (by simp) rfl
          have hd4 : d 4 = true := hdep ⟨4, .phase⟩ (by simp) rfl
          obtain rfl := f13 hd13
          obtain ⟨c0, rfl, hc0, hc1⟩ := f4 hd4
          obtain ⟨c3', c9', c10', c11', hmm, -, -, -, -⟩ := id g3
          have hx := blk_cell hmm
          have hxf := blk_free hmm
          have hxl := blk_lt hmm
          rw [if_pos (by rfl)]
          go_big_op
          refine hKc _ _ ⟨_, _, _, _, _, _, _, _, _, _, _, _, _, _, _, _, _, rfl, ?_, ?_, ?_, ?_, ?_, ?_, ?_, ?_, ?_, ?_, ?_, ?_, ?_, ?_, ?_, ?_, ?_, ?_, ?_, ?_, ?_, ?_, ?_, ?_, ?_⟩
          · exact (fun h => by obtain ⟨nb, q1, q2⟩ := f0 (up h rfl); exact ⟨nb, q1, (blk_set_other (fun e => by rw [e] at q2; have := q2.symm.trans hmm; simp at this) q2)⟩)
          · exact (fun h => f1 (up h rfl))
          · exact (fun h => f2 (up h rfl))
          · exact (fun h => by obtain ⟨nb, o, q1, q3, q2⟩ := f3 (up h rfl); exact ⟨nb, o, q1, q3, (blk_set_other (fun e => by rw [e] at q2; have := q2.symm.trans hmm; simp at this) q2)⟩)
          · exact (fun h => f4 (up h rfl))
          · exact (fun h => f5 (up h rfl))
          · exact (fun h => f6 (up h rfl))
          · exact (fun h => f7 (up h rfl))
          · exact (fun h => f8 (up h rfl))
          · exact (fun h => f9 (up h rfl))
          · exact (fun h => f10 (up h rfl))
          · exact (fun h => f11 (up h rfl))
          · exact (fun h => by obtain ⟨ca, cn, cc, cs, q1, q2, q3⟩ := f12 (up h rfl); exact ⟨ca, cn, cc, cs, q1, (q2.keptT hmm (by decide) ((Kept.refl _ _).setCell _ _)), q3⟩)
          · exact (fun h => f13 (up h rfl))
          · exact (fun h => f15 (up h rfl))
          · exact (fun h => f17 (up h rfl))
          · exact (fun h => f19 (up h rfl))
          · exact (g0.setn mt)
          · exact (g1.setnew mn.out)
          · exact (blk_set_other zm g2)
          · exact (by obtain ⟨c3, c9, c10, c11, q, r14, r16, r18, r20⟩ := g3; exact ⟨_, c9, c10, c11, (blk_set q (by simp)), fun _ => rfl, fun h => r16 (up h rfl), fun h => r18 (up h rfl), fun h => r20 (up h rfl)⟩)
          · exact (fun h => upl hd4)
          · exact (fun h => upl (g5 (up h rfl)))
          · exact (fun h => upl (g6 (up h rfl)))
          · exact (fun h => upl (g7 (up h rfl)))
        · unfold StepOk
          rintro d act x ⟨u43, u44, u45, u46, u47, u48, u49, u50, u51, u52, u53, u54, u55, u56, u57, u58, u59, rfl, f0, f1, f2, f3, f4, f5, f6, f7, f8, f9, f10, f11, f12, f13, f15, f17, f19, g0, g1, g2, g3, g4, g5, g6, g7⟩ hd hdep Kc hKc
          rw [if_pos (by rfl)]
          go_big_op
          refine hKc _ _ ⟨_, _, _, _, _, _, _, _, _, _, _, _, _, _, _, _, _, rfl, ?_, ?_, ?_, ?_, ?_, ?_, ?_, ?_, ?_, ?_, ?_, ?_, ?_, ?_, ?_, ?_, ?_, ?_, ?_, ?_, ?_, ?_, ?_, ?_, ?_⟩
          · exact (fun h => f0 (up h rfl))
          · exact (fun h => f1 (up h rfl))
          · exact (fun h => f2 (up h rfl))
          · exact (fun h => f3 (up h rfl))
          · exact (fun h => f4 (up h rfl))
          · exact (fun h => f5 (up h rfl))
          · exact (fun h => f6 (up h rfl))
          · exact (fun h => f7 (up h rfl))
          · exact (fun h => f8 (up h rfl))
          · exact (fun h => f9 (up h rfl))
          · exact (fun h => f10 (up h rfl))
          · exact (fun h => f11 (up h rfl))
          · exact (fun h => f12 (up h rfl))
          · exact (fun h => f13 (up h rfl))
          · exact (fun _ => rfl)
          · exact (fun h => f17 (up h rfl))
          · exact (fun h => f19 (up h rfl))
          · exact g0
          · exact g1
          · exact g2
          · exact (by obtain ⟨c3, c9, c10, c11, q, r14, r16, r18, r20⟩ := g3; exact ⟨c3, c9, c10, c11, q, fun h => r14 (up h rfl), fun h => r16 (up h rfl), fun h => r18 (up h rfl), fun h => r20 (up h rfl)⟩)
          · exact (fun h => upl (g4 (up h rfl)))
          · exact (fun h => upl (g5 (up h rfl)))
          · exact (fun h => upl (g6 (up h rfl)))
          · exact (fun h => upl (g7 (up h rfl)))
        · unfold StepOk
          rintro d act x ⟨u43, u44, u45, u46, u47, u48, u49, u50, u51, u52, u53, u54, u55, u56, u57, u58, u59, rfl, f0, f1, f2, f3, f4, f5, f6, f7, f8, f9, f10, f11, f12, f13, f15, f17, f19, g0, g1, g2, g3, g4, g5, g6, g7⟩ hd hdep Kc hKc
          have hd15 : d 15 = true := hdep ⟨15, .data⟩ (by simp) rfl
          have hd7 : d 7 = true := hdep ⟨7, .data⟩ (by simp) rfl
          have hd7 : d 7 = true := hdep ⟨7, .phase⟩ (by simp) rfl
          obtain rfl := f15 hd15
          obtain ⟨b7, rfl⟩ := f7 hd7
          obtain ⟨c3', c9', c10', c11', hmm, -, -, -, -⟩ := id g3
          have hx := blk_cell hmm
          have hxf := blk_free hmm
          have hxl := blk_lt hmm
          rw [if_pos (by rfl)]
          go_big_op
          refine hKc _ _ ⟨_, _, _, _, _, _, _, _, _, _, _, _, _, _, _, _, _, rfl, ?_, ?_, ?_, ?_, ?_, ?_, ?_, ?_, ?_, ?_, ?_, ?_, ?_, ?_, ?_, ?_, ?_, ?_, ?_, ?_, ?_, ?_, ?_, ?_, ?_⟩
          · exact (fun h => by obtain ⟨nb, q1, q2⟩ := f0 (up h rfl); exact ⟨nb, q1, (blk_set_other (fun e => by rw [e] at q2; have := q2.symm.trans hmm; simp at this) q2)⟩)
          · exact (fun h => f1 (up h rfl))
          · exact (fun h => f2 (up h rfl))
          · exact (fun h => by obtain ⟨nb, o, q1, q3, q2⟩ := f3 (up h rfl); exact ⟨nb, o, q1, q3, (blk_set_other (fun e => by rw [e] at q2; have := q2.symm.trans hmm; simp at this) q2)⟩)
          · exact (fun h => f4 (up h rfl))
          · exact (fun h => f5 (up h rfl))
          · exact (fun h => f6 (up h rfl))
          · exact (fun h => f7 (up h rfl))
          · exact (fun h => f8 (up h rfl))
          · exact (fun h => f9 (up h rfl))
          · exact (fun h => f10 (up h rfl))
          · exact (fun h => f11 (up h rfl))
          · exact (fun h => by obtain ⟨ca, cn, cc, cs, q1, q2, q3⟩ := f12 (up h rfl); exact ⟨ca, cn, cc, cs, q1, (q2.keptT hmm (by decide) ((Kept.refl _ _).setCell _ _)), q3⟩)
          · exact (fun h => f13 (up h rfl))
          · exact (fun h => f15 (up h rfl))
          · exact (fun h => f17 (up h rfl))
          · exact (fun h => f19 (up h rfl))
          · exact (g0.setn mt)
          · exact (g1.setnew mn.out)
          · exact (blk_set_other zm g2)
          · exact (by obtain ⟨c3, c9, c10, c11, q, r14, r16, r18, r20⟩ := g3; exact ⟨c3, _, c10, c11, (blk_set q (by simp)), fun h => r14 (up h rfl), fun _ => rfl, fun h => r18 (up h rfl), fun h => r20 (up h rfl)⟩)
          · exact (fun h => upl (g4 (up h rfl)))
          · exact (fun h => upl hd7)
          · exact (fun h => upl (g6 (up h rfl)))
          · exact (fun h => upl (g7 (up h rfl)))
        · unfold StepOk
          rintro d act x ⟨u43, u44, u45, u46, u47, u48, u49, u50, u51, u52, u53, u54, u55, u56, u57, u58, u59, rfl, f0, f1, f2, f3, f4, f5, f6, f7, f8, f9, f10, f11, f12, f13, f15, f17, f19, g0, g1, g2, g3, g4, g5, g6, g7⟩ hd hdep Kc hKc
          rw [if_pos (by rfl)]
          go_big_op
          refine hKc _ _ ⟨_, _, _, _, _, _, _, _, _, _, _, _, _, _, _, _, _, rfl, ?_, ?_, ?_, ?_, ?_, ?_, ?_, ?_, ?_, ?_, ?_, ?_, ?_, ?_, ?_, ?_, ?_, ?_, ?_, ?_, ?_, ?_, ?_, ?_, ?_⟩
          · exact (fun h => f0 (up h rfl))
          · exact (fun h => f1 (up h rfl))
          · exact (fun h => f2 (up h rfl))
          · exact (fun h => f3 (up h rfl))
          · exact (fun h => f4 (up h rfl))
          · exact (fun h => f5 (up h rfl))
          · exact (fun h => f6 (up h rfl))
          · exact (fun h => f7 (up h rfl))
          · exact (fun h => f8 (up h rfl))
          · exact (fun h => f9 (up h rfl))
          · exact (fun h => f10 (up h rfl))
          · exact (fun h => f11 (up h rfl))
          · exact (fun h => f12 (up h rfl))
          · exact (fun h => f13 (up h rfl))
          · exact (fun h => f15 (up h rfl))
          · exact (fun _ => rfl)
          · exact (fun h => f19 (up h rfl))
          · exact g0
          · exact g1
          · exact g2
          · exact (by obtain ⟨c3, c9, c10, c11, q, r14, r16, r18, r20⟩ := g3; exact ⟨c3, c9, c10, c11, q, fun h => r14 (up h rfl), fun h => r16 (up h rfl), fun h => r18 (up h rfl), fun h => r20 (up h rfl)⟩)
          · exact (fun h => upl (g4 (up h rfl)))
          · exact (fun h => upl (g5 (up h rfl)))
          · exact (fun h => upl (g6 (up h rfl)))
          · exact (fun h => upl (g7 (up h rfl)))
        · unfold StepOk
          rintro d act x ⟨u43, u44, u45, u46, u47, u48, u49, u50, u51, u52, u53, u54, u55, u56, u57, u58, u59, rfl, f0, f1, f2, f3, f4, f5, f6, f7, f8, f9, f10, f11, f12, f13, f15, f17, f19, g0, g1, g2, g3, g4, g5, g6, g7⟩ hd hdep Kc hKc
          have hd17 : d 17 = true := hdep ⟨17, .data⟩ (by simp) rfl
          have hd10 : d 10 = true := hdep ⟨10, .data⟩ (by simp) rfl
          have hd10 : d 10 = true := hdep ⟨10, .phase⟩ (by simp) rfl
          obtain rfl := f17 hd17
          obtain ⟨q10, rfl, hq100, hq101⟩ := f10 hd10
          obtain ⟨c3', c9', c10', c11', hmm, -, -, -, -⟩ := id g3
          have hx := blk_cell hmm
          have hxf := blk_free hmm
          have hxl := blk_lt hmm
          rw [if_pos (by rfl)]
          go_big_op
          refine hKc _ _ ⟨_, _, _, _, _, _, _, _, _, _, _, _, _, _, _, _, _, rfl, ?_, ?_, ?_, ?_, ?_, ?_, ?_, ?_, ?_, ?_, ?_, ?_, ?_, ?_, ?_, ?_, ?_, ?_, ?_, ?_, ?_, ?_, ?_, ?_, ?_⟩
          · exact (fun h => by obtain ⟨nb, q1, q2⟩ := f0 (up h rfl); exact ⟨nb, q1, (blk_set_other (fun e => by rw [e] at q2; have := q2.symm.trans hmm; simp at this) q2)⟩)
          · exact (fun h => f1 (up h rfl))
          · exact (fun h => f2 (up h rfl))
          · exact (fun h => by obtain ⟨nb, o, q1, q3, q2⟩ := f3 (up h rfl); exact ⟨nb, o, q1, q3, (blk_set_other (fun e => by rw [e] at q2; have := q2.symm.trans hmm; simp at this) q2)⟩)
          · exact (fun h => f4 (up h rfl))
          · exact (fun h => f5 (up h rfl))
          · exact (fun h => f6 (up h rfl))
          · exact (fun h => f7 (up h rfl))
          · exact (fun h => f8 (up h rfl))
          · exact (fun h => f9 (up h rfl))
          · exact (fun h => f10 (up h rfl))
          · exact (fun h => f11 (up h rfl))
          · exact (fun h => by obtain ⟨ca, cn, cc, cs, q1, q2, q3⟩ := f12 (up h rfl); exact ⟨ca, cn, cc, cs, q1, (q2.keptT hmm (by decide) ((Kept.refl _ _).setCell _ _)), q3⟩)
          · exact (fun h => f13 (up h rfl))
          · exact (fun h => f15 (up h rfl))
          · exact (fun h => f17 (up h rfl))
          · exact (fun h => f19 (up h rfl))
          · exact (g0.setn mt)
          · exact (g1.setnew mn.out)
          · exact (blk_set_other zm g2)
          · exact (by obtain ⟨c3, c9, c10, c11, q, r14, r16, r18, r20⟩ := g3; exact ⟨c3, c9, _, c11, (blk_set q (by simp)), fun h => r14 (up h rfl), fun h => r16 (up h rfl), fun _ => rfl, fun h => r20 (up h rfl)⟩)
          · exact (fun h => upl (g4 (up h rfl)))
          · exact (fun h => upl (g5 (up h rfl)))
          · exact (fun h => upl hd10)
          · exact (fun h => upl (g7 (up h rfl)))
        · unfold StepOk
          rintro d act x ⟨u43, u44, u45, u46, u47, u48, u49, u50, u51, u52, u53, u54, u55, u56, u57, u58, u59, rfl, f0, f1, f2, f3, f4, f5, f6, f7, f8, f9, f10, f11, f12, f13, f15, f17, f19, g0, g1, g2, g3, g4, g5, g6, g7⟩ hd hdep Kc hKc
          rw [if_pos (by rfl)]
          go_big_op
          refine hKc _ _ ⟨_, _, _, _, _, _, _, _, _, _, _, _, _, _, _, _, _, rfl, ?_, ?_, ?_, ?_, ?_, ?_, ?_, ?_, ?_, ?_, ?_, ?_, ?_, ?_, ?_, ?_, ?_, ?_, ?_, ?_, ?_, ?_, ?_, ?_, ?_⟩
          · exact (fun h => f0 (up h rfl))
          · exact (fun h => f1 (up h rfl))
          · exact (fun h => f2 (up h rfl))
          · exact (fun h => f3 (up h rfl))
          · exact (fun h => f4 (up h rfl))
          · exact (fun h => f5 (up h rfl))
          · exact (fun h => f6 (up h rfl))
          · exact (fun h => f7 (up h rfl))
          · exact (fun h => f8 (up h rfl))
          · exact (fun h => f9 (up h rfl))
          · exact (fun h => f10 (up h rfl))
          · exact (fun h => f11 (up h rfl))
          · exact (fun h => f12 (up h rfl))
          · exact (fun h => f13 (up h rfl))
          · exact (fun h => f15 (up h rfl))
          · exact (fun h => f17 (up h rfl))
          · exact (fun _ => rfl)
          · exact g0
          · exact g1
          · exact g2
          · exact (by obtain ⟨c3, c9, c10, c11, q, r14, r16, r18, r20⟩ := g3; exact ⟨c3, c9, c10, c11, q, fun h => r14 (up h rfl), fun h => r16 (up h rfl), fun h => r18 (up h rfl), fun h => r20 (up h rfl)⟩)
          · exact (fun h => upl (g4 (up h rfl)))
          · exact (fun h => upl (g5 (up h rfl)))
          · exact (fun h => upl (g6 (up h rfl)))
          · exact (fun h => upl (g7 (up h rfl)))
        · unfold StepOk
          rintro d act x ⟨u43, u44, u45, u46, u47, u48, u49, u50, u51, u52, u53, u54, u55, u56, u57, u58, u59, rfl, f0, f1, f2, f3, f4, f5, f6, f7, f8, f9, f10, f11, f12, f13, f15, f17, f19, g0, g1, g2, g3, g4, g5, g6, g7⟩ hd hdep Kc hKc
          have hd19 : d 19 = true := hdep ⟨19, .data⟩ (by simp) rfl
          have hd12 : d 12 = true := hdep ⟨12, .data⟩ (by simp) rfl
          have hd12 : d 12 = true := hdep ⟨12, .phase⟩ (by simp) rfl
          obtain rfl := f19 hd19
          obtain ⟨ca, cn, cc, cs, rfl, hat, hcn, hcn5, hcc, hcm, hcf⟩ := f12 hd12
          obtain ⟨c3', c9', c10', c11', hmm, -, -, -, -⟩ := id g3
          have hx := blk_cell hmm
          have hxf := blk_free hmm
          have hxl := blk_lt hmm
          rw [if_pos (by rfl)]
          go_big_op
          refine hKc _ _ ⟨_, _, _, _, _, _, _, _, _, _, _, _, _, _, _, _, _, rfl, ?_, ?_, ?_, ?_, ?_, ?_, ?_, ?_, ?_, ?_, ?_, ?_, ?_, ?_, ?_, ?_, ?_, ?_, ?_, ?_, ?_, ?_, ?_, ?_, ?_⟩
          · exact (fun h => by obtain ⟨nb, q1, q2⟩ := f0 (up h rfl); exact ⟨nb, q1, (blk_set_other (fun e => by rw [e] at q2; have := q2.symm.trans hmm; simp at this) q2)⟩)
          · exact (fun h => f1 (up h rfl))
          · exact (fun h => f2 (up h rfl))
          · exact (fun h => by obtain ⟨nb, o, q1, q3, q2⟩ := f3 (up h rfl); exact ⟨nb, o, q1, q3, (blk_set_other (fun e => by rw [e] at q2; have := q2.symm.trans hmm; simp at this) q2)⟩)
          · exact (fun h => f4 (up h rfl))
          · exact (fun h => f5 (up h rfl))
          · exact (fun h => f6 (up h rfl))
          · exact (fun h => f7 (up h rfl))
          · exact (fun h => f8 (up h rfl))
          · exact (fun h => f9 (up h rfl))
          · exact (fun h => f10 (up h rfl))
          · exact (fun h => f11 (up h rfl))
          · exact (fun h => by obtain ⟨ca, cn, cc, cs, q1, q2, q3⟩ := f12 (up h rfl); exact ⟨ca, cn, cc, cs, q1, (q2.keptT hmm (by decide) ((Kept.refl _ _).setCell _ _)), q3⟩)
          · exact (fun h => f13 (up h rfl))
          · exact (fun h => f15 (up h rfl))
          · exact (fun h => f17 (up h rfl))
          · exact (fun h => f19 (up h rfl))
          · exact (g0.setn mt)
          · exact (g1.setnew mn.out)
          · exact (blk_set_other zm g2)
          · exact (by obtain ⟨c3, c9, c10, c11, q, r14, r16, r18, r20⟩ := g3; exact ⟨c3, c9, c10, _, (blk_set q (by simp)), fun h => r14 (up h rfl), fun h => r16 (up h rfl), fun h => r18 (up h rfl), fun _ => rfl⟩)
          · exact (fun h => upl (g4 (up h rfl)))
          · exact (fun h => upl (g5 (up h rfl)))
          · exact (fun h => upl (g6 (up h rfl)))
          · exact (fun h => upl hd12)
      · rintro d act x ⟨u43, u44, u45, u46, u47, u48, u49, u50, u51, u52, u53, u54, u55, u56, u57, u58, u59, rfl, f0, f1, f2, f3, f4, f5, f6, f7, f8, f9, f10, f11, f12, f13, f15, f17, f19, g0, g1, g2, g3, g4, g5, g6, g7⟩ hall
        obtain ⟨c0, rfl, hc0, hc1⟩ := f4 (hall 4 (by decide))
        obtain ⟨b7, rfl⟩ := f7 (hall 7 (by decide))
        obtain ⟨q10, rfl, hq100, hq101⟩ := f10 (hall 10 (by decide))
        obtain ⟨ca, cn, cc, cs, rfl, hat, hcn, hcn5, hcc, hcm, hcf⟩ := f12 (hall 12 (by decide))
        obtain ⟨c3, c9, c10, c11, hmm, r14, r16, r18, r20⟩ := g3
        obtain rfl := r14 (hall 14 (by decide))
        obtain rfl := r16 (hall 16 (by decide))
        obtain rfl := r18 (hall 18 (by decide))
        obtain rfl := r20 (hall 20 (by decide))
        clear f0 f1 f2 f3 f4 f5 f6 f7 f8 f9 f10 f11 f12 f13 f15 f17 f19 hall r14 r16 r18 r20
        have HM8 := Lib.hid hmm
        have HK8 := Lib.hid g1
        have HZ8 := Lib.hid g2
        have HT8 := Lib.hid g0
        obtain ⟨w8, rfl⟩ : ∃ y : World, y = x := ⟨_, rfl⟩
        have HAT := Lib.hid hat
        have HCF := Lib.hid hcf
        have HCN := Lib.hid hcn
        have HCB := Lib.hid (show cn ≤ 5 ∧ cn ≤ cc ∧ cc ≤ maxLen ∧ 0 ≤ c0 ∧ c0 ≤ 255 ∧ 0 ≤ q10 ∧ q10 < 4294967296 from ⟨hcn5, hcc, hcm, hc0, hc1, hq100, hq101⟩)
        clear g0 g1 g2 hmm hat hcf hcn hcn5 hcc hcm hc0 hc1 hq100 hq101 HM7 HK7 HZ7 HT7
        clear g4 g5 g6 g7
        have hc := blk_cell HM8.out
        have hl := blk_lt HM8.out
        have hcz := blk_cell HZ8.out
        have hfz := blk_free HZ8.out
        have hlz := blk_lt HZ8.out
        go_wp2_with fail
        have hk2 := blk_cell (blk_fillM (v0 := .int .i64 2) (v1 := .int .i64 5) (v2 := .int .i64 0) (v3 := .int .i64 c0) (v4 := .int .i64 q1) (v5 := .int .i64 0) (v6 := .int .i64 sq) (v7 := .string ⟨#[]⟩) (v8 := .string ⟨#[]⟩) (v9 := .bool b7) (v10 := .int .u32 q10) (v11 := .slice ca cn cc) (v12 := .slice none 0 0) HZ8.out rfl)
        have hok : MgOk (⟨2, 5, 0, c0, q1, 0, sq, (⟨#[]⟩, ⟨#[]⟩), b7, q10, cs, []⟩ : Mg) := by
          have h1 := HQ1.out
          have h2 := HCB.out
          have h4 := HSQ.out
          refine ⟨⟨by simp only []; omega, by simp, by simp only []; omega, by simp only []; omega⟩, .inr (.inl ⟨rfl, rfl, rfl, rfl, by simp only []; omega, by simp only []; omega, .inr ⟨rfl, rfl⟩, by have := HCN.out; simp only []; omega, fun x hx => (HCF.out x hx).g⟩)⟩
        have hat9 := HAT.out.keptT HZ8.out (by decide) (kept13 (v0 := .int .i64 2) (v1 := .int .i64 5) (v2 := .int .i64 0) (v3 := .int .i64 c0) (v4 := .int .i64 q1) (v5 := .int .i64 0) (v6 := .int .i64 sq) (v7 := .string ⟨#[]⟩) (v8 := .string ⟨#[]⟩) (v9 := .bool b7) (v10 := .int .u32 q10) (v11 := .slice ca cn cc) (v12 := .slice none 0 0))
        exact bodyPost_ret (v := .agg #[.int .i64 2, .int .i64 5, .int .i64 0, .int .i64 c0, .int .i64 q1, .int .i64 0, .int .i64 sq, .string ⟨#[]⟩, .string ⟨#[]⟩, .bool b7, .int .u32 q10, .slice ca cn cc, .slice none 0 0]) (by simp [results, Try.results8, go_sem, hk2]) rfl ⟨⟨2, 5, 0, c0, q1, 0, sq, (⟨#[]⟩, ⟨#[]⟩), b7, q10, cs, []⟩, ca, cn, cc, none, 0, 0, rfl, ⟨hat9, HCN.out, HCB.out.2.1, HCB.out.2.2.1, .inl rfl, rfl, Nat.le_refl _, by simp [maxLen], fun h => by simp at h, fun _ => ⟨rfl, rfl⟩⟩, hok, ((((((((((((((((((((((((((HT8.out).setn (o := 0) (v := .int .i64 2) zt)).setn (o := 1) (v := .int .i64 5) zt)).setn (o := 2) (v := .int .i64 0) zt)).setn (o := 3) (v := .int .i64 c0) zt)).setn (o := 4) (v := .int .i64 q1) zt)).setn (o := 5) (v := .int .i64 0) zt)).setn (o := 6) (v := .int .i64 sq) zt)).setn (o := 7) (v := .string ⟨#[]⟩) zt)).setn (o := 8) (v := .string ⟨#[]⟩) zt)).setn (o := 9) (v := .bool b7) zt)).setn (o := 10) (v := .int .u32 q10) zt)).setn (o := 11) (v := .slice ca cn cc) zt)).setn (o := 12) (v := .slice none 0 0) zt), ((((((((((((((((((((((((((HK8.out).setnew (o := 0) (v := .int .i64 2) zn.out)).setnew (o := 1) (v := .int .i64 5) zn.out)).setnew (o := 2) (v := .int .i64 0) zn.out)).setnew (o := 3) (v := .int .i64 c0) zn.out)).setnew (o := 4) (v := .int .i64 q1) zn.out)).setnew (o := 5) (v := .int .i64 0) zn.out)).setnew (o := 6) (v := .int .i64 sq) zn.out)).setnew (o := 7) (v := .string ⟨#[]⟩) zn.out)).setnew (o := 8) (v := .string ⟨#[]⟩) zn.out)).setnew (o := 9) (v := .bool b7) zn.out)).setnew (o := 10) (v := .int .u32 q10) zn.out)).setnew (o := 11) (v := .slice ca cn cc) zn.out)).setnew (o := 12) (v := .slice none 0 0) zn.out)⟩
    · have hne : (op != 5) = true := by simpa using h5
      have HN5 := Lib.hid h5
      clear h5
      have hc := blk_cell HM5.out
      have hl := blk_lt HM5.out
      go_wp2_with fail
      refine (tapeKeyF ra rlen rcap rz tb w5 HT5.out (HRW.out.bar HK5.out)).mono ?_
      rintro e w6 ⟨k1, k2, rfl, hka, hki, ht, hb⟩
      have HKA := Lib.hid hka
      have HKI := Lib.hid hki
      clear hka hki
      clear hc hl
      have HT6 := Lib.hid ht
      have HK6 := Lib.hid (HK5.out.trans hb)
      have HZ6 := Lib.hid (hb.blk zt HZ5.out)
      have HM6 := Lib.hid (hb.blk mt HM5.out)
      clear ht hb HT5 HK5 HZ5 HM5
      have hc := blk_cell HM6.out
      have hf := blk_free HM6.out
      have hl := blk_lt HM6.out
      go_upto_region 9 with (fail)
      clear hc hf hl
      have HM7 := Lib.hid (blk_set (n := 8) (u := .string k2) (vs' := #[.int .i64 2, .int .i64 op, .int .i64 0, .int .i64 0, .int .i64 q1, .int .i64 0, .int .i64 0, .string k1, .string k2, .bool false, .int .u32 0, .slice none 0 0, .slice none 0 0]) ((blk_set (n := 7) (u := .string k1) (vs' := #[.int .i64 2, .int .i64 op, .int .i64 0, .int .i64 0, .int .i64 q1, .int .i64 0, .int .i64 0, .string k1, .string ⟨#[]⟩, .bool false, .int .u32 0, .slice none 0 0, .slice none 0 0]) (HM6.out) (by simp))) (by simp))
      have HK7 := Lib.hid ((((HK6.out).setnew (o := 7) (v := .string k1) mn.out)).setnew (o := 8) (v := .string k2) mn.out)
      have HZ7 := Lib.hid (blk_set_other (b := z) (b' := m) (n := 8) (u := .string k2) zm ((blk_set_other (b := z) (b' := m) (n := 7) (u := .string k1) zm (HZ6.out))))
      have HT7 := Lib.hid ((((HT6.out).setn (o := 7) (v := .string k1) mt)).setn (o := 8) (v := .string k2) mt)
      clear HM6 HK6 HZ6 HT6
      generalize ((w6.setCell ⟨m, 7, none⟩ (.string k1)).setCell ⟨m, 8, none⟩ (.string k2)) = w7 at *
      clear hne
      have hc := blk_cell HM7.out
      have hl := blk_lt HM7.out
      go_wp2_with fail
      refine (tapeNextK ra rlen rcap rz tb 30 w7 HT7.out (HRW.out.bar HK7.out) (by omega) (by omega)).mono ?_
      rintro e w8 ⟨q3, rfl, hq30, hq31, ht, hb⟩
      clear hc hl
      have HT8 := Lib.hid ht
      have HK8 := Lib.hid (HK7.out.trans hb)
      have HZ8 := Lib.hid (hb.blk zt HZ7.out)
      have HM8 := Lib.hid (hb.blk mt HM7.out)
      clear ht hb HT7 HK7 HZ7 HM7
      obtain ⟨sq, hsq⟩ : ∃ sq : Int, q3 - 1 = sq := ⟨_, rfl⟩
      have hw : wrap64 (q3 - 1) = sq := by unfold wrap64; omega
      have HSQ := Lib.hid (show -1 ≤ sq ∧ sq < 29 by omega)
      clear hq30 hq31 hsq
      have hc := blk_cell HM8.out
      have hf := blk_free HM8.out
      have hl := blk_lt HM8.out
      go_upto_region 10 with (fail)
      clear hc hf hl
      have HM9 := Lib.hid (blk_set (n := 6) (u := .int .i64 sq) (vs' := #[.int .i64 2, .int .i64 op, .int .i64 0, .int .i64 0, .int .i64 q1, .int .i64 0, .int .i64 sq, .string k1, .string k2, .bool false, .int .u32 0, .slice none 0 0, .slice none 0 0]) (HM8.out) (by simp))
      have HK9 := Lib.hid ((HK8.out).setnew (o := 6) (v := .int .i64 sq) mn.out)
      have HZ9 := Lib.hid (blk_set_other (b := z) (b' := m) (n := 6) (u := .int .i64 sq) zm (HZ8.out))
      have HT9 := Lib.hid ((HT8.out).setn (o := 6) (v := .int .i64 sq) mt)
      clear HM8 HK8 HZ8 HT8
      generalize (w8.setCell ⟨m, 6, none⟩ (.int .i64 sq)) = w9 at *
      clear hw
      have hc := blk_cell HM9.out
      have hl := blk_lt HM9.out
      go_upto_region 12 with (fail)
      clear hc hl
      refine wp_region_inv_eq (J := fun A d act x => ∃ u43 u44 u45 u46 u47 u48 u49 u50 u51 u52 u53 u54 u55 u56 u57 u58 u59 : Value, act = (((((((((((((((((A.put (some 43) u43).put (some 44) u44).put (some 45) u45).put (some 46) u46).put (some 47) u47).put (some 48) u48).put (some 49) u49).put (some 50) u50).put (some 51) u51).put (some 52) u52).put (some 53) u53).put (some 54) u54).put (some 55) u55).put (some 56) u56).put (some 57) u57).put (some 58) u58).put (some 59) u59) ∧ (d 0 = true → (∃ nb : Nat, u43 = .slice (some ⟨nb, 0, none⟩) 5 5 ∧ x.heap[nb]? = some (.cells #[.int .i64 0, .int .i64 1, .int .i64 22, .int .i64 24, .int .i64 255] 3 (0, 0)))) ∧ (d 1 = true → u44 = .pointer (some ⟨tb, 0, none⟩)) ∧ (d 2 = true → (∃ q : Nat, u45 = .int .i64 (q : Int) ∧ q < 5)) ∧ (d 3 = true → (∃ nb o : Nat, u46 = .pointer (some ⟨nb, o, none⟩) ∧ o < 5 ∧ x.heap[nb]? = some (.cells #[.int .i64 0, .int .i64 1, .int .i64 22, .int .i64 24, .int .i64 255] 3 (0, 0)))) ∧ (d 4 = true → (∃ c : Int, u47 = .int .i64 c ∧ 0 ≤ c ∧ c ≤ 255)) ∧ (d 5 = true → u48 = .pointer (some ⟨tb, 0, none⟩)) ∧ (d 6 = true → (∃ q : Int, u49 = .int .i64 q)) ∧ (d 7 = true → (∃ b : Bool, u50 = .bool b)) ∧ (d 8 = true → u51 = .pointer (some ⟨tb, 0, none⟩)) ∧ (d 9 = true → (∃ q : Int, u52 = .int .i64 q ∧ 0 ≤ q ∧ q < 1073741824)) ∧ (d 10 = true → (∃ q : Int, u53 = .int .u32 q ∧ 0 ≤ q ∧ q < 4294967296)) ∧ (d 11 = true → u54 = .pointer (some ⟨tb, 0, none⟩)) ∧ (d 12 = true → (∃ (ca : Option Addr) (cn cc : Nat) (cs : List Cd), u55 = .slice ca cn cc ∧ CAt x ca cs ∧ cs.length = cn ∧ cn ≤ 5 ∧ cn ≤ cc ∧ cc ≤ maxLen ∧ ∀ c ∈ cs, CdF c)) ∧ (d 13 = true → u56 = .pointer (some ⟨m, 3, none⟩)) ∧ (d 15 = true → u57 = .pointer (some ⟨m, 9, none⟩)) ∧ (d 17 = true → u58 = .pointer (some ⟨m, 10, none⟩)) ∧ (d 19 = true → u59 = .pointer (some ⟨m, 11, none⟩)) ∧ TapeK ra rlen rcap x tb ∧ Bar tb w x ∧ x.heap[z]? = some (.cells #[.int .i64 0, .int .i64 0, .int .i64 0, .int .i64 0, .int .i64 0, .int .i64 0, .int .i64 0, .string ⟨#[]⟩, .string ⟨#[]⟩, .bool false, .int .u32 0, .slice none 0 0, .slice none 0 0] 36 (0, 0)) ∧ (∃ c3 c9 c10 c11 : Value, x.heap[m]? = some (.cells #[.int .i64 2, .int .i64 op, .int .i64 0, c3, .int .i64 q1, .int .i64 0, .int .i64 sq, .string k1, .string k2, c9, c10, c11, .slice none 0 0] 36 (0, 0)) ∧ (d 14 = true → c3 = u47) ∧ (d 16 = true → c9 = u50) ∧ (d 18 = true → c10 = u53) ∧ (d 20 = true → c11 = u55)) ∧ (d 14 = true → d 4 = true) ∧ (d 16 = true → d 7 = true) ∧ (d 18 = true → d 10 = true) ∧ (d 20 = true → d 12 = true)) (by simp only [Act.put, List.setIfInBounds_toArray, List.set_cons_succ, List.set_cons_zero]; rfl) (by kernel_rfl) (by kernel_rfl) ?_ ?_ ?_
      · refine ⟨_, _, _, _, _, _, _, _, _, _, _, _, _, _, _, _, _, rfl, ?_, ?_, ?_, ?_, ?_, ?_, ?_, ?_, ?_, ?_, ?_, ?_, ?_, ?_, ?_, ?_, ?_, ?_, ?_, ?_, ?_, ?_, ?_, ?_, ?_⟩
        · intro h; cases h
        · intro h; cases h
        · intro h; cases h
        · intro h; cases h
        · intro h; cases h
        · intro h; cases h
        · intro h; cases h
        · intro h; cases h
        · intro h; cases h
        · intro h; cases h
        · intro h; cases h
        · intro h; cases h
        · intro h; cases h
        · intro h; cases h
        · intro h; cases h
        · intro h; cases h
        · intro h; cases h
        · exact HT9.out.ext ((Below.refl _ _).drew)
        · exact HK9.out.trans (Bar.of ((Below.refl _ _).drew))
        · exact blk_drew HZ9.out
        · exact ⟨_, _, _, _, blk_drew HM9.out, (fun h => by cases h), (fun h => by cases h), (fun h => by cases h), (fun h => by cases h)⟩
        · exact (fun h => by cases h)
        · exact (fun h => by cases h)
        · exact (fun h => by cases h)
        · exact (fun h => by cases h)
      · refine stepsOk_cons (k := 0) ?_ (stepsOk_cons (k := 1) ?_ (stepsOk_cons (k := 2) ?_ (stepsOk_cons (k := 3) ?_ (stepsOk_cons (k := 4) ?_ (stepsOk_cons (k := 5) ?_ (stepsOk_cons (k := 6) ?_ (stepsOk_cons (k := 7) ?_ (stepsOk_cons (k := 8) ?_ (stepsOk_cons (k := 9) ?_ (stepsOk_cons (k := 10) ?_ (stepsOk_cons (k := 11) ?_ (stepsOk_cons (k := 12) ?_ (stepsOk_cons (k := 13) ?_ (stepsOk_cons (k := 14) ?_ (stepsOk_cons (k := 15) ?_ (stepsOk_cons (k := 16) ?_ (stepsOk_cons (k := 17) ?_ (stepsOk_cons (k := 18) ?_ (stepsOk_cons (k := 19) ?_ (stepsOk_cons (k := 20) ?_ stepsOk_nil))))))))))))))))))))
        · unfold StepOk
          rintro d act x ⟨u43, u44, u45, u46, u47, u48, u49, u50, u51, u52, u53, u54, u55, u56, u57, u58, u59, rfl, f0, f1, f2, f3, f4, f5, f6, f7, f8, f9, f10, f11, f12, f13, f15, f17, f19, g0, g1, g2, g3, g4, g5, g6, g7⟩ hd hdep Kc hKc
          rw [if_pos (by rfl)]
          go_big_op
          refine hKc _ _ ⟨_, _, _, _, _, _, _, _, _, _, _, _, _, _, _, _, _, rfl, ?_, ?_, ?_, ?_, ?_, ?_, ?_, ?_, ?_, ?_, ?_, ?_, ?_, ?_, ?_, ?_, ?_, ?_, ?_, ?_, ?_, ?_, ?_, ?_, ?_⟩
          · exact (fun _ => ⟨_, rfl, blk_new _ _ _⟩)
          · exact (fun h => f1 (up h rfl))
          · exact (fun h => f2 (up h rfl))
          · exact (fun h => by obtain ⟨nb, o, q1, q3, q2⟩ := f3 (up h rfl); exact ⟨nb, o, q1, q3, (blk_alloc q2 _)⟩)
          · exact (fun h => f4 (up h rfl))
          · exact (fun h => f5 (up h rfl))
          · exact (fun h => f6 (up h rfl))
          · exact (fun h => f7 (up h rfl))
          · exact (fun h => f8 (up h rfl))
          · exact (fun h => f9 (up h rfl))
          · exact (fun h => f10 (up h rfl))
          · exact (fun h => f11 (up h rfl))
          · exact (fun h => by obtain ⟨ca, cn, cc, cs, q1, q2, q3⟩ := f12 (up h rfl); exact ⟨ca, cn, cc, cs, q1, (q2.ext ((Below.refl _ _).alloc (Nat.le_refl _) _)), q3⟩)
          · exact (fun h => f13 (up h rfl))
          · exact (fun h => f15 (up h rfl))
          · exact (fun h => f17 (up h rfl))
          · exact (fun h => f19 (up h rfl))
          · exact (g0.ext ((Below.refl _ _).alloc (Nat.le_refl _) _))
          · exact (g1.trans (Bar.of ((Below.refl _ _).alloc (Nat.le_refl _) _)))
          · exact (blk_alloc g2 _)
          · exact (by obtain ⟨c3, c9, c10, c11, q, r14, r16, r18, r20⟩ := g3; exact ⟨c3, c9, c10, c11, (blk_alloc q _), fun h => r14 (up h rfl), fun h => r16 (up h rfl), fun h => r18 (up h rfl), fun h => r20 (up h rfl)⟩)
          · exact (fun h => upl (g4 (up h rfl)))
          · exact (fun h => upl (g5 (up h rfl)))
          · exact (fun h => upl (g6 (up h rfl)))
          · exact (fun h => upl (g7 (up h rfl)))
        · unfold StepOk
          rintro d act x ⟨u43, u44, u45, u46, u47, u48, u49, u50, u51, u52, u53, u54, u55, u56, u57, u58, u59, rfl, f0, f1, f2, f3, f4, f5, f6, f7, f8, f9, f10, f11, f12, f13, f15, f17, f19, g0, g1, g2, g3, g4, g5, g6, g7⟩ hd hdep Kc hKc
          rw [if_pos (by rfl)]
          go_big_op
          refine hKc _ _ ⟨_, _, _, _, _, _, _, _, _, _, _, _, _, _, _, _, _, rfl, ?_, ?_, ?_, ?_, ?_, ?_, ?_, ?_, ?_, ?_, ?_, ?_, ?_, ?_, ?_, ?_, ?_, ?_, ?_, ?_, ?_, ?_, ?_, ?_, ?_⟩
          · exact (fun h => f0 (up h rfl))
          · exact (fun _ => rfl)
          · exact (fun h => f2 (up h rfl))
          · exact (fun h => f3 (up h rfl))
          · exact (fun h => f4 (up h rfl))
          · exact (fun h => f5 (up h rfl))
          · exact (fun h => f6 (up h rfl))
          · exact (fun h => f7 (up h rfl))
          · exact (fun h => f8 (up h rfl))
          · exact (fun h => f9 (up h rfl))
          · exact (fun h => f10 (up h rfl))
          · exact (fun h => f11 (up h rfl))
          · exact (fun h => f12 (up h rfl))
          · exact (fun h => f13 (up h rfl))
          · exact (fun h => f15 (up h rfl))
          · exact (fun h => f17 (up h rfl))
          · exact (fun h => f19 (up h rfl))
          · exact g0
          · exact g1
          · exact g2
          · exact (by obtain ⟨c3, c9, c10, c11, q, r14, r16, r18, r20⟩ := g3; exact ⟨c3, c9, c10, c11, q, fun h => r14 (up h rfl), fun h => r16 (up h rfl), fun h => r18 (up h rfl), fun h => r20 (up h rfl)⟩)
          · exact (fun h => upl (g4 (up h rfl)))
          · exact (fun h => upl (g5 (up h rfl)))
          · exact (fun h => upl (g6 (up h rfl)))
          · exact (fun h => upl (g7 (up h rfl)))
        · unfold StepOk
          rintro d act x ⟨u43, u44, u45, u46, u47, u48, u49, u50, u51, u52, u53, u54, u55, u56, u57, u58, u59, rfl, f0, f1, f2, f3, f4, f5, f6, f7, f8, f9, f10, f11, f12, f13, f15, f17, f19, g0, g1, g2, g3, g4, g5, g6, g7⟩ hd hdep Kc hKc
          have hd1 : d 1 = true := hdep ⟨1, .data⟩ (by simp) rfl
          obtain rfl := f1 hd1
          rw [if_pos (by rfl)]
          go_big_op
          refine (tapeNextK ra rlen rcap rz tb 5 _ g0 (HRW.out.bar g1) (by omega) (by omega)).mono ?_
          rintro e x1 ⟨v1, rfl, hv0, hv1, hT1, hB1⟩
          refine hKc _ _ ⟨_, _, _, _, _, _, _, _, _, _, _, _, _, _, _, _, _, rfl, ?_, ?_, ?_, ?_, ?_, ?_, ?_, ?_, ?_, ?_, ?_, ?_, ?_, ?_, ?_, ?_, ?_, ?_, ?_, ?_, ?_, ?_, ?_, ?_, ?_⟩
          · exact (fun h => by obtain ⟨nb, q1, q2⟩ := f0 (up h rfl); exact ⟨nb, q1, (hB1.blk (g0.ne (by decide) q2) q2)⟩)
          · exact (fun h => f1 (up h rfl))
          · exact (fun _ => ⟨v1.toNat, by rw [Int.toNat_of_nonneg hv0], by omega⟩)
          · exact (fun h => by obtain ⟨nb, o, q1, q3, q2⟩ := f3 (up h rfl); exact ⟨nb, o, q1, q3, (hB1.blk (g0.ne (by decide) q2) q2)⟩)
          · exact (fun h => f4 (up h rfl))
          · exact (fun h => f5 (up h rfl))
          · exact (fun h => f6 (up h rfl))
          · exact (fun h => f7 (up h rfl))
          · exact (fun h => f8 (up h rfl))
          · exact (fun h => f9 (up h rfl))
          · exact (fun h => f10 (up h rfl))
          · exact (fun h => f11 (up h rfl))
          · exact (fun h => by obtain ⟨ca, cn, cc, cs, q1, q2, q3⟩ := f12 (up h rfl); exact ⟨ca, cn, cc, cs, q1, (q2.bar g0 hB1), q3⟩)
          · exact (fun h => f13 (up h rfl))
          · exact (fun h => f15 (up h rfl))
          · exact (fun h => f17 (up h rfl))
          · exact (fun h => f19 (up h rfl))
          · exact hT1
          · exact (g1.trans hB1)
          · exact (hB1.blk zt g2)
          · exact (by obtain ⟨c3, c9, c10, c11, q, r14, r16, r18, r20⟩ := g3; exact ⟨c3, c9, c10, c11, (hB1.blk mt q), fun h => r14 (up h rfl), fun h => r16 (up h rfl), fun h => r18 (up h rfl), fun h => r20 (up h rfl)⟩)
          · exact (fun h => upl (g4 (up h rfl)))
          · exact (fun h => upl (g5 (up h rfl)))
          · exact (fun h => upl (g6 (up h rfl)))
          · exact (fun h => upl (g7 (up h rfl)))
        · unfold StepOk
          rintro d act x ⟨u43, u44, u45, u46, u47, u48, u49, u50, u51, u52, u53, u54, u55, u56, u57, u58, u59, rfl, f0, f1, f2, f3, f4, f5, f6, f7, f8, f9, f10, f11, f12, f13, f15, f17, f19, g0, g1, g2, g3, g4, g5, g6, g7⟩ hd hdep Kc hKc
          have hd0 : d 0 = true := hdep ⟨0, .data⟩ (by simp) rfl
          have hd2 : d 2 = true := hdep ⟨2, .data⟩ (by simp) rfl
          obtain ⟨nb, rfl, hnb⟩ := f0 hd0
          obtain ⟨q0, rfl, hq0⟩ := f2 hd2
          rw [if_pos (by rfl)]
          go_big_op
          refine hKc _ _ ⟨_, _, _, _, _, _, _, _, _, _, _, _, _, _, _, _, _, rfl, ?_, ?_, ?_, ?_, ?_, ?_, ?_, ?_, ?_, ?_, ?_, ?_, ?_, ?_, ?_, ?_, ?_, ?_, ?_, ?_, ?_, ?_, ?_, ?_, ?_⟩
          · exact (fun h => f0 (up h rfl))
          · exact (fun h => f1 (up h rfl))
          · exact (fun h => f2 (up h rfl))
          · exact (fun _ => ⟨nb, _, rfl, by first | omega | (simp; omega), hnb⟩)
          · exact (fun h => f4 (up h rfl))
          · exact (fun h => f5 (up h rfl))
          · exact (fun h => f6 (up h rfl))
          · exact (fun h => f7 (up h rfl))
          · exact (fun h => f8 (up h rfl))
          · exact (fun h => f9 (up h rfl))
          · exact (fun h => f10 (up h rfl))
          · exact (fun h => f11 (up h rfl))
          · exact (fun h => f12 (up h rfl))
          · exact (fun h => f13 (up h rfl))
          · exact (fun h => f15 (up h rfl))
          · exact (fun h => f17 (up h rfl))
          · exact (fun h => f19 (up h rfl))
          · exact g0
          · exact g1
          · exact g2
          · exact (by obtain ⟨c3, c9, c10, c11, q, r14, r16, r18, r20⟩ := g3; exact ⟨c3, c9, c10, c11, q, fun h => r14 (up h rfl), fun h => r16 (up h rfl), fun h => r18 (up h rfl), fun h => r20 (up h rfl)⟩)
          · exact (fun h => upl (g4 (up h rfl)))
          · exact (fun h => upl (g5 (up h rfl)))
          · exact (fun h => upl (g6 (up h rfl)))
          · exact (fun h => upl (g7 (up h rfl)))
        · unfold StepOk
          rintro d act x ⟨u43, u44, u45, u46, u47, u48, u49, u50, u51, u52, u53, u54, u55, u56, u57, u58, u59, rfl, f0, f1, f2, f3, f4, f5, f6, f7, f8, f9, f10, f11, f12, f13, f15, f17, f19, g0, g1, g2, g3, g4, g5, g6, g7⟩ hd hdep Kc hKc
          have hd3 : d 3 = true := hdep ⟨3, .data⟩ (by simp) rfl
          obtain ⟨nb, o9, rfl, ho9, hnb⟩ := f3 hd3
          obtain ⟨c0, hcc0, hc0, hc1⟩ : ∃ c : Int, x.cell? ⟨nb, o9, none⟩ = some (.int .i64 c) ∧ 0 ≤ c ∧ c ≤ 255 := by
            have hx := blk_cell hnb
            have hcs : o9 = 0 ∨ o9 = 1 ∨ o9 = 2 ∨ o9 = 3 ∨ o9 = 4 := by omega
            rcases hcs with rfl | rfl | rfl | rfl | rfl
            · exact ⟨0, hx 0, by omega, by omega⟩
            · exact ⟨1, hx 1, by omega, by omega⟩
            · exact ⟨22, hx 2, by omega, by omega⟩
            · exact ⟨24, hx 3, by omega, by omega⟩
            · exact ⟨255, hx 4, by omega, by omega⟩
          have hxl := blk_lt hnb
          rw [if_pos (by rfl)]
          go_big_op
          refine hKc _ _ ⟨_, _, _, _, _, _, _, _, _, _, _, _, _, _, _, _, _, rfl, ?_, ?_, ?_, ?_, ?_, ?_, ?_, ?_, ?_, ?_, ?_, ?_, ?_, ?_, ?_, ?_, ?_, ?_, ?_, ?_, ?_, ?_, ?_, ?_, ?_⟩
          · exact (fun h => f0 (up h rfl))
          · exact (fun h => f1 (up h rfl))
          · exact (fun h => f2 (up h rfl))
          · exact (fun h => f3 (up h rfl))
          · exact (fun _ => ⟨c0, rfl, hc0, hc1⟩)
          · exact (fun h => f5 (up h rfl))
          · exact (fun h => f6 (up h rfl))
          · exact (fun h => f7 (up h rfl))
          · exact (fun h => f8 (up h rfl))
          · exact (fun h => f9 (up h rfl))
          · exact (fun h => f10 (up h rfl))
          · exact (fun h => f11 (up h rfl))
          · exact (fun h => f12 (up h rfl))
          · exact (fun h => f13 (up h rfl))
          · exact (fun h => f15 (up h rfl))
          · exact (fun h => f17 (up h rfl))
          · exact (fun h => f19 (up h rfl))
          · exact g0
          · exact g1
          · exact g2
          · exact (by obtain ⟨c3, c9, c10, c11, q, r14, r16, r18, r20⟩ := g3; exact ⟨c3, c9, c10, c11, q, fun h => absurd (g4 (up h rfl)) (by rw [hd]; simp), fun h => r16 (up h rfl), fun h => r18 (up h rfl), fun h => r20 (up h rfl)⟩)
          · exact (fun h => by simp)
          · exact (fun h => upl (g5 (up h rfl)))
          · exact (fun h => upl (g6 (up h rfl)))
          · exact (fun h => upl (g7 (up h rfl)))
        · unfold StepOk
          rintro d act x ⟨u43, u44, u45, u46, u47, u48, u49, u50, u51, u52, u53, u54, u55, u56, u57, u58, u59, rfl, f0, f1, f2, f3, f4, f5, f6, f7, f8, f9, f10, f11, f12, f13, f15, f17, f19, g0, g1, g2, g3, g4, g5, g6, g7⟩ hd hdep Kc hKc
          rw [if_pos (by rfl)]
          go_big_op
          refine hKc _ _ ⟨_, _, _, _, _, _, _, _, _, _, _, _, _, _, _, _, _, rfl, ?_, ?_, ?_, ?_, ?_, ?_, ?_, ?_, ?_, ?_, ?_, ?_, ?_, ?_, ?_, ?_, ?_, ?_, ?_, ?_, ?_, ?_, ?_, ?_, ?_⟩
          · exact (fun h => f0 (up h rfl))
          · exact (fun h => f1 (up h rfl))
          · exact (fun h => f2 (up h rfl))
          · exact (fun h => f3 (up h rfl))
          · exact (fun h => f4 (up h rfl))
          · exact (fun _ => rfl)
          · exact (fun h => f6 (up h rfl))
          · exact (fun h => f7 (up h rfl))
          · exact (fun h => f8 (up h rfl))
          · exact (fun h => f9 (up h rfl))
          · exact (fun h => f10 (up h rfl))
          · exact (fun h => f11 (up h rfl))
          · exact (fun h => f12 (up h rfl))
          · exact (fun h => f13 (up h rfl))
          · exact (fun h => f15 (up h rfl))
          · exact (fun h => f17 (up h rfl))
          · exact (fun h => f19 (up h rfl))
          · exact g0
          · exact g1
          · exact g2
          · exact (by obtain ⟨c3, c9, c10, c11, q, r14, r16, r18, r20⟩ := g3; exact ⟨c3, c9, c10, c11, q, fun h => r14 (up h rfl), fun h => r16 (up h rfl), fun h => r18 (up h rfl), fun h => r20 (up h rfl)⟩)
          · exact (fun h => upl (g4 (up h rfl)))
          · exact (fun h => upl (g5 (up h rfl)))
          · exact (fun h => upl (g6 (up h rfl)))
          · exact (fun h => upl (g7 (up h rfl)))
        · unfold StepOk
          rintro d act x ⟨u43, u44, u45, u46, u47, u48, u49, u50, u51, u52, u53, u54, u55, u56, u57, u58, u59, rfl, f0, f1, f2, f3, f4, f5, f6, f7, f8, f9, f10, f11, f12, f13, f15, f17, f19, g0, g1, g2, g3, g4, g5, g6, g7⟩ hd hdep Kc hKc
          have hd5 : d 5 = true := hdep ⟨5, .data⟩ (by simp) rfl
          obtain rfl := f5 hd5
          rw [if_pos (by rfl)]
          go_big_op
          refine (tapeNextK ra rlen rcap rz tb 2 _ g0 (HRW.out.bar g1) (by omega) (by omega)).mono ?_
          rintro e x1 ⟨v1, rfl, hv0, hv1, hT1, hB1⟩
          refine hKc _ _ ⟨_, _, _, _, _, _, _, _, _, _, _, _, _, _, _, _, _, rfl, ?_, ?_, ?_, ?_, ?_, ?_, ?_, ?_, ?_, ?_, ?_, ?_, ?_, ?_, ?_, ?_, ?_, ?_, ?_, ?_, ?_, ?_, ?_, ?_, ?_⟩
          · exact (fun h => by obtain ⟨nb, q1, q2⟩ := f0 (up h rfl); exact ⟨nb, q1, (hB1.blk (g0.ne (by decide) q2) q2)⟩)
          · exact (fun h => f1 (up h rfl))
          · exact (fun h => f2 (up h rfl))
          · exact (fun h => by obtain ⟨nb, o, q1, q3, q2⟩ := f3 (up h rfl); exact ⟨nb, o, q1, q3, (hB1.blk (g0.ne (by decide) q2) q2)⟩)
          · exact (fun h => f4 (up h rfl))
          · exact (fun h => f5 (up h rfl))
          · exact (fun _ => ⟨_, rfl⟩)
          · exact (fun h => f7 (up h rfl))
          · exact (fun h => f8 (up h rfl))
          · exact (fun h => f9 (up h rfl))
          · exact (fun h => f10 (up h rfl))
          · exact (fun h => f11 (up h rfl))
          · exact (fun h => by obtain ⟨ca, cn, cc, cs, q1, q2, q3⟩ := f12 (up h rfl); exact ⟨ca, cn, cc, cs, q1, (q2.bar g0 hB1), q3⟩)
          · exact (fun h => f13 (up h rfl))
          · exact (fun h => f15 (up h rfl))
          · exact (fun h => f17 (up h rfl))
          · exact (fun h => f19 (up h rfl))
          · exact hT1
          · exact (g1.trans hB1)
          · exact (hB1.blk zt g2)
          · exact (by obtain ⟨c3, c9, c10, c11, q, r14, r16, r18, r20⟩ := g3; exact ⟨c3, c9, c10, c11, (hB1.blk mt q), fun h => r14 (up h rfl), fun h => r16 (up h rfl), fun h => r18 (up h rfl), fun h => r20 (up h rfl)⟩)
          · exact (fun h => upl (g4 (up h rfl)))
          · exact (fun h => upl (g5 (up h rfl)))
          · exact (fun h => upl (g6 (up h rfl)))
          · exact (fun h => upl (g7 (up h rfl)))
        · unfold StepOk
          rintro d act x ⟨u43, u44, u45, u46, u47, u48, u49, u50, u51, u52, u53, u54, u55, u56, u57, u58, u59, rfl, f0, f1, f2, f3, f4, f5, f6, f7, f8, f9, f10, f11, f12, f13, f15, f17, f19, g0, g1, g2, g3, g4, g5, g6, g7⟩ hd hdep Kc hKc
          have hd6 : d 6 = true := hdep ⟨6, .data⟩ (by simp) rfl
          obtain ⟨q6, rfl⟩ := f6 hd6
          rw [if_pos (by rfl)]
          go_big_op
          refine hKc _ _ ⟨_, _, _, _, _, _, _, _, _, _, _, _, _, _, _, _, _, rfl, ?_, ?_, ?_, ?_, ?_, ?_, ?_, ?_, ?_, ?_, ?_, ?_, ?_, ?_, ?_, ?_, ?_, ?_, ?_, ?_, ?_, ?_, ?_, ?_, ?_⟩
          · exact (fun h => f0 (up h rfl))
          · exact (fun h => f1 (up h rfl))
          · exact (fun h => f2 (up h rfl))
          · exact (fun h => f3 (up h rfl))
          · exact (fun h => f4 (up h rfl))
          · exact (fun h => f5 (up h rfl))
          · exact (fun h => f6 (up h rfl))
          · exact (fun _ => ⟨_, rfl⟩)
          · exact (fun h => f8 (up h rfl))
          · exact (fun h => f9 (up h rfl))
          · exact (fun h => f10 (up h rfl))
          · exact (fun h => f11 (up h rfl))
          · exact (fun h => f12 (up h rfl))
          · exact (fun h => f13 (up h rfl))
          · exact (fun h => f15 (up h rfl))
          · exact (fun h => f17 (up h rfl))
          · exact (fun h => f19 (up h rfl))
          · exact g0
          · exact g1
          · exact g2
          · exact (by obtain ⟨c3, c9, c10, c11, q, r14, r16, r18, r20⟩ := g3; exact ⟨c3, c9, c10, c11, q, fun h => r14 (up h rfl), fun h => absurd (g5 (up h rfl)) (by rw [hd]; simp), fun h => r18 (up h rfl), fun h => r20 (up h rfl)⟩)
          · exact (fun h => upl (g4 (up h rfl)))
          · exact (fun h => by simp)
          · exact (fun h => upl (g6 (up h rfl)))
          · exact (fun h => upl (g7 (up h rfl)))
        · unfold StepOk
          rintro d act x ⟨u43, u44, u45, u46, u47, u48, u49, u50, u51, u52, u53, u54, u55, u56, u57, u58, u59, rfl, f0, f1, f2, f3, f4, f5, f6, f7, f8, f9, f10, f11, f12, f13, f15, f17, f19, g0, g1, g2, g3, g4, g5, g6, g7⟩ hd hdep Kc hKc
          rw [if_pos (by rfl)]
          go_big_op
          refine hKc _ _ ⟨_, _, _, _, _, _, _, _, _, _, _, _, _, _, _, _, _, rfl, ?_, ?_, ?_, ?_, ?_, ?_, ?_, ?_, ?_, ?_, ?_, ?_, ?_, ?_, ?_, ?_, ?_, ?_, ?_, ?_, ?_, ?_, ?_, ?_, ?_⟩
          · exact (fun h => f0 (up h rfl))
          · exact (fun h => f1 (up h rfl))
          · exact (fun h => f2 (up h rfl))
          · exact (fun h => f3 (up h rfl))
          · exact (fun h => f4 (up h rfl))
          · exact (fun h => f5 (up h rfl))
          · exact (fun h => f6 (up h rfl))
          · exact (fun h => f7 (up h rfl))
          · exact (fun _ => rfl)
          · exact (fun h => f9 (up h rfl))
          · exact (fun h => f10 (up h rfl))
          · exact (fun h => f11 (up h rfl))
          · exact (fun h => f12 (up h rfl))
          · exact (fun h => f13 (up h rfl))
          · exact (fun h => f15 (up h rfl))
          · exact (fun h => f17 (up h rfl))
          · exact (fun h => f19 (up h rfl))
          · exact g0
          · exact g1
          · exact g2
          · exact (by obtain ⟨c3, c9, c10, c11, q, r14, r16, r18, r20⟩ := g3; exact ⟨c3, c9, c10, c11, q, fun h => r14 (up h rfl), fun h => r16 (up h rfl), fun h => r18 (up h rfl), fun h => r20 (up h rfl)⟩)
          · exact (fun h => upl (g4 (up h rfl)))
          · exact (fun h => upl (g5 (up h rfl)))
          · exact (fun h => upl (g6 (up h rfl)))
          · exact (fun h => upl (g7 (up h rfl)))
        · unfold StepOk
          rintro d act x ⟨u43, u44, u45, u46, u47, u48, u49, u50, u51, u52, u53, u54, u55, u56, u57, u58, u59, rfl, f0, f1, f2, f3, f4, f5, f6, f7, f8, f9, f10, f11, f12, f13, f15, f17, f19, g0, g1, g2, g3, g4, g5, g6, g7⟩ hd hdep Kc hKc
          have hd8 : d 8 = true := hdep ⟨8, .data⟩ (by simp) rfl
          obtain rfl := f8 hd8
          rw [if_pos (by rfl)]
          go_big_op
          refine (tapeNextK ra rlen rcap rz tb 1073741824 _ g0 (HRW.out.bar g1) (by omega) (by omega)).mono ?_
          rintro e x1 ⟨v1, rfl, hv0, hv1, hT1, hB1⟩
          refine hKc _ _ ⟨_, _, _, _, _, _, _, _, _, _, _, _, _, _, _, _, _, rfl, ?_, ?_, ?_, ?_, ?_, ?_, ?_, ?_, ?_, ?_, ?_, ?_, ?_, ?_, ?_, ?_, ?_, ?_, ?_, ?_, ?_, ?_, ?_, ?_, ?_⟩
          · exact (fun h => by obtain ⟨nb, q1, q2⟩ := f0 (up h rfl); exact ⟨nb, q1, (hB1.blk (g0.ne (by decide) q2) q2)⟩)
          · exact (fun h => f1 (up h rfl))
          · exact (fun h => f2 (up h rfl))
          · exact (fun h => by obtain ⟨nb, o, q1, q3, q2⟩ := f3 (up h rfl); exact ⟨nb, o, q1, q3, (hB1.blk (g0.ne (by decide) q2) q2)⟩)
          · exact (fun h => f4 (up h rfl))
          · exact (fun h => f5 (up h rfl))
          · exact (fun h => f6 (up h rfl))
          · exact (fun h => f7 (up h rfl))
          · exact (fun h => f8 (up h rfl))
          · exact (fun _ => ⟨_, rfl, hv0, hv1⟩)
          · exact (fun h => f10 (up h rfl))
          · exact (fun h => f11 (up h rfl))
          · exact (fun h => by obtain ⟨ca, cn, cc, cs, q1, q2, q3⟩ := f12 (up h rfl); exact ⟨ca, cn, cc, cs, q1, (q2.bar g0 hB1), q3⟩)
          · exact (fun h => f13 (up h rfl))
          · exact (fun h => f15 (up h rfl))
          · exact (fun h => f17 (up h rfl))
          · exact (fun h => f19 (up h rfl))
          · exact hT1
          · exact (g1.trans hB1)
          · exact (hB1.blk zt g2)
          · exact (by obtain ⟨c3, c9, c10, c11, q, r14, r16, r18, r20⟩ := g3; exact ⟨c3, c9, c10, c11, (hB1.blk mt q), fun h => r14 (up h rfl), fun h => r16 (up h rfl), fun h => r18 (up h rfl), fun h => r20 (up h rfl)⟩)
          · exact (fun h => upl (g4 (up h rfl)))
          · exact (fun h => upl (g5 (up h rfl)))
          · exact (fun h => upl (g6 (up h rfl)))
          · exact (fun h => upl (g7 (up h rfl)))
        · unfold StepOk
          rintro d act x ⟨u43, u44, u45, u46, u47, u48, u49, u50, u51, u52, u53, u54, u55, u56, u57, u58, u59, rfl, f0, f1, f2, f3, f4, f5, f6, f7, f8, f9, f10, f11, f12, f13, f15, f17, f19, g0, g1, g2, g3, g4, g5, g6, g7⟩ hd hdep Kc hKc
          have hd9 : d 9 = true := hdep ⟨9, .data⟩ (by simp) rfl
          obtain ⟨q9, rfl, hq90, hq91⟩ := f9 hd9
          rw [if_pos (by rfl)]
          go_big_op
          refine hKc _ _ ⟨_, _, _, _, _, _, _, _, _, _, _, _, _, _, _, _, _, rfl, ?_, ?_, ?_, ?_, ?_, ?_, ?_, ?_, ?_, ?_, ?_, ?_, ?_, ?_, ?_, ?_, ?_, ?_, ?_, ?_, ?_, ?_, ?_, ?_, ?_⟩
          · exact (fun h => f0 (up h rfl))
          · exact (fun h => f1 (up h rfl))
          · exact (fun h => f2 (up h rfl))
          · exact (fun h => f3 (up h rfl))
          · exact (fun h => f4 (up h rfl))
          · exact (fun h => f5 (up h rfl))
          · exact (fun h => f6 (up h rfl))
          · exact (fun h => f7 (up h rfl))
          · exact (fun h => f8 (up h rfl))
          · exact (fun h => f9 (up h rfl))
          · exact (fun _ => ⟨_, rfl, by first | omega | (unfold wrapU; omega) | (simp only [IntKind.wrap]; omega) | (simp [go_sem]; omega), by first | omega | (simp [go_sem]; omega)⟩)
          · exact (fun h => f11 (up h rfl))
          · exact (fun h => f12 (up h rfl))
          · exact (fun h => f13 (up h rfl))
          · exact (fun h => f15 (up h rfl))
          · exact (fun h => f17 (up h rfl))
          · exact (fun h => f19 (up h rfl))
          · exact g0
          · exact g1
          · exact g2
          · exact (by obtain ⟨c3, c9, c10, c11, q, r14, r16, r18, r20⟩ := g3; exact ⟨c3, c9, c10, c11, q, fun h => r14 (up h rfl), fun h => r16 (up h rfl), fun h => absurd (g6 (up h rfl)) (by rw [hd]; simp), fun h => r20 (up h rfl)⟩)
          · exact (fun h => upl (g4 (up h rfl)))
          · exact (fun h => upl (g5 (up h rfl)))
          · exact (fun h => by simp)
          · exact (fun h => upl (g7 (up h rfl)))
        · unfold StepOk
          rintro d act x ⟨u43, u44, u45, u46, u47, u48, u49, u50, u51, u52, u53, u54, u55, u56, u57, u58, u59, rfl, f0, f1, f2, f3, f4, f5, f6, f7, f8, f9, f10, f11, f12, f13, f15, f17, f19, g0, g1, g2, g3, g4, g5, g6, g7⟩ hd hdep Kc hKc
          rw [if_pos (by rfl)]
          go_big_op
          refine hKc _ _ ⟨_, _, _, _, _, _, _, _, _, _, _, _, _, _, _, _, _, rfl, ?_, ?_, ?_, ?_, ?_, ?_, ?_, ?_, ?_, ?_, ?_, ?_, ?_, ?_, ?_, ?_, ?_, ?_, ?_, ?_, ?_, ?_, ?_, ?_, ?_⟩
          · exact (fun h => f0 (up h rfl))
          · exact (fun h => f1 (up h rfl))
          · exact (fun h => f2 (up h rfl))
          · exact (fun h => f3 (up h rfl))
          · exact (fun h => f4 (up h rfl))
          · exact (fun h => f5 (up h rfl))
          · exact (fun h => f6 (up h rfl))
          · exact (fun h => f7 (up h rfl))
          · exact (fun h => f8 (up h rfl))
          · exact (fun h => f9 (up h rfl))
          · exact (fun h => f10 (up h rfl))
          · exact (fun _ => rfl)
          · exact (fun h => f12 (up h rfl))
          · exact (fun h => f13 (up h rfl))
          · exact (fun h => f15 (up h rfl))
          · exact (fun h => f17 (up h rfl))
          · exact (fun h => f19 (up h rfl))
          · exact g0
          · exact g1
          · exact g2
          · exact (by obtain ⟨c3, c9, c10, c11, q, r14, r16, r18, r20⟩ := g3; exact ⟨c3, c9, c10, c11, q, fun h => r14 (up h rfl), fun h => r16 (up h rfl), fun h => r18 (up h rfl), fun h => r20 (up h rfl)⟩)
          · exact (fun h => upl (g4 (up h rfl)))
          · exact (fun h => upl (g5 (up h rfl)))
          · exact (fun h => upl (g6 (up h rfl)))
          · exact (fun h => upl (g7 (up h rfl)))
        · unfold StepOk
          rintro d act x ⟨u43, u44, u45, u46, u47, u48, u49, u50, u51, u52, u53, u54, u55, u56, u57, u58, u59, rfl, f0, f1, f2, f3, f4, f5, f6, f7, f8, f9, f10, f11, f12, f13, f15, f17, f19, g0, g1, g2, g3, g4, g5, g6, g7⟩ hd hdep Kc hKc
          have hd11 : d 11 = true := hdep ⟨11, .data⟩ (by simp) rfl
          obtain rfl := f11 hd11
          rw [if_pos (by rfl)]
          go_big_op
          refine (tapeCardsF ra rlen rcap rz tb 5 _ g0 (HRW.out.bar g1) (by omega)).mono ?_
          rintro e x1 ⟨v1, cs1, rfl, ho1, hl1, hok1, hT1, hB1⟩
          obtain ⟨ca1, cc1, rfl, hcc1, hcm1, hat1, -, -⟩ := ho1.read
          refine hKc _ _ ⟨_, _, _, _, _, _, _, _, _, _, _, _, _, _, _, _, _, rfl, ?_, ?_, ?_, ?_, ?_, ?_, ?_, ?_, ?_, ?_, ?_, ?_, ?_, ?_, ?_, ?_, ?_, ?_, ?_, ?_, ?_, ?_, ?_, ?_, ?_⟩
          · exact (fun h => by obtain ⟨nb, q1, q2⟩ := f0 (up h rfl); exact ⟨nb, q1, (hB1.blk (g0.ne (by decide) q2) q2)⟩)
          · exact (fun h => f1 (up h rfl))
          · exact (fun h => f2 (up h rfl))
          · exact (fun h => by obtain ⟨nb, o, q1, q3, q2⟩ := f3 (up h rfl); exact ⟨nb, o, q1, q3, (hB1.blk (g0.ne (by decide) q2) q2)⟩)
          · exact (fun h => f4 (up h rfl))
          · exact (fun h => f5 (up h rfl))
          · exact (fun h => f6 (up h rfl))
          · exact (fun h => f7 (up h rfl))
          · exact (fun h => f8 (up h rfl))
          · exact (fun h => f9 (up h rfl))
          · exact (fun h => f10 (up h rfl))
          · exact (fun h => f11 (up h rfl))
          · exact (fun _ => ⟨ca1, _, cc1, cs1, rfl, hat1, rfl, hl1, hcc1, hcm1, hok1⟩)
          · exact (fun h => f13 (up h rfl))
          · exact (fun h => f15 (up h rfl))
          · exact (fun h => f17 (up h rfl))
          · exact (fun h => f19 (up h rfl))
          · exact hT1
          · exact (g1.trans hB1)
          · exact (hB1.blk zt g2)
          · exact (by obtain ⟨c3, c9, c10, c11, q, r14, r16, r18, r20⟩ := g3; exact ⟨c3, c9, c10, c11, (hB1.blk mt q), fun h => r14 (up h rfl), fun h => r16 (up h rfl), fun h => r18 (up h rfl), fun h => absurd (g7 (up h rfl)) (by rw [hd]; simp)⟩)
          · exact (fun h => upl (g4 (up h rfl)))
          · exact (fun h => upl (g5 (up h rfl)))
          · exact (fun h => upl (g6 (up h rfl)))
          · exact (fun h => by simp)
        · unfold StepOk
          rintro d act x ⟨u43, u44, u45, u46, u47, u48, u49, u50, u51, u52, u53, u54, u55, u56, u57, u58, u59, rfl, f0, f1, f2, f3, f4, f5, f6, f7, f8, f9, f10, f11, f12, f13, f15, f17, f19, g0, g1, g2, g3, g4, g5, g6, g7⟩ hd hdep Kc hKc
          rw [if_pos (by rfl)]
          go_big_op
          refine hKc _ _ ⟨_, _, _, _, _, _, _, _, _, _, _, _, _, _, _, _, _, rfl, ?_, ?_, ?_, ?_, ?_, ?_, ?_, ?_, ?_, ?_, ?_, ?_, ?_, ?_, ?_, ?_, ?_, ?_, ?_, ?_, ?_, ?_, ?_, ?_, ?_⟩
          · exact (fun h => f0 (up h rfl))
          · exact (fun h => f1 (up h rfl))
          · exact (fun h => f2 (up h rfl))
          · exact (fun h => f3 (up h rfl))
          · exact (fun h => f4 (up h rfl))
          · exact (fun h => f5 (up h rfl))
          · exact (fun h => f6 (up h rfl))
          · exact (fun h => f7 (up h rfl))
          · exact (fun h => f8 (up h rfl))
          · exact (fun h => f9 (up h rfl))
          · exact (fun h => f10 (up h rfl))
          · exact (fun h => f11 (up h rfl))
          · exact (fun h => f12 (up h rfl))
          · exact (fun _ => rfl)
          · exact (fun h => f15 (up h rfl))
          · exact (fun h => f17 (up h rfl))
          · exact (fun h => f19 (up h rfl))
          · exact g0
          · exact g1
          · exact g2
          · exact (by obtain ⟨c3, c9, c10, c11, q, r14, r16, r18, r20⟩ := g3; exact ⟨c3, c9, c10, c11, q, fun h => r14 (up h rfl), fun h => r16 (up h rfl), fun h => r18 (up h rfl), fun h => r20 (up h rfl)⟩)
          · exact (fun h => upl (g4 (up h rfl)))
          · exact (fun h => upl (g5 (up h rfl)))
          · exact (fun h => upl (g6 (up h rfl)))
          · exact (fun h => upl (g7 (up h rfl)))
        · unfold StepOk
          rintro d act x ⟨u43, u44, u45, u46, u47, u48, u49, u50, u51, u52, u53, u54, u55, u56, u57, u58, u59, rfl, f0, f1, f2, f3, f4, f5, f6, f7, f8, f9, f10, f11, f12, f13, f15, f17, f19, g0, g1, g2, g3, g4, g5, g6, g7⟩ hd hdep Kc hKc
          have hd13 : d 13 = true := hdep ⟨13, .data⟩ (by simp) rfl
          have hd4 : d 4 = true := hdep ⟨4, .data⟩ (by simp) rfl
          have hd4 : d 4 = true := hdep ⟨4, .phase⟩ (by simp) rfl
          obtain rfl := f13 hd13
          obtain ⟨c0, rfl, hc0, hc1⟩ := f4 hd4
          obtain ⟨c3', c9', c10', c11', hmm, -, -, -, -⟩ := id g3
          have hx := blk_cell hmm
          have hxf := blk_free hmm
          have hxl := blk_lt hmm
          rw [if_pos (by rfl)]
          go_big_op
          refine hKc _ _ ⟨_, _, _, _, _, _, _, _, _, _, _, _, _, _, _, _, _, rfl, ?_, ?_, ?_, ?_, ?_, ?_, ?_, ?_, ?_, ?_, ?_, ?_, ?_, ?_, ?_, ?_, ?_, ?_, ?_, ?_, ?_, ?_, ?_, ?_, ?_⟩
          · exact (fun h => by obtain ⟨nb, q1, q2⟩ := f0 (up h rfl); exact ⟨nb, q1, (blk_set_other (fun e => by rw [e] at q2; have := q2.symm.trans hmm; simp at this) q2)⟩)
          · exact (fun h => f1 (up h rfl))
          · exact (fun h => f2 (up h rfl))
          · exact (fun h => by obtain ⟨nb, o, q1, q3, q2⟩ := f3 (up h rfl); exact ⟨nb, o, q1, q3, (blk_set_other (fun e => by rw [e] at q2; have := q2.symm.trans hmm; simp at this) q2)⟩)
          · exact (fun h => f4 (up h rfl))
          · exact (fun h => f5 (up h rfl))
          · exact (fun h => f6 (up h rfl))
          · exact (fun h => f7 (up h rfl))
          · exact (fun h => f8 (up h rfl))
          · exact (fun h => f9 (up h rfl))
          · exact (fun h => f10 (up h rfl))
          · exact (fun h => f11 (up h rfl))
          · exact (fun h => by obtain ⟨ca, cn, cc, cs, q1, q2, q3⟩ := f12 (up h rfl); exact ⟨ca, cn, cc, cs, q1, (q2.keptT hmm (by decide) ((Kept.refl _ _).setCell _ _)), q3⟩)
          · exact (fun h => f13 (up h rfl))
          · exact (fun h => f15 (up h rfl))
          · exact (fun h => f17 (up h rfl))
          · exact (fun h => f19 (up h rfl))
          · exact (g0.setn mt)
          · exact (g1.setnew mn.out)
          · exact (blk_set_other zm g2)
          · exact (by obtain ⟨c3, c9, c10, c11, q, r14, r16, r18, r20⟩ := g3; exact ⟨_, c9, c10, c11, (blk_set q (by simp)), fun _ => rfl, fun h => r16 (up h rfl), fun h => r18 (up h rfl), fun h => r20 (up h rfl)⟩)
          · exact (fun h => upl hd4)
          · exact (fun h => upl (g5 (up h rfl)))
          · exact (fun h => upl (g6 (up h rfl)))
          · exact (fun h => upl (g7 (up h rfl)))
        · unfold StepOk
          rintro d act x ⟨u43, u44, u45, u46, u47, u48, u49, u50, u51, u52, u53, u54, u55, u56, u57, u58, u59, rfl, f0, f1, f2, f3, f4, f5, f6, f7, f8, f9, f10, f11, f12, f13, f15, f17, f19, g0, g1, g2, g3, g4, g5, g6, g7⟩ hd hdep Kc hKc
          rw [if_pos (by rfl)]
          go_big_op
          refine hKc _ _ ⟨_, _, _, _, _, _, _, _, _, _, _, _, _, _, _, _, _, rfl, ?_, ?_, ?_, ?_, ?_, ?_, ?_, ?_, ?_, ?_, ?_, ?_, ?_, ?_, ?_, ?_, ?_, ?_, ?_, ?_, ?_, ?_, ?_, ?_, ?_⟩
          · exact (fun h => f0 (up h rfl))
          · exact (fun h => f1 (up h rfl))
          · exact (fun h => f2 (up h rfl))
          · exact (fun h => f3 (up h rfl))
          · exact (fun h => f4 (up h rfl))
          · exact (fun h => f5 (up h rfl))
          · exact (fun h => f6 (up h rfl))
          · exact (fun h => f7 (up h rfl))
          · exact (fun h => f8 (up h rfl))
          · exact (fun h => f9 (up h rfl))
          · exact (fun h => f10 (up h rfl))
          · exact (fun h => f11 (up h rfl))
          · exact (fun h => f12 (up h rfl))
          · exact (fun h => f13 (up h rfl))
          · exact (fun _ => rfl)
          · exact (fun h => f17 (up h rfl))
          · exact (fun h => f19 (up h rfl))
          · exact g0
          · exact g1
          · exact g2
          · exact (by obtain ⟨c3, c9, c10, c11, q, r14, r16, r18, r20⟩ := g3; exact ⟨c3, c9, c10, c11, q, fun h => r14 (up h rfl), fun h => r16 (up h rfl), fun h => r18 (up h rfl), fun h => r20 (up h rfl)⟩)
          · exact (fun h => upl (g4 (up h rfl)))
          · exact (fun h => upl (g5 (up h rfl)))
          · exact (fun h => upl (g6 (up h rfl)))
          · exact (fun h => upl (g7 (up h rfl)))
        · unfold StepOk
          rintro d act x ⟨u43, u44, u45, u46, u47, u48, u49, u50, u51, u52, u53, u54, u55, u56, u57, u58, u59, rfl, f0, f1, f2, f3, f4, f5, f6, f7, f8, f9, f10, f11, f12, f13, f15, f17, f19, g0, g1, g2, g3, g4, g5, g6, g7⟩ hd hdep Kc hKc
          have hd15 : d 15 = true := hdep ⟨15, .data⟩ (by simp) rfl
          have hd7 : d 7 = true := hdep ⟨7, .data⟩ (by simp) rfl
          have hd7 : d 7 = true := hdep ⟨7, .phase⟩ (by simp) rfl
          obtain rfl := f15 hd15
          obtain ⟨b7, rfl⟩ := f7 hd7
          obtain ⟨c3', c9', c10', c11', hmm, -, -, -, -⟩ := id g3
          have hx := blk_cell hmm
          have hxf := blk_free hmm
          have hxl := blk_lt hmm
          rw [if_pos (by rfl)]
          go_big_op
          refine hKc _ _ ⟨_, _, _, _, _, _, _, _, _, _, _, _, _, _, _, _, _, rfl, ?_, ?_, ?_, ?_, ?_, ?_, ?_, ?_, ?_, ?_, ?_, ?_, ?_, ?_, ?_, ?_, ?_, ?_, ?_, ?_, ?_, ?_, ?_, ?_, ?_⟩
          · exact (fun h => by obtain ⟨nb, q1, q2⟩ := f0 (up h rfl); exact ⟨nb, q1, (blk_set_other (fun e => by rw [e] at q2; have := q2.symm.trans hmm; simp at this) q2)⟩)
          · exact (fun h => f1 (up h rfl))
          · exact (fun h => f2 (up h rfl))
          · exact (fun h => by obtain ⟨nb, o, q1, q3, q2⟩ := f3 (up h rfl); exact ⟨nb, o, q1, q3, (blk_set_other (fun e => by rw [e] at q2; have := q2.symm.trans hmm; simp at this) q2)⟩)
          · exact (fun h => f4 (up h rfl))
          · exact (fun h => f5 (up h rfl))
          · exact (fun h => f6 (up h rfl))
          · exact (fun h => f7 (up h rfl))
          · exact (fun h => f8 (up h rfl))
          · exact (fun h => f9 (up h rfl))
          · exact (fun h => f10 (up h rfl))
          · exact (fun h => f11 (up h rfl))
          · exact (fun h => by obtain ⟨ca, cn, cc, cs, q1, q2, q3⟩ := f12 (up h rfl); exact ⟨ca, cn, cc, cs, q1, (q2.keptT hmm (by decide) ((Kept.refl _ _).setCell _ _)), q3⟩)
          · exact (fun h => f13 (up h rfl))
          · exact (fun h => f15 (up h rfl))
          · exact (fun h => f17 (up h rfl))
          · exact (fun h => f19 (up h rfl))
          · exact (g0.setn mt)
          · exact (g1.setnew mn.out)
          · exact (blk_set_other zm g2)
          · exact (by obtain ⟨c3, c9, c10, c11, q, r14, r16, r18, r20⟩ := g3; exact ⟨c3, _, c10, c11, (blk_set q (by simp)), fun h => r14 (up h rfl), fun _ => rfl, fun h => r18 (up h rfl), fun h => r20 (up h rfl)⟩)
          · exact (fun h => upl (g4 (up h rfl)))
          · exact (fun h => upl hd7)
          · exact (fun h => upl (g6 (up h rfl)))
          · exact (fun h => upl (g7 (up h rfl)))
        · unfold StepOk
          rintro d act x ⟨u43, u44, u45, u46, u47, u48, u49, u50, u51, u52, u53, u54, u55, u56, u57, u58, u59, rfl, f0, f1, f2, f3, f4, f5, f6, f7, f8, f9, f10, f11, f12, f13, f15, f17, f19, g0, g1, g2, g3, g4, g5, g6, g7⟩ hd hdep Kc hKc
          rw [if_pos (by rfl)]
          go_big_op
          refine hKc _ _ ⟨_, _, _, _, _, _, _, _, _, _, _, _, _, _, _, _, _, rfl, ?_, ?_, ?_, ?_, ?_, ?_, ?_, ?_, ?_, ?_, ?_, ?_, ?_, ?_, ?_, ?_, ?_, ?_, ?_, ?_, ?_, ?_, ?_, ?_, ?_⟩
          · exact (fun h => f0 (up h rfl))
          · exact (fun h => f1 (up h rfl))
          · exact (fun h => f2 (up h rfl))
          · exact (fun h => f3 (up h rfl))
          · exact (fun h => f4 (up h rfl))
          · exact (fun h => f5 (up h rfl))
          · exact (fun h => f6 (up h rfl))
          · exact (fun h => f7 (up h rfl))
          · exact (fun h => f8 (up h rfl))
          · exact (fun h => f9 (up h rfl))
          · exact (fun h => f10 (up h rfl))
          · exact (fun h => f11 (up h rfl))
          · exact (fun h => f12 (up h rfl))
          · exact (fun h => f13 (up h rfl))
          · exact (fun h => f15 (up h rfl))
          · exact (fun _ => rfl)
          · exact (fun h => f19 (up h rfl))
          · exact g0
          · exact g1
          · exact g2
          · exact (by obtain ⟨c3, c9, c10, c11, q, r14, r16, r18, r20⟩ := g3; exact ⟨c3, c9, c10, c11, q, fun h => r14 (up h rfl), fun h => r16 (up h rfl), fun h => r18 (up h rfl), fun h => r20 (up h rfl)⟩)
          · exact (fun h => upl (g4 (up h rfl)))
          · exact (fun h => upl (g5 (up h rfl)))
          · exact (fun h => upl (g6 (up h rfl)))
          · exact (fun h => upl (g7 (up h rfl)))
        · unfold StepOk
          rintro d act x ⟨u43, u44, u45, u46, u47, u48, u49, u50, u51, u52, u53, u54, u55, u56, u57, u58, u59, rfl, f0, f1, f2, f3, f4, f5, f6, f7, f8, f9, f10, f11, f12, f13, f15, f17, f19, g0, g1, g2, g3, g4, g5, g6, g7⟩ hd hdep Kc hKc
          have hd17 : d 17 = true := hdep ⟨17, .data⟩ (by simp) rfl
          have hd10 : d 10 = true := hdep ⟨10, .data⟩ (by simp) rfl
          have hd10 : d 10 = true := hdep ⟨10, .phase⟩ (by simp) rfl
          obtain rfl := f17 hd17
          obtain ⟨q10, rfl, hq100, hq101⟩ := f10 hd10
          obtain ⟨c3', c9', c10', c11', hmm, -, -, -, -⟩ := id g3
          have hx := blk_cell hmm
          have hxf := blk_free hmm
          have hxl := blk_lt hmm
          rw [if_pos (by rfl)]
          go_big_op
          refine hKc _ _ ⟨_, _, _, _, _, _, _, _, _, _, _, _, _, _, _, _, _, rfl, ?_, ?_, ?_, ?_, ?_, ?_, ?_, ?_, ?_, ?_, ?_, ?_, ?_, ?_, ?_, ?_, ?_, ?_, ?_, ?_, ?_, ?_, ?_, ?_, ?_⟩
          · exact (fun h => by obtain ⟨nb, q1, q2⟩ := f0 (up h rfl); exact ⟨nb, q1, (blk_set_other (fun e => by rw [e] at q2; have := q2.symm.trans hmm; simp at this) q2)⟩)
          · exact (fun h => f1 (up h rfl))
          · exact (fun h => f2 (up h rfl))
          · exact (fun h => by obtain ⟨nb, o, q1, q3, q2⟩ := f3 (up h rfl); exact ⟨nb, o, q1, q3, (blk_set_other (fun e => by rw [e] at q2; have := q2.symm.trans hmm; simp at this) q2)⟩)
          · exact (fun h => f4 (up h rfl))
          · exact (fun h => f5 (up h rfl))
          · exact (fun h => f6 (up h rfl))
          · exact (fun h => f7 (up h rfl))
          · exact (fun h => f8 (up h rfl))
          · exact (fun h => f9 (up h rfl))
          · exact (fun h => f10 (up h rfl))
          · exact (fun h => f11 (up h rfl))
          · exact (fun h => by obtain ⟨ca, cn, cc, cs, q1, q2, q3⟩ := f12 (up h rfl); exact ⟨ca, cn, cc, cs, q1, (q2.keptT hmm (by decide) ((Kept.refl _ _).setCell _ _)), q3⟩)
          · exact (fun h => f13 (up h rfl))
          · exact (fun h => f15 (up h rfl))
          · exact (fun h => f17 (up h rfl))
          · exact (fun h => f19 (up h rfl))
          · exact (g0.setn mt)
          · exact (g1.setnew mn.out)
          · exact (blk_set_other zm g2)
          · exact (by obtain ⟨c3, c9, c10, c11, q, r14, r16, r18, r20⟩ := g3; exact ⟨c3, c9, _, c11, (blk_set q (by simp)), fun h => r14 (up h rfl), fun h => r16 (up h rfl), fun _ => rfl, fun h => r20 (up h rfl)⟩)
          · exact (fun h => upl (g4 (up h rfl)))
          · exact (fun h => upl (g5 (up h rfl)))
          · exact (fun h => upl hd10)
          · exact (fun h => upl (g7 (up h rfl)))
        · unfold StepOk
          rintro d act x ⟨u43, u44, u45, u46, u47, u48, u49, u50, u51, u52, u53, u54, u55, u56, u57, u58, u59, rfl, f0, f1, f2, f3, f4, f5, f6, f7, f8, f9, f10, f11, f12, f13, f15, f17, f19, g0, g1, g2, g3, g4, g5, g6, g7⟩ hd hdep Kc hKc
          rw [if_pos (by rfl)]
          go_big_op
          refine hKc _ _ ⟨_, _, _, _, _, _, _, _, _, _, _, _, _, _, _, _, _, rfl, ?_, ?_, ?_, ?_, ?_, ?_, ?_, ?_, ?_, ?_, ?_, ?_, ?_, ?_, ?_, ?_, ?_, ?_, ?_, ?_, ?_, ?_, ?_, ?_, ?_⟩
          · exact (fun h => f0 (up h rfl))
          · exact (fun h => f1 (up h rfl))
          · exact (fun h => f2 (up h rfl))
          · exact (fun h => f3 (up h rfl))
          · exact (fun h => f4 (up h rfl))
          · exact (fun h => f5 (up h rfl))
          · exact (fun h => f6 (up h rfl))
          · exact (fun h => f7 (up h rfl))
          · exact (fun h => f8 (up h rfl))
          · exact (fun h => f9 (up h rfl))
          · exact (fun h => f10 (up h rfl))
          · exact (fun h => f11 (up h rfl))
          · exact (fun h => f12 (up h rfl))
          · exact (fun h => f13 (up h rfl))
          · exact (fun h => f15 (up h rfl))
          · exact (fun h => f17 (up h rfl))
          · exact (fun _ => rfl)
          · exact g0
          · exact g1
          · exact g2
          · exact (by obtain ⟨c3, c9, c10, c11, q, r14, r16, r18, r20⟩ := g3; exact ⟨c3, c9, c10, c11, q, fun h => r14 (up h rfl), fun h => r16 (up h rfl), fun h => r18 (up h rfl), fun h => r20 (up h rfl)⟩)
          · exact (fun h => upl (g4 (up h rfl)))
          · exact (fun h => upl (g5 (up h rfl)))
          · exact (fun h => upl (g6 (up h rfl)))
          · exact (fun h => upl (g7 (up h rfl)))
        · unfold StepOk
          rintro d act x ⟨u43, u44, u45, u46, u47, u48, u49, u50, u51, u52, u53, u54, u55, u56, u57, u58, u59, rfl, f0, f1, f2, f3, f4, f5, f6, f7, f8, f9, f10, f11, f12, f13, f15, f17, f19, g0, g1, g2, g3, g4, g5, g6, g7⟩ hd hdep Kc hKc
          have hd19 : d 19 = true := hdep ⟨19, .data⟩ (by simp) rfl
          have hd12 : d 12 = true := hdep ⟨12, .data⟩ (by simp) rfl
          have hd12 : d 12 = true := hdep ⟨12, .phase⟩ (by simp) rfl
          obtain rfl := f19 hd19
          obtain ⟨ca, cn, cc, cs, rfl, hat, hcn, hcn5, hcc, hcm, hcf⟩ := f12 hd12
          obtain ⟨c3', c9', c10', c11', hmm, -, -, -, -⟩ := id g3
          have hx := blk_cell hmm
          have hxf := blk_free hmm
          have hxl := blk_lt hmm
          rw [if_pos (by rfl)]
          go_big_op
          refine hKc _ _ ⟨_, _, _, _, _, _, _, _, _, _, _, _, _, _, _, _, _, rfl, ?_, ?_, ?_, ?_, ?_, ?_, ?_, ?_, ?_, ?_, ?_, ?_, ?_, ?_, ?_, ?_, ?_, ?_, ?_, ?_, ?_, ?_, ?_, ?_, ?_⟩
          · exact (fun h => by obtain ⟨nb, q1, q2⟩ := f0 (up h rfl); exact ⟨nb, q1, (blk_set_other (fun e => by rw [e] at q2; have := q2.symm.trans hmm; simp at this) q2)⟩)
          · exact (fun h => f1 (up h rfl))
          · exact (fun h => f2 (up h rfl))
          · exact (fun h => by obtain ⟨nb, o, q1, q3, q2⟩ := f3 (up h rfl); exact ⟨nb, o, q1, q3, (blk_set_other (fun e => by rw [e] at q2; have := q2.symm.trans hmm; simp at this) q2)⟩)
          · exact (fun h => f4 (up h rfl))
          · exact (fun h => f5 (up h rfl))
          · exact (fun h => f6 (up h rfl))
          · exact (fun h => f7 (up h rfl))
          · exact (fun h => f8 (up h rfl))
          · exact (fun h => f9 (up h rfl))
          · exact (fun h => f10 (up h rfl))
          · exact (fun h => f11 (up h rfl))
          · exact (fun h => by obtain ⟨ca, cn, cc, cs, q1, q2, q3⟩ := f12 (up h rfl); exact ⟨ca, cn, cc, cs, q1, (q2.keptT hmm (by decide) ((Kept.refl _ _).setCell _ _)), q3⟩)
          · exact (fun h => f13 (up h rfl))
          · exact (fun h => f15 (up h rfl))
          · exact (fun h => f17 (up h rfl))
          · exact (fun h => f19 (up h rfl))
          · exact (g0.setn mt)
          · exact (g1.setnew mn.out)
          · exact (blk_set_other zm g2)
          · exact (by obtain ⟨c3, c9, c10, c11, q, r14, r16, r18, r20⟩ := g3; exact ⟨c3, c9, c10, _, (blk_set q (by simp)), fun h => r14 (up h rfl), fun h => r16 (up h rfl), fun h => r18 (up h rfl), fun _ => rfl⟩)
          · exact (fun h => upl (g4 (up h rfl)))
          · exact (fun h => upl (g5 (up h rfl)))
          · exact (fun h => upl (g6 (up h rfl)))
          · exact (fun h => upl hd12)
      · rintro d act x ⟨u43, u44, u45, u46, u47, u48, u49, u50, u51, u52, u53, u54, u55, u56, u57, u58, u59, rfl, f0, f1, f2, f3, f4, f5, f6, f7, f8, f9, f10, f11, f12, f13, f15, f17, f19, g0, g1, g2, g3, g4, g5, g6, g7⟩ hall
        obtain ⟨c0, rfl, hc0, hc1⟩ := f4 (hall 4 (by decide))
        obtain ⟨b7, rfl⟩ := f7 (hall 7 (by decide))
        obtain ⟨q10, rfl, hq100, hq101⟩ := f10 (hall 10 (by decide))
        obtain ⟨ca, cn, cc, cs, rfl, hat, hcn, hcn5, hcc, hcm, hcf⟩ := f12 (hall 12 (by decide))
        obtain ⟨c3, c9, c10, c11, hmm, r14, r16, r18, r20⟩ := g3
        obtain rfl := r14 (hall 14 (by decide))
        obtain rfl := r16 (hall 16 (by decide))
        obtain rfl := r18 (hall 18 (by decide))
        obtain rfl := r20 (hall 20 (by decide))
        clear f0 f1 f2 f3 f4 f5 f6 f7 f8 f9 f10 f11 f12 f13 f15 f17 f19 hall r14 r16 r18 r20
        have HM10 := Lib.hid hmm
        have HK10 := Lib.hid g1
        have HZ10 := Lib.hid g2
        have HT10 := Lib.hid g0
        obtain ⟨w10, rfl⟩ : ∃ y : World, y = x := ⟨_, rfl⟩
        have HAT := Lib.hid hat
        have HCF := Lib.hid hcf
        have HCN := Lib.hid hcn
        have HCB := Lib.hid (show cn ≤ 5 ∧ cn ≤ cc ∧ cc ≤ maxLen ∧ 0 ≤ c0 ∧ c0 ≤ 255 ∧ 0 ≤ q10 ∧ q10 < 4294967296 from ⟨hcn5, hcc, hcm, hc0, hc1, hq100, hq101⟩)
        clear g0 g1 g2 hmm hat hcf hcn hcn5 hcc hcm hc0 hc1 hq100 hq101 HM9 HK9 HZ9 HT9
        clear g4 g5 g6 g7
        have hc := blk_cell HM10.out
        have hl := blk_lt HM10.out
        have hcz := blk_cell HZ10.out
        have hfz := blk_free HZ10.out
        have hlz := blk_lt HZ10.out
        go_wp2_with fail
        have hk2 := blk_cell (blk_fillM (v0 := .int .i64 2) (v1 := .int .i64 op) (v2 := .int .i64 0) (v3 := .int .i64 c0) (v4 := .int .i64 q1) (v5 := .int .i64 0) (v6 := .int .i64 sq) (v7 := .string k1) (v8 := .string k2) (v9 := .bool b7) (v10 := .int .u32 q10) (v11 := .slice ca cn cc) (v12 := .slice none 0 0) HZ10.out rfl)
        have hok : MgOk (⟨2, op, 0, c0, q1, 0, sq, (k1, k2), b7, q10, cs, []⟩ : Mg) := by
          have h1 := HQ1.out
          have h2 := HCB.out
          have h4 := HSQ.out
          refine ⟨⟨by simp only []; omega, by simp, by simp only []; omega, by simp only []; omega⟩, .inr (.inl ⟨rfl, rfl, rfl, rfl, by simp only []; omega, by simp only []; omega, (by have h7 := HO1.out; have h8 := HN5.out; exact .inl ⟨h7.1, by simp only []; omega, HKA.out.nm, HKI.out.nm⟩), by have := HCN.out; simp only []; omega, fun x hx => (HCF.out x hx).g⟩)⟩
        have hat9 := HAT.out.keptT HZ10.out (by decide) (kept13 (v0 := .int .i64 2) (v1 := .int .i64 op) (v2 := .int .i64 0) (v3 := .int .i64 c0) (v4 := .int .i64 q1) (v5 := .int .i64 0) (v6 := .int .i64 sq) (v7 := .string k1) (v8 := .string k2) (v9 := .bool b7) (v10 := .int .u32 q10) (v11 := .slice ca cn cc) (v12 := .slice none 0 0))
        exact bodyPost_ret (v := .agg #[.int .i64 2, .int .i64 op, .int .i64 0, .int .i64 c0, .int .i64 q1, .int .i64 0, .int .i64 sq, .string k1, .string k2, .bool b7, .int .u32 q10, .slice ca cn cc, .slice none 0 0]) (by simp [results, Try.results8, go_sem, hk2]) rfl ⟨⟨2, op, 0, c0, q1, 0, sq, (k1, k2), b7, q10, cs, []⟩, ca, cn, cc, none, 0, 0, rfl, ⟨hat9, HCN.out, HCB.out.2.1, HCB.out.2.2.1, .inl rfl, rfl, Nat.le_refl _, by simp [maxLen], fun h => by simp at h, fun _ => ⟨rfl, rfl⟩⟩, hok, ((((((((((((((((((((((((((HT10.out).setn (o := 0) (v := .int .i64 2) zt)).setn (o := 1) (v := .int .i64 op) zt)).setn (o := 2) (v := .int .i64 0) zt)).setn (o := 3) (v := .int .i64 c0) zt)).setn (o := 4) (v := .int .i64 q1) zt)).setn (o := 5) (v := .int .i64 0) zt)).setn (o := 6) (v := .int .i64 sq) zt)).setn (o := 7) (v := .string k1) zt)).setn (o := 8) (v := .string k2) zt)).setn (o := 9) (v := .bool b7) zt)).setn (o := 10) (v := .int .u32 q10) zt)).setn (o := 11) (v := .slice ca cn cc) zt)).setn (o := 12) (v := .slice none 0 0) zt), ((((((((((((((((((((((((((HK10.out).setnew (o := 0) (v := .int .i64 2) zn.out)).setnew (o := 1) (v := .int .i64 op) zn.out)).setnew (o := 2) (v := .int .i64 0) zn.out)).setnew (o := 3) (v := .int .i64 c0) zn.out)).setnew (o := 4) (v := .int .i64 q1) zn.out)).setnew (o := 5) (v := .int .i64 0) zn.out)).setnew (o := 6) (v := .int .i64 sq) zn.out)).setnew (o := 7) (v := .string k1) zn.out)).setnew (o := 8) (v := .string k2) zn.out)).setnew (o := 9) (v := .bool b7) zn.out)).setnew (o := 10) (v := .int .u32 q10) zn.out)).setnew (o := 11) (v := .slice ca cn cc) zn.out)).setnew (o := 12) (v := .slice none 0 0) zn.out)⟩
  · have hc := blk_cell HM2.out
    have hl := blk_lt HM2.out
    go_wp2_with fail
    refine (tapeCardsF ra rlen rcap rz tb 6 w2 HT2.out (HRW.out.bar HK2.out) (by omega)).mono ?_
    rintro e w3 ⟨v9, cs, rfl, ho, hcl, hcf, ht, hb⟩
    obtain ⟨ca, cc, rfl, hcc, hcm, hat, -, -⟩ := ho.read
    obtain ⟨cn, hcn⟩ : ∃ n, cs.length = n := ⟨_, rfl⟩
    rw [hcn] at hcc hcl ⊢
    have HCN := Lib.hid hcn
    have HCC := Lib.hid hcc
    have HCM := Lib.hid hcm
    have HCF := Lib.hid hcf
    have HAT := Lib.hid hat
    clear ho hcf hcc hcm hat hcn
    clear hc hl
    have HT3 := Lib.hid ht
    have HK3 := Lib.hid (HK2.out.trans hb)
    have HZ3 := Lib.hid (hb.blk zt HZ2.out)
    have HM3 := Lib.hid (hb.blk mt HM2.out)
    clear ht hb HT2 HK2 HZ2 HM2
    have hc := blk_cell HM3.out
    have hf := blk_free HM3.out
    have hl := blk_lt HM3.out
    go_upto_region 18 with (fail)
    clear hc hf hl
    have HM4 := Lib.hid (blk_set (n := 11) (u := .slice ca cn cc) (vs' := #[.int .i64 3, .int .i64 0, .int .i64 0, .int .i64 0, .int .i64 0, .int .i64 0, .int .i64 0, .string ⟨#[]⟩, .string ⟨#[]⟩, .bool false, .int .u32 0, .slice ca cn cc, .slice none 0 0]) (HM3.out) (by simp))
    have HK4 := Lib.hid ((HK3.out).setnew (o := 11) (v := .slice ca cn cc) mn.out)
    have HZ4 := Lib.hid (blk_set_other (b := z) (b' := m) (n := 11) (u := .slice ca cn cc) zm (HZ3.out))
    have HT4 := Lib.hid ((HT3.out).setn (o := 11) (v := .slice ca cn cc) mt)
    have HAT2 := Lib.hid (show CAt ((w3.setCell ⟨m, 11, none⟩ (.slice ca cn cc))) ca cs from HAT.out.keptT (HM3.out) (by decide) ((Kept.refl _ _).setCell _ _))
    clear HAT
    clear HM3 HK3 HZ3 HT3
    generalize (w3.setCell ⟨m, 11, none⟩ (.slice ca cn cc)) = w4 at *
    have hc := blk_cell HM4.out
    have hl := blk_lt HM4.out
    have hcz := blk_cell HZ4.out
    have hfz := blk_free HZ4.out
    have hlz := blk_lt HZ4.out
    go_wp2_with fail
    have hk2 := blk_cell (blk_fillM (v0 := .int .i64 3) (v1 := .int .i64 0) (v2 := .int .i64 0) (v3 := .int .i64 0) (v4 := .int .i64 0) (v5 := .int .i64 0) (v6 := .int .i64 0) (v7 := .string ⟨#[]⟩) (v8 := .string ⟨#[]⟩) (v9 := .bool false) (v10 := .int .u32 0) (v11 := .slice ca cn cc) (v12 := .slice none 0 0) HZ4.out rfl)
    have hok : MgOk (⟨3, 0, 0, 0, 0, 0, 0, (⟨#[]⟩, ⟨#[]⟩), false, 0, cs, []⟩ : Mg) := by
      refine ⟨⟨by simp, by simp, by simp, by simp⟩, .inr (.inr (.inl ⟨by simp, ⟨rfl, rfl, rfl, rfl, rfl, rfl, rfl, rfl, rfl⟩, rfl, by have := HCN.out; simp only []; omega, fun x hx => (HCF.out x hx).g⟩))⟩
    have hat9 := HAT2.out.keptT HZ4.out (by decide) (kept13 (v0 := .int .i64 3) (v1 := .int .i64 0) (v2 := .int .i64 0) (v3 := .int .i64 0) (v4 := .int .i64 0) (v5 := .int .i64 0) (v6 := .int .i64 0) (v7 := .string ⟨#[]⟩) (v8 := .string ⟨#[]⟩) (v9 := .bool false) (v10 := .int .u32 0) (v11 := .slice ca cn cc) (v12 := .slice none 0 0))
    exact bodyPost_ret (v := .agg #[.int .i64 3, .int .i64 0, .int .i64 0, .int .i64 0, .int .i64 0, .int .i64 0, .int .i64 0, .string ⟨#[]⟩, .string ⟨#[]⟩, .bool false, .int .u32 0, .slice ca cn cc, .slice none 0 0]) (by simp [results, Try.results8, go_sem, hk2]) rfl ⟨⟨3, 0, 0, 0, 0, 0, 0, (⟨#[]⟩, ⟨#[]⟩), false, 0, cs, []⟩, ca, cn, cc, none, 0, 0, rfl, ⟨hat9, HCN.out, HCC.out, HCM.out, .inl rfl, rfl, Nat.le_refl _, by simp [maxLen], fun h => by simp at h, fun _ => ⟨rfl, rfl⟩⟩, hok, ((((((((((((((((((((((((((HT4.out).setn (o := 0) (v := .int .i64 3) zt)).setn (o := 1) (v := .int .i64 0) zt)).setn (o := 2) (v := .int .i64 0) zt)).setn (o := 3) (v := .int .i64 0) zt)).setn (o := 4) (v := .int .i64 0) zt)).setn (o := 5) (v := .int .i64 0) zt)).setn (o := 6) (v := .int .i64 0) zt)).setn (o := 7) (v := .string ⟨#[]⟩) zt)).setn (o := 8) (v := .string ⟨#[]⟩) zt)).setn (o := 9) (v := .bool false) zt)).setn (o := 10) (v := .int .u32 0) zt)).setn (o := 11) (v := .slice ca cn cc) zt)).setn (o := 12) (v := .slice none 0 0) zt), ((((((((((((((((((((((((((HK4.out).setnew (o := 0) (v := .int .i64 3) zn.out)).setnew (o := 1) (v := .int .i64 0) zn.out)).setnew (o := 2) (v := .int .i64 0) zn.out)).setnew (o := 3) (v := .int .i64 0) zn.out)).setnew (o := 4) (v := .int .i64 0) zn.out)).setnew (o := 5) (v := .int .i64 0) zn.out)).setnew (o := 6) (v := .int .i64 0) zn.out)).setnew (o := 7) (v := .string ⟨#[]⟩) zn.out)).setnew (o := 8) (v := .string ⟨#[]⟩) zn.out)).setnew (o := 9) (v := .bool false) zn.out)).setnew (o := 10) (v := .int .u32 0) zn.out)).setnew (o := 11) (v := .slice ca cn cc) zn.out)).setnew (o := 12) (v := .slice none 0 0) zn.out)⟩
  · have hc := blk_cell HM2.out
    have hl := blk_lt HM2.out
    go_wp2_with fail
    refine (tapeCardsF ra rlen rcap rz tb 6 w2 HT2.out (HRW.out.bar HK2.out) (by omega)).mono ?_
    rintro e w3 ⟨v9, cs, rfl, ho, hcl, hcf, ht, hb⟩
    obtain ⟨ca, cc, rfl, hcc, hcm, hat, -, -⟩ := ho.read
    obtain ⟨cn, hcn⟩ : ∃ n, cs.length = n := ⟨_, rfl⟩
    rw [hcn] at hcc hcl ⊢
    have HCN := Lib.hid hcn
    have HCC := Lib.hid hcc
    have HCM := Lib.hid hcm
    have HCF := Lib.hid hcf
    have HAT := Lib.hid hat
    clear ho hcf hcc hcm hat hcn
    clear hc hl
    have HT3 := Lib.hid ht
    have HK3 := Lib.hid (HK2.out.trans hb)
    have HZ3 := Lib.hid (hb.blk zt HZ2.out)
    have HM3 := Lib.hid (hb.blk mt HM2.out)
    clear ht hb HT2 HK2 HZ2 HM2
    have hc := blk_cell HM3.out
    have hf := blk_free HM3.out
    have hl := blk_lt HM3.out
    go_upto_region 18 with (fail)
    clear hc hf hl
    have HM4 := Lib.hid (blk_set (n := 11) (u := .slice ca cn cc) (vs' := #[.int .i64 4, .int .i64 0, .int .i64 0, .int .i64 0, .int .i64 0, .int .i64 0, .int .i64 0, .string ⟨#[]⟩, .string ⟨#[]⟩, .bool false, .int .u32 0, .slice ca cn cc, .slice none 0 0]) (HM3.out) (by simp))
    have HK4 := Lib.hid ((HK3.out).setnew (o := 11) (v := .slice ca cn cc) mn.out)
    have HZ4 := Lib.hid (blk_set_other (b := z) (b' := m) (n := 11) (u := .slice ca cn cc) zm (HZ3.out))
    have HT4 := Lib.hid ((HT3.out).setn (o := 11) (v := .slice ca cn cc) mt)
    have HAT2 := Lib.hid (show CAt ((w3.setCell ⟨m, 11, none⟩ (.slice ca cn cc))) ca cs from HAT.out.keptT (HM3.out) (by decide) ((Kept.refl _ _).setCell _ _))
    clear HAT
    clear HM3 HK3 HZ3 HT3
    generalize (w3.setCell ⟨m, 11, none⟩ (.slice ca cn cc)) = w4 at *
    have hc := blk_cell HM4.out
    have hl := blk_lt HM4.out
    have hcz := blk_cell HZ4.out
    have hfz := blk_free HZ4.out
    have hlz := blk_lt HZ4.out
    go_wp2_with fail
    have hk2 := blk_cell (blk_fillM (v0 := .int .i64 4) (v1 := .int .i64 0) (v2 := .int .i64 0) (v3 := .int .i64 0) (v4 := .int .i64 0) (v5 := .int .i64 0) (v6 := .int .i64 0) (v7 := .string ⟨#[]⟩) (v8 := .string ⟨#[]⟩) (v9 := .bool false) (v10 := .int .u32 0) (v11 := .slice ca cn cc) (v12 := .slice none 0 0) HZ4.out rfl)
    have hok : MgOk (⟨4, 0, 0, 0, 0, 0, 0, (⟨#[]⟩, ⟨#[]⟩), false, 0, cs, []⟩ : Mg) := by
      refine ⟨⟨by simp, by simp, by simp, by simp⟩, .inr (.inr (.inl ⟨by simp, ⟨rfl, rfl, rfl, rfl, rfl, rfl, rfl, rfl, rfl⟩, rfl, by have := HCN.out; simp only []; omega, fun x hx => (HCF.out x hx).g⟩))⟩
    have hat9 := HAT2.out.keptT HZ4.out (by decide) (kept13 (v0 := .int .i64 4) (v1 := .int .i64 0) (v2 := .int .i64 0) (v3 := .int .i64 0) (v4 := .int .i64 0) (v5 := .int .i64 0) (v6 := .int .i64 0) (v7 := .string ⟨#[]⟩) (v8 := .string ⟨#[]⟩) (v9 := .bool false) (v10 := .int .u32 0) (v11 := .slice ca cn cc) (v12 := .slice none 0 0))
    exact bodyPost_ret (v := .agg #[.int .i64 4, .int .i64 0, .int .i64 0, .int .i64 0, .int .i64 0, .int .i64 0, .int .i64 0, .string ⟨#[]⟩, .string ⟨#[]⟩, .bool false, .int .u32 0, .slice ca cn cc, .slice none 0 0]) (by simp [results, Try.results8, go_sem, hk2]) rfl ⟨⟨4, 0, 0, 0, 0, 0, 0, (⟨#[]⟩, ⟨#[]⟩), false, 0, cs, []⟩, ca, cn, cc, none, 0, 0, rfl, ⟨hat9, HCN.out, HCC.out, HCM.out, .inl rfl, rfl, Nat.le_refl _, by simp [maxLen], fun h => by simp at h, fun _ => ⟨rfl, rfl⟩⟩, hok, ((((((((((((((((((((((((((HT4.out).setn (o := 0) (v := .int .i64 4) zt)).setn (o := 1) (v := .int .i64 0) zt)).setn (o := 2) (v := .int .i64 0) zt)).setn (o := 3) (v := .int .i64 0) zt)).setn (o := 4) (v := .int .i64 0) zt)).setn (o := 5) (v := .int .i64 0) zt)).setn (o := 6) (v := .int .i64 0) zt)).setn (o := 7) (v := .string ⟨#[]⟩) zt)).setn (o := 8) (v := .string ⟨#[]⟩) zt)).setn (o := 9) (v := .bool false) zt)).setn (o := 10) (v := .int .u32 0) zt)).setn (o := 11) (v := .slice ca cn cc) zt)).setn (o := 12) (v := .slice none 0 0) zt), ((((((((((((((((((((((((((HK4.out).setnew (o := 0) (v := .int .i64 4) zn.out)).setnew (o := 1) (v := .int .i64 0) zn.out)).setnew (o := 2) (v := .int .i64 0) zn.out)).setnew (o := 3) (v := .int .i64 0) zn.out)).setnew (o := 4) (v := .int .i64 0) zn.out)).setnew (o := 5) (v := .int .i64 0) zn.out)).setnew (o := 6) (v := .int .i64 0) zn.out)).setnew (o := 7) (v := .string ⟨#[]⟩) zn.out)).setnew (o := 8) (v := .string ⟨#[]⟩) zn.out)).setnew (o := 9) (v := .bool false) zn.out)).setnew (o := 10) (v := .int .u32 0) zn.out)).setnew (o := 11) (v := .slice ca cn cc) zn.out)).setnew (o := 12) (v := .slice none 0 0) zn.out)⟩
  · have hc := blk_cell HM2.out
    have hl := blk_lt HM2.out
    go_wp2_with fail
    refine (tapeNextK ra rlen rcap rz tb 6 w2 HT2.out (HRW.out.bar HK2.out) (by omega) (by omega)).mono ?_
    rintro e w3 ⟨q1, rfl, hq10, hq11, ht, hb⟩
    clear hc hl
    have HT3 := Lib.hid ht
    have HK3 := Lib.hid (HK2.out.trans hb)
    have HZ3 := Lib.hid (hb.blk zt HZ2.out)
    have HM3 := Lib.hid (hb.blk mt HM2.out)
    clear ht hb HT2 HK2 HZ2 HM2
    obtain ⟨N0, rfl⟩ : ∃ N0 : Nat, q1 = (N0 : Int) := ⟨q1.toNat, by omega⟩
    have hN0 : N0 ≤ 5 := by omega
    clear hq10 hq11
    obtain ⟨B, hB⟩ : ∃ B, w.heap.size = B := ⟨_, rfl⟩
    have HBB := Lib.hid (show w.heap.size ≤ B by omega)
    have HBC := Lib.hid (show B ≤ w.heap.size by omega)
    clear hB
    obtain ⟨i0, hi, hz0, hz1, hz2⟩ := info_parts' info_ky
    go_wp2_with fail
    go_loopw [4] (fun n wr => ∃ (N : Nat) (ks : List Ky) (kv : Value), n = .int .i64 (N : Int) ∧ OwnK B wr kv ks ∧ ks.length + N ≤ 5 ∧ (∀ k ∈ ks, kyB k = true) ∧ TapeK ra rlen rcap wr tb ∧ Bar tb w wr ∧ wr.heap[z]? = some (.cells #[.int .i64 0, .int .i64 0, .int .i64 0, .int .i64 0, .int .i64 0, .int .i64 0, .int .i64 0, .string ⟨#[]⟩, .string ⟨#[]⟩, .bool false, .int .u32 0, .slice none 0 0, .slice none 0 0] 36 (0, 0)) ∧ wr.heap[m]? = some (.cells #[.int .i64 5, .int .i64 0, .int .i64 0, .int .i64 0, .int .i64 0, .int .i64 0, .int .i64 0, .string ⟨#[]⟩, .string ⟨#[]⟩, .bool false, .int .u32 0, .slice none 0 0, kv] 36 (0, 0))) (fun n _ => (intOf n).toNat)
    case atStart => exact ⟨N0, [], .slice none 0 0, rfl, OwnR.nil _ _, by simpa using hN0, by simp, HT3.out, HK3.out, HZ3.out, HM3.out⟩
    case round =>
      obtain ⟨w9, rfl⟩ : ∃ y : World, y = wr := ⟨_, rfl⟩
      obtain ⟨N, ks, kv, rfl, ho, hl, hok, hT9, hK9, hZ9, hM9⟩ := hrel
      obtain ⟨ka, kc, rfl, hkc, hkm, hat, -, -⟩ := OwnR.read ky_len ho
      obtain ⟨kn, hkn⟩ : ∃ n, ks.length = n := ⟨_, rfl⟩
      have HKN := Lib.hid hkn
      rw [hkn] at hl hkc hM9 ho
      have HO9 := Lib.hid ho
      have HOK9 := Lib.hid hok
      have HT9 := Lib.hid hT9
      have HK9 := Lib.hid hK9
      have HZ9 := Lib.hid hZ9
      have HM9 := Lib.hid hM9
      have HKC := Lib.hid hkc
      have HKM := Lib.hid hkm
      have HAT := Lib.hid hat
      clear ho hok hT9 hK9 hZ9 hM9 hkn hkm hat HT3 HK3 HZ3 HM3
      by_cases hlt : N = 0
      · subst hlt
        have hc := blk_cell HM9.out
        have hl := blk_lt HM9.out
        go_upto_region 18 with (fail)
        clear hc hl
        have hc := blk_cell HM9.out
        have hl := blk_lt HM9.out
        have hcz := blk_cell HZ9.out
        have hfz := blk_free HZ9.out
        have hlz := blk_lt HZ9.out
        go_wp2_with fail
        have hk2 := blk_cell (blk_fillM (v0 := .int .i64 5) (v1 := .int .i64 0) (v2 := .int .i64 0) (v3 := .int .i64 0) (v4 := .int .i64 0) (v5 := .int .i64 0) (v6 := .int .i64 0) (v7 := .string ⟨#[]⟩) (v8 := .string ⟨#[]⟩) (v9 := .bool false) (v10 := .int .u32 0) (v11 := .slice none 0 0) (v12 := .slice ka kn kc) HZ9.out rfl)
        have hok : MgOk (⟨5, 0, 0, 0, 0, 0, 0, (⟨#[]⟩, ⟨#[]⟩), false, 0, [], ks⟩ : Mg) := by
          refine ⟨⟨by simp, by simp, by simp, by simp⟩, .inr (.inr (.inr ⟨rfl, ⟨rfl, rfl, rfl, rfl, rfl, rfl, rfl, rfl, rfl⟩, rfl, by have := HKN.out; simp only []; omega, fun x hx => HOK9.out x hx⟩))⟩
        have hat9 := KyAt.keptT HAT.out HZ9.out (by decide) (kept13 (v0 := .int .i64 5) (v1 := .int .i64 0) (v2 := .int .i64 0) (v3 := .int .i64 0) (v4 := .int .i64 0) (v5 := .int .i64 0) (v6 := .int .i64 0) (v7 := .string ⟨#[]⟩) (v8 := .string ⟨#[]⟩) (v9 := .bool false) (v10 := .int .u32 0) (v11 := .slice none 0 0) (v12 := .slice ka kn kc))
        exact bodyPost_ret (v := .agg #[.int .i64 5, .int .i64 0, .int .i64 0, .int .i64 0, .int .i64 0, .int .i64 0, .int .i64 0, .string ⟨#[]⟩, .string ⟨#[]⟩, .bool false, .int .u32 0, .slice none 0 0, .slice ka kn kc]) (by simp [results, Try.results8, go_sem, hk2]) rfl ⟨⟨5, 0, 0, 0, 0, 0, 0, (⟨#[]⟩, ⟨#[]⟩), false, 0, [], ks⟩, none, 0, 0, ka, kn, kc, rfl, ⟨.inl rfl, rfl, Nat.le_refl _, by simp [maxLen], hat9, HKN.out, HKC.out, HKM.out, fun _ => ⟨rfl, rfl⟩, fun h => by simp at h⟩, hok, ((((((((((((((((((((((((((HT9.out).setn (o := 0) (v := .int .i64 5) zt)).setn (o := 1) (v := .int .i64 0) zt)).setn (o := 2) (v := .int .i64 0) zt)).setn (o := 3) (v := .int .i64 0) zt)).setn (o := 4) (v := .int .i64 0) zt)).setn (o := 5) (v := .int .i64 0) zt)).setn (o := 6) (v := .int .i64 0) zt)).setn (o := 7) (v := .string ⟨#[]⟩) zt)).setn (o := 8) (v := .string ⟨#[]⟩) zt)).setn (o := 9) (v := .bool false) zt)).setn (o := 10) (v := .int .u32 0) zt)).setn (o := 11) (v := .slice none 0 0) zt)).setn (o := 12) (v := .slice ka kn kc) zt), ((((((((((((((((((((((((((HK9.out).setnew (o := 0) (v := .int .i64 5) zn.out)).setnew (o := 1) (v := .int .i64 0) zn.out)).setnew (o := 2) (v := .int .i64 0) zn.out)).setnew (o := 3) (v := .int .i64 0) zn.out)).setnew (o := 4) (v := .int .i64 0) zn.out)).setnew (o := 5) (v := .int .i64 0) zn.out)).setnew (o := 6) (v := .int .i64 0) zn.out)).setnew (o := 7) (v := .string ⟨#[]⟩) zn.out)).setnew (o := 8) (v := .string ⟨#[]⟩) zn.out)).setnew (o := 9) (v := .bool false) zn.out)).setnew (o := 10) (v := .int .u32 0) zn.out)).setnew (o := 11) (v := .slice none 0 0) zn.out)).setnew (o := 12) (v := .slice ka kn kc) zn.out)⟩
      · have hdN : decide (0 < (N : Int)) = true := by simp; omega
        obtain ⟨M, rfl⟩ : ∃ M, N = M + 1 := ⟨N - 1, by omega⟩
        go_upto_region 17 with (fail)
        clear hdN
        refine wp_region_inv_eq (J := fun A d act x => ∃ u68 u69 u70 u71 u72 u73 u74 : Value, act = (((((((A.put (some 68) u68).put (some 69) u69).put (some 70) u70).put (some 71) u71).put (some 72) u72).put (some 73) u73).put (some 74) u74) ∧ (d 0 = true → u68 = .pointer (some ⟨m, 12, none⟩)) ∧ (d 1 = true → u69 = .slice ka kn kc) ∧ (d 2 = true → u70 = .pointer (some ⟨tb, 0, none⟩)) ∧ (d 3 = true → (∃ k1 k2 : ByteArray, u71 = .agg #[.string k1, .string k2] ∧ KA k1 ∧ KI k2)) ∧ (d 4 = true → (∃ (nb : Nat) (k1 k2 : ByteArray), u72 = .slice (some ⟨nb, 0, none⟩) 1 1 ∧ KA k1 ∧ KI k2 ∧ (d 5 = false → x.heap[nb]? = some (.cells #[.string k1, .string k2] 31 (0, 0))))) ∧ (d 5 = true → (∃ k1 k2 : ByteArray, KA k1 ∧ KI k2 ∧ OwnK B x u73 (ks ++ [(k1, k2)]))) ∧ (d 6 = true → u74 = .pointer (some ⟨m, 12, none⟩)) ∧ TapeK ra rlen rcap x tb ∧ Bar tb w x ∧ x.heap[z]? = some (.cells #[.int .i64 0, .int .i64 0, .int .i64 0, .int .i64 0, .int .i64 0, .int .i64 0, .int .i64 0, .string ⟨#[]⟩, .string ⟨#[]⟩, .bool false, .int .u32 0, .slice none 0 0, .slice none 0 0] 36 (0, 0)) ∧ (∃ c : Value, x.heap[m]? = some (.cells #[.int .i64 5, .int .i64 0, .int .i64 0, .int .i64 0, .int .i64 0, .int .i64 0, .int .i64 0, .string ⟨#[]⟩, .string ⟨#[]⟩, .bool false, .int .u32 0, .slice none 0 0, c] 36 (0, 0)) ∧ (d 7 = false → c = .slice ka kn kc) ∧ (d 7 = true → c = u73)) ∧ (d 5 = false → OwnK B x (.slice ka kn kc) ks) ∧ (d 7 = true → d 5 = true) ∧ (d 5 = true → d 1 = true)) (by simp only [Act.put, List.setIfInBounds_toArray, List.set_cons_succ, List.set_cons_zero]; rfl) (by kernel_rfl) (by kernel_rfl) ?_ ?_ ?_
        · refine ⟨_, _, _, _, _, _, _, rfl, ?_, ?_, ?_, ?_, ?_, ?_, ?_, ?_, ?_, ?_, ?_, ?_, ?_, ?_⟩
          · intro h; cases h
          · intro h; cases h
          · intro h; cases h
          · intro h; cases h
          · intro h; cases h
          · intro h; cases h
          · intro h; cases h
          · exact HT9.out.ext ((Below.refl _ _).drew)
          · exact HK9.out.trans (Bar.of ((Below.refl _ _).drew))
          · exact blk_drew HZ9.out
          · exact ⟨_, blk_drew HM9.out, (fun _ => rfl), (fun h => by cases h)⟩
          · exact (fun _ => OwnR.ext HO9.out ((Below.refl _ _).drew))
          · exact (fun h => by cases h)
          · exact (fun h => by cases h)
        · refine stepsOk_cons (k := 0) ?_ (stepsOk_cons (k := 1) ?_ (stepsOk_cons (k := 2) ?_ (stepsOk_cons (k := 3) ?_ (stepsOk_cons (k := 4) ?_ (stepsOk_cons (k := 5) ?_ (stepsOk_cons (k := 6) ?_ (stepsOk_cons (k := 7) ?_ stepsOk_nil)))))))
          · unfold StepOk
            rintro d act x ⟨u68, u69, u70, u71, u72, u73, u74, rfl, f0, f1, f2, f3, f4, f5, f6, g0, g1, g2, g3, g4, g5, g6⟩ hd hdep Kc hKc
            rw [if_pos (by rfl)]
            go_big_op
            refine hKc _ _ ⟨_, _, _, _, _, _, _, rfl, ?_, ?_, ?_, ?_, ?_, ?_, ?_, ?_, ?_, ?_, ?_, ?_, ?_, ?_⟩
            · exact (fun _ => rfl)
            · exact (fun h => f1 (up h rfl))
            · exact (fun h => f2 (up h rfl))
            · exact (fun h => f3 (up h rfl))
            · exact (fun h => by obtain ⟨nb, k1, k2, q1, qa, qb, q2⟩ := f4 (up h rfl); exact ⟨nb, k1, k2, q1, qa, qb, fun h5 => by have q2 := q2 (dn h5); exact q2⟩)
            · exact (fun h => by obtain ⟨k1, k2, qa, qb, q2⟩ := f5 (up h rfl); exact ⟨k1, k2, qa, qb, q2⟩)
            · exact (fun h => f6 (up h rfl))
            · exact g0
            · exact g1
            · exact g2
            · exact (by obtain ⟨c, q, r1, r2⟩ := g3; exact ⟨c, q, (fun h => r1 (dn h)), (fun h => r2 (up h rfl))⟩)
            · exact (fun h => g4 (dn h))
            · exact (fun h => upl (g5 (up h rfl)))
            · exact (fun h => upl (g6 (up h rfl)))
          · unfold StepOk
            rintro d act x ⟨u68, u69, u70, u71, u72, u73, u74, rfl, f0, f1, f2, f3, f4, f5, f6, g0, g1, g2, g3, g4, g5, g6⟩ hd hdep Kc hKc
            have hd0 : d 0 = true := hdep ⟨0, .data⟩ (by simp) rfl
            obtain rfl := f0 hd0
            obtain ⟨c, hmm, e1, -⟩ := id g3
            obtain rfl := e1 (by cases h7 : d 7 with | false => rfl | true => have := g6 (g5 h7); rw [hd] at this; cases this)
            have hx := blk_cell hmm
            have hxl := blk_lt hmm
            rw [if_pos (by rfl)]
            go_big_op
            refine hKc _ _ ⟨_, _, _, _, _, _, _, rfl, ?_, ?_, ?_, ?_, ?_, ?_, ?_, ?_, ?_, ?_, ?_, ?_, ?_, ?_⟩
            · exact (fun h => f0 (up h rfl))
            · exact (fun _ => rfl)
            · exact (fun h => f2 (up h rfl))
            · exact (fun h => f3 (up h rfl))
            · exact (fun h => by obtain ⟨nb, k1, k2, q1, qa, qb, q2⟩ := f4 (up h rfl); exact ⟨nb, k1, k2, q1, qa, qb, fun h5 => by have q2 := q2 (dn h5); exact q2⟩)
            · exact (fun h => by obtain ⟨k1, k2, qa, qb, q2⟩ := f5 (up h rfl); exact ⟨k1, k2, qa, qb, q2⟩)
            · exact (fun h => f6 (up h rfl))
            · exact g0
            · exact g1
            · exact g2
            · exact (by obtain ⟨c, q, r1, r2⟩ := g3; exact ⟨c, q, (fun h => r1 (dn h)), (fun h => r2 (up h rfl))⟩)
            · exact (fun h => g4 (dn h))
            · exact (fun h => upl (g5 (up h rfl)))
            · exact (fun h => by simp)
          · unfold StepOk
            rintro d act x ⟨u68, u69, u70, u71, u72, u73, u74, rfl, f0, f1, f2, f3, f4, f5, f6, g0, g1, g2, g3, g4, g5, g6⟩ hd hdep Kc hKc
            rw [if_pos (by rfl)]
            go_big_op
            refine hKc _ _ ⟨_, _, _, _, _, _, _, rfl, ?_, ?_, ?_, ?_, ?_, ?_, ?_, ?_, ?_, ?_, ?_, ?_, ?_, ?_⟩
            · exact (fun h => f0 (up h rfl))
            · exact (fun h => f1 (up h rfl))
            · exact (fun _ => rfl)
            · exact (fun h => f3 (up h rfl))
            · exact (fun h => by obtain ⟨nb, k1, k2, q1, qa, qb, q2⟩ := f4 (up h rfl); exact ⟨nb, k1, k2, q1, qa, qb, fun h5 => by have q2 := q2 (dn h5); exact q2⟩)
            · exact (fun h => by obtain ⟨k1, k2, qa, qb, q2⟩ := f5 (up h rfl); exact ⟨k1, k2, qa, qb, q2⟩)
            · exact (fun h => f6 (up h rfl))
            · exact g0
            · exact g1
            · exact g2
            · exact (by obtain ⟨c, q, r1, r2⟩ := g3; exact ⟨c, q, (fun h => r1 (dn h)), (fun h => r2 (up h rfl))⟩)
            · exact (fun h => g4 (dn h))
            · exact (fun h => upl (g5 (up h rfl)))
            · exact (fun h => upl (g6 (up h rfl)))
          · unfold StepOk
            rintro d act x ⟨u68, u69, u70, u71, u72, u73, u74, rfl, f0, f1, f2, f3, f4, f5, f6, g0, g1, g2, g3, g4, g5, g6⟩ hd hdep Kc hKc
            have hd2 : d 2 = true := hdep ⟨2, .data⟩ (by simp) rfl
            obtain rfl := f2 hd2
            rw [if_pos (by rfl)]
            go_big_op
            refine (tapeKeyF ra rlen rcap rz tb _ g0 (HRW.out.bar g1)).mono ?_
            rintro e x1 ⟨k1, k2, rfl, hka, hki, hT1, hB1⟩
            refine hKc _ _ ⟨_, _, _, _, _, _, _, rfl, ?_, ?_, ?_, ?_, ?_, ?_, ?_, ?_, ?_, ?_, ?_, ?_, ?_, ?_⟩
            · exact (fun h => f0 (up h rfl))
            · exact (fun h => f1 (up h rfl))
            · exact (fun h => f2 (up h rfl))
            · exact (fun _ => ⟨k1, k2, rfl, hka, hki⟩)
            · exact (fun h => by obtain ⟨nb, k1, k2, q1, qa, qb, q2⟩ := f4 (up h rfl); exact ⟨nb, k1, k2, q1, qa, qb, fun h5 => by have q2 := q2 (dn h5); exact (hB1.blk (g0.ne (by decide) q2) q2)⟩)
            · exact (fun h => by obtain ⟨k1, k2, qa, qb, q2⟩ := f5 (up h rfl); exact ⟨k1, k2, qa, qb, (g0.own hB1 (by decide) q2)⟩)
            · exact (fun h => f6 (up h rfl))
            · exact hT1
            · exact (g1.trans hB1)
            · exact (hB1.blk zt g2)
            · exact (by obtain ⟨c, q, r1, r2⟩ := g3; exact ⟨c, (hB1.blk mt q), (fun h => r1 (dn h)), (fun h => r2 (up h rfl))⟩)
            · exact (fun h => by have q2 := g4 (dn h); exact (g0.own hB1 (by decide) q2))
            · exact (fun h => upl (g5 (up h rfl)))
            · exact (fun h => upl (g6 (up h rfl)))
          · unfold StepOk
            rintro d act x ⟨u68, u69, u70, u71, u72, u73, u74, rfl, f0, f1, f2, f3, f4, f5, f6, g0, g1, g2, g3, g4, g5, g6⟩ hd hdep Kc hKc
            have hd3 : d 3 = true := hdep ⟨3, .data⟩ (by simp) rfl
            obtain ⟨k1, k2, rfl, hka, hki⟩ := f3 hd3
            rw [if_pos (by rfl)]
            go_big_op
            refine hKc _ _ ⟨_, _, _, _, _, _, _, rfl, ?_, ?_, ?_, ?_, ?_, ?_, ?_, ?_, ?_, ?_, ?_, ?_, ?_, ?_⟩
            · exact (fun h => f0 (up h rfl))
            · exact (fun h => f1 (up h rfl))
            · exact (fun h => f2 (up h rfl))
            · exact (fun h => f3 (up h rfl))
            · exact (fun _ => ⟨_, k1, k2, rfl, hka, hki, fun _ => blk_new _ _ _⟩)
            · exact (fun h => by obtain ⟨k1, k2, qa, qb, q2⟩ := f5 (up h rfl); exact ⟨k1, k2, qa, qb, (OwnR.ext q2 ((Below.refl _ _).alloc (Nat.le_refl _) _))⟩)
            · exact (fun h => f6 (up h rfl))
            · exact (g0.ext ((Below.refl _ _).alloc (Nat.le_refl _) _))
            · exact (g1.trans (Bar.of ((Below.refl _ _).alloc (Nat.le_refl _) _)))
            · exact (blk_alloc g2 _)
            · exact (by obtain ⟨c, q, r1, r2⟩ := g3; exact ⟨c, (blk_alloc q _), (fun h => r1 (dn h)), (fun h => r2 (up h rfl))⟩)
            · exact (fun h => by have q2 := g4 (dn h); exact (OwnR.ext q2 ((Below.refl _ _).alloc (Nat.le_refl _) _)))
            · exact (fun h => upl (g5 (up h rfl)))
            · exact (fun h => upl (g6 (up h rfl)))
          · unfold StepOk
            rintro d act x ⟨u68, u69, u70, u71, u72, u73, u74, rfl, f0, f1, f2, f3, f4, f5, f6, g0, g1, g2, g3, g4, g5, g6⟩ hd hdep Kc hKc
            have hd1 : d 1 = true := hdep ⟨1, .data⟩ (by simp) rfl
            have hd4 : d 4 = true := hdep ⟨4, .data⟩ (by simp) rfl
            obtain rfl := f1 hd1
            obtain ⟨nb, k1, k2, rfl, hka, hki, hnb⟩ := f4 hd4
            have hnb := hnb hd
            have ho1' : x.ownsRow B 31 2 (.slice ka kn kc) kn (flat ky ks) := by have := g4 hd; unfold OwnK OwnR at this; rw [HKN.out] at this; exact this
            rw [if_pos (by rfl)]
            refine wp_append_own _ _ _ 34 rfl B 31 i0 (.agg #[.string ⟨#[]⟩, .string ⟨#[]⟩]) 2 32 Try.underlying34 hi hz0 hz1 hz2 rfl (by decide) _ kn (flat ky ks) rfl ho1' ⟨nb, 0, none⟩ 1 1 (ky (k1, k2)) rfl rfl ?c1 ?c2 ?c3 ?c4 ?c5 ?_
            case c1 =>
              intro j u hj
              rw [add_off, Nat.zero_add, blk_cell hnb]
              simpa [ky] using hj
            case c2 => exact ky_one (k1, k2)
            case c3 => unfold maxLen; omega
            case c4 => omega
            case c5 => exact Nat.le_trans HBC.out g1.size
            intro v' x1 hown' hgrow _
            have hbar5 : Bar tb w x1 := g1.grown hgrow (fun q hq => Nat.le_trans HBB.out (own_ge ho1' hq))
            have hT5 : TapeK ra rlen rcap x1 tb := by
              obtain ⟨q, e1, e2⟩ := g0
              exact ⟨q, (hgrow.block tb (blk_lt e1) (own_ne ho1' e1 (by decide))).trans e1, e2⟩
            refine hKc _ _ ⟨_, _, _, _, _, _, _, rfl, ?_, ?_, ?_, ?_, ?_, ?_, ?_, ?_, ?_, ?_, ?_, ?_, ?_, ?_⟩
            · exact (fun h => f0 (up h rfl))
            · exact (fun h => f1 (up h rfl))
            · exact (fun h => f2 (up h rfl))
            · exact (fun h => f3 (up h rfl))
            · exact (fun h => by obtain ⟨nb, k1, k2, q1, qa, qb, q2⟩ := f4 (up h rfl); exact ⟨nb, k1, k2, q1, qa, qb, fun h5 => by simp at h5⟩)
            · exact (fun _ => ⟨k1, k2, hka, hki, by unfold OwnK OwnR; rw [flat_snoc, List.length_append, HKN.out]; exact hown'⟩)
            · exact (fun h => f6 (up h rfl))
            · exact hT5
            · exact hbar5
            · exact ((hgrow.block z (blk_lt g2) (own_ne ho1' g2 (by decide))).trans g2)
            · exact (by obtain ⟨c, q, r1, r2⟩ := g3; exact ⟨c, ((hgrow.block m (blk_lt q) (own_ne ho1' q (by decide))).trans q), (fun h => r1 (dn h)), (fun h => by have := g5 (up h rfl); rw [hd] at this; cases this)⟩)
            · exact (fun h => by simp at h)
            · exact (fun h => by simp)
            · exact (fun h => upl hd1)
          · unfold StepOk
            rintro d act x ⟨u68, u69, u70, u71, u72, u73, u74, rfl, f0, f1, f2, f3, f4, f5, f6, g0, g1, g2, g3, g4, g5, g6⟩ hd hdep Kc hKc
            rw [if_pos (by rfl)]
            go_big_op
            refine hKc _ _ ⟨_, _, _, _, _, _, _, rfl, ?_, ?_, ?_, ?_, ?_, ?_, ?_, ?_, ?_, ?_, ?_, ?_, ?_, ?_⟩
            · exact (fun h => f0 (up h rfl))
            · exact (fun h => f1 (up h rfl))
            · exact (fun h => f2 (up h rfl))
            · exact (fun h => f3 (up h rfl))
            · exact (fun h => by obtain ⟨nb, k1, k2, q1, qa, qb, q2⟩ := f4 (up h rfl); exact ⟨nb, k1, k2, q1, qa, qb, fun h5 => by have q2 := q2 (dn h5); exact q2⟩)
            · exact (fun h => by obtain ⟨k1, k2, qa, qb, q2⟩ := f5 (up h rfl); exact ⟨k1, k2, qa, qb, q2⟩)
            · exact (fun _ => rfl)
            · exact g0
            · exact g1
            · exact g2
            · exact (by obtain ⟨c, q, r1, r2⟩ := g3; exact ⟨c, q, (fun h => r1 (dn h)), (fun h => r2 (up h rfl))⟩)
            · exact (fun h => g4 (dn h))
            · exact (fun h => upl (g5 (up h rfl)))
            · exact (fun h => upl (g6 (up h rfl)))
          · unfold StepOk
            rintro d act x ⟨u68, u69, u70, u71, u72, u73, u74, rfl, f0, f1, f2, f3, f4, f5, f6, g0, g1, g2, g3, g4, g5, g6⟩ hd hdep Kc hKc
            have hd6 : d 6 = true := hdep ⟨6, .data⟩ (by simp) rfl
            have hd5 : d 5 = true := hdep ⟨5, .data⟩ (by simp) rfl
            have hd5 : d 5 = true := hdep ⟨5, .chain⟩ (by simp) rfl
            have hd5 : d 5 = true := hdep ⟨5, .phase⟩ (by simp) rfl
            obtain rfl := f6 hd6
            obtain ⟨k1, k2, hka, hki, ho5⟩ := f5 hd5
            obtain ⟨c', hmm, -, -⟩ := id g3
            obtain ⟨pa, pc, rfl, -, -, -⟩ := OwnR.form ho5
            have hx := blk_cell hmm
            have hxf := blk_free hmm
            have hxl := blk_lt hmm
            rw [if_pos (by rfl)]
            go_big_op
            refine hKc _ _ ⟨_, _, _, _, _, _, _, rfl, ?_, ?_, ?_, ?_, ?_, ?_, ?_, ?_, ?_, ?_, ?_, ?_, ?_, ?_⟩
            · exact (fun h => f0 (up h rfl))
            · exact (fun h => f1 (up h rfl))
            · exact (fun h => f2 (up h rfl))
            · exact (fun h => f3 (up h rfl))
            · exact (fun h => by obtain ⟨nb, k1, k2, q1, qa, qb, q2⟩ := f4 (up h rfl); exact ⟨nb, k1, k2, q1, qa, qb, fun h5 => by have q2 := q2 (dn h5); exact (blk_set_other (fun e => by rw [e] at q2; have := q2.symm.trans hmm; simp at this) q2)⟩)
            · exact (fun h => by obtain ⟨k1, k2, qa, qb, q2⟩ := f5 (up h rfl); exact ⟨k1, k2, qa, qb, (own_blocks q2 (fun k cur hc => Below.heap_setCell _ _ _ _ (fun e => by rw [e, hmm] at hc; simp at hc)))⟩)
            · exact (fun h => f6 (up h rfl))
            · exact (g0.setn mt)
            · exact (g1.setnew mn.out)
            · exact (blk_set_other zm g2)
            · exact (by obtain ⟨c, q, r1, r2⟩ := g3; exact ⟨_, (blk_set q (by simp)), (fun h => by simp at h), (fun _ => rfl)⟩)
            · exact (fun h => by have q2 := g4 (dn h); exact (own_blocks q2 (fun k cur hc => Below.heap_setCell _ _ _ _ (fun e => by rw [e, hmm] at hc; simp at hc))))
            · exact (fun h => upl hd5)
            · exact (fun h => upl (g6 (up h rfl)))
        · rintro d act x ⟨u68, u69, u70, u71, u72, u73, u74, rfl, f0, f1, f2, f3, f4, f5, f6, g0, g1, g2, g3, g4, g5, g6⟩ hall
          obtain ⟨k1, k2, hka, hki, ho5⟩ := f5 (hall 5 (by decide))
          obtain ⟨c, hmm, -, r2⟩ := g3
          obtain rfl := r2 (hall 7 (by decide))
          have HM10 := Lib.hid hmm
          have HK10 := Lib.hid g1
          have HZ10 := Lib.hid g2
          have HT10 := Lib.hid g0
          have HO10 := Lib.hid ho5
          have HKA := Lib.hid hka
          have HKI := Lib.hid hki
          clear f0 f1 f2 f3 f4 f5 f6 hall r2 hmm g0 g1 g2 g4 g5 g6 ho5 hka hki HM9 HK9 HZ9 HT9 HO9
          go_wp2
          go_roundw
          case rel => exact ⟨M, ks ++ [(k1, k2)], c, by go_num, HO10.out, by rw [List.length_append, HKN.out]; simp only [List.length_cons, List.length_nil]; omega, (fun k hk => by
            rcases List.mem_append.1 hk with hk | hk
            · exact HOK9.out k hk
            · simp at hk; subst hk; rfl), HT10.out, HK10.out, HZ10.out, HM10.out⟩
          case measure => first | (simp [intOf]; done) | (simp [intOf]; omega)

end Go.Proofs.Ytkhcgopehmndgaa
