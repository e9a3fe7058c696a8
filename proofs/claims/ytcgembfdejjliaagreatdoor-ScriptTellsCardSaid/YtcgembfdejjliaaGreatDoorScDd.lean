/- The document's own line, of any text; 'lines': what the program and the document make of a line. -/
import Derived.Test.YtcgembfdejjliaaGreatDoorScDa
import Derived.Test.YtcgembfdejjliaaGreatDoorScDb
import Derived.Test.YtcgembfdejjliaaGreatDoorScDc
import Derived.Test.YtcgembfdejjliaaGreatDoorScG
namespace Go.Proofs.YtcgembfdejjliaaGreatDoor
open Go.RowKit
set_option linter.unusedVariables false
set_option linter.unusedSimpArgs false

theorem docLine (x : ByteArray) (hx : x.size ≤ 1048576) (w : World) : DocP x w := by
  by_cases h : ∃ s ∈ shs, s.w = hdw x
  · obtain ⟨s, hs, hw⟩ := h
    by_cases hl : (wsB x).length = s.fs.size + 1
    · exact docLine_go x hx w s hs hw hl (lineD_go x s hs hw hl)
    · exact docLine_len x hx w s hs hw hl (lineD_len x s hs hw hl)
  · exact docLine_no x hx w (fun s hs e => h ⟨s, hs, e⟩) (lineD_no x fun s hs e => h ⟨s, hs, e⟩)
theorem tx_one1 (w : World) (a : ByteArray) (T : TypeId) : TxAt (w.alloc (.cells #[.string a] T)) (.slice (some ⟨w.heap.size, 0, none⟩) 1 1) [a] := by
  refine ⟨_, _, rfl, by simp, by unfold maxLen; simp, .inr ⟨_, _, rfl, fun i s hi => ?_⟩⟩
  rw [blk_cell (blk_new _ _ _)]
  match i, hi with
  | 0, hi => simpa using hi
  | n + 1, hi => simp at hi
theorem lineM_plain (x : ByteArray) (h : ¬ 0 ≤ Lib.indexByte x.data.toList 10) : lineM x = lineD x := by unfold lineM lineD; rw [if_neg h]
theorem lineM_nl (x : ByteArray) (h : 0 ≤ Lib.indexByte x.data.toList 10) : lineM x = none := by unfold lineM; rw [if_pos h]
set_option maxRecDepth 100000 in
set_option maxHeartbeats 2000000 in
theorem linesP (s : ByteArray) (hs : s.size ≤ 1048576) (w : World) (hw : SW w) :
    Calls Tryz.prog 6 #[.string s] w fun r w' => r = .returned (.bool true) ∧ Below w.heap.size w w' := by
  have HW := Lib.hid hw
  have hsm : s.size ≤ maxLen := by unfold maxLen; omega
  clear hw
  have heqn : ∀ y : World, (binOp .eql 42 .nilIface .nilIface).run Tryz.prog y = .ok (.bool true) y := fun y => by kernel_rfl
  go_enter Tryz.func6, Tryz.ntmps6
  go_wp2_with fail
  refine (lineP s hs w HW.out).mono ?_
  rintro e w1 ⟨ev, rfl, hb1, hs1, hf1⟩
  have H1 := Lib.hid (show _ ∧ _ ∧ _ from ⟨hb1, hs1, hf1⟩)
  clear hb1 hs1 hf1
  by_cases hnl : 0 ≤ Lib.indexByte s.data.toList 10
  · have hM := lineM_nl s hnl
    have hd : (!decide (0 ≤ Lib.indexByte s.data.toList 10)) = false := by simp [hnl]
    have HF := Lib.hid (H1.out.2.2 hM)
    rw [hM]
    simp only [Option.getD_none, acC, acZ]
    clear hM
    go_upto_region 2 with (fail)
    have B2 := al_below w1 (.cells #[.int .i64 0, .int .i64 0, .int .i64 0, .int .i64 0, .int .i64 0, .int .i64 0, .string ⟨#[]⟩] 29)
    have X2 := blk_new w1 #[.int .i64 0, .int .i64 0, .int .i64 0, .int .i64 0, .int .i64 0, .int .i64 0, .string ⟨#[]⟩] 29
    have H2 := Lib.hid (show _ ∧ _ ∧ _ from ⟨ext_trans H1.out.1 B2, X2, HF.out.ext B2⟩)
    generalize (w1.alloc (.cells #[.int .i64 0, .int .i64 0, .int .i64 0, .int .i64 0, .int .i64 0, .int .i64 0, .string ⟨#[]⟩] 29)) = w2 at *
    generalize w1.heap.size = p1 at *
    clear B2 X2 HF H1
    go_wp2_with fail
    refine (plainP s hsm w2).mono ?_
    rintro e w3 ⟨rfl, hb3⟩
    rw [hd]
    have H3 := Lib.hid (show _ ∧ _ ∧ _ from ⟨ext_trans H2.out.1 hb3, blk_ext hb3 H2.out.2.1, H2.out.2.2.ext hb3⟩)
    clear hb3 H2
    obtain ⟨eb, e', rfl, -, -⟩ := H3.out.2.2
    have hq := neq_flt (.pointer (some ⟨eb, 0, none⟩))
    go_wp2_with fail
    refine (faultCode_hit _ 12 _ w3 (HW.out.ext H3.out.1).eg H3.out.2.2 (by simp)).mono ?_
    rintro e w4 ⟨rfl, hb4⟩
    have H4 := Lib.hid (show _ ∧ _ from ⟨ext_trans H3.out.1 hb4, blk_ext hb4 H3.out.2.1⟩)
    have c4 := blk_cell H4.out.2
    have l4 := blk_lt H4.out.2
    clear hb4 H3
    go_wp2
    go_ret
    exact ⟨rfl, H4.out.1⟩
  · have hM := lineM_plain s hnl
    have hd : (!decide (0 ≤ Lib.indexByte s.data.toList 10)) = true := by simp [hnl]
    obtain ⟨r, hr⟩ : ∃ r, (lineM s).getD acZ = r := ⟨_, rfl⟩
    rw [hr]
    simp only [acC]
    go_upto_region 2 with (fail)
    have B2 := al_below w1 (.cells #[.int .i64 r.k, .int .i64 r.a, .int .i64 r.b, .int .i64 r.op, .int .i64 r.st, .int .i64 r.n, .string r.app] 29)
    have X2 := blk_new w1 #[.int .i64 r.k, .int .i64 r.a, .int .i64 r.b, .int .i64 r.op, .int .i64 r.st, .int .i64 r.n, .string r.app] 29
    have H2 := Lib.hid (show _ ∧ _ ∧ _ from ⟨ext_trans H1.out.1 B2, X2, fun h => (H1.out.2.2 h).ext B2⟩)
    generalize (w1.alloc (.cells #[.int .i64 r.k, .int .i64 r.a, .int .i64 r.b, .int .i64 r.op, .int .i64 r.st, .int .i64 r.n, .string r.app] 29)) = w2 at *
    generalize w1.heap.size = p1 at *
    clear B2 X2
    go_wp2_with fail
    refine (plainP s hsm w2).mono ?_
    rintro e w3 ⟨rfl, hb3⟩
    rw [hd]
    have H3 := Lib.hid (show _ ∧ _ ∧ _ from ⟨ext_trans H2.out.1 hb3, blk_ext hb3 H2.out.2.1, fun h => (H2.out.2.2 h).ext hb3⟩)
    clear hb3 H2
    go_wp2_with fail
    refine (docLine s hs w3).mono ?_
    rintro e w4 ⟨op, rfl, hop, hb4⟩
    rw [← hM, hr]
    obtain ⟨ok, hok⟩ : ∃ o, (lineM s).isSome = o := ⟨_, rfl⟩
    rw [hok]
    have HM := Lib.hid hM
    have HOK := Lib.hid hok
    clear hM hok
    have H4 := Lib.hid (show _ ∧ _ ∧ _ ∧ _ from ⟨ext_trans H3.out.1 hb4, blk_ext hb4 H3.out.2.1, fun h => (H3.out.2.2 h).ext hb4, hop⟩)
    simp only [acC]
    clear hb4 H3 hop
    go_upto_region 5 with (fail)
    have B5 := al_below w4 (.cells #[.int .i64 r.k, .int .i64 r.a, .int .i64 r.b, .int .i64 r.op, .int .i64 r.st, .int .i64 r.n, .string r.app] 29)
    have X5 := blk_new w4 #[.int .i64 r.k, .int .i64 r.a, .int .i64 r.b, .int .i64 r.op, .int .i64 r.st, .int .i64 r.n, .string r.app] 29
    have H5 := Lib.hid (show _ ∧ _ ∧ _ ∧ _ from ⟨ext_trans H4.out.1 B5, blk_ext B5 H4.out.2.1, fun h => (H4.out.2.2.1 h).ext B5, X5⟩)
    generalize (w4.alloc (.cells #[.int .i64 r.k, .int .i64 r.a, .int .i64 r.b, .int .i64 r.op, .int .i64 r.st, .int .i64 r.n, .string r.app] 29)) = w5 at *
    generalize w4.heap.size = p4 at *
    clear B5 X5
    have c5 := blk_cell H5.out.2.1
    have l5 := blk_lt H5.out.2.1
    have c6 := blk_cell H5.out.2.2.2
    have l6 := blk_lt H5.out.2.2.2
    cases hL : lineM s with
    | some a =>
      obtain rfl : ev = .nilIface := H1.out.2.1 (by rw [hL]; rfl)
      obtain rfl : ok = true := by rw [← HOK.out, hL]; rfl
      clear hr hL
      go_wp2
      go_ret
      exact ⟨rfl, H5.out.1⟩
    | none =>
      have hf := H5.out.2.2.1 hL
      have hop := H4.out.2.2.2 (by rw [← HM.out]; exact hL)
      obtain rfl : ok = false := by rw [← HOK.out, hL]; rfl
      rw [hL] at hr
      obtain rfl : acZ = r := hr
      have HF := Lib.hid (show FC w5 (.iface 39 (.int .i64 12)) [op] ev from by rw [hop]; exact hf)
      simp only [acZ] at c5 c6
      clear hL hf hop
      go_wp2_with fail
      have B6 : Below w5.heap.size w5 (w5.alloc (.cells #[.string op] 9)) := al_below _ _
      refine (whyP [op] ev _ _ (HW.out.ext (ext_trans H5.out.1 B6)) (HF.out.ext B6) (by simp) (by simp) (tx_one1 _ _ _)).mono ?_
      rintro e w6 ⟨rfl, hb6⟩
      have H6 := Lib.hid (ext_trans H5.out.1 (ext_trans B6 hb6))
      clear hb6 B6
      go_wp2
      go_ret
      exact ⟨rfl, H6.out⟩
end Go.Proofs.YtcgembfdejjliaaGreatDoor
