/- The law's known runs; FaultOthers. -/
import Derived.Test.YtllmkokloebomaaDoorFauI
namespace Go.Proofs.YtllmkokloebomaaDoor
open Go.RowKit Go.Extern.Stop Go.Stop Go.Extern
set_option linter.unusedVariables false
set_option linter.unusedSimpArgs false

theorem tx_two (w : World) (a b : ByteArray) (T : TypeId) : TxAt (w.alloc (.cells #[.string a, .string b] T)) (.slice (some ⟨w.heap.size, 0, none⟩) 2 2) [a, b] := by
  refine ⟨_, _, rfl, by simp, by unfold maxLen; simp, .inr ⟨_, _, rfl, fun i s hi => ?_⟩⟩
  rw [blk_cell (blk_new _ _ _)]
  match i, hi with
  | 0, hi => simpa using hi
  | 1, hi => simpa using hi
  | n + 2, hi => simp at hi

set_option maxRecDepth 100000 in
set_option maxHeartbeats 2000000 in
theorem known1 (w : World) (hG : EG w) : Calls Tryd.prog 18 #[] w fun r w' => r = .returned (.bool true) ∧ Below w.heap.size w w' := by
  have HG := Lib.hid hG
  have hnn := run_nil_nil
  clear hG
  go_enter Tryd.func18, Tryd.ntmps18
  go_wp2_with fail
  refine (faultNew ⟨#[98]⟩ 22 w (by decide)).mono ?_
  rintro r w1 ⟨e1, rfl, hf, hb⟩
  have HB1 := Lib.hid (ext_trans (Below.refl w.heap.size w) hb)
  clear hb
  have HF1 := Lib.hid hf
  clear hf
  go_wp2_with fail
  refine (faultWrap ⟨#[97]⟩ [⟨#[98]⟩] (.iface 23 (.int .i64 22)) e1 w1 (.no 22) HF1.out (FC.not_nil HF1.out)).mono ?_
  rintro r w2 ⟨e2, rfl, hf, hb⟩
  have HB2 := Lib.hid (ext_trans HB1.out hb)
  clear hb
  have HF2 := Lib.hid hf
  clear hf
  obtain ⟨v, rfl⟩ : ∃ v : World, v = w2 := ⟨_, rfl⟩
  have HGV := Lib.hid (HG.out.ext HB2.out)
  have HBV := HB2
  clear HB2 HB1 HF1
  go_wp2_with fail
  refine (faultCode_hit [⟨#[97]⟩, ⟨#[98]⟩] 22 e2 v (HGV.out.ext (Below.refl v.heap.size v)) (HF2.out.ext (Below.refl v.heap.size v)) (by simp)).mono ?_
  rintro r w1 ⟨rfl, hb⟩
  have HC1 := Lib.hid (ext_trans (Below.refl v.heap.size v) hb)
  clear hb
  go_wp2_with fail
  refine (faultPath [⟨#[97]⟩, ⟨#[98]⟩] (.iface 23 (.int .i64 22)) e2 w1 (HGV.out.ext HC1.out) (HF2.out.ext HC1.out) (.no 22) (by simp)).mono ?_
  rintro r w2 ⟨pv, rfl, ho, hb⟩
  have HC2 := Lib.hid (ext_trans HC1.out hb)
  clear hb
  have HP := Lib.hid (OwnT.tx ho)
  clear ho
  go_wp2_with fail
  refine (sameTexts pv (.slice (some ⟨w2.heap.size, 0, none⟩) 2 2) [⟨#[97]⟩, ⟨#[98]⟩] (w2.alloc (.cells #[.string ⟨#[97]⟩, .string ⟨#[98]⟩] 9)) (HP.out.ext ((Below.refl _ _).alloc (Nat.le_refl _) _)) (tx_two _ _ _ _)).mono ?_
  rintro r w3 ⟨rfl, hb⟩
  have HC3 := Lib.hid (ext_trans (HC2.out.alloc HC2.out.size _) hb)
  clear hb
  go_wp2_with fail
  refine (faultHas 22 true [⟨#[97]⟩, ⟨#[98]⟩] (.iface 23 (.int .i64 22)) e2 w3 (HF2.out.ext HC3.out) (.no 22) (by simp) (.inl ⟨22, rfl, by simp⟩)).mono ?_
  rintro r w4 ⟨rfl, hb⟩
  have HC4 := Lib.hid (ext_trans HC3.out hb)
  clear hb
  go_wp2_with fail
  refine (faultHas 1 false [⟨#[97]⟩, ⟨#[98]⟩] (.iface 23 (.int .i64 22)) e2 w4 (HF2.out.ext HC4.out) (.no 22) (by simp) (.inl ⟨22, rfl, by simp⟩)).mono ?_
  rintro r w5 ⟨rfl, hb⟩
  have HC5 := Lib.hid (ext_trans HC4.out hb)
  clear hb
  go_wp2_with fail
  refine (code_nil w5).mono ?_
  rintro r w6 ⟨rfl, rfl⟩
  have HC6 := Lib.hid (show Below v.heap.size v _ from HC5.out)
  go_wp2_with fail
  refine (new0 ⟨#[120]⟩ w6).mono ?_
  rintro r w7 ⟨rfl, rfl⟩
  have HC7 := Lib.hid (show Below v.heap.size v _ from HC6.out)
  go_wp2_with fail
  refine (wrap_nil ⟨#[120]⟩ w7).mono ?_
  rintro r w8 ⟨rfl, rfl⟩
  have HC8 := Lib.hid (show Below v.heap.size v _ from HC7.out)
  go_wp2_with fail
  refine (errNew ⟨#[111, 116, 104, 101, 114]⟩ w8).mono ?_
  rintro r w9 ⟨rfl, rfl⟩
  have HC9 := Lib.hid (HC8.out.alloc HC8.out.size (.cells #[.string ⟨#[111, 116, 104, 101, 114]⟩] 53))
  have HN := Lib.hid (blk_new w8 #[.string ⟨#[111, 116, 104, 101, 114]⟩] 53)
  generalize (w8.alloc (.cells #[.string ⟨#[111, 116, 104, 101, 114]⟩] 53)) = w9 at *
  go_wp2_with fail
  refine (faultCode_miss [] (.iface 51 (.pointer (some ⟨w8.heap.size, 0, none⟩))) _ w9 (HGV.out.ext HC9.out) rfl (.str _ _ HN.out) (fun c => by simp) (by simp) (by simp)).mono ?_
  rintro r w10 ⟨rfl, hb10⟩
  go_wp2_with fail
  refine (faultHas 0 false [] .nilIface .nilIface w10 rfl .nil (by simp) (.inr ⟨fun d => by simp, rfl⟩)).mono ?_
  rintro r w11 ⟨rfl, hb11⟩
  go_wp2_with fail
  go_ret
  exact ⟨rfl, ext_trans HBV.out (ext_trans HC9.out (ext_trans hb10 hb11))⟩
end Go.Proofs.YtllmkokloebomaaDoor
