/- Asks that are right. -/
import Derived.Test.YtcjpemphdgndkaaGreatCacMY
namespace Go.Proofs.YtcjpemphdgndkaaGreat
open Go.RowKit
set_option linter.unusedVariables false
set_option linter.unusedSimpArgs false


set_option maxRecDepth 100000 in
set_option maxHeartbeats 2000000 in
theorem mailWithoutA (op st tag N sq : Int) (k : Ky) (w : World) :
    Calls Tryz.prog 80 #[.agg #[.int .i64 1, .int .i64 op, .int .i64 st, .int .i64 0, .int .i64 tag, .int .i64 N, .int .i64 sq, .string k.1, .string k.2, .bool false, .int .u32 0, .slice none 0 0, .slice none 0 0]] w fun r w' => r = .returned (.agg #[.int .i64 1, .int .i64 0, .int .i64 0, .int .i64 0, .int .i64 0, .int .i64 0, .int .i64 0, .string ⟨#[]⟩, .string ⟨#[]⟩, .bool false, .int .u32 0, .slice none 0 0, .slice none 0 0]) ∧ Below w.heap.size w w' := by
  have D0 := Lib.hid (show Below w.heap.size w ((w.alloc (.cells #[.int .i64 1, .int .i64 0, .int .i64 0, .int .i64 0, .int .i64 0, .int .i64 0, .int .i64 0, .string ⟨#[]⟩, .string ⟨#[]⟩, .bool false, .int .u32 0, .slice none 0 0, .slice none 0 0] 33)).alloc (.cells #[.int .i64 0, .int .i64 0, .int .i64 0, .int .i64 0, .int .i64 0, .int .i64 0, .int .i64 0, .string ⟨#[]⟩, .string ⟨#[]⟩, .bool false, .int .u32 0, .slice none 0 0, .slice none 0 0] 33)) from ((Below.refl _ _).alloc (Nat.le_refl _) _).alloc (by simp) _)
  have HX := Lib.hid (blk_alloc (blk_new w #[.int .i64 1, .int .i64 0, .int .i64 0, .int .i64 0, .int .i64 0, .int .i64 0, .int .i64 0, .string ⟨#[]⟩, .string ⟨#[]⟩, .bool false, .int .u32 0, .slice none 0 0, .slice none 0 0] 33) (.cells #[.int .i64 0, .int .i64 0, .int .i64 0, .int .i64 0, .int .i64 0, .int .i64 0, .int .i64 0, .string ⟨#[]⟩, .string ⟨#[]⟩, .bool false, .int .u32 0, .slice none 0 0, .slice none 0 0] 33))
  have HR := Lib.hid (show ((w.alloc (.cells #[.int .i64 1, .int .i64 0, .int .i64 0, .int .i64 0, .int .i64 0, .int .i64 0, .int .i64 0, .string ⟨#[]⟩, .string ⟨#[]⟩, .bool false, .int .u32 0, .slice none 0 0, .slice none 0 0] 33)).alloc (.cells #[.int .i64 0, .int .i64 0, .int .i64 0, .int .i64 0, .int .i64 0, .int .i64 0, .int .i64 0, .string ⟨#[]⟩, .string ⟨#[]⟩, .bool false, .int .u32 0, .slice none 0 0, .slice none 0 0] 33)).heap[w.heap.size + 1]? = some (.cells #[.int .i64 0, .int .i64 0, .int .i64 0, .int .i64 0, .int .i64 0, .int .i64 0, .int .i64 0, .string ⟨#[]⟩, .string ⟨#[]⟩, .bool false, .int .u32 0, .slice none 0 0, .slice none 0 0] 33 (0, 0)) from blk_new_at (by simp) _ _)
  go_enter Tryz.func80, Tryz.ntmps80
  go_upto_region 11 with (fail)
  obtain ⟨p, hp⟩ : ∃ p, w.heap.size = p := ⟨_, rfl⟩
  obtain ⟨r, hr⟩ : ∃ r, w.heap.size + 1 = r := ⟨_, rfl⟩
  have HRr := Lib.hid (show w.heap.size ≤ r by omega)
  rw [hp] at HX
  rw [hr] at HR
  try rw [hr]
  try rw [hp]
  try rw [hp] at hr
  try rw [hr]
  clear hr hp
  generalize ((w.alloc (.cells #[.int .i64 1, .int .i64 0, .int .i64 0, .int .i64 0, .int .i64 0, .int .i64 0, .int .i64 0, .string ⟨#[]⟩, .string ⟨#[]⟩, .bool false, .int .u32 0, .slice none 0 0, .slice none 0 0] 33)).alloc (.cells #[.int .i64 0, .int .i64 0, .int .i64 0, .int .i64 0, .int .i64 0, .int .i64 0, .int .i64 0, .string ⟨#[]⟩, .string ⟨#[]⟩, .bool false, .int .u32 0, .slice none 0 0, .slice none 0 0] 33)) = w1 at *
  have hk := blk_cell HX.out
  have hl := blk_lt HX.out
  have hk3 := blk_cell HR.out
  have hf3 := blk_free HR.out
  have hl3 := blk_lt HR.out
  go_wp2_with fail
  exact bodyPost_ret (v := .agg #[.int .i64 1, .int .i64 0, .int .i64 0, .int .i64 0, .int .i64 0, .int .i64 0, .int .i64 0, .string ⟨#[]⟩, .string ⟨#[]⟩, .bool false, .int .u32 0, .slice none 0 0, .slice none 0 0]) (by have hk2 := blk_cell (blk_fillM (v0 := .int .i64 1) (v1 := .int .i64 0) (v2 := .int .i64 0) (v3 := .int .i64 0) (v4 := .int .i64 0) (v5 := .int .i64 0) (v6 := .int .i64 0) (v7 := .string ⟨#[]⟩) (v8 := .string ⟨#[]⟩) (v9 := .bool false) (v10 := .int .u32 0) (v11 := .slice none 0 0) (v12 := .slice none 0 0) HR.out rfl); simp [results, Tryz.results80, go_sem, hk2]) rfl ⟨rfl, below_fillM D0.out HRr.out⟩

set_option maxRecDepth 100000 in
set_option maxHeartbeats 2000000 in
theorem mailSame1 (w : World) :
    Calls Tryz.prog 79 #[.agg #[.int .i64 1, .int .i64 0, .int .i64 0, .int .i64 0, .int .i64 0, .int .i64 0, .int .i64 0, .string ⟨#[]⟩, .string ⟨#[]⟩, .bool false, .int .u32 0, .slice none 0 0, .slice none 0 0], .agg #[.int .i64 1, .int .i64 0, .int .i64 0, .int .i64 0, .int .i64 0, .int .i64 0, .int .i64 0, .string ⟨#[]⟩, .string ⟨#[]⟩, .bool false, .int .u32 0, .slice none 0 0, .slice none 0 0]] w fun r w' => r = .returned (.bool true) ∧ Below w.heap.size w w' := by
  have HB0 := Lib.hid (show Below w.heap.size w ((w.alloc (.cells #[.int .i64 1, .int .i64 0, .int .i64 0, .int .i64 0, .int .i64 0, .int .i64 0, .int .i64 0, .string ⟨#[]⟩, .string ⟨#[]⟩, .bool false, .int .u32 0, .slice none 0 0, .slice none 0 0] 33)).alloc (.cells #[.int .i64 1, .int .i64 0, .int .i64 0, .int .i64 0, .int .i64 0, .int .i64 0, .int .i64 0, .string ⟨#[]⟩, .string ⟨#[]⟩, .bool false, .int .u32 0, .slice none 0 0, .slice none 0 0] 33)) from ((Below.refl _ _).alloc (Nat.le_refl _) _).alloc (by simp) _)
  have HK := Lib.hid (blk_alloc (blk_new w #[.int .i64 1, .int .i64 0, .int .i64 0, .int .i64 0, .int .i64 0, .int .i64 0, .int .i64 0, .string ⟨#[]⟩, .string ⟨#[]⟩, .bool false, .int .u32 0, .slice none 0 0, .slice none 0 0] 33) (.cells #[.int .i64 1, .int .i64 0, .int .i64 0, .int .i64 0, .int .i64 0, .int .i64 0, .int .i64 0, .string ⟨#[]⟩, .string ⟨#[]⟩, .bool false, .int .u32 0, .slice none 0 0, .slice none 0 0] 33))
  have HR := Lib.hid (show ((w.alloc (.cells #[.int .i64 1, .int .i64 0, .int .i64 0, .int .i64 0, .int .i64 0, .int .i64 0, .int .i64 0, .string ⟨#[]⟩, .string ⟨#[]⟩, .bool false, .int .u32 0, .slice none 0 0, .slice none 0 0] 33)).alloc (.cells #[.int .i64 1, .int .i64 0, .int .i64 0, .int .i64 0, .int .i64 0, .int .i64 0, .int .i64 0, .string ⟨#[]⟩, .string ⟨#[]⟩, .bool false, .int .u32 0, .slice none 0 0, .slice none 0 0] 33)).heap[w.heap.size + 1]? = some (.cells #[.int .i64 1, .int .i64 0, .int .i64 0, .int .i64 0, .int .i64 0, .int .i64 0, .int .i64 0, .string ⟨#[]⟩, .string ⟨#[]⟩, .bool false, .int .u32 0, .slice none 0 0, .slice none 0 0] 33 (0, 0)) from blk_new_at (by simp) _ _)
  go_enter Tryz.func79, Tryz.ntmps79
  go_upto_region 1 with (fail)
  obtain ⟨p, hp⟩ : ∃ p, w.heap.size = p := ⟨_, rfl⟩
  obtain ⟨r, hr⟩ : ∃ r, w.heap.size + 1 = r := ⟨_, rfl⟩
  rw [hp] at HK
  rw [hr] at HR
  try rw [hr]
  try rw [hp]
  clear hr hp
  generalize ((w.alloc (.cells #[.int .i64 1, .int .i64 0, .int .i64 0, .int .i64 0, .int .i64 0, .int .i64 0, .int .i64 0, .string ⟨#[]⟩, .string ⟨#[]⟩, .bool false, .int .u32 0, .slice none 0 0, .slice none 0 0] 33)).alloc (.cells #[.int .i64 1, .int .i64 0, .int .i64 0, .int .i64 0, .int .i64 0, .int .i64 0, .int .i64 0, .string ⟨#[]⟩, .string ⟨#[]⟩, .bool false, .int .u32 0, .slice none 0 0, .slice none 0 0] 33)) = w2 at *
  have hk1 := blk_cell HK.out
  have hl1 := blk_lt HK.out
  have hk2 := blk_cell HR.out
  have hl2 := blk_lt HR.out
  go_wp2_with fail
  refine (cardSameNone _).mono ?_
  rintro e w3 ⟨rfl, hb⟩
  have HK3 := Lib.hid (blk_ext hb HK.out)
  have HR3 := Lib.hid (blk_ext hb HR.out)
  have HB3 := Lib.hid (ext_trans HB0.out hb)
  clear hk1 hl1 hk2 hl2 HK HR HB0 hb
  have hk1 := blk_cell HK3.out
  have hl1 := blk_lt HK3.out
  have hk2 := blk_cell HR3.out
  have hl2 := blk_lt HR3.out
  go_wp2_with fail
  refine (equalKeysNone _).mono ?_
  rintro e w4 ⟨rfl, hb⟩
  have HB4 := Lib.hid (ext_trans HB3.out hb)
  clear hk1 hl1 hk2 hl2 HK3 HR3 HB3 hb
  go_wp2
  go_ret
  exact ⟨rfl, HB4.out⟩

set_option maxRecDepth 100000 in
set_option maxHeartbeats 1000000 in
theorem keyWrongNo (k : Ky) (w : World) (h1 : NmOk k.1) (h2 : NmOk k.2) :
    Calls Tryz.prog 85 #[.agg #[.string k.1, .string k.2]] w fun r w' => r = .returned (.bool false) ∧ Below w.heap.size w w' := by
  have D0 := Lib.hid (show Below w.heap.size w (w.alloc (.cells #[.string k.1, .string k.2] 28)) from (Below.refl _ _).alloc (Nat.le_refl _) _)
  have HX := Lib.hid (blk_new w #[.string k.1, .string k.2] 28)
  have H1 := Lib.hid h1
  have H2 := Lib.hid h2
  clear h1 h2
  go_enter Tryz.func85, Tryz.ntmps85
  go_upto_region 1 with (fail)
  obtain ⟨p, hp⟩ : ∃ p, w.heap.size = p := ⟨_, rfl⟩
  rw [hp] at HX
  try rw [hp]
  clear hp
  generalize (w.alloc (.cells #[.string k.1, .string k.2] 28)) = w1 at *
  have hk := blk_cell HX.out
  have hl := blk_lt HX.out
  go_wp2_with fail
  refine (nameOk k.1 w1 H1.out).mono ?_
  rintro r w2 ⟨rfl, hb⟩
  have HX2 := Lib.hid (blk_ext hb HX.out)
  have D2 := Lib.hid (ext_trans D0.out hb)
  clear hk hl hb HX D0
  have hk := blk_cell HX2.out
  have hl := blk_lt HX2.out
  go_wp2_with fail
  refine (nameOk k.2 w2 H2.out).mono ?_
  rintro r w3 ⟨rfl, hb⟩
  go_wp2
  go_ret
  exact ⟨rfl, ext_trans D2.out hb⟩

set_option maxRecDepth 100000 in
set_option maxHeartbeats 1000000 in
theorem opRightA (op st tag N sq : Int) (k : Ky) (w : World) (ho1 : 1 ≤ op) (ho2 : op < 5) (h1 : NmOk k.1) (h2 : NmOk k.2) :
    Calls Tryz.prog 81 #[.agg #[.int .i64 1, .int .i64 op, .int .i64 st, .int .i64 0, .int .i64 tag, .int .i64 N, .int .i64 sq, .string k.1, .string k.2, .bool false, .int .u32 0, .slice none 0 0, .slice none 0 0]] w fun r w' => r = .returned (.bool true) ∧ Below w.heap.size w w' := by
  have D0 := Lib.hid (show Below w.heap.size w (w.alloc (.cells #[.int .i64 1, .int .i64 op, .int .i64 st, .int .i64 0, .int .i64 tag, .int .i64 N, .int .i64 sq, .string k.1, .string k.2, .bool false, .int .u32 0, .slice none 0 0, .slice none 0 0] 33)) from (Below.refl _ _).alloc (Nat.le_refl _) _)
  have HX := Lib.hid (blk_new w #[.int .i64 1, .int .i64 op, .int .i64 st, .int .i64 0, .int .i64 tag, .int .i64 N, .int .i64 sq, .string k.1, .string k.2, .bool false, .int .u32 0, .slice none 0 0, .slice none 0 0] 33)
  have H1 := Lib.hid h1
  have H2 := Lib.hid h2
  have e1 : (op == 5) = false := by simpa using (show ¬ op = 5 by omega)
  have e2 : decide (1 ≤ op) = true := decide_eq_true ho1
  have e3 : decide (op < 5) = true := decide_eq_true ho2
  clear h1 h2
  go_enter Tryz.func81, Tryz.ntmps81
  go_upto_region 1 with (fail)
  obtain ⟨p, hp⟩ : ∃ p, w.heap.size = p := ⟨_, rfl⟩
  rw [hp] at HX
  try rw [hp]
  clear hp
  generalize (w.alloc (.cells #[.int .i64 1, .int .i64 op, .int .i64 st, .int .i64 0, .int .i64 tag, .int .i64 N, .int .i64 sq, .string k.1, .string k.2, .bool false, .int .u32 0, .slice none 0 0, .slice none 0 0] 33)) = w1 at *
  have hk := blk_cell HX.out
  have hl := blk_lt HX.out
  go_wp2_with fail
  refine (keyWrongNo k w1 H1.out H2.out).mono ?_
  rintro r w2 ⟨rfl, hb⟩
  go_wp2
  go_ret
  exact ⟨rfl, ext_trans D0.out hb⟩

set_option maxRecDepth 100000 in
set_option maxHeartbeats 2000000 in
theorem mailRightAsk (op st tag N sq : Int) (k : Ky) (w : World) (ho1 : 1 ≤ op) (ho2 : op < 5) (hs0 : 0 ≤ st) (hs1 : st ≤ 255) (hq : -1 ≤ sq) (h1 : NmOk k.1) (h2 : NmOk k.2) :
    Calls Tryz.prog 44 #[.agg #[.int .i64 1, .int .i64 op, .int .i64 st, .int .i64 0, .int .i64 tag, .int .i64 N, .int .i64 sq, .string k.1, .string k.2, .bool false, .int .u32 0, .slice none 0 0, .slice none 0 0]] w fun r w' => r = .returned Value.nilIface ∧ Below w.heap.size w w' := by
  have D0 := Lib.hid (show Below w.heap.size w (w.alloc (.cells #[.int .i64 1, .int .i64 op, .int .i64 st, .int .i64 0, .int .i64 tag, .int .i64 N, .int .i64 sq, .string k.1, .string k.2, .bool false, .int .u32 0, .slice none 0 0, .slice none 0 0] 33)) from (Below.refl _ _).alloc (Nat.le_refl _) _)
  have HX := Lib.hid (blk_new w #[.int .i64 1, .int .i64 op, .int .i64 st, .int .i64 0, .int .i64 tag, .int .i64 N, .int .i64 sq, .string k.1, .string k.2, .bool false, .int .u32 0, .slice none 0 0, .slice none 0 0] 33)
  have H1 := Lib.hid h1
  have H2 := Lib.hid h2
  have d1 : decide (sq < -1) = false := decide_eq_false (by omega)
  have d2 : decide (st < 0) = false := decide_eq_false (by omega)
  have d3 : decide (255 < st) = false := decide_eq_false (by omega)
  clear h1 h2
  go_enter Tryz.func44, Tryz.ntmps44
  go_upto_region 1 with (fail)
  obtain ⟨p, hp⟩ : ∃ p, w.heap.size = p := ⟨_, rfl⟩
  rw [hp] at HX
  try rw [hp]
  clear hp
  generalize (w.alloc (.cells #[.int .i64 1, .int .i64 op, .int .i64 st, .int .i64 0, .int .i64 tag, .int .i64 N, .int .i64 sq, .string k.1, .string k.2, .bool false, .int .u32 0, .slice none 0 0, .slice none 0 0] 33)) = w1 at *
  have hk := blk_cell HX.out
  have hl := blk_lt HX.out
  go_upto_region 3 with (fail)
  haveI hIq : Nonempty (Of w1) := of_some _
  have hG0 := blk_of HX.out
  first | (refine wp_region_stay w1 (by kernel_rfl) (by kernel_rfl) (by go_grown) ?_) | (refine wp_region_stay_seq w1 (by go_grown) ?_)
  repeat (go_big_quiet_step (first | (go_at_call 80; with_reducible refine stay_call (mailWithoutA op st tag N sq k _)) | (go_at_call 79; with_reducible refine stay_call (mailSame1 _))))
  refine wpQuiet_nil ?_
  intro w2 hb2
  clear hIq hG0
  have HX2 := Lib.hid (blk_ext hb2 HX.out)
  have D2 := Lib.hid (ext_trans D0.out hb2)
  clear hk hl hb2 HX D0
  have hk := blk_cell HX2.out
  have hl := blk_lt HX2.out
  go_wp2_with fail
  refine (opRightA op st tag N sq k _ ho1 ho2 H1.out H2.out).mono ?_
  rintro e w3 ⟨rfl, hb⟩
  have HX3 := Lib.hid (blk_ext hb HX2.out)
  have D3 := Lib.hid (ext_trans D2.out hb)
  clear hk hl hb HX2 D2
  have hk := blk_cell HX3.out
  have hl := blk_lt HX3.out
  go_wp2_with fail
  refine (containsWrong none 0 0 [] _ (.inl rfl) rfl (by omega) (fun x hx => by cases hx)).mono ?_
  rintro e w4 ⟨rfl, hb⟩
  have HX4 := Lib.hid (blk_ext hb HX3.out)
  have D4 := Lib.hid (ext_trans D3.out hb)
  clear hk hl hb HX3 D3
  have hk := blk_cell HX4.out
  have hl := blk_lt HX4.out
  go_wp2_with fail
  refine (containsKeysNone _).mono ?_
  rintro e w5 ⟨rfl, hb⟩
  have HX5 := Lib.hid (blk_ext hb HX4.out)
  have D5 := Lib.hid (ext_trans D4.out hb)
  clear hk hl hb HX4 D4
  have hk := blk_cell HX5.out
  have hl := blk_lt HX5.out
  go_wp2
  go_ret
  exact ⟨rfl, D5.out⟩

end Go.Proofs.YtcjpemphdgndkaaGreat
