/- Package agent: which answers are right; Receive. -/
import Derived.Test.YtibgphjadiidaaaAgH
import Derived.Test.YtibgphjadiidaaaBk
namespace Go.Proofs.Ytibgphjadiidaaa
open Go.RowKit
set_option linter.unusedVariables false
set_option linter.unusedSimpArgs false

/-- an answer that a client of the laws is given -/
def OkA (op q : Int) (ka ki : ByteArray) (fu : Bool) (su : Int) : Prop := -1 ≤ q ∧ (((op = 1 ∨ op = 2 ∨ op = 3 ∨ op = 4) ∧ NmOk ka ∧ NmOk ki) ∨ (op = 5 ∧ ka = ⟨#[]⟩ ∧ ki = ⟨#[]⟩ ∧ fu = true ∧ su = 17))
def ansM (op q : Int) (s : Ag) : Ag := if op = 1 then { s with kn := true } else if op = 3 then { s with kn := false } else if op = 5 then { s with q := q } else s
theorem neqNil (w : World) : (binOp .neq 66 .nilIface .nilIface).run Try.prog w = .ok (.bool false) w := by kernel_rfl
set_option maxRecDepth 100000 in
set_option maxHeartbeats 2000000 in
theorem mailWithoutN (op tag q : Int) (ka ki : ByteArray) (fu : Bool) (su : Int) (w : World) :
    Calls Try.prog 35 #[.agg #[.int .i64 2, .int .i64 op, .int .i64 0, .int .i64 0, .int .i64 tag, .int .i64 0, .int .i64 q, .string ka, .string ki, .bool fu, .int .u32 su, .slice none 0 0, .slice none 0 0]] w fun r w' => r = .returned (.agg #[.int .i64 2, .int .i64 0, .int .i64 0, .int .i64 0, .int .i64 0, .int .i64 0, .int .i64 0, .string ⟨#[]⟩, .string ⟨#[]⟩, .bool false, .int .u32 0, .slice none 0 0, .slice none 0 0]) ∧ Below w.heap.size w w' := by
  have D0 := Lib.hid (show Below w.heap.size w ((w.alloc (.cells #[.int .i64 2, .int .i64 0, .int .i64 0, .int .i64 0, .int .i64 0, .int .i64 0, .int .i64 0, .string ⟨#[]⟩, .string ⟨#[]⟩, .bool false, .int .u32 0, .slice none 0 0, .slice none 0 0] 37)).alloc (.cells #[.int .i64 0, .int .i64 0, .int .i64 0, .int .i64 0, .int .i64 0, .int .i64 0, .int .i64 0, .string ⟨#[]⟩, .string ⟨#[]⟩, .bool false, .int .u32 0, .slice none 0 0, .slice none 0 0] 37)) from ((Below.refl _ _).alloc (Nat.le_refl _) _).alloc (by simp) _)
  have HX := Lib.hid (blk_alloc (blk_new w #[.int .i64 2, .int .i64 0, .int .i64 0, .int .i64 0, .int .i64 0, .int .i64 0, .int .i64 0, .string ⟨#[]⟩, .string ⟨#[]⟩, .bool false, .int .u32 0, .slice none 0 0, .slice none 0 0] 37) (.cells #[.int .i64 0, .int .i64 0, .int .i64 0, .int .i64 0, .int .i64 0, .int .i64 0, .int .i64 0, .string ⟨#[]⟩, .string ⟨#[]⟩, .bool false, .int .u32 0, .slice none 0 0, .slice none 0 0] 37))
  have HR := Lib.hid (show ((w.alloc (.cells #[.int .i64 2, .int .i64 0, .int .i64 0, .int .i64 0, .int .i64 0, .int .i64 0, .int .i64 0, .string ⟨#[]⟩, .string ⟨#[]⟩, .bool false, .int .u32 0, .slice none 0 0, .slice none 0 0] 37)).alloc (.cells #[.int .i64 0, .int .i64 0, .int .i64 0, .int .i64 0, .int .i64 0, .int .i64 0, .int .i64 0, .string ⟨#[]⟩, .string ⟨#[]⟩, .bool false, .int .u32 0, .slice none 0 0, .slice none 0 0] 37)).heap[w.heap.size + 1]? = some (.cells #[.int .i64 0, .int .i64 0, .int .i64 0, .int .i64 0, .int .i64 0, .int .i64 0, .int .i64 0, .string ⟨#[]⟩, .string ⟨#[]⟩, .bool false, .int .u32 0, .slice none 0 0, .slice none 0 0] 37 (0, 0)) from blk_new_at (by simp) _ _)
  go_enter Try.func35, Try.ntmps35
  go_upto_region 11 with (fail)
  obtain ⟨p, hp⟩ : ∃ p, w.heap.size = p := ⟨_, rfl⟩
  obtain ⟨r, hr⟩ : ∃ r, w.heap.size + 1 = r := ⟨_, rfl⟩
  have HRr := Lib.hid (show w.heap.size ≤ r by omega)
  rw [hp] at HX
  rw [hr] at HR
  try rw [hr]
  try rw [hp]
  try rw [hp] at hr
  try rw [hr]
  clear hr hp
  generalize ((w.alloc (.cells #[.int .i64 2, .int .i64 0, .int .i64 0, .int .i64 0, .int .i64 0, .int .i64 0, .int .i64 0, .string ⟨#[]⟩, .string ⟨#[]⟩, .bool false, .int .u32 0, .slice none 0 0, .slice none 0 0] 37)).alloc (.cells #[.int .i64 0, .int .i64 0, .int .i64 0, .int .i64 0, .int .i64 0, .int .i64 0, .int .i64 0, .string ⟨#[]⟩, .string ⟨#[]⟩, .bool false, .int .u32 0, .slice none 0 0, .slice none 0 0] 37)) = w1 at *
  have hk := blk_cell HX.out
  have hl := blk_lt HX.out
  have hk3 := blk_cell HR.out
  have hf3 := blk_free HR.out
  have hl3 := blk_lt HR.out
  go_wp2_with fail
  exact bodyPost_ret (v := .agg #[.int .i64 2, .int .i64 0, .int .i64 0, .int .i64 0, .int .i64 0, .int .i64 0, .int .i64 0, .string ⟨#[]⟩, .string ⟨#[]⟩, .bool false, .int .u32 0, .slice none 0 0, .slice none 0 0]) (by have hk2 := blk_cell (blk_fill13 (v0 := .int .i64 2) (v1 := .int .i64 0) (v2 := .int .i64 0) (v3 := .int .i64 0) (v4 := .int .i64 0) (v5 := .int .i64 0) (v6 := .int .i64 0) (v7 := .string ⟨#[]⟩) (v8 := .string ⟨#[]⟩) (v9 := .bool false) (v10 := .int .u32 0) (v11 := .slice none 0 0) (v12 := .slice none 0 0) HR.out rfl); simp [results, Try.results35, go_sem, hk2]) rfl ⟨rfl, below_fill13 D0.out HRr.out⟩

set_option maxRecDepth 100000 in
set_option maxHeartbeats 1000000 in
theorem keyWrongNo (ka ki : ByteArray) (w : World) (h1 : NmOk ka) (h2 : NmOk ki) :
    Calls Try.prog 40 #[.agg #[.string ka, .string ki]] w fun r w' => r = .returned (.bool false) ∧ Below w.heap.size w w' := by
  have D0 := Lib.hid (show Below w.heap.size w (w.alloc (.cells #[.string ka, .string ki] 23)) from (Below.refl _ _).alloc (Nat.le_refl _) _)
  have HX := Lib.hid (blk_new w #[.string ka, .string ki] 23)
  have H1 := Lib.hid h1
  have H2 := Lib.hid h2
  clear h1 h2
  go_enter Try.func40, Try.ntmps40
  go_upto_region 1 with (fail)
  obtain ⟨p, hp⟩ : ∃ p, w.heap.size = p := ⟨_, rfl⟩
  rw [hp] at HX
  try rw [hp]
  clear hp
  generalize (w.alloc (.cells #[.string ka, .string ki] 23)) = w1 at *
  have hk := blk_cell HX.out
  have hl := blk_lt HX.out
  go_wp2_with fail
  refine (nameOk ka w1 H1.out).mono ?_
  rintro r w2 ⟨rfl, hb⟩
  have HX2 := Lib.hid (blk_ext hb HX.out)
  have D2 := Lib.hid (ext_trans D0.out hb)
  clear hk hl hb HX D0
  have hk := blk_cell HX2.out
  have hl := blk_lt HX2.out
  go_wp2_with fail
  refine (nameOk ki w2 H2.out).mono ?_
  rintro r w3 ⟨rfl, hb⟩
  go_wp2
  go_ret
  exact ⟨rfl, ext_trans D2.out hb⟩

set_option maxRecDepth 100000 in
set_option maxHeartbeats 1000000 in
theorem opRightN (op tag q : Int) (ka ki : ByteArray) (fu : Bool) (su : Int) (w : World) (h : OkA op q ka ki fu su) :
    Calls Try.prog 36 #[.agg #[.int .i64 2, .int .i64 op, .int .i64 0, .int .i64 0, .int .i64 tag, .int .i64 0, .int .i64 q, .string ka, .string ki, .bool fu, .int .u32 su, .slice none 0 0, .slice none 0 0]] w fun r w' => r = .returned (.bool true) ∧ Below w.heap.size w w' := by
  obtain ⟨-, ⟨ho, h1, h2⟩ | ⟨rfl, rfl, rfl, -, -⟩⟩ := h
  · have H1 := Lib.hid h1
    have H2 := Lib.hid h2
    have e1 : (op == 5) = false := by simpa using (show ¬ op = 5 by omega)
    have e2 : decide (1 ≤ op) = true := decide_eq_true (by omega)
    have e3 : decide (op < 5) = true := decide_eq_true (by omega)
    clear h1 h2
    have D0 := Lib.hid (show Below w.heap.size w (w.alloc (.cells #[.int .i64 2, .int .i64 op, .int .i64 0, .int .i64 0, .int .i64 tag, .int .i64 0, .int .i64 q, .string ka, .string ki, .bool fu, .int .u32 su, .slice none 0 0, .slice none 0 0] 37)) from (Below.refl _ _).alloc (Nat.le_refl _) _)
    have HX := Lib.hid (blk_new w #[.int .i64 2, .int .i64 op, .int .i64 0, .int .i64 0, .int .i64 tag, .int .i64 0, .int .i64 q, .string ka, .string ki, .bool fu, .int .u32 su, .slice none 0 0, .slice none 0 0] 37)
    go_enter Try.func36, Try.ntmps36
    go_upto_region 1 with (fail)
    obtain ⟨p, hp⟩ : ∃ p, w.heap.size = p := ⟨_, rfl⟩
    rw [hp] at HX
    try rw [hp]
    clear hp
    generalize (w.alloc (.cells #[.int .i64 2, .int .i64 op, .int .i64 0, .int .i64 0, .int .i64 tag, .int .i64 0, .int .i64 q, .string ka, .string ki, .bool fu, .int .u32 su, .slice none 0 0, .slice none 0 0] 37)) = w1 at *
    have hk := blk_cell HX.out
    have hl := blk_lt HX.out
    go_wp2_with fail
    refine (keyWrongNo ka ki w1 H1.out H2.out).mono ?_
    rintro r w2 ⟨rfl, hb⟩
    go_wp2
    go_ret
    exact ⟨rfl, ext_trans D0.out hb⟩
  · skip
    have D0 := Lib.hid (show Below w.heap.size w (w.alloc (.cells #[.int .i64 2, .int .i64 5, .int .i64 0, .int .i64 0, .int .i64 tag, .int .i64 0, .int .i64 q, .string ⟨#[]⟩, .string ⟨#[]⟩, .bool fu, .int .u32 su, .slice none 0 0, .slice none 0 0] 37)) from (Below.refl _ _).alloc (Nat.le_refl _) _)
    have HX := Lib.hid (blk_new w #[.int .i64 2, .int .i64 5, .int .i64 0, .int .i64 0, .int .i64 tag, .int .i64 0, .int .i64 q, .string ⟨#[]⟩, .string ⟨#[]⟩, .bool fu, .int .u32 su, .slice none 0 0, .slice none 0 0] 37)
    go_enter Try.func36, Try.ntmps36
    go_upto_region 1 with (fail)
    obtain ⟨p, hp⟩ : ∃ p, w.heap.size = p := ⟨_, rfl⟩
    rw [hp] at HX
    try rw [hp]
    clear hp
    generalize (w.alloc (.cells #[.int .i64 2, .int .i64 5, .int .i64 0, .int .i64 0, .int .i64 tag, .int .i64 0, .int .i64 q, .string ⟨#[]⟩, .string ⟨#[]⟩, .bool fu, .int .u32 su, .slice none 0 0, .slice none 0 0] 37)) = w1 at *
    have hk := blk_cell HX.out
    have hl := blk_lt HX.out
    go_wp2
    go_ret
    exact ⟨rfl, D0.out⟩

set_option maxRecDepth 100000 in
set_option maxHeartbeats 2000000 in
theorem mailRightN (op tag q : Int) (ka ki : ByteArray) (fu : Bool) (su : Int) (w : World) (h : OkA op q ka ki fu su) :
    Calls Try.prog 24 #[.agg #[.int .i64 2, .int .i64 op, .int .i64 0, .int .i64 0, .int .i64 tag, .int .i64 0, .int .i64 q, .string ka, .string ki, .bool fu, .int .u32 su, .slice none 0 0, .slice none 0 0]] w fun r w' => r = .returned Value.nilIface ∧ Below w.heap.size w w' := by
  have D0 := Lib.hid (show Below w.heap.size w (w.alloc (.cells #[.int .i64 2, .int .i64 op, .int .i64 0, .int .i64 0, .int .i64 tag, .int .i64 0, .int .i64 q, .string ka, .string ki, .bool fu, .int .u32 su, .slice none 0 0, .slice none 0 0] 37)) from (Below.refl _ _).alloc (Nat.le_refl _) _)
  have HX := Lib.hid (blk_new w #[.int .i64 2, .int .i64 op, .int .i64 0, .int .i64 0, .int .i64 tag, .int .i64 0, .int .i64 q, .string ka, .string ki, .bool fu, .int .u32 su, .slice none 0 0, .slice none 0 0] 37)
  have HK := Lib.hid h
  have d1 : decide (q < -1) = false := decide_eq_false (by have := h.1; omega)
  clear h
  go_enter Try.func24, Try.ntmps24
  go_upto_region 1 with (fail)
  obtain ⟨p, hp⟩ : ∃ p, w.heap.size = p := ⟨_, rfl⟩
  rw [hp] at HX
  try rw [hp]
  clear hp
  generalize (w.alloc (.cells #[.int .i64 2, .int .i64 op, .int .i64 0, .int .i64 0, .int .i64 tag, .int .i64 0, .int .i64 q, .string ka, .string ki, .bool fu, .int .u32 su, .slice none 0 0, .slice none 0 0] 37)) = w1 at *
  have hk := blk_cell HX.out
  have hl := blk_lt HX.out
  go_upto_region 3 with (fail)
  haveI hIq : Nonempty (Of w1) := of_some _
  have hG0 := blk_of HX.out
  first | (refine wp_region_stay w1 (by kernel_rfl) (by kernel_rfl) (by go_grown) ?_) | (refine wp_region_stay_seq w1 (by go_grown) ?_)
  repeat (go_big_quiet_step (first | (go_at_call 35; with_reducible refine stay_call (mailWithoutN op tag q ka ki fu su _)) | (go_at_call 34; with_reducible refine stay_call (mailSame2 _))))
  refine wpQuiet_nil ?_
  intro w2 hb2
  clear hIq hG0
  have HX2 := Lib.hid (blk_ext hb2 HX.out)
  have D2 := Lib.hid (ext_trans D0.out hb2)
  clear hk hl hb2 HX D0
  have hk := blk_cell HX2.out
  have hl := blk_lt HX2.out
  go_wp2_with fail
  refine (opRightN op tag q ka ki fu su _ HK.out).mono ?_
  rintro e w3 ⟨rfl, hb⟩
  have HX3 := Lib.hid (blk_ext hb HX2.out)
  have D3 := Lib.hid (ext_trans D2.out hb)
  clear hk hl hb HX2 D2
  have hk := blk_cell HX3.out
  have hl := blk_lt HX3.out
  go_wp2_with fail
  refine (containsWrong none 0 0 [] _ (.inl rfl) rfl (by omega) (fun x hx => by cases hx)).mono ?_
  rintro e w4 ⟨rfl, hb⟩
  have HX4 := Lib.hid (blk_ext hb HX3.out)
  have D4 := Lib.hid (ext_trans D3.out hb)
  clear hk hl hb HX3 D3
  have hk := blk_cell HX4.out
  have hl := blk_lt HX4.out
  go_wp2_with fail
  refine (containsKeysNone _).mono ?_
  rintro e w5 ⟨rfl, hb⟩
  have HX5 := Lib.hid (blk_ext hb HX4.out)
  have D5 := Lib.hid (ext_trans D4.out hb)
  clear hk hl hb HX4 D4
  have hk := blk_cell HX5.out
  have hl := blk_lt HX5.out
  go_wp2
  go_ret
  exact ⟨rfl, D5.out⟩

set_option maxRecDepth 100000 in
set_option maxHeartbeats 2000000 in
theorem agApply (ab : Nat) (k : ByteArray × ByteArray) (zs : List Int) (s : Ag) (tag q : Int) (w : World) (h : AgP w ab k zs s) (hq : -1 ≤ q) :
    Calls Try.prog 41 #[.pointer (some ⟨ab, 6, none⟩), .agg #[.int .i64 2, .int .i64 5, .int .i64 0, .int .i64 0, .int .i64 tag, .int .i64 0, .int .i64 q, .string ⟨#[]⟩, .string ⟨#[]⟩, .bool true, .int .u32 17, .slice none 0 0, .slice none 0 0]] w fun r w' => r = .returned (.int .i64 0) ∧ AgP w' ab k zs { s with q := q } ∧ Rim ab w w' := by
  obtain ⟨i, now, ws, q0, tag0, op0, asked, wt, wi, tm, st, kn, br, bl, fr, fl⟩ := s
  obtain ⟨sb, sc, wa, wc, h1, hsv, hws⟩ := h
  dsimp only at *
  obtain ⟨n, hn⟩ : ∃ n, ws.length = n := ⟨_, rfl⟩
  obtain ⟨m, hm⟩ : ∃ m, zs.length = m := ⟨_, rfl⟩
  rw [hn, hm] at h1
  have H1 := Lib.hid h1
  have HSV := Lib.hid hsv
  have HWS := Lib.hid hws
  have HN := Lib.hid hn
  have HM := Lib.hid hm
  clear h1 hsv hws hn hm
  have HMZ := HM
  clear HM
  have D0 := Lib.hid (show Below w.heap.size w (w.alloc (.cells #[.int .i64 2, .int .i64 5, .int .i64 0, .int .i64 0, .int .i64 tag, .int .i64 0, .int .i64 q, .string ⟨#[]⟩, .string ⟨#[]⟩, .bool true, .int .u32 17, .slice none 0 0, .slice none 0 0] 37)) from (Below.refl _ _).alloc (Nat.le_refl _) _)
  have HX := Lib.hid (blk_new w #[.int .i64 2, .int .i64 5, .int .i64 0, .int .i64 0, .int .i64 tag, .int .i64 0, .int .i64 q, .string ⟨#[]⟩, .string ⟨#[]⟩, .bool true, .int .u32 17, .slice none 0 0, .slice none 0 0] 37)
  have HA := Lib.hid (blk_ext D0.out H1.out)
  have hlt := blk_lt H1.out
  have HOK := Lib.hid (show OkA 5 q ⟨#[]⟩ ⟨#[]⟩ true 17 from ⟨hq, .inr ⟨rfl, rfl, rfl, rfl, rfl⟩⟩)
  have hs17 := Lib.hid (show sm (sealB []) = 17 from by rfl)
  go_enter Try.func41, Try.ntmps41
  go_upto_region 1 with (fail)
  obtain ⟨p, hp⟩ : ∃ p, w.heap.size = p := ⟨_, rfl⟩
  rw [hp] at HX
  try rw [hp]
  have hpa : p ≠ ab := by omega
  have HPW := Lib.hid (show w.heap.size ≤ p from by omega)
  clear hp
  generalize (w.alloc (.cells #[.int .i64 2, .int .i64 5, .int .i64 0, .int .i64 0, .int .i64 tag, .int .i64 0, .int .i64 q, .string ⟨#[]⟩, .string ⟨#[]⟩, .bool true, .int .u32 17, .slice none 0 0, .slice none 0 0] 37)) = w1 at *
  have hk := blk_cell HX.out
  have hl := blk_lt HX.out
  go_wp2_with fail
  refine (mailRightN 5 tag q ⟨#[]⟩ ⟨#[]⟩ true 17 _ HOK.out).mono ?_
  rintro e w2 ⟨rfl, hb⟩
  have HX2 := Lib.hid (blk_ext hb HX.out)
  have HA2 := Lib.hid (blk_ext hb HA.out)
  have D2 := Lib.hid (ext_trans D0.out hb)
  clear hk hl hb HX HA D0 hlt
  have hk := blk_cell HX2.out
  have hl := blk_lt HX2.out
  have hnn := neqNil
  go_wp2_with fail
  go_loopw [5, 42] (fun v j wr => v = .slice none 0 0 ∧ j = .int .i64 0 ∧ Below w2.heap.size w2 wr) (fun v j _ => 0)
  case atStart => exact ⟨rfl, rfl, Below.refl _ _⟩
  case round =>
    obtain ⟨w6, rfl⟩ : ∃ y : World, y = wr := ⟨_, rfl⟩
    obtain ⟨rfl, rfl, hb⟩ := hrel
    have HX6 := Lib.hid (blk_ext hb HX2.out)
    have HA6 := Lib.hid (blk_ext hb HA2.out)
    have D6 := Lib.hid (ext_trans D2.out hb)
    clear hb hk hl HX2 HA2 D2
    have hk := blk_cell HA6.out
    have hl := blk_lt HA6.out
    have hf := blk_free HA6.out
    go_upto_region 14 with (fail)
    have HA7 := Lib.hid (show (w6.setCell ⟨ab, 6, none⟩ (.slice none 0 0)).heap[ab]? = some (.cells #[.string k.1, .string k.2, .slice (some ⟨sb, 0, none⟩) m sc, .int .i64 (i : Nat), .int .i64 now, .slice wa n wc, .slice none 0 0, .int .i64 q0, .int .i64 tag0, .int .i64 op0, .int .i64 asked, .bool wt, .bool wi, .int .i64 tm, .int .i64 st, .bool kn, .bool br, .int .i64 bl, .bool fr, .int .i64 fl] 57 (0, 0)) from blk_set (n := 6) HA6.out (by first | rfl | simp))
    have hr : Rim ab w6 (w6.setCell ⟨ab, 6, none⟩ (.slice none 0 0)) := rim_set (Rim.of (Below.refl _ _))
    have HX7 := Lib.hid (hr.rimT HA6.out HX6.out (by decide))
    have HM7 := Lib.hid ((Rim.of D6.out).trans hr)
    clear hr hk hl hf HX6 HA6 D6
    generalize (w6.setCell ⟨ab, 6, none⟩ (.slice none 0 0)) = w7 at *
    have hn0 : ([] : List Cd).length = 0 := rfl
    have hn1 : (0 : Nat) ≤ 20 := by omega
    have hn2 : (0 : Nat) ≤ 0 := by omega
    have hn3 : ∀ x ∈ ([] : List Cd), CdS x := fun x hx => by cases hx
    have hk := blk_cell HX7.out
    have hl := blk_lt HX7.out
    haveI hIq : Nonempty (Of w7) := of_some _
    have hG0 := blk_of HX7.out
    first | (refine wp_region_stay w7 (by kernel_rfl) (by kernel_rfl) (by go_grown) ?_) | (refine wp_region_stay_seq w7 (by go_grown) ?_)
    repeat (go_big_quiet_step ((go_at_call 49; with_reducible refine stay_as (sealOf none 0 0 [] _ (CAt.nil _ _) hn0 hn1 hn2 hn3) (congrArg (Value.int .u32) hs17.out))))
    refine wpQuiet_nil ?_
    intro w9 hb9
    clear hIq hG0
    have HX9 := Lib.hid (blk_ext hb9 HX7.out)
    have HA9 := Lib.hid (blk_ext hb9 HA7.out)
    have HM9 := Lib.hid (HM7.out.trans (Rim.of hb9))
    clear hb9 hk hl HX7 HA7 HM7
    have hk := blk_cell HX9.out
    have hl := blk_lt HX9.out
    have hk2 := blk_cell HA9.out
    have hl2 := blk_lt HA9.out
    have hf2 := blk_free HA9.out
    go_wp2
    go_ret
    have hr : Rim ab w9 (w9.setCell ⟨ab, 7, none⟩ (.int .i64 q)) := rim_set (Rim.of (Below.refl _ _))
    have h9 := AgP.own H1.out HSV.out HWS.out (HM9.out.trans hr)
    refine ⟨rfl, ⟨sb, sc, wa, wc, ?_, h9.1, h9.2⟩, HM9.out.trans hr⟩
    dsimp only
    rw [HN.out, HMZ.out]
    exact blk_set (n := 7) HA9.out (by first | rfl | simp)

set_option maxRecDepth 100000 in
set_option maxHeartbeats 1000000 in
theorem agAnswered1 (ab : Nat) (k : ByteArray × ByteArray) (zs : List Int) (s : Ag) (tag q : Int) (ka ki : ByteArray) (fu : Bool) (su : Int) (w : World) (h : AgP w ab k zs s) :
    Calls Try.prog 26 #[.pointer (some ⟨ab, 0, none⟩), .agg #[.int .i64 2, .int .i64 1, .int .i64 0, .int .i64 0, .int .i64 tag, .int .i64 0, .int .i64 q, .string ka, .string ki, .bool fu, .int .u32 su, .slice none 0 0, .slice none 0 0], .int .i64 0] w fun r w' => r = .returned (.int .i64 0) ∧ AgP w' ab k zs (ansM 1 q s) ∧ Rim ab w w' := by
  obtain ⟨i, now, ws, q0, tag0, op0, asked, wt, wi, tm, st, kn, br, bl, fr, fl⟩ := s
  obtain ⟨sb, sc, wa, wc, h1, hsv, hws⟩ := h
  dsimp only at *
  obtain ⟨n, hn⟩ : ∃ n, ws.length = n := ⟨_, rfl⟩
  obtain ⟨m, hm⟩ : ∃ m, zs.length = m := ⟨_, rfl⟩
  rw [hn, hm] at h1
  have H1 := Lib.hid h1
  have HSV := Lib.hid hsv
  have HWS := Lib.hid hws
  have HN := Lib.hid hn
  have HM := Lib.hid hm
  clear h1 hsv hws hn hm
  have HMZ := HM
  clear HM
  have D0 := Lib.hid (show Below w.heap.size w (w.alloc (.cells #[.int .i64 2, .int .i64 1, .int .i64 0, .int .i64 0, .int .i64 tag, .int .i64 0, .int .i64 q, .string ka, .string ki, .bool fu, .int .u32 su, .slice none 0 0, .slice none 0 0] 37)) from (Below.refl _ _).alloc (Nat.le_refl _) _)
  have HX := Lib.hid (blk_new w #[.int .i64 2, .int .i64 1, .int .i64 0, .int .i64 0, .int .i64 tag, .int .i64 0, .int .i64 q, .string ka, .string ki, .bool fu, .int .u32 su, .slice none 0 0, .slice none 0 0] 37)
  have HA := Lib.hid (blk_ext D0.out H1.out)
  have hlt := blk_lt H1.out
  go_enter Try.func26, Try.ntmps26
  go_upto_region 1 with (fail)
  obtain ⟨p, hp⟩ : ∃ p, w.heap.size = p := ⟨_, rfl⟩
  rw [hp] at HX
  try rw [hp]
  have hpa : p ≠ ab := by omega
  have HPW := Lib.hid (show w.heap.size ≤ p from by omega)
  clear hp
  generalize (w.alloc (.cells #[.int .i64 2, .int .i64 1, .int .i64 0, .int .i64 0, .int .i64 tag, .int .i64 0, .int .i64 q, .string ka, .string ki, .bool fu, .int .u32 su, .slice none 0 0, .slice none 0 0] 37)) = w1 at *
  have hk := blk_cell HX.out
  have hl := blk_lt HX.out
  clear hlt
  have HM1 := Lib.hid (Rim.of (b := ab) D0.out)
  clear D0
  have hk2 := blk_cell HA.out
  have hl2 := blk_lt HA.out
  have hf2 := blk_free HA.out
  go_wp2
  go_ret
  have hr : Rim ab w1 (w1.setCell ⟨ab, 15, none⟩ (.bool true)) := rim_set (Rim.of (Below.refl _ _))
  have h9 := AgP.own H1.out HSV.out HWS.out (HM1.out.trans hr)
  refine ⟨rfl, ⟨sb, sc, wa, wc, ?_, h9.1, h9.2⟩, HM1.out.trans hr⟩
  unfold ansM
  rw [if_pos rfl]
  dsimp only
  rw [HN.out, HMZ.out]
  exact blk_set (n := 15) HA.out (by first | rfl | simp)

set_option maxRecDepth 100000 in
set_option maxHeartbeats 1000000 in
theorem agAnswered2 (ab : Nat) (k : ByteArray × ByteArray) (zs : List Int) (s : Ag) (tag q : Int) (ka ki : ByteArray) (fu : Bool) (su : Int) (w : World) (h : AgP w ab k zs s) :
    Calls Try.prog 26 #[.pointer (some ⟨ab, 0, none⟩), .agg #[.int .i64 2, .int .i64 2, .int .i64 0, .int .i64 0, .int .i64 tag, .int .i64 0, .int .i64 q, .string ka, .string ki, .bool fu, .int .u32 su, .slice none 0 0, .slice none 0 0], .int .i64 0] w fun r w' => r = .returned (.int .i64 0) ∧ AgP w' ab k zs (ansM 2 q s) ∧ Rim ab w w' := by
  obtain ⟨i, now, ws, q0, tag0, op0, asked, wt, wi, tm, st, kn, br, bl, fr, fl⟩ := s
  obtain ⟨sb, sc, wa, wc, h1, hsv, hws⟩ := h
  dsimp only at *
  obtain ⟨n, hn⟩ : ∃ n, ws.length = n := ⟨_, rfl⟩
  obtain ⟨m, hm⟩ : ∃ m, zs.length = m := ⟨_, rfl⟩
  rw [hn, hm] at h1
  have H1 := Lib.hid h1
  have HSV := Lib.hid hsv
  have HWS := Lib.hid hws
  have HN := Lib.hid hn
  have HM := Lib.hid hm
  clear h1 hsv hws hn hm
  have HMZ := HM
  clear HM
  have D0 := Lib.hid (show Below w.heap.size w (w.alloc (.cells #[.int .i64 2, .int .i64 2, .int .i64 0, .int .i64 0, .int .i64 tag, .int .i64 0, .int .i64 q, .string ka, .string ki, .bool fu, .int .u32 su, .slice none 0 0, .slice none 0 0] 37)) from (Below.refl _ _).alloc (Nat.le_refl _) _)
  have HX := Lib.hid (blk_new w #[.int .i64 2, .int .i64 2, .int .i64 0, .int .i64 0, .int .i64 tag, .int .i64 0, .int .i64 q, .string ka, .string ki, .bool fu, .int .u32 su, .slice none 0 0, .slice none 0 0] 37)
  have HA := Lib.hid (blk_ext D0.out H1.out)
  have hlt := blk_lt H1.out
  go_enter Try.func26, Try.ntmps26
  go_upto_region 1 with (fail)
  obtain ⟨p, hp⟩ : ∃ p, w.heap.size = p := ⟨_, rfl⟩
  rw [hp] at HX
  try rw [hp]
  have hpa : p ≠ ab := by omega
  have HPW := Lib.hid (show w.heap.size ≤ p from by omega)
  clear hp
  generalize (w.alloc (.cells #[.int .i64 2, .int .i64 2, .int .i64 0, .int .i64 0, .int .i64 tag, .int .i64 0, .int .i64 q, .string ka, .string ki, .bool fu, .int .u32 su, .slice none 0 0, .slice none 0 0] 37)) = w1 at *
  have hk := blk_cell HX.out
  have hl := blk_lt HX.out
  clear hlt
  have HM1 := Lib.hid (Rim.of (b := ab) D0.out)
  clear D0
  go_wp2
  go_ret
  have h9 := AgP.own H1.out HSV.out HWS.out HM1.out
  refine ⟨rfl, ⟨sb, sc, wa, wc, ?_, h9.1, h9.2⟩, HM1.out⟩
  unfold ansM
  rw [if_neg (by decide), if_neg (by decide), if_neg (by decide)]
  dsimp only
  rw [HN.out, HMZ.out]
  exact HA.out

set_option maxRecDepth 100000 in
set_option maxHeartbeats 1000000 in
theorem agAnswered3 (ab : Nat) (k : ByteArray × ByteArray) (zs : List Int) (s : Ag) (tag q : Int) (ka ki : ByteArray) (fu : Bool) (su : Int) (w : World) (h : AgP w ab k zs s) :
    Calls Try.prog 26 #[.pointer (some ⟨ab, 0, none⟩), .agg #[.int .i64 2, .int .i64 3, .int .i64 0, .int .i64 0, .int .i64 tag, .int .i64 0, .int .i64 q, .string ka, .string ki, .bool fu, .int .u32 su, .slice none 0 0, .slice none 0 0], .int .i64 0] w fun r w' => r = .returned (.int .i64 0) ∧ AgP w' ab k zs (ansM 3 q s) ∧ Rim ab w w' := by
  obtain ⟨i, now, ws, q0, tag0, op0, asked, wt, wi, tm, st, kn, br, bl, fr, fl⟩ := s
  obtain ⟨sb, sc, wa, wc, h1, hsv, hws⟩ := h
  dsimp only at *
  obtain ⟨n, hn⟩ : ∃ n, ws.length = n := ⟨_, rfl⟩
  obtain ⟨m, hm⟩ : ∃ m, zs.length = m := ⟨_, rfl⟩
  rw [hn, hm] at h1
  have H1 := Lib.hid h1
  have HSV := Lib.hid hsv
  have HWS := Lib.hid hws
  have HN := Lib.hid hn
  have HM := Lib.hid hm
  clear h1 hsv hws hn hm
  have HMZ := HM
  clear HM
  have D0 := Lib.hid (show Below w.heap.size w (w.alloc (.cells #[.int .i64 2, .int .i64 3, .int .i64 0, .int .i64 0, .int .i64 tag, .int .i64 0, .int .i64 q, .string ka, .string ki, .bool fu, .int .u32 su, .slice none 0 0, .slice none 0 0] 37)) from (Below.refl _ _).alloc (Nat.le_refl _) _)
  have HX := Lib.hid (blk_new w #[.int .i64 2, .int .i64 3, .int .i64 0, .int .i64 0, .int .i64 tag, .int .i64 0, .int .i64 q, .string ka, .string ki, .bool fu, .int .u32 su, .slice none 0 0, .slice none 0 0] 37)
  have HA := Lib.hid (blk_ext D0.out H1.out)
  have hlt := blk_lt H1.out
  go_enter Try.func26, Try.ntmps26
  go_upto_region 1 with (fail)
  obtain ⟨p, hp⟩ : ∃ p, w.heap.size = p := ⟨_, rfl⟩
  rw [hp] at HX
  try rw [hp]
  have hpa : p ≠ ab := by omega
  have HPW := Lib.hid (show w.heap.size ≤ p from by omega)
  clear hp
  generalize (w.alloc (.cells #[.int .i64 2, .int .i64 3, .int .i64 0, .int .i64 0, .int .i64 tag, .int .i64 0, .int .i64 q, .string ka, .string ki, .bool fu, .int .u32 su, .slice none 0 0, .slice none 0 0] 37)) = w1 at *
  have hk := blk_cell HX.out
  have hl := blk_lt HX.out
  clear hlt
  have HM1 := Lib.hid (Rim.of (b := ab) D0.out)
  clear D0
  have hk2 := blk_cell HA.out
  have hl2 := blk_lt HA.out
  have hf2 := blk_free HA.out
  go_wp2
  go_ret
  have hr : Rim ab w1 (w1.setCell ⟨ab, 15, none⟩ (.bool false)) := rim_set (Rim.of (Below.refl _ _))
  have h9 := AgP.own H1.out HSV.out HWS.out (HM1.out.trans hr)
  refine ⟨rfl, ⟨sb, sc, wa, wc, ?_, h9.1, h9.2⟩, HM1.out.trans hr⟩
  unfold ansM
  rw [if_neg (by decide), if_pos rfl]
  dsimp only
  rw [HN.out, HMZ.out]
  exact blk_set (n := 15) HA.out (by first | rfl | simp)

set_option maxRecDepth 100000 in
set_option maxHeartbeats 1000000 in
theorem agAnswered4 (ab : Nat) (k : ByteArray × ByteArray) (zs : List Int) (s : Ag) (tag q : Int) (ka ki : ByteArray) (fu : Bool) (su : Int) (w : World) (h : AgP w ab k zs s) :
    Calls Try.prog 26 #[.pointer (some ⟨ab, 0, none⟩), .agg #[.int .i64 2, .int .i64 4, .int .i64 0, .int .i64 0, .int .i64 tag, .int .i64 0, .int .i64 q, .string ka, .string ki, .bool fu, .int .u32 su, .slice none 0 0, .slice none 0 0], .int .i64 0] w fun r w' => r = .returned (.int .i64 0) ∧ AgP w' ab k zs (ansM 4 q s) ∧ Rim ab w w' := by
  obtain ⟨i, now, ws, q0, tag0, op0, asked, wt, wi, tm, st, kn, br, bl, fr, fl⟩ := s
  obtain ⟨sb, sc, wa, wc, h1, hsv, hws⟩ := h
  dsimp only at *
  obtain ⟨n, hn⟩ : ∃ n, ws.length = n := ⟨_, rfl⟩
  obtain ⟨m, hm⟩ : ∃ m, zs.length = m := ⟨_, rfl⟩
  rw [hn, hm] at h1
  have H1 := Lib.hid h1
  have HSV := Lib.hid hsv
  have HWS := Lib.hid hws
  have HN := Lib.hid hn
  have HM := Lib.hid hm
  clear h1 hsv hws hn hm
  have HMZ := HM
  clear HM
  have D0 := Lib.hid (show Below w.heap.size w (w.alloc (.cells #[.int .i64 2, .int .i64 4, .int .i64 0, .int .i64 0, .int .i64 tag, .int .i64 0, .int .i64 q, .string ka, .string ki, .bool fu, .int .u32 su, .slice none 0 0, .slice none 0 0] 37)) from (Below.refl _ _).alloc (Nat.le_refl _) _)
  have HX := Lib.hid (blk_new w #[.int .i64 2, .int .i64 4, .int .i64 0, .int .i64 0, .int .i64 tag, .int .i64 0, .int .i64 q, .string ka, .string ki, .bool fu, .int .u32 su, .slice none 0 0, .slice none 0 0] 37)
  have HA := Lib.hid (blk_ext D0.out H1.out)
  have hlt := blk_lt H1.out
  go_enter Try.func26, Try.ntmps26
  go_upto_region 1 with (fail)
  obtain ⟨p, hp⟩ : ∃ p, w.heap.size = p := ⟨_, rfl⟩
  rw [hp] at HX
  try rw [hp]
  have hpa : p ≠ ab := by omega
  have HPW := Lib.hid (show w.heap.size ≤ p from by omega)
  clear hp
  generalize (w.alloc (.cells #[.int .i64 2, .int .i64 4, .int .i64 0, .int .i64 0, .int .i64 tag, .int .i64 0, .int .i64 q, .string ka, .string ki, .bool fu, .int .u32 su, .slice none 0 0, .slice none 0 0] 37)) = w1 at *
  have hk := blk_cell HX.out
  have hl := blk_lt HX.out
  clear hlt
  have HM1 := Lib.hid (Rim.of (b := ab) D0.out)
  clear D0
  go_wp2
  go_ret
  have h9 := AgP.own H1.out HSV.out HWS.out HM1.out
  refine ⟨rfl, ⟨sb, sc, wa, wc, ?_, h9.1, h9.2⟩, HM1.out⟩
  unfold ansM
  rw [if_neg (by decide), if_neg (by decide), if_neg (by decide)]
  dsimp only
  rw [HN.out, HMZ.out]
  exact HA.out

end Go.Proofs.Ytibgphjadiidaaa
