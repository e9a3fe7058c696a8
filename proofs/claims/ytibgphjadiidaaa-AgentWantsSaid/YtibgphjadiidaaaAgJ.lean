/- Package agent: Receive. -/
import Derived.Test.YtibgphjadiidaaaAgI
namespace Go.Proofs.Ytibgphjadiidaaa
open Go.RowKit
set_option linter.unusedVariables false
set_option linter.unusedSimpArgs false

set_option maxRecDepth 100000 in
set_option maxHeartbeats 1000000 in
theorem agAnswered5 (ab : Nat) (k : ByteArray × ByteArray) (zs : List Int) (s : Ag) (tag q : Int) (w : World) (h : AgP w ab k zs s) (hq : -1 ≤ q) :
    Calls Try.prog 26 #[.pointer (some ⟨ab, 0, none⟩), .agg #[.int .i64 2, .int .i64 5, .int .i64 0, .int .i64 0, .int .i64 tag, .int .i64 0, .int .i64 q, .string ⟨#[]⟩, .string ⟨#[]⟩, .bool true, .int .u32 17, .slice none 0 0, .slice none 0 0], .int .i64 0] w fun r w' => r = .returned (.int .i64 0) ∧ AgP w' ab k zs (ansM 5 q s) ∧ Rim ab w w' := by
  have hlt := h.lt
  have D0 := Lib.hid (show Below w.heap.size w (w.alloc (.cells #[.int .i64 2, .int .i64 5, .int .i64 0, .int .i64 0, .int .i64 tag, .int .i64 0, .int .i64 q, .string ⟨#[]⟩, .string ⟨#[]⟩, .bool true, .int .u32 17, .slice none 0 0, .slice none 0 0] 37)) from (Below.refl _ _).alloc (Nat.le_refl _) _)
  have HX := Lib.hid (blk_new w #[.int .i64 2, .int .i64 5, .int .i64 0, .int .i64 0, .int .i64 tag, .int .i64 0, .int .i64 q, .string ⟨#[]⟩, .string ⟨#[]⟩, .bool true, .int .u32 17, .slice none 0 0, .slice none 0 0] 37)
  have HQ := Lib.hid (h.ext D0.out)
  clear h
  go_enter Try.func26, Try.ntmps26
  go_upto_region 1 with (fail)
  obtain ⟨p, hp⟩ : ∃ p, w.heap.size = p := ⟨_, rfl⟩
  have hpa : p ≠ ab := by omega
  have HPW := Lib.hid (show w.heap.size ≤ p from by omega)
  rw [hp] at HX
  try rw [hp]
  clear hp hlt
  generalize (w.alloc (.cells #[.int .i64 2, .int .i64 5, .int .i64 0, .int .i64 0, .int .i64 tag, .int .i64 0, .int .i64 q, .string ⟨#[]⟩, .string ⟨#[]⟩, .bool true, .int .u32 17, .slice none 0 0, .slice none 0 0] 37)) = w1 at *
  have hk := blk_cell HX.out
  have hl := blk_lt HX.out
  have HM1 := Lib.hid (Rim.of (b := ab) D0.out)
  clear D0
  go_upto_region 13 with (fail)
  clear hk hl
  haveI hIc : Nonempty (In (fun W : World => W.heap[p]? = some (.cells #[.int .i64 2, .int .i64 5, .int .i64 0, .int .i64 0, .int .i64 tag, .int .i64 0, .int .i64 q, .string ⟨#[]⟩, .string ⟨#[]⟩, .bool true, .int .u32 17, .slice none 0 0, .slice none 0 0] 37 (0, 0)))) := ⟨⟨_, HX.out⟩⟩
  have hF0 : ∀ g : In (fun W : World => W.heap[p]? = some (.cells #[.int .i64 2, .int .i64 5, .int .i64 0, .int .i64 0, .int .i64 tag, .int .i64 0, .int .i64 q, .string ⟨#[]⟩, .string ⟨#[]⟩, .bool true, .int .u32 17, .slice none 0 0, .slice none 0 0] 37 (0, 0))), ∀ n, g.w.cell? ⟨p, n, none⟩ = (#[.int .i64 2, .int .i64 5, .int .i64 0, .int .i64 0, .int .i64 tag, .int .i64 0, .int .i64 q, .string ⟨#[]⟩, .string ⟨#[]⟩, .bool true, .int .u32 17, .slice none 0 0, .slice none 0 0] : Array Value)[n]? := fun g => blk_cell g.h
  have hF1 : ∀ g : In (fun W : World => W.heap[p]? = some (.cells #[.int .i64 2, .int .i64 5, .int .i64 0, .int .i64 0, .int .i64 tag, .int .i64 0, .int .i64 q, .string ⟨#[]⟩, .string ⟨#[]⟩, .bool true, .int .u32 17, .slice none 0 0, .slice none 0 0] 37 (0, 0))), p < g.w.heap.size := fun g => blk_lt g.h
  refine wp_region_chain (fun w' => ∃ g : In (fun W : World => W.heap[p]? = some (.cells #[.int .i64 2, .int .i64 5, .int .i64 0, .int .i64 0, .int .i64 tag, .int .i64 0, .int .i64 q, .string ⟨#[]⟩, .string ⟨#[]⟩, .bool true, .int .u32 17, .slice none 0 0, .slice none 0 0] 37 (0, 0))), w' = g.w) (by kernel_rfl) (by kernel_rfl) (by kernel_rfl) ?_
  have HX2 := Lib.hid (blk_drew HX.out)
  have HQ2 := Lib.hid (HQ.out.ext (Below.refl w1.heap.size w1).drew)
  have HM2 := Lib.hid (HM1.out.trans (Rim.of (Below.refl w1.heap.size w1).drew))
  clear HX HQ HM1
  generalize w1.drew = y2 at *
  repeat (refine wpG_plain (by rfl) (by rfl) (fun K hK => ?_); go_big_quiet_op; refine hK _ ?_; clear hK K)
  refine wpG_call (by rfl) (by rfl) ⟨⟨_, HX2.out⟩, rfl⟩ (fun K hK => ?_)
  go_big_op
  refine (agApply ab k zs s tag q y2 HQ2.out hq).mono ?_
  rintro e y3 ⟨rfl, hqq, hr⟩
  have HX3 := Lib.hid ((hr.block p hpa (blk_lt HX2.out)).trans HX2.out)
  have HM3 := Lib.hid (HM2.out.trans hr)
  have HQ3 := Lib.hid hqq
  refine hK _ _ ?_
  clear hK K hqq hr HQ2 HM2 HX2
  repeat (refine wpG_plain (by rfl) (by rfl) (fun K hK => ?_); go_big_quiet_op; refine hK _ ?_; clear hK K)
  refine wpG_nil ⟨⟨_, HX3.out⟩, rfl⟩ ?_
  clear hF0 hF1 hIc
  go_wp2
  go_ret
  refine ⟨rfl, ?_, HM3.out⟩
  unfold ansM
  rw [if_neg (by decide), if_neg (by decide), if_pos rfl]
  exact HQ3.out

set_option maxRecDepth 100000 in
set_option maxHeartbeats 1000000 in
theorem agAnswered (ab : Nat) (k : ByteArray × ByteArray) (zs : List Int) (s : Ag) (op tag q : Int) (ka ki : ByteArray) (fu : Bool) (su : Int) (w : World) (h : AgP w ab k zs s) (hok : OkA op q ka ki fu su) :
    Calls Try.prog 26 #[.pointer (some ⟨ab, 0, none⟩), .agg #[.int .i64 2, .int .i64 op, .int .i64 0, .int .i64 0, .int .i64 tag, .int .i64 0, .int .i64 q, .string ka, .string ki, .bool fu, .int .u32 su, .slice none 0 0, .slice none 0 0], .int .i64 0] w fun r w' => r = .returned (.int .i64 0) ∧ AgP w' ab k zs (ansM op q s) ∧ Rim ab w w' := by
  obtain ⟨hq, ⟨rfl | rfl | rfl | rfl, -, -⟩ | ⟨rfl, rfl, rfl, rfl, rfl⟩⟩ := hok
  · exact agAnswered1 ab k zs s tag q ka ki fu su w h
  · exact agAnswered2 ab k zs s tag q ka ki fu su w h
  · exact agAnswered3 ab k zs s tag q ka ki fu su w h
  · exact agAnswered4 ab k zs s tag q ka ki fu su w h
  · exact agAnswered5 ab k zs s tag q w h hq

set_option maxRecDepth 100000 in
set_option maxHeartbeats 1000000 in
theorem agReceive (ab : Nat) (k : ByteArray × ByteArray) (zs : List Int) (s : Ag) (op tag q : Int) (ka ki : ByteArray) (fu : Bool) (su : Int) (z : Int) (w : World) (h : AgP w ab k zs s) (hz : zs[s.i]? = some z) (hok : OkA op q ka ki fu su) (hop : op = s.op) (htg : tag = s.tag) (hwt : s.wt = true) :
    Calls Try.prog 11 #[.pointer (some ⟨ab, 0, none⟩), .int .i64 z, .agg #[.int .i64 2, .int .i64 op, .int .i64 0, .int .i64 0, .int .i64 tag, .int .i64 0, .int .i64 q, .string ka, .string ki, .bool fu, .int .u32 su, .slice none 0 0, .slice none 0 0]] w fun r w' => r = .returned (.int .i64 0) ∧ AgP w' ab k zs (ansM op q { s with wt := false }) ∧ Rim ab w w' := by
  have hlt := h.lt
  have D0 := Lib.hid (show Below w.heap.size w (w.alloc (.cells #[.int .i64 2, .int .i64 op, .int .i64 0, .int .i64 0, .int .i64 tag, .int .i64 0, .int .i64 q, .string ka, .string ki, .bool fu, .int .u32 su, .slice none 0 0, .slice none 0 0] 37)) from (Below.refl _ _).alloc (Nat.le_refl _) _)
  have HX := Lib.hid (blk_new w #[.int .i64 2, .int .i64 op, .int .i64 0, .int .i64 0, .int .i64 tag, .int .i64 0, .int .i64 q, .string ka, .string ki, .bool fu, .int .u32 su, .slice none 0 0, .slice none 0 0] 37)
  have HQ := Lib.hid (h.ext D0.out)
  have HOK := Lib.hid hok
  have HZ := Lib.hid hz
  clear hok hz
  obtain ⟨i, now, ws, q0, tag0, op0, asked, wt, wi, tm, st, kn, br, bl, fr, fl⟩ := s
  obtain ⟨sb, sc, wa, wc, h1, hsv, hws⟩ := h
  dsimp only at h1 hws hwt hop htg
  obtain ⟨n, hn⟩ : ∃ n, ws.length = n := ⟨_, rfl⟩
  obtain ⟨m, hm⟩ : ∃ m, zs.length = m := ⟨_, rfl⟩
  rw [hn, hm] at h1
  have H1 := Lib.hid h1
  have HSV := Lib.hid hsv
  have HWS := Lib.hid hws
  have HN := Lib.hid hn
  have HM := Lib.hid hm
  clear h1 hsv hws hn hm
  have HMZ := HM
  clear HM
  subst hwt
  subst hop htg
  have HA := Lib.hid (blk_ext D0.out H1.out)
  have hee : ∀ z : Int, (z != z) = false := fun z => by simp
  have hnn := neqNil
  go_enter Try.func11, Try.ntmps11
  go_upto_region 1 with (fail)
  obtain ⟨p, hp⟩ : ∃ p, w.heap.size = p := ⟨_, rfl⟩
  have hpa : p ≠ ab := by omega
  have HPW := Lib.hid (show w.heap.size ≤ p from by omega)
  rw [hp] at HX
  try rw [hp]
  clear hp hlt
  generalize (w.alloc (.cells #[.int .i64 2, .int .i64 op, .int .i64 0, .int .i64 0, .int .i64 tag, .int .i64 0, .int .i64 q, .string ka, .string ki, .bool fu, .int .u32 su, .slice none 0 0, .slice none 0 0] 37)) = w1 at *
  have hk := blk_cell HX.out
  have hl := blk_lt HX.out
  have HM1 := Lib.hid (Rim.of (b := ab) D0.out)
  have hk2 := blk_cell HA.out
  have hl2 := blk_lt HA.out
  haveI hIq : Nonempty (Of w1) := of_some _
  have hG0 := blk_of HX.out
  have hG1 := blk_of HA.out
  first | (refine wp_region_stay w1 (by kernel_rfl) (by kernel_rfl) (by go_grown) ?_) | (refine wp_region_stay_seq w1 (by go_grown) ?_)
  repeat (go_big_quiet_step (first | (go_at_call 24; with_reducible refine stay_call (mailRightN op tag q ka ki fu su _ HOK.out)) | (go_at_call 25; with_reducible refine stay_call (agServer ab k zs _ z _ (HQ.out.ext (In.h _)) HZ.out))))
  refine wpQuiet_nil ?_
  intro w2 hb2
  clear hIq hG0 hG1
  have HX2 := Lib.hid (blk_ext hb2 HX.out)
  have HA2 := Lib.hid (blk_ext hb2 HA.out)
  have HQ2 := Lib.hid (HQ.out.ext hb2)
  have HM2 := Lib.hid (HM1.out.trans (Rim.of hb2))
  have HD2 := Lib.hid (ext_trans D0.out hb2)
  clear hb2 hk hl hk2 hl2 HX HA HQ HM1 D0
  have hk := blk_cell HA2.out
  have hl := blk_lt HA2.out
  have hf := blk_free HA2.out
  go_upto_region 4 with (fail)
  have HA3 := Lib.hid (show (w2.setCell ⟨ab, 11, none⟩ (.bool false)).heap[ab]? = some (.cells #[.string k.1, .string k.2, .slice (some ⟨sb, 0, none⟩) m sc, .int .i64 (i : Nat), .int .i64 now, .slice wa n wc, .slice none 0 0, .int .i64 q0, .int .i64 tag, .int .i64 op, .int .i64 asked, .bool false, .bool wi, .int .i64 tm, .int .i64 st, .bool kn, .bool br, .int .i64 bl, .bool fr, .int .i64 fl] 57 (0, 0)) from blk_set (n := 11) HA2.out (by first | rfl | simp))
  have hr : Rim ab w2 (w2.setCell ⟨ab, 11, none⟩ (.bool false)) := rim_set (Rim.of (Below.refl _ _))
  have HX3 := Lib.hid (hr.rimT HA2.out HX2.out (by decide))
  have HM3 := Lib.hid (HM2.out.trans hr)
  clear hr hk hl hf HA2 HX2 HM2 HD2 HQ2
  generalize (w2.setCell ⟨ab, 11, none⟩ (.bool false)) = w3 at *
  have HQ3 := Lib.hid (show AgP w3 ab k zs (⟨i, now, ws, q0, tag, op, asked, false, wi, tm, st, kn, br, bl, fr, fl⟩ : Ag) from by
    have h9 := AgP.own H1.out HSV.out HWS.out HM3.out
    exact ⟨sb, sc, wa, wc, by dsimp only; rw [HN.out, HMZ.out]; exact HA3.out, h9.1, h9.2⟩)
  have hk := blk_cell HX3.out
  have hl := blk_lt HX3.out
  go_wp2_with fail
  refine (agAnswered ab k zs _ op tag q ka ki fu su w3 HQ3.out HOK.out).mono ?_
  rintro e w4 ⟨rfl, hq, hr⟩
  have HQ4 := Lib.hid hq
  have HM4 := Lib.hid (HM3.out.trans hr)
  clear hq hr hk hl
  go_wp2
  go_ret
  exact ⟨rfl, HQ4.out, HM4.out⟩

set_option maxRecDepth 100000 in
set_option maxHeartbeats 1000000 in
theorem agReceiveOld (ab : Nat) (k : ByteArray × ByteArray) (zs : List Int) (s : Ag) (op tag q : Int) (ka ki : ByteArray) (fu : Bool) (su : Int) (z : Int) (w : World) (h : AgP w ab k zs s) (hz : zs[s.i]? = some z) (hok : OkA op q ka ki fu su) (hne : tag ≠ s.tag) (hwt : s.wt = true) :
    Calls Try.prog 11 #[.pointer (some ⟨ab, 0, none⟩), .int .i64 z, .agg #[.int .i64 2, .int .i64 op, .int .i64 0, .int .i64 0, .int .i64 tag, .int .i64 0, .int .i64 q, .string ka, .string ki, .bool fu, .int .u32 su, .slice none 0 0, .slice none 0 0]] w fun r w' => r = .returned (.int .i64 (-1)) ∧ Below w.heap.size w w' := by
  have hlt := h.lt
  have D0 := Lib.hid (show Below w.heap.size w (w.alloc (.cells #[.int .i64 2, .int .i64 op, .int .i64 0, .int .i64 0, .int .i64 tag, .int .i64 0, .int .i64 q, .string ka, .string ki, .bool fu, .int .u32 su, .slice none 0 0, .slice none 0 0] 37)) from (Below.refl _ _).alloc (Nat.le_refl _) _)
  have HX := Lib.hid (blk_new w #[.int .i64 2, .int .i64 op, .int .i64 0, .int .i64 0, .int .i64 tag, .int .i64 0, .int .i64 q, .string ka, .string ki, .bool fu, .int .u32 su, .slice none 0 0, .slice none 0 0] 37)
  have HQ := Lib.hid (h.ext D0.out)
  have HOK := Lib.hid hok
  have HZ := Lib.hid hz
  clear hok hz
  obtain ⟨i, now, ws, q0, tag0, op0, asked, wt, wi, tm, st, kn, br, bl, fr, fl⟩ := s
  obtain ⟨sb, sc, wa, wc, h1, hsv, hws⟩ := h
  dsimp only at h1 hws hwt hne
  obtain ⟨n, hn⟩ : ∃ n, ws.length = n := ⟨_, rfl⟩
  obtain ⟨m, hm⟩ : ∃ m, zs.length = m := ⟨_, rfl⟩
  rw [hn, hm] at h1
  have H1 := Lib.hid h1
  have HSV := Lib.hid hsv
  have HWS := Lib.hid hws
  have HN := Lib.hid hn
  have HM := Lib.hid hm
  clear h1 hsv hws hn hm
  have HMZ := HM
  clear HM
  subst hwt
  have HA := Lib.hid (blk_ext D0.out H1.out)
  have hee : ∀ z : Int, (z != z) = false := fun z => by simp
  have hnn := neqNil
  have hne1 : (tag != tag0) = true := by simpa using hne
  clear hne
  go_enter Try.func11, Try.ntmps11
  go_upto_region 1 with (fail)
  obtain ⟨p, hp⟩ : ∃ p, w.heap.size = p := ⟨_, rfl⟩
  have hpa : p ≠ ab := by omega
  have HPW := Lib.hid (show w.heap.size ≤ p from by omega)
  rw [hp] at HX
  try rw [hp]
  clear hp hlt
  generalize (w.alloc (.cells #[.int .i64 2, .int .i64 op, .int .i64 0, .int .i64 0, .int .i64 tag, .int .i64 0, .int .i64 q, .string ka, .string ki, .bool fu, .int .u32 su, .slice none 0 0, .slice none 0 0] 37)) = w1 at *
  have hk := blk_cell HX.out
  have hl := blk_lt HX.out
  have HM1 := Lib.hid (Rim.of (b := ab) D0.out)
  have hk2 := blk_cell HA.out
  have hl2 := blk_lt HA.out
  haveI hIq : Nonempty (Of w1) := of_some _
  have hG0 := blk_of HX.out
  have hG1 := blk_of HA.out
  first | (refine wp_region_stay w1 (by kernel_rfl) (by kernel_rfl) (by go_grown) ?_) | (refine wp_region_stay_seq w1 (by go_grown) ?_)
  repeat (go_big_quiet_step (first | (go_at_call 24; with_reducible refine stay_call (mailRightN op tag q ka ki fu su _ HOK.out)) | (go_at_call 25; with_reducible refine stay_call (agServer ab k zs _ z _ (HQ.out.ext (In.h _)) HZ.out))))
  refine wpQuiet_nil ?_
  intro w2 hb2
  clear hIq hG0 hG1
  have HX2 := Lib.hid (blk_ext hb2 HX.out)
  have HA2 := Lib.hid (blk_ext hb2 HA.out)
  have HQ2 := Lib.hid (HQ.out.ext hb2)
  have HM2 := Lib.hid (HM1.out.trans (Rim.of hb2))
  have HD2 := Lib.hid (ext_trans D0.out hb2)
  clear hb2 hk hl hk2 hl2 HX HA HQ HM1 D0
  go_wp2
  go_ret
  exact ⟨rfl, HD2.out⟩

end Go.Proofs.Ytibgphjadiidaaa
