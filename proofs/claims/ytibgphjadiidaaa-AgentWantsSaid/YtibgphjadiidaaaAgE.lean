/- Package agent: next. -/
import Derived.Test.YtibgphjadiidaaaAgD
namespace Go.Proofs.Ytibgphjadiidaaa
open Go.RowKit
set_option linter.unusedVariables false
set_option linter.unusedSimpArgs false

set_option maxRecDepth 100000 in
set_option maxHeartbeats 1000000 in
theorem agNextB1 (ab : Nat) (k : ByteArray × ByteArray) (zs : List Int) (s : Ag) (w : World) (h : AgP w ab k zs s) (hb : 0 ≤ s.now ∧ s.now ≤ 1000000 ∧ 0 ≤ s.bl ∧ s.bl ≤ 1000000 ∧ 0 ≤ s.fl ∧ s.fl ≤ 1000000) (t : Ag × Ms × Bool) (ht : nextM k s = t) (hws0 : s.ws = []) (hwi : s.wi = true) (hd : du s.br s.bl s.now 10 = true) (hkn : s.kn = true) :
    Calls Try.prog 22 #[.pointer (some ⟨ab, 0, none⟩)] w fun r w' => r = .returned (.tuple #[.agg #[.int .i64 0, .int .i64 t.2.1.op, .int .i64 t.2.1.st, .int .i64 0, .int .i64 0, .int .i64 t.2.1.N, .int .i64 t.2.1.sq, .string t.2.1.a, .string t.2.1.i, .bool false, .int .u32 0, .slice none 0 0, .slice none 0 0], .bool t.2.2]) ∧ AgP w' ab k zs t.1 ∧ Rim ab w w' := by
  obtain ⟨i, now, ws, q, tag, op, asked, wt, wi, tm, st, kn, br, bl, fr, fl⟩ := s
  obtain ⟨sb, sc, wa, wc, h1, hsv, hws⟩ := h
  dsimp only at h1 hws
  obtain ⟨n, hn⟩ : ∃ n, ws.length = n := ⟨_, rfl⟩
  obtain ⟨m, hm⟩ : ∃ m, zs.length = m := ⟨_, rfl⟩
  rw [hn, hm] at h1
  have H1 := Lib.hid h1
  have HSV := Lib.hid hsv
  have HWS := Lib.hid hws
  have HN := Lib.hid hn
  have HM := Lib.hid hm
  clear h1 hsv hws hn hm
  unfold nextM at ht
  dsimp only at hws0 hwi hd hkn hb
  subst hws0 hwi hkn
  dsimp only at ht
  rw [if_pos ⟨rfl, hd⟩] at ht
  rw [if_pos rfl] at ht
  try dsimp only at ht
  subst ht
  try dsimp only
  have HBB := Lib.hid hb
  clear hb
  have HHD := Lib.hid hd
  clear hd
  obtain rfl : 0 = n := HN.out
  have HMZ := HM
  clear HM
  have D0 := Lib.hid (show Below w.heap.size w (w.alloc (.cells #[.int .i64 0, .int .i64 0, .int .i64 0, .int .i64 0, .int .i64 0, .int .i64 0, .int .i64 0, .string ⟨#[]⟩, .string ⟨#[]⟩, .bool false, .int .u32 0, .slice none 0 0, .slice none 0 0] 37)) from (Below.refl _ _).alloc (Nat.le_refl _) _)
  have HR1 := Lib.hid (blk_new w #[.int .i64 0, .int .i64 0, .int .i64 0, .int .i64 0, .int .i64 0, .int .i64 0, .int .i64 0, .string ⟨#[]⟩, .string ⟨#[]⟩, .bool false, .int .u32 0, .slice none 0 0, .slice none 0 0] 37)
  have HA1 := Lib.hid (blk_ext D0.out H1.out)
  have hlt := blk_lt H1.out
  go_enter Try.func22, Try.ntmps22
  go_upto_region 1 with (fail)
  obtain ⟨r, hr⟩ : ∃ r, w.heap.size = r := ⟨_, rfl⟩
  have HRW := Lib.hid (show w.heap.size ≤ r from by omega)
  rw [hr] at HR1
  try rw [hr]
  clear hr hlt
  generalize (w.alloc (.cells #[.int .i64 0, .int .i64 0, .int .i64 0, .int .i64 0, .int .i64 0, .int .i64 0, .int .i64 0, .string ⟨#[]⟩, .string ⟨#[]⟩, .bool false, .int .u32 0, .slice none 0 0, .slice none 0 0] 37)) = w1 at *
  have HM1 := Lib.hid (Rim.of (b := ab) D0.out)
  clear D0
  have hk := blk_cell HA1.out
  have hl := blk_lt HA1.out
  have hf := blk_free HA1.out
  go_upto_region 5 with (fail)
  haveI hIq : Nonempty (Of w1) := of_some _
  have hG0 := blk_of HA1.out
  first | (refine wp_region_stay w1 (by kernel_rfl) (by kernel_rfl) (by go_grown) ?_) | (refine wp_region_stay_seq w1 (by go_grown) ?_)
  repeat (go_big_quiet_step ((go_at_call 30; with_reducible refine stay_as (due_any br bl now 10 _ HBB.out.1 (by have := HBB.out; omega) (by have := HBB.out; omega) (by have := HBB.out; omega)) (congrArg Value.bool HHD.out))))
  refine wpQuiet_nil ?_
  intro w2 hb2
  clear hIq hG0
  have HA2 := Lib.hid (blk_ext hb2 HA1.out)
  have HR2 := Lib.hid (blk_ext hb2 HR1.out)
  have HM2 := Lib.hid (HM1.out.trans (Rim.of hb2))
  clear hb2 HA1 HR1 HM1 hk hl hf
  have hk := blk_cell HA2.out
  have hl := blk_lt HA2.out
  have hf := blk_free HA2.out
  go_upto_region 8 with (fail)
  have HA3 := Lib.hid (show ((w2.setCell ⟨ab, 16, none⟩ (.bool true)).setCell ⟨ab, 17, none⟩ (.int .i64 now)).heap[ab]? = some (.cells #[.string k.1, .string k.2, .slice (some ⟨sb, 0, none⟩) m sc, .int .i64 (i : Nat), .int .i64 now, .slice wa 0 wc, .slice none 0 0, .int .i64 q, .int .i64 tag, .int .i64 op, .int .i64 asked, .bool wt, .bool true, .int .i64 tm, .int .i64 st, .bool true, .bool true, .int .i64 now, .bool fr, .int .i64 fl] 57 (0, 0)) from (blk_set (n := 17) (vs' := #[.string k.1, .string k.2, .slice (some ⟨sb, 0, none⟩) m sc, .int .i64 (i : Nat), .int .i64 now, .slice wa 0 wc, .slice none 0 0, .int .i64 q, .int .i64 tag, .int .i64 op, .int .i64 asked, .bool wt, .bool true, .int .i64 tm, .int .i64 st, .bool true, .bool true, .int .i64 now, .bool fr, .int .i64 fl]) (blk_set (n := 16) (vs' := #[.string k.1, .string k.2, .slice (some ⟨sb, 0, none⟩) m sc, .int .i64 (i : Nat), .int .i64 now, .slice wa 0 wc, .slice none 0 0, .int .i64 q, .int .i64 tag, .int .i64 op, .int .i64 asked, .bool wt, .bool true, .int .i64 tm, .int .i64 st, .bool true, .bool true, .int .i64 bl, .bool fr, .int .i64 fl]) HA2.out (by first | rfl | simp)) (by first | rfl | simp)))
  have hr : Rim ab w2 ((w2.setCell ⟨ab, 16, none⟩ (.bool true)).setCell ⟨ab, 17, none⟩ (.int .i64 now)) := (rim_set (rim_set (Rim.of (Below.refl _ _))))
  have HR3 := Lib.hid (hr.rimT HA2.out HR2.out (by decide))
  have HM3 := Lib.hid (HM2.out.trans hr)
  clear hr hk hl hf HA2 HR2 HM2
  generalize ((w2.setCell ⟨ab, 16, none⟩ (.bool true)).setCell ⟨ab, 17, none⟩ (.int .i64 now)) = w3 at *
  have HQ3 := Lib.hid (show AgP w3 ab k zs (⟨i, now, [], q, tag, op, asked, wt, true, tm, st, true, true, now, fr, fl⟩ : Ag) from by
    have h9 := AgP.own H1.out HSV.out HWS.out HM3.out
    exact ⟨sb, sc, wa, wc, by dsimp only; rw [HN.out, HMZ.out]; exact HA3.out, h9.1, h9.2⟩)
  have hk := blk_cell HA3.out
  have hl := blk_lt HA3.out
  have hf := blk_free HA3.out
  have hkr := blk_cell HR3.out
  have hlr := blk_lt HR3.out
  have hfr := blk_free HR3.out
  go_wp2_with fail
  refine bodyPost_ret (v := .tuple #[.agg #[.int .i64 0, .int .i64 2, .int .i64 0, .int .i64 0, .int .i64 0, .int .i64 0, .int .i64 0, .string k.1, .string k.2, .bool false, .int .u32 0, .slice none 0 0, .slice none 0 0], .bool true]) (by have hk2 := blk_cell (blk_fill13 (v0 := .int .i64 0) (v1 := .int .i64 2) (v2 := .int .i64 0) (v3 := .int .i64 0) (v4 := .int .i64 0) (v5 := .int .i64 0) (v6 := .int .i64 0) (v7 := .string k.1) (v8 := .string k.2) (v9 := .bool false) (v10 := .int .u32 0) (v11 := .slice none 0 0) (v12 := .slice none 0 0) HR3.out rfl); simp [results, Try.results22, go_sem, hk2]) rfl ⟨rfl, ?_, ?_⟩
  · exact (HQ3.out).rimO (Rim13 (Rim.of (Below.refl _ _))) HR3.out (by decide) (by decide) (by decide)
  · exact rim_newL HM3.out HRW.out HR3.out (Rim13 (Rim.of (Below.refl _ _)))

set_option maxRecDepth 100000 in
set_option maxHeartbeats 1000000 in
theorem agNextB2 (ab : Nat) (k : ByteArray × ByteArray) (zs : List Int) (s : Ag) (w : World) (h : AgP w ab k zs s) (hb : 0 ≤ s.now ∧ s.now ≤ 1000000 ∧ 0 ≤ s.bl ∧ s.bl ≤ 1000000 ∧ 0 ≤ s.fl ∧ s.fl ≤ 1000000) (t : Ag × Ms × Bool) (ht : nextM k s = t) (hws0 : s.ws = []) (hwi : s.wi = true) (hd : du s.br s.bl s.now 10 = true) (hkn : s.kn = false) :
    Calls Try.prog 22 #[.pointer (some ⟨ab, 0, none⟩)] w fun r w' => r = .returned (.tuple #[.agg #[.int .i64 0, .int .i64 t.2.1.op, .int .i64 t.2.1.st, .int .i64 0, .int .i64 0, .int .i64 t.2.1.N, .int .i64 t.2.1.sq, .string t.2.1.a, .string t.2.1.i, .bool false, .int .u32 0, .slice none 0 0, .slice none 0 0], .bool t.2.2]) ∧ AgP w' ab k zs t.1 ∧ Rim ab w w' := by
  obtain ⟨i, now, ws, q, tag, op, asked, wt, wi, tm, st, kn, br, bl, fr, fl⟩ := s
  obtain ⟨sb, sc, wa, wc, h1, hsv, hws⟩ := h
  dsimp only at h1 hws
  obtain ⟨n, hn⟩ : ∃ n, ws.length = n := ⟨_, rfl⟩
  obtain ⟨m, hm⟩ : ∃ m, zs.length = m := ⟨_, rfl⟩
  rw [hn, hm] at h1
  have H1 := Lib.hid h1
  have HSV := Lib.hid hsv
  have HWS := Lib.hid hws
  have HN := Lib.hid hn
  have HM := Lib.hid hm
  clear h1 hsv hws hn hm
  unfold nextM at ht
  dsimp only at hws0 hwi hd hkn hb
  subst hws0 hwi hkn
  dsimp only at ht
  rw [if_pos ⟨rfl, hd⟩] at ht
  rw [if_neg (by decide)] at ht
  try dsimp only at ht
  subst ht
  try dsimp only
  have HBB := Lib.hid hb
  clear hb
  have HHD := Lib.hid hd
  clear hd
  obtain rfl : 0 = n := HN.out
  have HMZ := HM
  clear HM
  have D0 := Lib.hid (show Below w.heap.size w (w.alloc (.cells #[.int .i64 0, .int .i64 0, .int .i64 0, .int .i64 0, .int .i64 0, .int .i64 0, .int .i64 0, .string ⟨#[]⟩, .string ⟨#[]⟩, .bool false, .int .u32 0, .slice none 0 0, .slice none 0 0] 37)) from (Below.refl _ _).alloc (Nat.le_refl _) _)
  have HR1 := Lib.hid (blk_new w #[.int .i64 0, .int .i64 0, .int .i64 0, .int .i64 0, .int .i64 0, .int .i64 0, .int .i64 0, .string ⟨#[]⟩, .string ⟨#[]⟩, .bool false, .int .u32 0, .slice none 0 0, .slice none 0 0] 37)
  have HA1 := Lib.hid (blk_ext D0.out H1.out)
  have hlt := blk_lt H1.out
  go_enter Try.func22, Try.ntmps22
  go_upto_region 1 with (fail)
  obtain ⟨r, hr⟩ : ∃ r, w.heap.size = r := ⟨_, rfl⟩
  have HRW := Lib.hid (show w.heap.size ≤ r from by omega)
  rw [hr] at HR1
  try rw [hr]
  clear hr hlt
  generalize (w.alloc (.cells #[.int .i64 0, .int .i64 0, .int .i64 0, .int .i64 0, .int .i64 0, .int .i64 0, .int .i64 0, .string ⟨#[]⟩, .string ⟨#[]⟩, .bool false, .int .u32 0, .slice none 0 0, .slice none 0 0] 37)) = w1 at *
  have HM1 := Lib.hid (Rim.of (b := ab) D0.out)
  clear D0
  have hk := blk_cell HA1.out
  have hl := blk_lt HA1.out
  have hf := blk_free HA1.out
  go_upto_region 5 with (fail)
  haveI hIq : Nonempty (Of w1) := of_some _
  have hG0 := blk_of HA1.out
  first | (refine wp_region_stay w1 (by kernel_rfl) (by kernel_rfl) (by go_grown) ?_) | (refine wp_region_stay_seq w1 (by go_grown) ?_)
  repeat (go_big_quiet_step ((go_at_call 30; with_reducible refine stay_as (due_any br bl now 10 _ HBB.out.1 (by have := HBB.out; omega) (by have := HBB.out; omega) (by have := HBB.out; omega)) (congrArg Value.bool HHD.out))))
  refine wpQuiet_nil ?_
  intro w2 hb2
  clear hIq hG0
  have HA2 := Lib.hid (blk_ext hb2 HA1.out)
  have HR2 := Lib.hid (blk_ext hb2 HR1.out)
  have HM2 := Lib.hid (HM1.out.trans (Rim.of hb2))
  clear hb2 HA1 HR1 HM1 hk hl hf
  have hk := blk_cell HA2.out
  have hl := blk_lt HA2.out
  have hf := blk_free HA2.out
  have HQ2 := Lib.hid (show AgP w2 ab k zs (⟨i, now, [], q, tag, op, asked, wt, true, tm, st, false, br, bl, fr, fl⟩ : Ag) from by
    have h9 := AgP.own H1.out HSV.out HWS.out HM2.out
    exact ⟨sb, sc, wa, wc, by dsimp only; rw [HN.out, HMZ.out]; exact HA2.out, h9.1, h9.2⟩)
  go_wp2_with fail
  refine (agRegister ab k zs _ w2 HQ2.out).mono ?_
  rintro e w3 ⟨rfl, hq, hr⟩
  have HR3 := Lib.hid (hr.rimT HA2.out HR2.out (by decide))
  have HM3 := Lib.hid (HM2.out.trans hr)
  have HQ3 := Lib.hid hq
  clear hq hr HA2 HR2 HM2 HQ2 hk hl hf
  unfold regM at *
  dsimp only at *
  have hkr := blk_cell HR3.out
  have hlr := blk_lt HR3.out
  have hfr := blk_free HR3.out
  go_wp2_with fail
  refine bodyPost_ret (v := .tuple #[.agg #[.int .i64 0, .int .i64 1, .int .i64 st, .int .i64 0, .int .i64 0, .int .i64 tm, .int .i64 0, .string k.1, .string k.2, .bool false, .int .u32 0, .slice none 0 0, .slice none 0 0], .bool true]) (by have hk2 := blk_cell (blk_fill13 (v0 := .int .i64 0) (v1 := .int .i64 1) (v2 := .int .i64 st) (v3 := .int .i64 0) (v4 := .int .i64 0) (v5 := .int .i64 tm) (v6 := .int .i64 0) (v7 := .string k.1) (v8 := .string k.2) (v9 := .bool false) (v10 := .int .u32 0) (v11 := .slice none 0 0) (v12 := .slice none 0 0) HR3.out rfl); simp [results, Try.results22, go_sem, hk2]) rfl ⟨rfl, ?_, ?_⟩
  · exact (HQ3.out).rimO (Rim13 (Rim.of (Below.refl _ _))) HR3.out (by decide) (by decide) (by decide)
  · exact rim_newL HM3.out HRW.out HR3.out (Rim13 (Rim.of (Below.refl _ _)))

set_option maxRecDepth 100000 in
set_option maxHeartbeats 1000000 in
theorem agNextC1 (ab : Nat) (k : ByteArray × ByteArray) (zs : List Int) (s : Ag) (w : World) (h : AgP w ab k zs s) (hb : 0 ≤ s.now ∧ s.now ≤ 1000000 ∧ 0 ≤ s.bl ∧ s.bl ≤ 1000000 ∧ 0 ≤ s.fl ∧ s.fl ≤ 1000000) (t : Ag × Ms × Bool) (ht : nextM k s = t) (hws0 : s.ws = []) (hwi : s.wi = true) (hd : du s.br s.bl s.now 10 = false) (he : du s.fr s.fl s.now 25 = true) :
    Calls Try.prog 22 #[.pointer (some ⟨ab, 0, none⟩)] w fun r w' => r = .returned (.tuple #[.agg #[.int .i64 0, .int .i64 t.2.1.op, .int .i64 t.2.1.st, .int .i64 0, .int .i64 0, .int .i64 t.2.1.N, .int .i64 t.2.1.sq, .string t.2.1.a, .string t.2.1.i, .bool false, .int .u32 0, .slice none 0 0, .slice none 0 0], .bool t.2.2]) ∧ AgP w' ab k zs t.1 ∧ Rim ab w w' := by
  obtain ⟨i, now, ws, q, tag, op, asked, wt, wi, tm, st, kn, br, bl, fr, fl⟩ := s
  obtain ⟨sb, sc, wa, wc, h1, hsv, hws⟩ := h
  dsimp only at h1 hws
  obtain ⟨n, hn⟩ : ∃ n, ws.length = n := ⟨_, rfl⟩
  obtain ⟨m, hm⟩ : ∃ m, zs.length = m := ⟨_, rfl⟩
  rw [hn, hm] at h1
  have H1 := Lib.hid h1
  have HSV := Lib.hid hsv
  have HWS := Lib.hid hws
  have HN := Lib.hid hn
  have HM := Lib.hid hm
  clear h1 hsv hws hn hm
  unfold nextM at ht
  dsimp only at hws0 hwi hd he hb
  subst hws0 hwi
  dsimp only at ht
  rw [if_neg (by rintro ⟨_, h⟩; rw [hd] at h; cases h)] at ht
  rw [if_pos he] at ht
  try dsimp only at ht
  subst ht
  try dsimp only
  have HBB := Lib.hid hb
  clear hb
  have HHD := Lib.hid hd
  clear hd
  have HHE := Lib.hid he
  clear he
  obtain rfl : 0 = n := HN.out
  have HMZ := HM
  clear HM
  have D0 := Lib.hid (show Below w.heap.size w (w.alloc (.cells #[.int .i64 0, .int .i64 0, .int .i64 0, .int .i64 0, .int .i64 0, .int .i64 0, .int .i64 0, .string ⟨#[]⟩, .string ⟨#[]⟩, .bool false, .int .u32 0, .slice none 0 0, .slice none 0 0] 37)) from (Below.refl _ _).alloc (Nat.le_refl _) _)
  have HR1 := Lib.hid (blk_new w #[.int .i64 0, .int .i64 0, .int .i64 0, .int .i64 0, .int .i64 0, .int .i64 0, .int .i64 0, .string ⟨#[]⟩, .string ⟨#[]⟩, .bool false, .int .u32 0, .slice none 0 0, .slice none 0 0] 37)
  have HA1 := Lib.hid (blk_ext D0.out H1.out)
  have hlt := blk_lt H1.out
  go_enter Try.func22, Try.ntmps22
  go_upto_region 1 with (fail)
  obtain ⟨r, hr⟩ : ∃ r, w.heap.size = r := ⟨_, rfl⟩
  have HRW := Lib.hid (show w.heap.size ≤ r from by omega)
  rw [hr] at HR1
  try rw [hr]
  clear hr hlt
  generalize (w.alloc (.cells #[.int .i64 0, .int .i64 0, .int .i64 0, .int .i64 0, .int .i64 0, .int .i64 0, .int .i64 0, .string ⟨#[]⟩, .string ⟨#[]⟩, .bool false, .int .u32 0, .slice none 0 0, .slice none 0 0] 37)) = w1 at *
  have HM1 := Lib.hid (Rim.of (b := ab) D0.out)
  clear D0
  have hk := blk_cell HA1.out
  have hl := blk_lt HA1.out
  have hf := blk_free HA1.out
  go_upto_region 5 with (fail)
  haveI hIq : Nonempty (Of w1) := of_some _
  have hG0 := blk_of HA1.out
  first | (refine wp_region_stay w1 (by kernel_rfl) (by kernel_rfl) (by go_grown) ?_) | (refine wp_region_stay_seq w1 (by go_grown) ?_)
  repeat (go_big_quiet_step ((go_at_call 30; with_reducible refine stay_as (due_any br bl now 10 _ HBB.out.1 (by have := HBB.out; omega) (by have := HBB.out; omega) (by have := HBB.out; omega)) (congrArg Value.bool HHD.out))))
  refine wpQuiet_nil ?_
  intro w2 hb2
  clear hIq hG0
  have HA2 := Lib.hid (blk_ext hb2 HA1.out)
  have HR2 := Lib.hid (blk_ext hb2 HR1.out)
  have HM2 := Lib.hid (HM1.out.trans (Rim.of hb2))
  clear hb2 HA1 HR1 HM1 hk hl hf
  have hk := blk_cell HA2.out
  have hl := blk_lt HA2.out
  have hf := blk_free HA2.out
  go_upto_region 10 with (fail)
  haveI hIq : Nonempty (Of w2) := of_some _
  have hG0 := blk_of HA2.out
  first | (refine wp_region_stay w2 (by kernel_rfl) (by kernel_rfl) (by go_grown) ?_) | (refine wp_region_stay_seq w2 (by go_grown) ?_)
  repeat (go_big_quiet_step ((go_at_call 30; with_reducible refine stay_as (due_any fr fl now 25 _ HBB.out.1 (by have := HBB.out; omega) (by have := HBB.out; omega) (by have := HBB.out; omega)) (congrArg Value.bool HHE.out))))
  refine wpQuiet_nil ?_
  intro w3 hb3
  clear hIq hG0
  have HA3 := Lib.hid (blk_ext hb3 HA2.out)
  have HR3 := Lib.hid (blk_ext hb3 HR2.out)
  have HM3 := Lib.hid (HM2.out.trans (Rim.of hb3))
  clear hb3 HA2 HR2 HM2 hk hl hf
  have hk := blk_cell HA3.out
  have hl := blk_lt HA3.out
  have hf := blk_free HA3.out
  go_upto_region 12 with (fail)
  have HA4 := Lib.hid (show ((w3.setCell ⟨ab, 18, none⟩ (.bool true)).setCell ⟨ab, 19, none⟩ (.int .i64 now)).heap[ab]? = some (.cells #[.string k.1, .string k.2, .slice (some ⟨sb, 0, none⟩) m sc, .int .i64 (i : Nat), .int .i64 now, .slice wa 0 wc, .slice none 0 0, .int .i64 q, .int .i64 tag, .int .i64 op, .int .i64 asked, .bool wt, .bool true, .int .i64 tm, .int .i64 st, .bool kn, .bool br, .int .i64 bl, .bool true, .int .i64 now] 57 (0, 0)) from (blk_set (n := 19) (vs' := #[.string k.1, .string k.2, .slice (some ⟨sb, 0, none⟩) m sc, .int .i64 (i : Nat), .int .i64 now, .slice wa 0 wc, .slice none 0 0, .int .i64 q, .int .i64 tag, .int .i64 op, .int .i64 asked, .bool wt, .bool true, .int .i64 tm, .int .i64 st, .bool kn, .bool br, .int .i64 bl, .bool true, .int .i64 now]) (blk_set (n := 18) (vs' := #[.string k.1, .string k.2, .slice (some ⟨sb, 0, none⟩) m sc, .int .i64 (i : Nat), .int .i64 now, .slice wa 0 wc, .slice none 0 0, .int .i64 q, .int .i64 tag, .int .i64 op, .int .i64 asked, .bool wt, .bool true, .int .i64 tm, .int .i64 st, .bool kn, .bool br, .int .i64 bl, .bool true, .int .i64 fl]) HA3.out (by first | rfl | simp)) (by first | rfl | simp)))
  have hr : Rim ab w3 ((w3.setCell ⟨ab, 18, none⟩ (.bool true)).setCell ⟨ab, 19, none⟩ (.int .i64 now)) := (rim_set (rim_set (Rim.of (Below.refl _ _))))
  have HR4 := Lib.hid (hr.rimT HA3.out HR3.out (by decide))
  have HM4 := Lib.hid (HM3.out.trans hr)
  clear hr hk hl hf HA3 HR3 HM3
  generalize ((w3.setCell ⟨ab, 18, none⟩ (.bool true)).setCell ⟨ab, 19, none⟩ (.int .i64 now)) = w4 at *
  have HQ4 := Lib.hid (show AgP w4 ab k zs (⟨i, now, [], q, tag, op, asked, wt, true, tm, st, kn, br, bl, true, now⟩ : Ag) from by
    have h9 := AgP.own H1.out HSV.out HWS.out HM4.out
    exact ⟨sb, sc, wa, wc, by dsimp only; rw [HN.out, HMZ.out]; exact HA4.out, h9.1, h9.2⟩)
  go_wp2_with fail
  refine (agSince ab k zs _ w4 HQ4.out).mono ?_
  rintro e w5 ⟨rfl, rfl⟩
  have hkr := blk_cell HR4.out
  have hlr := blk_lt HR4.out
  have hfr := blk_free HR4.out
  go_wp2_with fail
  refine bodyPost_ret (v := .tuple #[.agg #[.int .i64 0, .int .i64 5, .int .i64 0, .int .i64 0, .int .i64 0, .int .i64 0, .int .i64 q, .string ⟨#[]⟩, .string ⟨#[]⟩, .bool false, .int .u32 0, .slice none 0 0, .slice none 0 0], .bool true]) (by have hk2 := blk_cell (blk_fill13 (v0 := .int .i64 0) (v1 := .int .i64 5) (v2 := .int .i64 0) (v3 := .int .i64 0) (v4 := .int .i64 0) (v5 := .int .i64 0) (v6 := .int .i64 q) (v7 := .string ⟨#[]⟩) (v8 := .string ⟨#[]⟩) (v9 := .bool false) (v10 := .int .u32 0) (v11 := .slice none 0 0) (v12 := .slice none 0 0) HR4.out rfl); simp [results, Try.results22, go_sem, hk2]) rfl ⟨rfl, ?_, ?_⟩
  · exact (HQ4.out).rimO (Rim13 (Rim.of (Below.refl _ _))) HR4.out (by decide) (by decide) (by decide)
  · exact rim_newL HM4.out HRW.out HR4.out (Rim13 (Rim.of (Below.refl _ _)))

set_option maxRecDepth 100000 in
set_option maxHeartbeats 1000000 in
theorem agNextC2 (ab : Nat) (k : ByteArray × ByteArray) (zs : List Int) (s : Ag) (w : World) (h : AgP w ab k zs s) (hb : 0 ≤ s.now ∧ s.now ≤ 1000000 ∧ 0 ≤ s.bl ∧ s.bl ≤ 1000000 ∧ 0 ≤ s.fl ∧ s.fl ≤ 1000000) (t : Ag × Ms × Bool) (ht : nextM k s = t) (hws0 : s.ws = []) (hwi : s.wi = true) (hd : du s.br s.bl s.now 10 = false) (he : du s.fr s.fl s.now 25 = false) :
    Calls Try.prog 22 #[.pointer (some ⟨ab, 0, none⟩)] w fun r w' => r = .returned (.tuple #[.agg #[.int .i64 0, .int .i64 t.2.1.op, .int .i64 t.2.1.st, .int .i64 0, .int .i64 0, .int .i64 t.2.1.N, .int .i64 t.2.1.sq, .string t.2.1.a, .string t.2.1.i, .bool false, .int .u32 0, .slice none 0 0, .slice none 0 0], .bool t.2.2]) ∧ AgP w' ab k zs t.1 ∧ Rim ab w w' := by
  obtain ⟨i, now, ws, q, tag, op, asked, wt, wi, tm, st, kn, br, bl, fr, fl⟩ := s
  obtain ⟨sb, sc, wa, wc, h1, hsv, hws⟩ := h
  dsimp only at h1 hws
  obtain ⟨n, hn⟩ : ∃ n, ws.length = n := ⟨_, rfl⟩
  obtain ⟨m, hm⟩ : ∃ m, zs.length = m := ⟨_, rfl⟩
  rw [hn, hm] at h1
  have H1 := Lib.hid h1
  have HSV := Lib.hid hsv
  have HWS := Lib.hid hws
  have HN := Lib.hid hn
  have HM := Lib.hid hm
  clear h1 hsv hws hn hm
  unfold nextM at ht
  dsimp only at hws0 hwi hd he hb
  subst hws0 hwi
  dsimp only at ht
  rw [if_neg (by rintro ⟨_, h⟩; rw [hd] at h; cases h)] at ht
  rw [if_neg (by rw [he]; decide)] at ht
  try dsimp only at ht
  subst ht
  try dsimp only
  have HBB := Lib.hid hb
  clear hb
  have HHD := Lib.hid hd
  clear hd
  have HHE := Lib.hid he
  clear he
  obtain rfl : 0 = n := HN.out
  have HMZ := HM
  clear HM
  have D0 := Lib.hid (show Below w.heap.size w (w.alloc (.cells #[.int .i64 0, .int .i64 0, .int .i64 0, .int .i64 0, .int .i64 0, .int .i64 0, .int .i64 0, .string ⟨#[]⟩, .string ⟨#[]⟩, .bool false, .int .u32 0, .slice none 0 0, .slice none 0 0] 37)) from (Below.refl _ _).alloc (Nat.le_refl _) _)
  have HR1 := Lib.hid (blk_new w #[.int .i64 0, .int .i64 0, .int .i64 0, .int .i64 0, .int .i64 0, .int .i64 0, .int .i64 0, .string ⟨#[]⟩, .string ⟨#[]⟩, .bool false, .int .u32 0, .slice none 0 0, .slice none 0 0] 37)
  have HA1 := Lib.hid (blk_ext D0.out H1.out)
  have hlt := blk_lt H1.out
  go_enter Try.func22, Try.ntmps22
  go_upto_region 1 with (fail)
  obtain ⟨r, hr⟩ : ∃ r, w.heap.size = r := ⟨_, rfl⟩
  have HRW := Lib.hid (show w.heap.size ≤ r from by omega)
  rw [hr] at HR1
  try rw [hr]
  clear hr hlt
  generalize (w.alloc (.cells #[.int .i64 0, .int .i64 0, .int .i64 0, .int .i64 0, .int .i64 0, .int .i64 0, .int .i64 0, .string ⟨#[]⟩, .string ⟨#[]⟩, .bool false, .int .u32 0, .slice none 0 0, .slice none 0 0] 37)) = w1 at *
  have HM1 := Lib.hid (Rim.of (b := ab) D0.out)
  clear D0
  have hk := blk_cell HA1.out
  have hl := blk_lt HA1.out
  have hf := blk_free HA1.out
  go_upto_region 5 with (fail)
  haveI hIq : Nonempty (Of w1) := of_some _
  have hG0 := blk_of HA1.out
  first | (refine wp_region_stay w1 (by kernel_rfl) (by kernel_rfl) (by go_grown) ?_) | (refine wp_region_stay_seq w1 (by go_grown) ?_)
  repeat (go_big_quiet_step ((go_at_call 30; with_reducible refine stay_as (due_any br bl now 10 _ HBB.out.1 (by have := HBB.out; omega) (by have := HBB.out; omega) (by have := HBB.out; omega)) (congrArg Value.bool HHD.out))))
  refine wpQuiet_nil ?_
  intro w2 hb2
  clear hIq hG0
  have HA2 := Lib.hid (blk_ext hb2 HA1.out)
  have HR2 := Lib.hid (blk_ext hb2 HR1.out)
  have HM2 := Lib.hid (HM1.out.trans (Rim.of hb2))
  clear hb2 HA1 HR1 HM1 hk hl hf
  have hk := blk_cell HA2.out
  have hl := blk_lt HA2.out
  have hf := blk_free HA2.out
  go_upto_region 10 with (fail)
  haveI hIq : Nonempty (Of w2) := of_some _
  have hG0 := blk_of HA2.out
  first | (refine wp_region_stay w2 (by kernel_rfl) (by kernel_rfl) (by go_grown) ?_) | (refine wp_region_stay_seq w2 (by go_grown) ?_)
  repeat (go_big_quiet_step ((go_at_call 30; with_reducible refine stay_as (due_any fr fl now 25 _ HBB.out.1 (by have := HBB.out; omega) (by have := HBB.out; omega) (by have := HBB.out; omega)) (congrArg Value.bool HHE.out))))
  refine wpQuiet_nil ?_
  intro w3 hb3
  clear hIq hG0
  have HA3 := Lib.hid (blk_ext hb3 HA2.out)
  have HR3 := Lib.hid (blk_ext hb3 HR2.out)
  have HM3 := Lib.hid (HM2.out.trans (Rim.of hb3))
  clear hb3 HA2 HR2 HM2 hk hl hf
  have hk := blk_cell HA3.out
  have hl := blk_lt HA3.out
  have hf := blk_free HA3.out
  have HQ3 := Lib.hid (show AgP w3 ab k zs (⟨i, now, [], q, tag, op, asked, wt, true, tm, st, kn, br, bl, fr, fl⟩ : Ag) from by
    have h9 := AgP.own H1.out HSV.out HWS.out HM3.out
    exact ⟨sb, sc, wa, wc, by dsimp only; rw [HN.out, HMZ.out]; exact HA3.out, h9.1, h9.2⟩)
  have hkr := blk_cell HR3.out
  have hlr := blk_lt HR3.out
  have hfr := blk_free HR3.out
  go_wp2_with fail
  refine bodyPost_ret (v := .tuple #[.agg #[.int .i64 0, .int .i64 0, .int .i64 0, .int .i64 0, .int .i64 0, .int .i64 0, .int .i64 0, .string ⟨#[]⟩, .string ⟨#[]⟩, .bool false, .int .u32 0, .slice none 0 0, .slice none 0 0], .bool false]) (by have hk2 := blk_cell (blk_fill13 (v0 := .int .i64 0) (v1 := .int .i64 0) (v2 := .int .i64 0) (v3 := .int .i64 0) (v4 := .int .i64 0) (v5 := .int .i64 0) (v6 := .int .i64 0) (v7 := .string ⟨#[]⟩) (v8 := .string ⟨#[]⟩) (v9 := .bool false) (v10 := .int .u32 0) (v11 := .slice none 0 0) (v12 := .slice none 0 0) HR3.out rfl); simp [results, Try.results22, go_sem, hk2]) rfl ⟨rfl, ?_, ?_⟩
  · exact (HQ3.out).rimO (Rim13 (Rim.of (Below.refl _ _))) HR3.out (by decide) (by decide) (by decide)
  · exact rim_newL HM3.out HRW.out HR3.out (Rim13 (Rim.of (Below.refl _ _)))

set_option maxRecDepth 100000 in
set_option maxHeartbeats 1000000 in
theorem agNextD1 (ab : Nat) (k : ByteArray × ByteArray) (zs : List Int) (s : Ag) (w : World) (h : AgP w ab k zs s) (hb : 0 ≤ s.now ∧ s.now ≤ 1000000 ∧ 0 ≤ s.bl ∧ s.bl ≤ 1000000 ∧ 0 ≤ s.fl ∧ s.fl ≤ 1000000) (t : Ag × Ms × Bool) (ht : nextM k s = t) (hws0 : s.ws = []) (hwi : s.wi = false) (he : du s.fr s.fl s.now 25 = true) :
    Calls Try.prog 22 #[.pointer (some ⟨ab, 0, none⟩)] w fun r w' => r = .returned (.tuple #[.agg #[.int .i64 0, .int .i64 t.2.1.op, .int .i64 t.2.1.st, .int .i64 0, .int .i64 0, .int .i64 t.2.1.N, .int .i64 t.2.1.sq, .string t.2.1.a, .string t.2.1.i, .bool false, .int .u32 0, .slice none 0 0, .slice none 0 0], .bool t.2.2]) ∧ AgP w' ab k zs t.1 ∧ Rim ab w w' := by
  obtain ⟨i, now, ws, q, tag, op, asked, wt, wi, tm, st, kn, br, bl, fr, fl⟩ := s
  obtain ⟨sb, sc, wa, wc, h1, hsv, hws⟩ := h
  dsimp only at h1 hws
  obtain ⟨n, hn⟩ : ∃ n, ws.length = n := ⟨_, rfl⟩
  obtain ⟨m, hm⟩ : ∃ m, zs.length = m := ⟨_, rfl⟩
  rw [hn, hm] at h1
  have H1 := Lib.hid h1
  have HSV := Lib.hid hsv
  have HWS := Lib.hid hws
  have HN := Lib.hid hn
  have HM := Lib.hid hm
  clear h1 hsv hws hn hm
  unfold nextM at ht
  dsimp only at hws0 hwi he hb
  subst hws0 hwi
  dsimp only at ht
  rw [if_neg (by rintro ⟨h, _⟩; cases h)] at ht
  rw [if_pos he] at ht
  try dsimp only at ht
  subst ht
  try dsimp only
  have HBB := Lib.hid hb
  clear hb
  have HHE := Lib.hid he
  clear he
  obtain rfl : 0 = n := HN.out
  have HMZ := HM
  clear HM
  have D0 := Lib.hid (show Below w.heap.size w (w.alloc (.cells #[.int .i64 0, .int .i64 0, .int .i64 0, .int .i64 0, .int .i64 0, .int .i64 0, .int .i64 0, .string ⟨#[]⟩, .string ⟨#[]⟩, .bool false, .int .u32 0, .slice none 0 0, .slice none 0 0] 37)) from (Below.refl _ _).alloc (Nat.le_refl _) _)
  have HR1 := Lib.hid (blk_new w #[.int .i64 0, .int .i64 0, .int .i64 0, .int .i64 0, .int .i64 0, .int .i64 0, .int .i64 0, .string ⟨#[]⟩, .string ⟨#[]⟩, .bool false, .int .u32 0, .slice none 0 0, .slice none 0 0] 37)
  have HA1 := Lib.hid (blk_ext D0.out H1.out)
  have hlt := blk_lt H1.out
  go_enter Try.func22, Try.ntmps22
  go_upto_region 1 with (fail)
  obtain ⟨r, hr⟩ : ∃ r, w.heap.size = r := ⟨_, rfl⟩
  have HRW := Lib.hid (show w.heap.size ≤ r from by omega)
  rw [hr] at HR1
  try rw [hr]
  clear hr hlt
  generalize (w.alloc (.cells #[.int .i64 0, .int .i64 0, .int .i64 0, .int .i64 0, .int .i64 0, .int .i64 0, .int .i64 0, .string ⟨#[]⟩, .string ⟨#[]⟩, .bool false, .int .u32 0, .slice none 0 0, .slice none 0 0] 37)) = w1 at *
  have HM1 := Lib.hid (Rim.of (b := ab) D0.out)
  clear D0
  have hk := blk_cell HA1.out
  have hl := blk_lt HA1.out
  have hf := blk_free HA1.out
  go_upto_region 5 with (fail)
  haveI hIq : Nonempty (Of w1) := of_some _
  have hG0 := blk_of HA1.out
  first | (refine wp_region_stay w1 (by kernel_rfl) (by kernel_rfl) (by go_grown) ?_) | (refine wp_region_stay_seq w1 (by go_grown) ?_)
  repeat (go_big_quiet_step (fail))
  refine wpQuiet_nil ?_
  intro w2 hb2
  clear hIq hG0
  have HA2 := Lib.hid (blk_ext hb2 HA1.out)
  have HR2 := Lib.hid (blk_ext hb2 HR1.out)
  have HM2 := Lib.hid (HM1.out.trans (Rim.of hb2))
  clear hb2 HA1 HR1 HM1 hk hl hf
  have hk := blk_cell HA2.out
  have hl := blk_lt HA2.out
  have hf := blk_free HA2.out
  go_upto_region 10 with (fail)
  haveI hIq : Nonempty (Of w2) := of_some _
  have hG0 := blk_of HA2.out
  first | (refine wp_region_stay w2 (by kernel_rfl) (by kernel_rfl) (by go_grown) ?_) | (refine wp_region_stay_seq w2 (by go_grown) ?_)
  repeat (go_big_quiet_step ((go_at_call 30; with_reducible refine stay_as (due_any fr fl now 25 _ HBB.out.1 (by have := HBB.out; omega) (by have := HBB.out; omega) (by have := HBB.out; omega)) (congrArg Value.bool HHE.out))))
  refine wpQuiet_nil ?_
  intro w3 hb3
  clear hIq hG0
  have HA3 := Lib.hid (blk_ext hb3 HA2.out)
  have HR3 := Lib.hid (blk_ext hb3 HR2.out)
  have HM3 := Lib.hid (HM2.out.trans (Rim.of hb3))
  clear hb3 HA2 HR2 HM2 hk hl hf
  have hk := blk_cell HA3.out
  have hl := blk_lt HA3.out
  have hf := blk_free HA3.out
  go_upto_region 12 with (fail)
  have HA4 := Lib.hid (show ((w3.setCell ⟨ab, 18, none⟩ (.bool true)).setCell ⟨ab, 19, none⟩ (.int .i64 now)).heap[ab]? = some (.cells #[.string k.1, .string k.2, .slice (some ⟨sb, 0, none⟩) m sc, .int .i64 (i : Nat), .int .i64 now, .slice wa 0 wc, .slice none 0 0, .int .i64 q, .int .i64 tag, .int .i64 op, .int .i64 asked, .bool wt, .bool false, .int .i64 tm, .int .i64 st, .bool kn, .bool br, .int .i64 bl, .bool true, .int .i64 now] 57 (0, 0)) from (blk_set (n := 19) (vs' := #[.string k.1, .string k.2, .slice (some ⟨sb, 0, none⟩) m sc, .int .i64 (i : Nat), .int .i64 now, .slice wa 0 wc, .slice none 0 0, .int .i64 q, .int .i64 tag, .int .i64 op, .int .i64 asked, .bool wt, .bool false, .int .i64 tm, .int .i64 st, .bool kn, .bool br, .int .i64 bl, .bool true, .int .i64 now]) (blk_set (n := 18) (vs' := #[.string k.1, .string k.2, .slice (some ⟨sb, 0, none⟩) m sc, .int .i64 (i : Nat), .int .i64 now, .slice wa 0 wc, .slice none 0 0, .int .i64 q, .int .i64 tag, .int .i64 op, .int .i64 asked, .bool wt, .bool false, .int .i64 tm, .int .i64 st, .bool kn, .bool br, .int .i64 bl, .bool true, .int .i64 fl]) HA3.out (by first | rfl | simp)) (by first | rfl | simp)))
  have hr : Rim ab w3 ((w3.setCell ⟨ab, 18, none⟩ (.bool true)).setCell ⟨ab, 19, none⟩ (.int .i64 now)) := (rim_set (rim_set (Rim.of (Below.refl _ _))))
  have HR4 := Lib.hid (hr.rimT HA3.out HR3.out (by decide))
  have HM4 := Lib.hid (HM3.out.trans hr)
  clear hr hk hl hf HA3 HR3 HM3
  generalize ((w3.setCell ⟨ab, 18, none⟩ (.bool true)).setCell ⟨ab, 19, none⟩ (.int .i64 now)) = w4 at *
  have HQ4 := Lib.hid (show AgP w4 ab k zs (⟨i, now, [], q, tag, op, asked, wt, false, tm, st, kn, br, bl, true, now⟩ : Ag) from by
    have h9 := AgP.own H1.out HSV.out HWS.out HM4.out
    exact ⟨sb, sc, wa, wc, by dsimp only; rw [HN.out, HMZ.out]; exact HA4.out, h9.1, h9.2⟩)
  go_wp2_with fail
  refine (agSince ab k zs _ w4 HQ4.out).mono ?_
  rintro e w5 ⟨rfl, rfl⟩
  have hkr := blk_cell HR4.out
  have hlr := blk_lt HR4.out
  have hfr := blk_free HR4.out
  go_wp2_with fail
  refine bodyPost_ret (v := .tuple #[.agg #[.int .i64 0, .int .i64 5, .int .i64 0, .int .i64 0, .int .i64 0, .int .i64 0, .int .i64 q, .string ⟨#[]⟩, .string ⟨#[]⟩, .bool false, .int .u32 0, .slice none 0 0, .slice none 0 0], .bool true]) (by have hk2 := blk_cell (blk_fill13 (v0 := .int .i64 0) (v1 := .int .i64 5) (v2 := .int .i64 0) (v3 := .int .i64 0) (v4 := .int .i64 0) (v5 := .int .i64 0) (v6 := .int .i64 q) (v7 := .string ⟨#[]⟩) (v8 := .string ⟨#[]⟩) (v9 := .bool false) (v10 := .int .u32 0) (v11 := .slice none 0 0) (v12 := .slice none 0 0) HR4.out rfl); simp [results, Try.results22, go_sem, hk2]) rfl ⟨rfl, ?_, ?_⟩
  · exact (HQ4.out).rimO (Rim13 (Rim.of (Below.refl _ _))) HR4.out (by decide) (by decide) (by decide)
  · exact rim_newL HM4.out HRW.out HR4.out (Rim13 (Rim.of (Below.refl _ _)))

set_option maxRecDepth 100000 in
set_option maxHeartbeats 1000000 in
theorem agNextD2 (ab : Nat) (k : ByteArray × ByteArray) (zs : List Int) (s : Ag) (w : World) (h : AgP w ab k zs s) (hb : 0 ≤ s.now ∧ s.now ≤ 1000000 ∧ 0 ≤ s.bl ∧ s.bl ≤ 1000000 ∧ 0 ≤ s.fl ∧ s.fl ≤ 1000000) (t : Ag × Ms × Bool) (ht : nextM k s = t) (hws0 : s.ws = []) (hwi : s.wi = false) (he : du s.fr s.fl s.now 25 = false) :
    Calls Try.prog 22 #[.pointer (some ⟨ab, 0, none⟩)] w fun r w' => r = .returned (.tuple #[.agg #[.int .i64 0, .int .i64 t.2.1.op, .int .i64 t.2.1.st, .int .i64 0, .int .i64 0, .int .i64 t.2.1.N, .int .i64 t.2.1.sq, .string t.2.1.a, .string t.2.1.i, .bool false, .int .u32 0, .slice none 0 0, .slice none 0 0], .bool t.2.2]) ∧ AgP w' ab k zs t.1 ∧ Rim ab w w' := by
  obtain ⟨i, now, ws, q, tag, op, asked, wt, wi, tm, st, kn, br, bl, fr, fl⟩ := s
  obtain ⟨sb, sc, wa, wc, h1, hsv, hws⟩ := h
  dsimp only at h1 hws
  obtain ⟨n, hn⟩ : ∃ n, ws.length = n := ⟨_, rfl⟩
  obtain ⟨m, hm⟩ : ∃ m, zs.length = m := ⟨_, rfl⟩
  rw [hn, hm] at h1
  have H1 := Lib.hid h1
  have HSV := Lib.hid hsv
  have HWS := Lib.hid hws
  have HN := Lib.hid hn
  have HM := Lib.hid hm
  clear h1 hsv hws hn hm
  unfold nextM at ht
  dsimp only at hws0 hwi he hb
  subst hws0 hwi
  dsimp only at ht
  rw [if_neg (by rintro ⟨h, _⟩; cases h)] at ht
  rw [if_neg (by rw [he]; decide)] at ht
  try dsimp only at ht
  subst ht
  try dsimp only
  have HBB := Lib.hid hb
  clear hb
  have HHE := Lib.hid he
  clear he
  obtain rfl : 0 = n := HN.out
  have HMZ := HM
  clear HM
  have D0 := Lib.hid (show Below w.heap.size w (w.alloc (.cells #[.int .i64 0, .int .i64 0, .int .i64 0, .int .i64 0, .int .i64 0, .int .i64 0, .int .i64 0, .string ⟨#[]⟩, .string ⟨#[]⟩, .bool false, .int .u32 0, .slice none 0 0, .slice none 0 0] 37)) from (Below.refl _ _).alloc (Nat.le_refl _) _)
  have HR1 := Lib.hid (blk_new w #[.int .i64 0, .int .i64 0, .int .i64 0, .int .i64 0, .int .i64 0, .int .i64 0, .int .i64 0, .string ⟨#[]⟩, .string ⟨#[]⟩, .bool false, .int .u32 0, .slice none 0 0, .slice none 0 0] 37)
  have HA1 := Lib.hid (blk_ext D0.out H1.out)
  have hlt := blk_lt H1.out
  go_enter Try.func22, Try.ntmps22
  go_upto_region 1 with (fail)
  obtain ⟨r, hr⟩ : ∃ r, w.heap.size = r := ⟨_, rfl⟩
  have HRW := Lib.hid (show w.heap.size ≤ r from by omega)
  rw [hr] at HR1
  try rw [hr]
  clear hr hlt
  generalize (w.alloc (.cells #[.int .i64 0, .int .i64 0, .int .i64 0, .int .i64 0, .int .i64 0, .int .i64 0, .int .i64 0, .string ⟨#[]⟩, .string ⟨#[]⟩, .bool false, .int .u32 0, .slice none 0 0, .slice none 0 0] 37)) = w1 at *
  have HM1 := Lib.hid (Rim.of (b := ab) D0.out)
  clear D0
  have hk := blk_cell HA1.out
  have hl := blk_lt HA1.out
  have hf := blk_free HA1.out
  go_upto_region 5 with (fail)
  haveI hIq : Nonempty (Of w1) := of_some _
  have hG0 := blk_of HA1.out
  first | (refine wp_region_stay w1 (by kernel_rfl) (by kernel_rfl) (by go_grown) ?_) | (refine wp_region_stay_seq w1 (by go_grown) ?_)
  repeat (go_big_quiet_step (fail))
  refine wpQuiet_nil ?_
  intro w2 hb2
  clear hIq hG0
  have HA2 := Lib.hid (blk_ext hb2 HA1.out)
  have HR2 := Lib.hid (blk_ext hb2 HR1.out)
  have HM2 := Lib.hid (HM1.out.trans (Rim.of hb2))
  clear hb2 HA1 HR1 HM1 hk hl hf
  have hk := blk_cell HA2.out
  have hl := blk_lt HA2.out
  have hf := blk_free HA2.out
  go_upto_region 10 with (fail)
  haveI hIq : Nonempty (Of w2) := of_some _
  have hG0 := blk_of HA2.out
  first | (refine wp_region_stay w2 (by kernel_rfl) (by kernel_rfl) (by go_grown) ?_) | (refine wp_region_stay_seq w2 (by go_grown) ?_)
  repeat (go_big_quiet_step ((go_at_call 30; with_reducible refine stay_as (due_any fr fl now 25 _ HBB.out.1 (by have := HBB.out; omega) (by have := HBB.out; omega) (by have := HBB.out; omega)) (congrArg Value.bool HHE.out))))
  refine wpQuiet_nil ?_
  intro w3 hb3
  clear hIq hG0
  have HA3 := Lib.hid (blk_ext hb3 HA2.out)
  have HR3 := Lib.hid (blk_ext hb3 HR2.out)
  have HM3 := Lib.hid (HM2.out.trans (Rim.of hb3))
  clear hb3 HA2 HR2 HM2 hk hl hf
  have hk := blk_cell HA3.out
  have hl := blk_lt HA3.out
  have hf := blk_free HA3.out
  have HQ3 := Lib.hid (show AgP w3 ab k zs (⟨i, now, [], q, tag, op, asked, wt, false, tm, st, kn, br, bl, fr, fl⟩ : Ag) from by
    have h9 := AgP.own H1.out HSV.out HWS.out HM3.out
    exact ⟨sb, sc, wa, wc, by dsimp only; rw [HN.out, HMZ.out]; exact HA3.out, h9.1, h9.2⟩)
  have hkr := blk_cell HR3.out
  have hlr := blk_lt HR3.out
  have hfr := blk_free HR3.out
  go_wp2_with fail
  refine bodyPost_ret (v := .tuple #[.agg #[.int .i64 0, .int .i64 0, .int .i64 0, .int .i64 0, .int .i64 0, .int .i64 0, .int .i64 0, .string ⟨#[]⟩, .string ⟨#[]⟩, .bool false, .int .u32 0, .slice none 0 0, .slice none 0 0], .bool false]) (by have hk2 := blk_cell (blk_fill13 (v0 := .int .i64 0) (v1 := .int .i64 0) (v2 := .int .i64 0) (v3 := .int .i64 0) (v4 := .int .i64 0) (v5 := .int .i64 0) (v6 := .int .i64 0) (v7 := .string ⟨#[]⟩) (v8 := .string ⟨#[]⟩) (v9 := .bool false) (v10 := .int .u32 0) (v11 := .slice none 0 0) (v12 := .slice none 0 0) HR3.out rfl); simp [results, Try.results22, go_sem, hk2]) rfl ⟨rfl, ?_, ?_⟩
  · exact (HQ3.out).rimO (Rim13 (Rim.of (Below.refl _ _))) HR3.out (by decide) (by decide) (by decide)
  · exact rim_newL HM3.out HRW.out HR3.out (Rim13 (Rim.of (Below.refl _ _)))

end Go.Proofs.Ytibgphjadiidaaa
