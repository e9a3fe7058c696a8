/- Package agent: wanted. -/
import Derived.Test.YtibgphjadiidaaaAgC
namespace Go.Proofs.Ytibgphjadiidaaa
open Go.RowKit
set_option linter.unusedVariables false
set_option linter.unusedSimpArgs false

set_option maxRecDepth 100000 in
set_option maxHeartbeats 1000000 in
theorem agWanted1 (ab : Nat) (k : ByteArray × ByteArray) (zs : List Int) (s : Ag) (x : Wt) (w : World) (h : AgP w ab k zs s) (t : Ag × Ms × Bool) (ht : wantedM k x s = t) (h1' : x.o = 1) :
    Calls Try.prog 29 #[.pointer (some ⟨ab, 0, none⟩), .agg #[.int .i64 x.o, .int .i64 x.n, .int .i64 x.s]] w fun r w' => r = .returned (.agg #[.int .i64 0, .int .i64 t.2.1.op, .int .i64 t.2.1.st, .int .i64 0, .int .i64 0, .int .i64 t.2.1.N, .int .i64 t.2.1.sq, .string t.2.1.a, .string t.2.1.i, .bool false, .int .u32 0, .slice none 0 0, .slice none 0 0]) ∧ AgP w' ab k zs t.1 ∧ Rim ab w w' := by
  obtain ⟨i, now, ws, q, tag, op, asked, wt, wi, tm, st, kn, br, bl, fr, fl⟩ := s
  obtain ⟨sb, sc, wa, wc, h1, hsv, hws⟩ := h
  dsimp only at h1 hws
  obtain ⟨n, hn⟩ : ∃ n, ws.length = n := ⟨_, rfl⟩
  obtain ⟨m, hm⟩ : ∃ m, zs.length = m := ⟨_, rfl⟩
  rw [hn, hm] at h1
  have H1 := Lib.hid h1
  have HSV := Lib.hid hsv
  have HWS := Lib.hid hws
  have HN := Lib.hid hn
  have HM := Lib.hid hm
  clear h1 hsv hws hn hm
  unfold wantedM at ht
  rw [if_pos h1'] at ht
  unfold regM at ht
  try dsimp only at ht
  subst ht
  try dsimp only
  have e1 : (x.o == 1) = true := by rw [h1']; rfl
  have HO := Lib.hid h1'
  clear h1'
  have HMZ := HM
  clear HM
  have D0 := Lib.hid (show Below w.heap.size w ((w.alloc (.cells #[.int .i64 x.o, .int .i64 x.n, .int .i64 x.s] 61)).alloc (.cells #[.int .i64 0, .int .i64 0, .int .i64 0, .int .i64 0, .int .i64 0, .int .i64 0, .int .i64 0, .string ⟨#[]⟩, .string ⟨#[]⟩, .bool false, .int .u32 0, .slice none 0 0, .slice none 0 0] 37)) from ((Below.refl _ _).alloc (Nat.le_refl _) _).alloc (by simp) _)
  have HP1 := Lib.hid (blk_alloc (blk_new w #[.int .i64 x.o, .int .i64 x.n, .int .i64 x.s] 61) (.cells #[.int .i64 0, .int .i64 0, .int .i64 0, .int .i64 0, .int .i64 0, .int .i64 0, .int .i64 0, .string ⟨#[]⟩, .string ⟨#[]⟩, .bool false, .int .u32 0, .slice none 0 0, .slice none 0 0] 37))
  have HR1 := Lib.hid (show ((w.alloc (.cells #[.int .i64 x.o, .int .i64 x.n, .int .i64 x.s] 61)).alloc (.cells #[.int .i64 0, .int .i64 0, .int .i64 0, .int .i64 0, .int .i64 0, .int .i64 0, .int .i64 0, .string ⟨#[]⟩, .string ⟨#[]⟩, .bool false, .int .u32 0, .slice none 0 0, .slice none 0 0] 37)).heap[w.heap.size + 1]? = some (.cells #[.int .i64 0, .int .i64 0, .int .i64 0, .int .i64 0, .int .i64 0, .int .i64 0, .int .i64 0, .string ⟨#[]⟩, .string ⟨#[]⟩, .bool false, .int .u32 0, .slice none 0 0, .slice none 0 0] 37 (0, 0)) from blk_new_at (by simp) _ _)
  have HA1 := Lib.hid (blk_ext D0.out H1.out)
  have hlt := blk_lt H1.out
  go_enter Try.func29, Try.ntmps29
  go_upto_region 1 with (fail)
  obtain ⟨p, hp⟩ : ∃ p, w.heap.size = p := ⟨_, rfl⟩
  obtain ⟨r, hr⟩ : ∃ r, w.heap.size + 1 = r := ⟨_, rfl⟩
  have HPW := Lib.hid hp
  have HRW := Lib.hid (show w.heap.size ≤ r from by omega)
  rw [hp] at HP1
  rw [hr] at HR1
  try rw [hr]
  try rw [hp]
  try rw [hp] at hr
  try rw [hr]
  clear hr hp hlt
  generalize ((w.alloc (.cells #[.int .i64 x.o, .int .i64 x.n, .int .i64 x.s] 61)).alloc (.cells #[.int .i64 0, .int .i64 0, .int .i64 0, .int .i64 0, .int .i64 0, .int .i64 0, .int .i64 0, .string ⟨#[]⟩, .string ⟨#[]⟩, .bool false, .int .u32 0, .slice none 0 0, .slice none 0 0] 37)) = w1 at *
  have HM1 := Lib.hid (Rim.of (b := ab) D0.out)
  clear D0
  have hk0 := blk_cell HP1.out
  have hl0 := blk_lt HP1.out
  go_upto_region 3 with (fail)
  clear hk0 hl0 e1
  haveI hIc : Nonempty (In (fun W : World => W.heap[p]? = some (.cells #[.int .i64 x.o, .int .i64 x.n, .int .i64 x.s] 61 (0, 0)) ∧ ab < W.heap.size ∧ ∀ o, W.frozen? ⟨ab, o, none⟩ = false)) := ⟨⟨_, ⟨HP1.out, blk_lt HA1.out, blk_free HA1.out⟩⟩⟩
  have hF0 : ∀ g : In (fun W : World => W.heap[p]? = some (.cells #[.int .i64 x.o, .int .i64 x.n, .int .i64 x.s] 61 (0, 0)) ∧ ab < W.heap.size ∧ ∀ o, W.frozen? ⟨ab, o, none⟩ = false), ∀ n, g.w.cell? ⟨p, n, none⟩ = (#[.int .i64 x.o, .int .i64 x.n, .int .i64 x.s] : Array Value)[n]? := fun g => blk_cell g.h.1
  have hF1 : ∀ g : In (fun W : World => W.heap[p]? = some (.cells #[.int .i64 x.o, .int .i64 x.n, .int .i64 x.s] 61 (0, 0)) ∧ ab < W.heap.size ∧ ∀ o, W.frozen? ⟨ab, o, none⟩ = false), p < g.w.heap.size := fun g => blk_lt g.h.1
  have hF3 : ∀ g : In (fun W : World => W.heap[p]? = some (.cells #[.int .i64 x.o, .int .i64 x.n, .int .i64 x.s] 61 (0, 0)) ∧ ab < W.heap.size ∧ ∀ o, W.frozen? ⟨ab, o, none⟩ = false), ab < g.w.heap.size := fun g => g.h.2.1
  refine wp_region_chain (fun w' => ∃ g : In (fun W : World => W.heap[p]? = some (.cells #[.int .i64 x.o, .int .i64 x.n, .int .i64 x.s] 61 (0, 0)) ∧ ab < W.heap.size ∧ ∀ o, W.frozen? ⟨ab, o, none⟩ = false), w' = g.w) (by kernel_rfl) (by kernel_rfl) (by kernel_rfl) ?_
  have HA2 := Lib.hid (blk_drew HA1.out)
  have HP2 := Lib.hid (blk_drew HP1.out)
  have HR2 := Lib.hid (blk_drew HR1.out)
  have HM2 := Lib.hid (HM1.out.trans (Rim.of (Below.refl w1.heap.size w1).drew))
  clear HA1 HP1 HR1 HM1
  generalize w1.drew = y2 at *
  repeat (refine wpG_plain (by rfl) (by rfl) (fun K hK => ?_); go_big_quiet_op; refine hK _ ?_; clear hK K)
  have hk := blk_cell HA2.out
  have hf := blk_free HA2.out
  have hl := blk_lt HA2.out
  refine wpG_call (by rfl) (by rfl) ⟨⟨_, HP2.out, blk_lt HA2.out, blk_free HA2.out⟩, rfl⟩ (fun K hK => ?_)
  go_big_op
  refine hK _ _ ?_
  clear hK K
  have HA3 := Lib.hid (show (y2.setCell ⟨ab, 12, none⟩ (.bool true)).heap[ab]? = some (.cells #[.string k.1, .string k.2, .slice (some ⟨sb, 0, none⟩) m sc, .int .i64 (i : Nat), .int .i64 now, .slice wa n wc, .slice none 0 0, .int .i64 q, .int .i64 tag, .int .i64 op, .int .i64 asked, .bool wt, .bool true, .int .i64 tm, .int .i64 st, .bool kn, .bool br, .int .i64 bl, .bool fr, .int .i64 fl] 57 (0, 0)) from blk_set (n := 12) HA2.out (by first | rfl | simp))
  have hr : Rim ab y2 (y2.setCell ⟨ab, 12, none⟩ (.bool true)) := rim_set (Rim.of (Below.refl _ _))
  have HP3 := Lib.hid (hr.rimT HA2.out HP2.out (by decide))
  have HR3 := Lib.hid (hr.rimT HA2.out HR2.out (by decide))
  have HM3 := Lib.hid (HM2.out.trans hr)
  clear hr hk hf hl HA2 HP2 HR2 HM2
  generalize (y2.setCell ⟨ab, 12, none⟩ (.bool true)) = y3 at *
  repeat (refine wpG_plain (by rfl) (by rfl) (fun K hK => ?_); go_big_quiet_op; refine hK _ ?_; clear hK K)
  have hk := blk_cell HA3.out
  have hf := blk_free HA3.out
  have hl := blk_lt HA3.out
  refine wpG_call (by rfl) (by rfl) ⟨⟨_, HP3.out, blk_lt HA3.out, blk_free HA3.out⟩, rfl⟩ (fun K hK => ?_)
  go_big_op
  refine hK _ _ ?_
  clear hK K
  have HA4 := Lib.hid (show (y3.setCell ⟨ab, 13, none⟩ (.int .i64 x.n)).heap[ab]? = some (.cells #[.string k.1, .string k.2, .slice (some ⟨sb, 0, none⟩) m sc, .int .i64 (i : Nat), .int .i64 now, .slice wa n wc, .slice none 0 0, .int .i64 q, .int .i64 tag, .int .i64 op, .int .i64 asked, .bool wt, .bool true, .int .i64 x.n, .int .i64 st, .bool kn, .bool br, .int .i64 bl, .bool fr, .int .i64 fl] 57 (0, 0)) from blk_set (n := 13) HA3.out (by first | rfl | simp))
  have hr : Rim ab y3 (y3.setCell ⟨ab, 13, none⟩ (.int .i64 x.n)) := rim_set (Rim.of (Below.refl _ _))
  have HP4 := Lib.hid (hr.rimT HA3.out HP3.out (by decide))
  have HR4 := Lib.hid (hr.rimT HA3.out HR3.out (by decide))
  have HM4 := Lib.hid (HM3.out.trans hr)
  clear hr hk hf hl HA3 HP3 HR3 HM3
  generalize (y3.setCell ⟨ab, 13, none⟩ (.int .i64 x.n)) = y4 at *
  repeat (refine wpG_plain (by rfl) (by rfl) (fun K hK => ?_); go_big_quiet_op; refine hK _ ?_; clear hK K)
  have hk := blk_cell HA4.out
  have hf := blk_free HA4.out
  have hl := blk_lt HA4.out
  refine wpG_call (by rfl) (by rfl) ⟨⟨_, HP4.out, blk_lt HA4.out, blk_free HA4.out⟩, rfl⟩ (fun K hK => ?_)
  go_big_op
  refine hK _ _ ?_
  clear hK K
  have HA5 := Lib.hid (show (y4.setCell ⟨ab, 14, none⟩ (.int .i64 x.s)).heap[ab]? = some (.cells #[.string k.1, .string k.2, .slice (some ⟨sb, 0, none⟩) m sc, .int .i64 (i : Nat), .int .i64 now, .slice wa n wc, .slice none 0 0, .int .i64 q, .int .i64 tag, .int .i64 op, .int .i64 asked, .bool wt, .bool true, .int .i64 x.n, .int .i64 x.s, .bool kn, .bool br, .int .i64 bl, .bool fr, .int .i64 fl] 57 (0, 0)) from blk_set (n := 14) HA4.out (by first | rfl | simp))
  have hr : Rim ab y4 (y4.setCell ⟨ab, 14, none⟩ (.int .i64 x.s)) := rim_set (Rim.of (Below.refl _ _))
  have HP5 := Lib.hid (hr.rimT HA4.out HP4.out (by decide))
  have HR5 := Lib.hid (hr.rimT HA4.out HR4.out (by decide))
  have HM5 := Lib.hid (HM4.out.trans hr)
  clear hr hk hf hl HA4 HP4 HR4 HM4
  generalize (y4.setCell ⟨ab, 14, none⟩ (.int .i64 x.s)) = y5 at *
  repeat (refine wpG_plain (by rfl) (by rfl) (fun K hK => ?_); go_big_quiet_op; refine hK _ ?_; clear hK K)
  refine wpG_nil ⟨⟨_, HP5.out, blk_lt HA5.out, blk_free HA5.out⟩, rfl⟩ ?_
  clear hF0 hF1 hF3 hIc
  have HQ5 := Lib.hid (show AgP y5 ab k zs (⟨i, now, ws, q, tag, op, asked, wt, true, x.n, x.s, kn, br, bl, fr, fl⟩ : Ag) from by
    have h9 := AgP.own H1.out HSV.out HWS.out HM5.out
    exact ⟨sb, sc, wa, wc, by dsimp only; rw [HN.out, HMZ.out]; exact HA5.out, h9.1, h9.2⟩)
  go_wp2_with fail
  refine (agRegister ab k zs _ y5 HQ5.out).mono ?_
  rintro e w6 ⟨rfl, hq, hr⟩
  have HR6 := Lib.hid (hr.rimT HA5.out HR5.out (by decide))
  have HM6 := Lib.hid (HM5.out.trans hr)
  have HQ6 := Lib.hid hq
  clear hq hr HA5 HP5 HR5 HM5 HQ5
  unfold regM at *
  dsimp only at *
  have hk := blk_cell HR6.out
  have hl := blk_lt HR6.out
  have hf := blk_free HR6.out
  go_wp2_with fail
  refine bodyPost_ret (v := .agg #[.int .i64 0, .int .i64 1, .int .i64 x.s, .int .i64 0, .int .i64 0, .int .i64 x.n, .int .i64 0, .string k.1, .string k.2, .bool false, .int .u32 0, .slice none 0 0, .slice none 0 0]) (by have hk2 := blk_cell (blk_fill13 (v0 := .int .i64 0) (v1 := .int .i64 1) (v2 := .int .i64 x.s) (v3 := .int .i64 0) (v4 := .int .i64 0) (v5 := .int .i64 x.n) (v6 := .int .i64 0) (v7 := .string k.1) (v8 := .string k.2) (v9 := .bool false) (v10 := .int .u32 0) (v11 := .slice none 0 0) (v12 := .slice none 0 0) HR6.out rfl); simp [results, Try.results29, go_sem, hk2]) rfl ⟨rfl, ?_, ?_⟩
  · exact (HQ6.out).rimO (Rim13 (Rim.of (Below.refl _ _))) HR6.out (by decide) (by decide) (by decide)
  · exact rim_newL HM6.out HRW.out HR6.out (Rim13 (Rim.of (Below.refl _ _)))


set_option maxRecDepth 100000 in
set_option maxHeartbeats 1000000 in
theorem agWanted3 (ab : Nat) (k : ByteArray × ByteArray) (zs : List Int) (s : Ag) (x : Wt) (w : World) (h : AgP w ab k zs s) (t : Ag × Ms × Bool) (ht : wantedM k x s = t) (h1' : x.o = 3) :
    Calls Try.prog 29 #[.pointer (some ⟨ab, 0, none⟩), .agg #[.int .i64 x.o, .int .i64 x.n, .int .i64 x.s]] w fun r w' => r = .returned (.agg #[.int .i64 0, .int .i64 t.2.1.op, .int .i64 t.2.1.st, .int .i64 0, .int .i64 0, .int .i64 t.2.1.N, .int .i64 t.2.1.sq, .string t.2.1.a, .string t.2.1.i, .bool false, .int .u32 0, .slice none 0 0, .slice none 0 0]) ∧ AgP w' ab k zs t.1 ∧ Rim ab w w' := by
  obtain ⟨i, now, ws, q, tag, op, asked, wt, wi, tm, st, kn, br, bl, fr, fl⟩ := s
  obtain ⟨sb, sc, wa, wc, h1, hsv, hws⟩ := h
  dsimp only at h1 hws
  obtain ⟨n, hn⟩ : ∃ n, ws.length = n := ⟨_, rfl⟩
  obtain ⟨m, hm⟩ : ∃ m, zs.length = m := ⟨_, rfl⟩
  rw [hn, hm] at h1
  have H1 := Lib.hid h1
  have HSV := Lib.hid hsv
  have HWS := Lib.hid hws
  have HN := Lib.hid hn
  have HM := Lib.hid hm
  clear h1 hsv hws hn hm
  unfold wantedM at ht
  rw [if_neg (by rw [h1']; decide), if_pos h1'] at ht
  try dsimp only at ht
  subst ht
  try dsimp only
  have e1 : (x.o == 1) = false := by rw [h1']; rfl
  have e2 : (x.o == 3) = true := by rw [h1']; rfl
  have HO := Lib.hid h1'
  clear h1'
  have HMZ := HM
  clear HM
  have D0 := Lib.hid (show Below w.heap.size w ((w.alloc (.cells #[.int .i64 x.o, .int .i64 x.n, .int .i64 x.s] 61)).alloc (.cells #[.int .i64 0, .int .i64 0, .int .i64 0, .int .i64 0, .int .i64 0, .int .i64 0, .int .i64 0, .string ⟨#[]⟩, .string ⟨#[]⟩, .bool false, .int .u32 0, .slice none 0 0, .slice none 0 0] 37)) from ((Below.refl _ _).alloc (Nat.le_refl _) _).alloc (by simp) _)
  have HP1 := Lib.hid (blk_alloc (blk_new w #[.int .i64 x.o, .int .i64 x.n, .int .i64 x.s] 61) (.cells #[.int .i64 0, .int .i64 0, .int .i64 0, .int .i64 0, .int .i64 0, .int .i64 0, .int .i64 0, .string ⟨#[]⟩, .string ⟨#[]⟩, .bool false, .int .u32 0, .slice none 0 0, .slice none 0 0] 37))
  have HR1 := Lib.hid (show ((w.alloc (.cells #[.int .i64 x.o, .int .i64 x.n, .int .i64 x.s] 61)).alloc (.cells #[.int .i64 0, .int .i64 0, .int .i64 0, .int .i64 0, .int .i64 0, .int .i64 0, .int .i64 0, .string ⟨#[]⟩, .string ⟨#[]⟩, .bool false, .int .u32 0, .slice none 0 0, .slice none 0 0] 37)).heap[w.heap.size + 1]? = some (.cells #[.int .i64 0, .int .i64 0, .int .i64 0, .int .i64 0, .int .i64 0, .int .i64 0, .int .i64 0, .string ⟨#[]⟩, .string ⟨#[]⟩, .bool false, .int .u32 0, .slice none 0 0, .slice none 0 0] 37 (0, 0)) from blk_new_at (by simp) _ _)
  have HA1 := Lib.hid (blk_ext D0.out H1.out)
  have hlt := blk_lt H1.out
  go_enter Try.func29, Try.ntmps29
  go_upto_region 1 with (fail)
  obtain ⟨p, hp⟩ : ∃ p, w.heap.size = p := ⟨_, rfl⟩
  obtain ⟨r, hr⟩ : ∃ r, w.heap.size + 1 = r := ⟨_, rfl⟩
  have HPW := Lib.hid hp
  have HRW := Lib.hid (show w.heap.size ≤ r from by omega)
  rw [hp] at HP1
  rw [hr] at HR1
  try rw [hr]
  try rw [hp]
  try rw [hp] at hr
  try rw [hr]
  clear hr hp hlt
  generalize ((w.alloc (.cells #[.int .i64 x.o, .int .i64 x.n, .int .i64 x.s] 61)).alloc (.cells #[.int .i64 0, .int .i64 0, .int .i64 0, .int .i64 0, .int .i64 0, .int .i64 0, .int .i64 0, .string ⟨#[]⟩, .string ⟨#[]⟩, .bool false, .int .u32 0, .slice none 0 0, .slice none 0 0] 37)) = w1 at *
  have HM1 := Lib.hid (Rim.of (b := ab) D0.out)
  clear D0
  have hk0 := blk_cell HP1.out
  have hl0 := blk_lt HP1.out
  have hk := blk_cell HA1.out
  have hl := blk_lt HA1.out
  have hf := blk_free HA1.out
  go_upto_region 7 with (fail)
  clear hk hl hf hk0 hl0
  have HA2 := Lib.hid (show (w1.setCell ⟨ab, 12, none⟩ (.bool false)).heap[ab]? = some (.cells #[.string k.1, .string k.2, .slice (some ⟨sb, 0, none⟩) m sc, .int .i64 (i : Nat), .int .i64 now, .slice wa n wc, .slice none 0 0, .int .i64 q, .int .i64 tag, .int .i64 op, .int .i64 asked, .bool wt, .bool false, .int .i64 tm, .int .i64 st, .bool kn, .bool br, .int .i64 bl, .bool fr, .int .i64 fl] 57 (0, 0)) from (blk_set (n := 12) (vs' := #[.string k.1, .string k.2, .slice (some ⟨sb, 0, none⟩) m sc, .int .i64 (i : Nat), .int .i64 now, .slice wa n wc, .slice none 0 0, .int .i64 q, .int .i64 tag, .int .i64 op, .int .i64 asked, .bool wt, .bool false, .int .i64 tm, .int .i64 st, .bool kn, .bool br, .int .i64 bl, .bool fr, .int .i64 fl]) HA1.out (by first | rfl | simp)))
  have hr : Rim ab w1 (w1.setCell ⟨ab, 12, none⟩ (.bool false)) := (rim_set (Rim.of (Below.refl _ _)))
  have HR2 := Lib.hid (hr.rimT HA1.out HR1.out (by decide))
  have HM2 := Lib.hid (HM1.out.trans hr)
  clear hr HR1 HM1 HA1 HP1
  generalize (w1.setCell ⟨ab, 12, none⟩ (.bool false)) = w2 at *
  have HQ2 := Lib.hid (show AgP w2 ab k zs (⟨i, now, ws, q, tag, op, asked, wt, false, tm, st, kn, br, bl, fr, fl⟩ : Ag) from by
    have h9 := AgP.own H1.out HSV.out HWS.out HM2.out
    exact ⟨sb, sc, wa, wc, by dsimp only; rw [HN.out, HMZ.out]; exact HA2.out, h9.1, h9.2⟩)
  have hk := blk_cell HR2.out
  have hl := blk_lt HR2.out
  have hf := blk_free HR2.out
  have hka := blk_cell HA2.out
  have hla := blk_lt HA2.out
  go_wp2_with fail
  refine bodyPost_ret (v := .agg #[.int .i64 0, .int .i64 3, .int .i64 0, .int .i64 0, .int .i64 0, .int .i64 0, .int .i64 0, .string k.1, .string k.2, .bool false, .int .u32 0, .slice none 0 0, .slice none 0 0]) (by have hk2 := blk_cell (blk_fill13 (v0 := .int .i64 0) (v1 := .int .i64 3) (v2 := .int .i64 0) (v3 := .int .i64 0) (v4 := .int .i64 0) (v5 := .int .i64 0) (v6 := .int .i64 0) (v7 := .string k.1) (v8 := .string k.2) (v9 := .bool false) (v10 := .int .u32 0) (v11 := .slice none 0 0) (v12 := .slice none 0 0) HR2.out rfl); simp [results, Try.results29, go_sem, hk2]) rfl ⟨rfl, ?_, ?_⟩
  · exact (HQ2.out).rimO (Rim13 (Rim.of (Below.refl _ _))) HR2.out (by decide) (by decide) (by decide)
  · exact rim_newL HM2.out HRW.out HR2.out (Rim13 (Rim.of (Below.refl _ _)))


set_option maxRecDepth 100000 in
set_option maxHeartbeats 1000000 in
theorem agWanted4 (ab : Nat) (k : ByteArray × ByteArray) (zs : List Int) (s : Ag) (x : Wt) (w : World) (h : AgP w ab k zs s) (t : Ag × Ms × Bool) (ht : wantedM k x s = t) (h1' : ¬ x.o = 1) (h3 : ¬ x.o = 3) :
    Calls Try.prog 29 #[.pointer (some ⟨ab, 0, none⟩), .agg #[.int .i64 x.o, .int .i64 x.n, .int .i64 x.s]] w fun r w' => r = .returned (.agg #[.int .i64 0, .int .i64 t.2.1.op, .int .i64 t.2.1.st, .int .i64 0, .int .i64 0, .int .i64 t.2.1.N, .int .i64 t.2.1.sq, .string t.2.1.a, .string t.2.1.i, .bool false, .int .u32 0, .slice none 0 0, .slice none 0 0]) ∧ AgP w' ab k zs t.1 ∧ Rim ab w w' := by
  obtain ⟨i, now, ws, q, tag, op, asked, wt, wi, tm, st, kn, br, bl, fr, fl⟩ := s
  obtain ⟨sb, sc, wa, wc, h1, hsv, hws⟩ := h
  dsimp only at h1 hws
  obtain ⟨n, hn⟩ : ∃ n, ws.length = n := ⟨_, rfl⟩
  obtain ⟨m, hm⟩ : ∃ m, zs.length = m := ⟨_, rfl⟩
  rw [hn, hm] at h1
  have H1 := Lib.hid h1
  have HSV := Lib.hid hsv
  have HWS := Lib.hid hws
  have HN := Lib.hid hn
  have HM := Lib.hid hm
  clear h1 hsv hws hn hm
  unfold wantedM at ht
  rw [if_neg h1', if_neg h3] at ht
  try dsimp only at ht
  subst ht
  try dsimp only
  have e1 : (x.o == 1) = false := by simpa using h1'
  have e2 : (x.o == 3) = false := by simpa using h3
  have HO := Lib.hid (And.intro h1' h3)
  clear h1' h3
  have HMZ := HM
  clear HM
  have D0 := Lib.hid (show Below w.heap.size w ((w.alloc (.cells #[.int .i64 x.o, .int .i64 x.n, .int .i64 x.s] 61)).alloc (.cells #[.int .i64 0, .int .i64 0, .int .i64 0, .int .i64 0, .int .i64 0, .int .i64 0, .int .i64 0, .string ⟨#[]⟩, .string ⟨#[]⟩, .bool false, .int .u32 0, .slice none 0 0, .slice none 0 0] 37)) from ((Below.refl _ _).alloc (Nat.le_refl _) _).alloc (by simp) _)
  have HP1 := Lib.hid (blk_alloc (blk_new w #[.int .i64 x.o, .int .i64 x.n, .int .i64 x.s] 61) (.cells #[.int .i64 0, .int .i64 0, .int .i64 0, .int .i64 0, .int .i64 0, .int .i64 0, .int .i64 0, .string ⟨#[]⟩, .string ⟨#[]⟩, .bool false, .int .u32 0, .slice none 0 0, .slice none 0 0] 37))
  have HR1 := Lib.hid (show ((w.alloc (.cells #[.int .i64 x.o, .int .i64 x.n, .int .i64 x.s] 61)).alloc (.cells #[.int .i64 0, .int .i64 0, .int .i64 0, .int .i64 0, .int .i64 0, .int .i64 0, .int .i64 0, .string ⟨#[]⟩, .string ⟨#[]⟩, .bool false, .int .u32 0, .slice none 0 0, .slice none 0 0] 37)).heap[w.heap.size + 1]? = some (.cells #[.int .i64 0, .int .i64 0, .int .i64 0, .int .i64 0, .int .i64 0, .int .i64 0, .int .i64 0, .string ⟨#[]⟩, .string ⟨#[]⟩, .bool false, .int .u32 0, .slice none 0 0, .slice none 0 0] 37 (0, 0)) from blk_new_at (by simp) _ _)
  have HA1 := Lib.hid (blk_ext D0.out H1.out)
  have hlt := blk_lt H1.out
  go_enter Try.func29, Try.ntmps29
  go_upto_region 1 with (fail)
  obtain ⟨p, hp⟩ : ∃ p, w.heap.size = p := ⟨_, rfl⟩
  obtain ⟨r, hr⟩ : ∃ r, w.heap.size + 1 = r := ⟨_, rfl⟩
  have HPW := Lib.hid hp
  have HRW := Lib.hid (show w.heap.size ≤ r from by omega)
  rw [hp] at HP1
  rw [hr] at HR1
  try rw [hr]
  try rw [hp]
  try rw [hp] at hr
  try rw [hr]
  clear hr hp hlt
  generalize ((w.alloc (.cells #[.int .i64 x.o, .int .i64 x.n, .int .i64 x.s] 61)).alloc (.cells #[.int .i64 0, .int .i64 0, .int .i64 0, .int .i64 0, .int .i64 0, .int .i64 0, .int .i64 0, .string ⟨#[]⟩, .string ⟨#[]⟩, .bool false, .int .u32 0, .slice none 0 0, .slice none 0 0] 37)) = w1 at *
  have HM1 := Lib.hid (Rim.of (b := ab) D0.out)
  clear D0
  have hk0 := blk_cell HP1.out
  have hl0 := blk_lt HP1.out
  go_upto_region 8 with (fail)
  clear hk0 hl0
  haveI hIq : Nonempty (Of w1) := of_some _
  have hG0 := blk_of HP1.out
  have hG1 := blk_of HA1.out
  refine wp_region_split 9 1 8 rfl rfl (by kernel_rfl) (by kernel_rfl) (by kernel_rfl) (by kernel_rfl) (by kernel_rfl) ?_
  simp only [List.take_succ_cons, List.take_zero]
  refine wpAny_stay w1 (by kernel_rfl) ((Below.refl _ _).drew) ?_
  repeat (first | go_big_quiet_step (fail) | quiet_step (fail))
  refine wpQuiet_nil ?_
  intro w2 hb2
  clear hIq hG0 hG1
  simp only [behind]
  have HA2 := Lib.hid (blk_ext hb2 HA1.out)
  have HR2 := Lib.hid (blk_ext hb2 HR1.out)
  have HM2 := Lib.hid (HM1.out.trans (Rim.of hb2))
  clear hb2 HA1 HR1 HM1 HP1
  have HQ2 := Lib.hid (show AgP w2 ab k zs (⟨i, now, ws, q, tag, op, asked, wt, wi, tm, st, kn, br, bl, fr, fl⟩ : Ag) from by
    have h9 := AgP.own H1.out HSV.out HWS.out HM2.out
    exact ⟨sb, sc, wa, wc, by dsimp only; rw [HN.out, HMZ.out]; exact HA2.out, h9.1, h9.2⟩)
  have hk := blk_cell HR2.out
  have hl := blk_lt HR2.out
  have hf := blk_free HR2.out
  refine wpAny_one 9 _ (by kernel_rfl) rfl ?_
  refine wpOp_do (by simp only [List.getElem?_toArray, List.getElem?_cons_succ, List.getElem?_cons_zero]; rfl) (by rfl) (fun K hK => ?_)
  go_big_op
  refine hK _ _ ?_
  clear hK K
  refine wpAny_end (by kernel_rfl) ?_
  go_wp2_with fail
  refine bodyPost_ret (v := .agg #[.int .i64 0, .int .i64 x.o, .int .i64 x.s, .int .i64 0, .int .i64 0, .int .i64 0, .int .i64 0, .string k.1, .string k.2, .bool false, .int .u32 0, .slice none 0 0, .slice none 0 0]) (by have hk2 := blk_cell (blk_fill13 (v0 := .int .i64 0) (v1 := .int .i64 x.o) (v2 := .int .i64 x.s) (v3 := .int .i64 0) (v4 := .int .i64 0) (v5 := .int .i64 0) (v6 := .int .i64 0) (v7 := .string k.1) (v8 := .string k.2) (v9 := .bool false) (v10 := .int .u32 0) (v11 := .slice none 0 0) (v12 := .slice none 0 0) HR2.out rfl); simp [results, Try.results29, go_sem, hk2]) rfl ⟨rfl, ?_, ?_⟩
  · exact (HQ2.out).rimO (Rim13 (Rim.of (Below.refl _ _))) HR2.out (by decide) (by decide) (by decide)
  · exact rim_newL HM2.out HRW.out HR2.out (Rim13 (Rim.of (Below.refl _ _)))


set_option maxRecDepth 100000 in
set_option maxHeartbeats 1000000 in
theorem agWanted (ab : Nat) (k : ByteArray × ByteArray) (zs : List Int) (s : Ag) (x : Wt) (w : World) (h : AgP w ab k zs s) (t : Ag × Ms × Bool) (ht : wantedM k x s = t) :
    Calls Try.prog 29 #[.pointer (some ⟨ab, 0, none⟩), .agg #[.int .i64 x.o, .int .i64 x.n, .int .i64 x.s]] w fun r w' => r = .returned (.agg #[.int .i64 0, .int .i64 t.2.1.op, .int .i64 t.2.1.st, .int .i64 0, .int .i64 0, .int .i64 t.2.1.N, .int .i64 t.2.1.sq, .string t.2.1.a, .string t.2.1.i, .bool false, .int .u32 0, .slice none 0 0, .slice none 0 0]) ∧ AgP w' ab k zs t.1 ∧ Rim ab w w' := by
  by_cases h1 : x.o = 1
  · exact agWanted1 ab k zs s x w h t ht h1
  · by_cases h3 : x.o = 3
    · exact agWanted3 ab k zs s x w h t ht h3
    · exact agWanted4 ab k zs s x w h t ht h1 h3

end Go.Proofs.Ytibgphjadiidaaa
