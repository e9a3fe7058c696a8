/- Package agent: ask. -/
import Derived.Test.YtibgphjadiidaaaAgB
namespace Go.Proofs.Ytibgphjadiidaaa
open Go.RowKit
set_option linter.unusedVariables false
set_option linter.unusedSimpArgs false

theorem rim_newL {w w1 w2 : World} {ab p : Nat} {c0 : Array Value} {T : TypeId} (h : Rim ab w w1) (hp : w.heap.size ≤ p) (h0 : w1.heap[p]? = some (.cells c0 T (0, 0))) (h2 : Rim p w1 w2) : Rim ab w w2 :=
  ⟨h2.os.trans h.os, h2.tape.trans h.tape, h2.output.trans h.output, Nat.le_trans h.size h2.size, fun i hi hl => (h2.block i (by omega) (Nat.lt_of_lt_of_le hl h.size)).trans (h.block i hi hl)⟩
set_option maxRecDepth 100000 in
set_option maxHeartbeats 2000000 in
theorem agAsk (ab : Nat) (k : ByteArray × ByteArray) (zs : List Int) (s : Ag) (w : World) (h : AgP w ab k zs s) (mm : Ms) (z : Int) (hz : zs[s.i]? = some z) (ht0 : 0 ≤ s.tag) (ht1 : s.tag ≤ 1000000000) :
    Calls Try.prog 23 #[.pointer (some ⟨ab, 0, none⟩), .agg #[.int .i64 0, .int .i64 mm.op, .int .i64 mm.st, .int .i64 0, .int .i64 0, .int .i64 mm.N, .int .i64 mm.sq, .string mm.a, .string mm.i, .bool false, .int .u32 0, .slice none 0 0, .slice none 0 0]] w fun r w' => r = .returned (.agg #[.int .i64 z, .int .i64 1, .int .i64 mm.op, .int .i64 mm.st, .int .i64 0, .int .i64 (s.tag + 1), .int .i64 mm.N, .int .i64 mm.sq, .string mm.a, .string mm.i, .bool false, .int .u32 0, .slice none 0 0, .slice none 0 0]) ∧ AgP w' ab k zs (askM s mm) ∧ Rim ab w w' := by
  obtain ⟨i, now, ws, q, tag, op, asked, wt, wi, tm, st, kn, br, bl, fr, fl⟩ := s
  obtain ⟨sb, sc, wa, wc, h1, hsv, hws⟩ := h
  dsimp only at *
  obtain ⟨n, hn⟩ : ∃ n, ws.length = n := ⟨_, rfl⟩
  obtain ⟨m, hm⟩ : ∃ m, zs.length = m := ⟨_, rfl⟩
  rw [hn, hm] at h1
  have H1 := Lib.hid h1
  have HSV := Lib.hid hsv
  have HWS := Lib.hid hws
  have HN := Lib.hid hn
  have HM := Lib.hid hm
  clear h1 hsv hws hn hm
  unfold askM
  dsimp only
  have HMZ := HM
  clear HM
  have D0 := Lib.hid (show Below w.heap.size w ((w.alloc (.cells #[.int .i64 0, .int .i64 mm.op, .int .i64 mm.st, .int .i64 0, .int .i64 0, .int .i64 mm.N, .int .i64 mm.sq, .string mm.a, .string mm.i, .bool false, .int .u32 0, .slice none 0 0, .slice none 0 0] 37)).alloc (.cells #[.int .i64 0, .int .i64 0, .int .i64 0, .int .i64 0, .int .i64 0, .int .i64 0, .int .i64 0, .int .i64 0, .string ⟨#[]⟩, .string ⟨#[]⟩, .bool false, .int .u32 0, .slice none 0 0, .slice none 0 0] 39)) from ((Below.refl _ _).alloc (Nat.le_refl _) _).alloc (by simp) _)
  have HP1 := Lib.hid (blk_alloc (blk_new w #[.int .i64 0, .int .i64 mm.op, .int .i64 mm.st, .int .i64 0, .int .i64 0, .int .i64 mm.N, .int .i64 mm.sq, .string mm.a, .string mm.i, .bool false, .int .u32 0, .slice none 0 0, .slice none 0 0] 37) (.cells #[.int .i64 0, .int .i64 0, .int .i64 0, .int .i64 0, .int .i64 0, .int .i64 0, .int .i64 0, .int .i64 0, .string ⟨#[]⟩, .string ⟨#[]⟩, .bool false, .int .u32 0, .slice none 0 0, .slice none 0 0] 39))
  have HR1 := Lib.hid (show ((w.alloc (.cells #[.int .i64 0, .int .i64 mm.op, .int .i64 mm.st, .int .i64 0, .int .i64 0, .int .i64 mm.N, .int .i64 mm.sq, .string mm.a, .string mm.i, .bool false, .int .u32 0, .slice none 0 0, .slice none 0 0] 37)).alloc (.cells #[.int .i64 0, .int .i64 0, .int .i64 0, .int .i64 0, .int .i64 0, .int .i64 0, .int .i64 0, .int .i64 0, .string ⟨#[]⟩, .string ⟨#[]⟩, .bool false, .int .u32 0, .slice none 0 0, .slice none 0 0] 39)).heap[w.heap.size + 1]? = some (.cells #[.int .i64 0, .int .i64 0, .int .i64 0, .int .i64 0, .int .i64 0, .int .i64 0, .int .i64 0, .int .i64 0, .string ⟨#[]⟩, .string ⟨#[]⟩, .bool false, .int .u32 0, .slice none 0 0, .slice none 0 0] 39 (0, 0)) from blk_new_at (by simp) _ _)
  have HA1 := Lib.hid (blk_ext D0.out H1.out)
  have hlt := blk_lt H1.out
  go_enter Try.func23, Try.ntmps23
  go_upto_region 1 with (fail)
  obtain ⟨p, hp⟩ : ∃ p, w.heap.size = p := ⟨_, rfl⟩
  obtain ⟨r, hr⟩ : ∃ r, w.heap.size + 1 = r := ⟨_, rfl⟩
  have HPW := Lib.hid hp
  have HRW := Lib.hid (show w.heap.size ≤ r from by omega)
  rw [hp] at HP1
  rw [hr] at HR1
  try rw [hr]
  try rw [hp]
  try rw [hp] at hr
  try rw [hr]
  clear hr hp hlt
  generalize ((w.alloc (.cells #[.int .i64 0, .int .i64 mm.op, .int .i64 mm.st, .int .i64 0, .int .i64 0, .int .i64 mm.N, .int .i64 mm.sq, .string mm.a, .string mm.i, .bool false, .int .u32 0, .slice none 0 0, .slice none 0 0] 37)).alloc (.cells #[.int .i64 0, .int .i64 0, .int .i64 0, .int .i64 0, .int .i64 0, .int .i64 0, .int .i64 0, .int .i64 0, .string ⟨#[]⟩, .string ⟨#[]⟩, .bool false, .int .u32 0, .slice none 0 0, .slice none 0 0] 39)) = w1 at *
  have hk := blk_cell HA1.out
  have hl := blk_lt HA1.out
  have hf := blk_free HA1.out
  go_upto_region 2 with (fail)
  have HA2 := Lib.hid (show (w1.setCell ⟨ab, 8, none⟩ (.int .i64 (tag + 1))).heap[ab]? = some (.cells #[.string k.1, .string k.2, .slice (some ⟨sb, 0, none⟩) m sc, .int .i64 (i : Nat), .int .i64 now, .slice wa n wc, .slice none 0 0, .int .i64 q, .int .i64 (tag + 1), .int .i64 op, .int .i64 asked, .bool wt, .bool wi, .int .i64 tm, .int .i64 st, .bool kn, .bool br, .int .i64 bl, .bool fr, .int .i64 fl] 57 (0, 0)) from blk_set (n := 8) HA1.out (by first | rfl | simp))
  have hr : Rim ab w1 (w1.setCell ⟨ab, 8, none⟩ (.int .i64 (tag + 1))) := rim_set (Rim.of (Below.refl _ _))
  have HP2 := Lib.hid (hr.rimT HA1.out HP1.out (by decide))
  have HR2 := Lib.hid (hr.rimT HA1.out HR1.out (by decide))
  have HM2 := Lib.hid ((Rim.of D0.out).trans hr)
  clear hr hk hl hf HA1 HP1 HR1 D0
  generalize (w1.setCell ⟨ab, 8, none⟩ (.int .i64 (tag + 1))) = w2 at *
  haveI hIc : Nonempty (In (fun W : World => W.heap[p]? = some (.cells #[.int .i64 0, .int .i64 mm.op, .int .i64 mm.st, .int .i64 0, .int .i64 0, .int .i64 mm.N, .int .i64 mm.sq, .string mm.a, .string mm.i, .bool false, .int .u32 0, .slice none 0 0, .slice none 0 0] 37 (0, 0)) ∧ W.cell? ⟨ab, 4, none⟩ = some (.int .i64 now) ∧ ab < W.heap.size ∧ ∀ o, W.frozen? ⟨ab, o, none⟩ = false)) := ⟨⟨_, ⟨HP2.out, (blk_cell HA2.out 4), blk_lt HA2.out, blk_free HA2.out⟩⟩⟩
  have hF0 : ∀ g : In (fun W : World => W.heap[p]? = some (.cells #[.int .i64 0, .int .i64 mm.op, .int .i64 mm.st, .int .i64 0, .int .i64 0, .int .i64 mm.N, .int .i64 mm.sq, .string mm.a, .string mm.i, .bool false, .int .u32 0, .slice none 0 0, .slice none 0 0] 37 (0, 0)) ∧ W.cell? ⟨ab, 4, none⟩ = some (.int .i64 now) ∧ ab < W.heap.size ∧ ∀ o, W.frozen? ⟨ab, o, none⟩ = false), ∀ n, g.w.cell? ⟨p, n, none⟩ = (#[.int .i64 0, .int .i64 mm.op, .int .i64 mm.st, .int .i64 0, .int .i64 0, .int .i64 mm.N, .int .i64 mm.sq, .string mm.a, .string mm.i, .bool false, .int .u32 0, .slice none 0 0, .slice none 0 0] : Array Value)[n]? := fun g => blk_cell g.h.1
  have hF1 : ∀ g : In (fun W : World => W.heap[p]? = some (.cells #[.int .i64 0, .int .i64 mm.op, .int .i64 mm.st, .int .i64 0, .int .i64 0, .int .i64 mm.N, .int .i64 mm.sq, .string mm.a, .string mm.i, .bool false, .int .u32 0, .slice none 0 0, .slice none 0 0] 37 (0, 0)) ∧ W.cell? ⟨ab, 4, none⟩ = some (.int .i64 now) ∧ ab < W.heap.size ∧ ∀ o, W.frozen? ⟨ab, o, none⟩ = false), p < g.w.heap.size := fun g => blk_lt g.h.1
  have hF2 : ∀ g : In (fun W : World => W.heap[p]? = some (.cells #[.int .i64 0, .int .i64 mm.op, .int .i64 mm.st, .int .i64 0, .int .i64 0, .int .i64 mm.N, .int .i64 mm.sq, .string mm.a, .string mm.i, .bool false, .int .u32 0, .slice none 0 0, .slice none 0 0] 37 (0, 0)) ∧ W.cell? ⟨ab, 4, none⟩ = some (.int .i64 now) ∧ ab < W.heap.size ∧ ∀ o, W.frozen? ⟨ab, o, none⟩ = false), g.w.cell? ⟨ab, 4, none⟩ = some (.int .i64 now) := fun g => g.h.2.1
  have hF3 : ∀ g : In (fun W : World => W.heap[p]? = some (.cells #[.int .i64 0, .int .i64 mm.op, .int .i64 mm.st, .int .i64 0, .int .i64 0, .int .i64 mm.N, .int .i64 mm.sq, .string mm.a, .string mm.i, .bool false, .int .u32 0, .slice none 0 0, .slice none 0 0] 37 (0, 0)) ∧ W.cell? ⟨ab, 4, none⟩ = some (.int .i64 now) ∧ ab < W.heap.size ∧ ∀ o, W.frozen? ⟨ab, o, none⟩ = false), ab < g.w.heap.size := fun g => g.h.2.2.1
  refine wp_region_chain (fun w' => ∃ g : In (fun W : World => W.heap[p]? = some (.cells #[.int .i64 0, .int .i64 mm.op, .int .i64 mm.st, .int .i64 0, .int .i64 0, .int .i64 mm.N, .int .i64 mm.sq, .string mm.a, .string mm.i, .bool false, .int .u32 0, .slice none 0 0, .slice none 0 0] 37 (0, 0)) ∧ W.cell? ⟨ab, 4, none⟩ = some (.int .i64 now) ∧ ab < W.heap.size ∧ ∀ o, W.frozen? ⟨ab, o, none⟩ = false), w' = g.w) (by kernel_rfl) (by kernel_rfl) (by kernel_rfl) ?_
  have HA3 := Lib.hid (blk_drew HA2.out)
  have HP3 := Lib.hid (blk_drew HP2.out)
  have HR3 := Lib.hid (blk_drew HR2.out)
  have HM3 := Lib.hid (HM2.out.trans (Rim.of (Below.refl w2.heap.size w2).drew))
  clear HA2 HP2 HR2 HM2
  generalize w2.drew = y3 at *
  repeat (refine wpG_plain (by rfl) (by rfl) (fun K hK => ?_); go_big_quiet_op; refine hK _ ?_; clear hK K)
  have hk := blk_cell HA3.out
  have hf := blk_free HA3.out
  have hl := blk_lt HA3.out
  refine wpG_call (by rfl) (by rfl) ⟨⟨_, HP3.out, (blk_cell HA3.out 4), blk_lt HA3.out, blk_free HA3.out⟩, rfl⟩ (fun K hK => ?_)
  go_big_op
  refine hK _ _ ?_
  clear hK K
  have HA4 := Lib.hid (show (y3.setCell ⟨ab, 9, none⟩ (.int .i64 mm.op)).heap[ab]? = some (.cells #[.string k.1, .string k.2, .slice (some ⟨sb, 0, none⟩) m sc, .int .i64 (i : Nat), .int .i64 now, .slice wa n wc, .slice none 0 0, .int .i64 q, .int .i64 (tag + 1), .int .i64 mm.op, .int .i64 asked, .bool wt, .bool wi, .int .i64 tm, .int .i64 st, .bool kn, .bool br, .int .i64 bl, .bool fr, .int .i64 fl] 57 (0, 0)) from blk_set (n := 9) HA3.out (by first | rfl | simp))
  have hr : Rim ab y3 (y3.setCell ⟨ab, 9, none⟩ (.int .i64 mm.op)) := rim_set (Rim.of (Below.refl _ _))
  have HP4 := Lib.hid (hr.rimT HA3.out HP3.out (by decide))
  have HR4 := Lib.hid (hr.rimT HA3.out HR3.out (by decide))
  have HM4 := Lib.hid (HM3.out.trans hr)
  clear hr hk hf hl HA3 HP3 HR3 HM3
  generalize (y3.setCell ⟨ab, 9, none⟩ (.int .i64 mm.op)) = y4 at *
  repeat (refine wpG_plain (by rfl) (by rfl) (fun K hK => ?_); go_big_quiet_op; refine hK _ ?_; clear hK K)
  have hk := blk_cell HA4.out
  have hf := blk_free HA4.out
  have hl := blk_lt HA4.out
  refine wpG_call (by rfl) (by rfl) ⟨⟨_, HP4.out, (blk_cell HA4.out 4), blk_lt HA4.out, blk_free HA4.out⟩, rfl⟩ (fun K hK => ?_)
  go_big_op
  refine hK _ _ ?_
  clear hK K
  have HA5 := Lib.hid (show (y4.setCell ⟨ab, 10, none⟩ (.int .i64 now)).heap[ab]? = some (.cells #[.string k.1, .string k.2, .slice (some ⟨sb, 0, none⟩) m sc, .int .i64 (i : Nat), .int .i64 now, .slice wa n wc, .slice none 0 0, .int .i64 q, .int .i64 (tag + 1), .int .i64 mm.op, .int .i64 now, .bool wt, .bool wi, .int .i64 tm, .int .i64 st, .bool kn, .bool br, .int .i64 bl, .bool fr, .int .i64 fl] 57 (0, 0)) from blk_set (n := 10) HA4.out (by first | rfl | simp))
  have hr : Rim ab y4 (y4.setCell ⟨ab, 10, none⟩ (.int .i64 now)) := rim_set (Rim.of (Below.refl _ _))
  have HP5 := Lib.hid (hr.rimT HA4.out HP4.out (by decide))
  have HR5 := Lib.hid (hr.rimT HA4.out HR4.out (by decide))
  have HM5 := Lib.hid (HM4.out.trans hr)
  clear hr hk hf hl HA4 HP4 HR4 HM4
  generalize (y4.setCell ⟨ab, 10, none⟩ (.int .i64 now)) = y5 at *
  repeat (refine wpG_plain (by rfl) (by rfl) (fun K hK => ?_); go_big_quiet_op; refine hK _ ?_; clear hK K)
  have hk := blk_cell HA5.out
  have hf := blk_free HA5.out
  have hl := blk_lt HA5.out
  refine wpG_call (by rfl) (by rfl) ⟨⟨_, HP5.out, (blk_cell HA5.out 4), blk_lt HA5.out, blk_free HA5.out⟩, rfl⟩ (fun K hK => ?_)
  go_big_op
  refine hK _ _ ?_
  clear hK K
  have HA6 := Lib.hid (show (y5.setCell ⟨ab, 11, none⟩ (.bool true)).heap[ab]? = some (.cells #[.string k.1, .string k.2, .slice (some ⟨sb, 0, none⟩) m sc, .int .i64 (i : Nat), .int .i64 now, .slice wa n wc, .slice none 0 0, .int .i64 q, .int .i64 (tag + 1), .int .i64 mm.op, .int .i64 now, .bool true, .bool wi, .int .i64 tm, .int .i64 st, .bool kn, .bool br, .int .i64 bl, .bool fr, .int .i64 fl] 57 (0, 0)) from blk_set (n := 11) HA5.out (by first | rfl | simp))
  have hr : Rim ab y5 (y5.setCell ⟨ab, 11, none⟩ (.bool true)) := rim_set (Rim.of (Below.refl _ _))
  have HP6 := Lib.hid (hr.rimT HA5.out HP5.out (by decide))
  have HR6 := Lib.hid (hr.rimT HA5.out HR5.out (by decide))
  have HM6 := Lib.hid (HM5.out.trans hr)
  clear hr hk hf hl HA5 HP5 HR5 HM5
  generalize (y5.setCell ⟨ab, 11, none⟩ (.bool true)) = y6 at *
  repeat (refine wpG_plain (by rfl) (by rfl) (fun K hK => ?_); go_big_quiet_op; refine hK _ ?_; clear hK K)
  refine wpG_nil ⟨⟨_, HP6.out, (blk_cell HA6.out 4), blk_lt HA6.out, blk_free HA6.out⟩, rfl⟩ ?_
  clear hF0 hF1 hF2 hF3 hIc
  have hk := blk_cell HA6.out
  have hl := blk_lt HA6.out
  have hf := blk_free HA6.out
  go_upto_region 3 with (fail)
  clear hk hl hf
  haveI hIc : Nonempty (In (fun W : World => W.cell? ⟨ab, 8, none⟩ = some (.int .i64 (tag + 1)) ∧ ab < W.heap.size ∧ p < W.heap.size ∧ ∀ o, W.frozen? ⟨p, o, none⟩ = false)) := ⟨⟨_, ⟨(blk_cell HA6.out 8), blk_lt HA6.out, blk_lt HP6.out, blk_free HP6.out⟩⟩⟩
  have hF0 : ∀ g : In (fun W : World => W.cell? ⟨ab, 8, none⟩ = some (.int .i64 (tag + 1)) ∧ ab < W.heap.size ∧ p < W.heap.size ∧ ∀ o, W.frozen? ⟨p, o, none⟩ = false), g.w.cell? ⟨ab, 8, none⟩ = some (.int .i64 (tag + 1)) := fun g => g.h.1
  have hF1 : ∀ g : In (fun W : World => W.cell? ⟨ab, 8, none⟩ = some (.int .i64 (tag + 1)) ∧ ab < W.heap.size ∧ p < W.heap.size ∧ ∀ o, W.frozen? ⟨p, o, none⟩ = false), ab < g.w.heap.size := fun g => g.h.2.1
  have hF2 : ∀ g : In (fun W : World => W.cell? ⟨ab, 8, none⟩ = some (.int .i64 (tag + 1)) ∧ ab < W.heap.size ∧ p < W.heap.size ∧ ∀ o, W.frozen? ⟨p, o, none⟩ = false), p < g.w.heap.size := fun g => g.h.2.2.1
  refine wp_region_chain (fun w' => ∃ g : In (fun W : World => W.cell? ⟨ab, 8, none⟩ = some (.int .i64 (tag + 1)) ∧ ab < W.heap.size ∧ p < W.heap.size ∧ ∀ o, W.frozen? ⟨p, o, none⟩ = false), w' = g.w) (by kernel_rfl) (by kernel_rfl) (by kernel_rfl) ?_
  have HA7 := Lib.hid (blk_drew HA6.out)
  have HP7 := Lib.hid (blk_drew HP6.out)
  have HR7 := Lib.hid (blk_drew HR6.out)
  have HM7 := Lib.hid (HM6.out.trans (Rim.of (Below.refl y6.heap.size y6).drew))
  clear HA6 HP6 HR6 HM6
  generalize y6.drew = y7 at *
  repeat (refine wpG_plain (by rfl) (by rfl) (fun K hK => ?_); go_big_quiet_op; refine hK _ ?_; clear hK K)
  have hk := blk_cell HP7.out
  have hf := blk_free HP7.out
  have hl := blk_lt HP7.out
  refine wpG_call (by rfl) (by rfl) ⟨⟨_, (blk_cell HA7.out 8), blk_lt HA7.out, blk_lt HP7.out, blk_free HP7.out⟩, rfl⟩ (fun K hK => ?_)
  go_big_op
  refine hK _ _ ?_
  clear hK K
  have HP8 := Lib.hid (show (y7.setCell ⟨p, 0, none⟩ (.int .i64 1)).heap[p]? = some (.cells #[.int .i64 1, .int .i64 mm.op, .int .i64 mm.st, .int .i64 0, .int .i64 0, .int .i64 mm.N, .int .i64 mm.sq, .string mm.a, .string mm.i, .bool false, .int .u32 0, .slice none 0 0, .slice none 0 0] 37 (0, 0)) from blk_set (n := 0) HP7.out (by first | rfl | simp))
  have hr : Rim p y7 (y7.setCell ⟨p, 0, none⟩ (.int .i64 1)) := rim_set (Rim.of (Below.refl _ _))
  have HA8 := Lib.hid (hr.rimT HP7.out HA7.out (by decide))
  have HR8 := Lib.hid (hr.rimT HP7.out HR7.out (by decide))
  have HM8 := Lib.hid (rim_new HM7.out HPW.out HP7.out hr)
  clear hr hk hf hl HA7 HP7 HR7 HM7
  generalize (y7.setCell ⟨p, 0, none⟩ (.int .i64 1)) = y8 at *
  repeat (refine wpG_plain (by rfl) (by rfl) (fun K hK => ?_); go_big_quiet_op; refine hK _ ?_; clear hK K)
  have hk := blk_cell HP8.out
  have hf := blk_free HP8.out
  have hl := blk_lt HP8.out
  refine wpG_call (by rfl) (by rfl) ⟨⟨_, (blk_cell HA8.out 8), blk_lt HA8.out, blk_lt HP8.out, blk_free HP8.out⟩, rfl⟩ (fun K hK => ?_)
  go_big_op
  refine hK _ _ ?_
  clear hK K
  have HP9 := Lib.hid (show (y8.setCell ⟨p, 4, none⟩ (.int .i64 (tag + 1))).heap[p]? = some (.cells #[.int .i64 1, .int .i64 mm.op, .int .i64 mm.st, .int .i64 0, .int .i64 (tag + 1), .int .i64 mm.N, .int .i64 mm.sq, .string mm.a, .string mm.i, .bool false, .int .u32 0, .slice none 0 0, .slice none 0 0] 37 (0, 0)) from blk_set (n := 4) HP8.out (by first | rfl | simp))
  have hr : Rim p y8 (y8.setCell ⟨p, 4, none⟩ (.int .i64 (tag + 1))) := rim_set (Rim.of (Below.refl _ _))
  have HA9 := Lib.hid (hr.rimT HP8.out HA8.out (by decide))
  have HR9 := Lib.hid (hr.rimT HP8.out HR8.out (by decide))
  have HM9 := Lib.hid (rim_new HM8.out HPW.out HP8.out hr)
  clear hr hk hf hl HA8 HP8 HR8 HM8
  generalize (y8.setCell ⟨p, 4, none⟩ (.int .i64 (tag + 1))) = y9 at *
  repeat (refine wpG_plain (by rfl) (by rfl) (fun K hK => ?_); go_big_quiet_op; refine hK _ ?_; clear hK K)
  refine wpG_nil ⟨⟨_, (blk_cell HA9.out 8), blk_lt HA9.out, blk_lt HP9.out, blk_free HP9.out⟩, rfl⟩ ?_
  clear hF0 hF1 hF2 hIc
  have HQ := Lib.hid (show AgP y9 ab k zs (⟨i, now, ws, q, (tag + 1), mm.op, now, true, wi, tm, st, kn, br, bl, fr, fl⟩ : Ag) from by
    have h9 := AgP.own H1.out HSV.out HWS.out HM9.out
    exact ⟨sb, sc, wa, wc, by dsimp only; rw [HN.out, HMZ.out]; exact HA9.out, h9.1, h9.2⟩)
  have hk := blk_cell HP9.out
  have hl := blk_lt HP9.out
  go_upto_region 4 with (fail)
  haveI hIq : Nonempty (Of y9) := of_some _
  have hG0 := blk_of HP9.out
  refine wp_region_split 4 1 3 rfl rfl (by kernel_rfl) (by kernel_rfl) (by kernel_rfl) (by kernel_rfl) (by kernel_rfl) ?_
  simp only [List.take_succ_cons, List.take_zero]
  refine wpAny_stay y9 (by kernel_rfl) ((Below.refl _ _).drew) ?_
  repeat (first | go_big_quiet_step ((go_at_call 25; with_reducible refine stay_call (agServer ab k zs _ z _ (HQ.out.ext (In.h _)) hz))) | quiet_step (fail))
  refine wpQuiet_nil ?_
  intro w9 hb9
  clear hIq hG0
  simp only [behind]
  have HR10 := Lib.hid (blk_ext hb9 HR9.out)
  have HQ10 := Lib.hid (HQ.out.ext hb9)
  have HM10 := Lib.hid (HM9.out.trans (Rim.of hb9))
  clear hb9 hk hl HA9 HP9 HR9 HQ HM9
  have hk := blk_cell HR10.out
  have hl := blk_lt HR10.out
  have hf := blk_free HR10.out
  refine wpAny_one 4 _ (by kernel_rfl) rfl ?_
  refine wpOp_do (by simp only [List.getElem?_toArray, List.getElem?_cons_succ, List.getElem?_cons_zero]; rfl) (by rfl) (fun K hK => ?_)
  go_big_op
  refine hK _ _ ?_
  clear hK K
  refine wpAny_end (by kernel_rfl) ?_
  go_wp2_with fail
  refine bodyPost_ret (v := .agg #[.int .i64 z, .int .i64 1, .int .i64 mm.op, .int .i64 mm.st, .int .i64 0, .int .i64 (tag + 1), .int .i64 mm.N, .int .i64 mm.sq, .string mm.a, .string mm.i, .bool false, .int .u32 0, .slice none 0 0, .slice none 0 0]) (by have hk2 := blk_cell (blk_fill14 (v0 := .int .i64 z) (v1 := .int .i64 1) (v2 := .int .i64 mm.op) (v3 := .int .i64 mm.st) (v4 := .int .i64 0) (v5 := .int .i64 (tag + 1)) (v6 := .int .i64 mm.N) (v7 := .int .i64 mm.sq) (v8 := .string mm.a) (v9 := .string mm.i) (v10 := .bool false) (v11 := .int .u32 0) (v12 := .slice none 0 0) (v13 := .slice none 0 0) HR10.out rfl); simp [results, Try.results23, go_sem, hk2]) rfl ⟨rfl, ?_, ?_⟩
  · exact HQ10.out.rimO (Rim14 (Rim.of (Below.refl _ _))) HR10.out (by decide) (by decide) (by decide)
  · exact rim_newL HM10.out HRW.out HR10.out (Rim14 (Rim.of (Below.refl _ _)))

end Go.Proofs.Ytibgphjadiidaaa
