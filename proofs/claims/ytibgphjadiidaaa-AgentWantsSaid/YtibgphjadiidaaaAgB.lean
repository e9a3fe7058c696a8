/- Package agent: turn, register, ask. -/
import Derived.Test.YtibgphjadiidaaaAgA
namespace Go.Proofs.Ytibgphjadiidaaa
open Go.RowKit
set_option linter.unusedVariables false
set_option linter.unusedSimpArgs false

theorem Rim13 {u w : World} {b : Nat} {v0 v1 v2 v3 v4 v5 v6 v7 v8 v9 v10 v11 v12 : Value} (h : Rim b u w) : Rim b u (((((((((((((w.setCell ⟨b, 0, none⟩ v0).setCell ⟨b, 1, none⟩ v1).setCell ⟨b, 2, none⟩ v2).setCell ⟨b, 3, none⟩ v3).setCell ⟨b, 4, none⟩ v4).setCell ⟨b, 5, none⟩ v5).setCell ⟨b, 6, none⟩ v6).setCell ⟨b, 7, none⟩ v7).setCell ⟨b, 8, none⟩ v8).setCell ⟨b, 9, none⟩ v9).setCell ⟨b, 10, none⟩ v10).setCell ⟨b, 11, none⟩ v11).setCell ⟨b, 12, none⟩ v12) := (rim_set (rim_set (rim_set (rim_set (rim_set (rim_set (rim_set (rim_set (rim_set (rim_set (rim_set (rim_set (rim_set h)))))))))))))
theorem Rim14 {u w : World} {b : Nat} {v0 v1 v2 v3 v4 v5 v6 v7 v8 v9 v10 v11 v12 v13 : Value} (h : Rim b u w) : Rim b u ((((((((((((((w.setCell ⟨b, 0, none⟩ v0).setCell ⟨b, 1, none⟩ v1).setCell ⟨b, 2, none⟩ v2).setCell ⟨b, 3, none⟩ v3).setCell ⟨b, 4, none⟩ v4).setCell ⟨b, 5, none⟩ v5).setCell ⟨b, 6, none⟩ v6).setCell ⟨b, 7, none⟩ v7).setCell ⟨b, 8, none⟩ v8).setCell ⟨b, 9, none⟩ v9).setCell ⟨b, 10, none⟩ v10).setCell ⟨b, 11, none⟩ v11).setCell ⟨b, 12, none⟩ v12).setCell ⟨b, 13, none⟩ v13) := (rim_set (rim_set (rim_set (rim_set (rim_set (rim_set (rim_set (rim_set (rim_set (rim_set (rim_set (rim_set (rim_set (rim_set h))))))))))))))
/-- a new block is written: what was there is as it was, but ab -/
theorem rim_new {w w1 w2 : World} {ab p : Nat} {c0 : Array Value} {T : TypeId} (h : Rim ab w w1) (hp : w.heap.size = p) (h0 : w1.heap[p]? = some (.cells c0 T (0, 0))) (h2 : Rim p w1 w2) : Rim ab w w2 :=
  ⟨h2.os.trans h.os, h2.tape.trans h.tape, h2.output.trans h.output, Nat.le_trans h.size h2.size, fun i hi hl => (h2.block i (by omega) (Nat.lt_of_lt_of_le hl h.size)).trans (h.block i hi hl)⟩
set_option maxRecDepth 100000 in
set_option maxHeartbeats 1000000 in
theorem agTurn (ab : Nat) (k : ByteArray × ByteArray) (zs : List Int) (s : Ag) (w : World) (h : AgP w ab k zs s) (hi : s.i < zs.length) (hz : zs.length ≤ 100) :
    Calls Try.prog 21 #[.pointer (some ⟨ab, 0, none⟩)] w fun r w' => r = .returned (.tuple #[]) ∧ AgP w' ab k zs (turnM zs.length s) ∧ Rim ab w w' := by
  obtain ⟨i, now, ws, q, tag, op, asked, wt, wi, tm, st, kn, br, bl, fr, fl⟩ := s
  obtain ⟨sb, sc, wa, wc, h1, hsv, hws⟩ := h
  dsimp only at *
  obtain ⟨n, hn⟩ : ∃ n, ws.length = n := ⟨_, rfl⟩
  obtain ⟨m, hm⟩ : ∃ m, zs.length = m := ⟨_, rfl⟩
  rw [hn, hm] at h1
  have H1 := Lib.hid h1
  have HSV := Lib.hid hsv
  have HWS := Lib.hid hws
  have HN := Lib.hid hn
  have HM := Lib.hid hm
  clear h1 hsv hws hn hm
  have hk := blk_cell H1.out
  have hl := blk_lt H1.out
  have hf := blk_free H1.out
  have him : i < m := by rw [← HM.out]; exact hi
  have hm6 : m ≤ 100 := by rw [← HM.out]; exact hz
  clear hi hz
  have h2 : ((w.setCell ⟨ab, 11, none⟩ (.bool false)).setCell ⟨ab, 15, none⟩ (.bool false)).heap[ab]? = some (.cells #[.string k.1, .string k.2, .slice (some ⟨sb, 0, none⟩) m sc, .int .i64 (i : Nat), .int .i64 now, .slice wa n wc, .slice none 0 0, .int .i64 q, .int .i64 tag, .int .i64 op, .int .i64 asked, .bool false, .bool wi, .int .i64 tm, .int .i64 st, .bool false, .bool br, .int .i64 bl, .bool fr, .int .i64 fl] 57 (0, 0)) := blk_set (n := 15) (vs' := #[.string k.1, .string k.2, .slice (some ⟨sb, 0, none⟩) m sc, .int .i64 (i : Nat), .int .i64 now, .slice wa n wc, .slice none 0 0, .int .i64 q, .int .i64 tag, .int .i64 op, .int .i64 asked, .bool false, .bool wi, .int .i64 tm, .int .i64 st, .bool false, .bool br, .int .i64 bl, .bool fr, .int .i64 fl]) (blk_set (n := 11) (vs' := #[.string k.1, .string k.2, .slice (some ⟨sb, 0, none⟩) m sc, .int .i64 (i : Nat), .int .i64 now, .slice wa n wc, .slice none 0 0, .int .i64 q, .int .i64 tag, .int .i64 op, .int .i64 asked, .bool false, .bool wi, .int .i64 tm, .int .i64 st, .bool kn, .bool br, .int .i64 bl, .bool fr, .int .i64 fl]) H1.out (by first | rfl | simp)) (by first | rfl | simp)
  have hr : Rim ab w ((w.setCell ⟨ab, 11, none⟩ (.bool false)).setCell ⟨ab, 15, none⟩ (.bool false)) := rim_set (rim_set (Rim.of (Below.refl _ _)))
  have H2 := Lib.hid h2
  have HR2 := Lib.hid hr
  have H9 := Lib.hid (AgP.own H1.out HSV.out HWS.out hr)
  clear h2 hr
  go_enter Try.func21, Try.ntmps21
  go_upto_region 1 with (fail)
  clear hk hl hf
  generalize ((w.setCell ⟨ab, 11, none⟩ (.bool false)).setCell ⟨ab, 15, none⟩ (.bool false)) = w2 at *
  have hk := blk_cell H2.out
  have hl := blk_lt H2.out
  have hmo := Lib.hid (show ((i : Int) + 1) % (m : Int) = (((i + 1) % m : Nat) : Int) from by rw [Int.natCast_emod]; rfl)
  have hm0 : ¬ (m : Int) = 0 := by omega
  haveI hIq : Nonempty (Of w2) := of_some _
  have hG0 := blk_of H2.out
  refine wp_region_split 14 1 13 rfl rfl (by kernel_rfl) (by kernel_rfl) (by kernel_rfl) (by kernel_rfl) (by kernel_rfl) ?_
  simp only [List.take_succ_cons, List.take_zero]
  refine wpAny_stay w2 (by kernel_rfl) ((Below.refl _ _).drew) ?_
  repeat (first | go_big_quiet_step (fail) | quiet_step (fail))
  refine wpQuiet_nil ?_
  intro w9 hb9
  clear hIq hG0
  simp only [behind]
  have H3 := Lib.hid (blk_ext hb9 H2.out)
  have HR3 := Lib.hid (HR2.out.trans (Rim.of hb9))
  have HP3 := Lib.hid (And.intro (H9.out.1.keep fun b cur hc => hb9.block b (blk_lt hc)) (H9.out.2.keep fun b cur hc => hb9.block b (blk_lt hc)))
  clear hb9 hk hl H2 HR2 H9
  have hk := blk_cell H3.out
  have hl := blk_lt H3.out
  have hf := blk_free H3.out
  refine wpAny_one 14 _ (by kernel_rfl) rfl ?_
  refine wpOp_do (by simp only [List.getElem?_toArray, List.getElem?_cons_succ, List.getElem?_cons_zero]; rfl) (by rfl) (fun K hK => ?_)
  go_big_op
  refine hK _ _ ?_
  clear hK K
  refine wpAny_end (by kernel_rfl) ?_
  try rw [hmo.out]
  have H4 := Lib.hid (show (w9.setCell ⟨ab, 3, none⟩ (.int .i64 (((i + 1) % m : Nat) : Int))).heap[ab]? = some (.cells #[.string k.1, .string k.2, .slice (some ⟨sb, 0, none⟩) m sc, .int .i64 (((i + 1) % m) : Nat), .int .i64 now, .slice wa n wc, .slice none 0 0, .int .i64 q, .int .i64 tag, .int .i64 op, .int .i64 asked, .bool false, .bool wi, .int .i64 tm, .int .i64 st, .bool false, .bool br, .int .i64 bl, .bool fr, .int .i64 fl] 57 (0, 0)) from blk_set (n := 3) H3.out (by first | rfl | simp))
  have hr4 : Rim ab w9 (w9.setCell ⟨ab, 3, none⟩ (.int .i64 (((i + 1) % m : Nat) : Int))) := rim_set (Rim.of (Below.refl _ _))
  have HP4 := Lib.hid (AgP.own H3.out HP3.out.1 HP3.out.2 hr4)
  have HR4 := Lib.hid (HR3.out.trans hr4)
  clear hr4 hk hl hf H3 HP3 HR3 hmo
  generalize (w9.setCell ⟨ab, 3, none⟩ (.int .i64 (((i + 1) % m : Nat) : Int))) = w4 at *
  have hq : AgP w4 ab k zs (⟨((i + 1) % m), now, ws, q, tag, op, asked, false, wi, tm, st, false, br, bl, fr, fl⟩ : Ag) := ⟨sb, sc, wa, wc, by dsimp only; rw [HN.out, HM.out]; exact H4.out, HP4.out.1, HP4.out.2⟩
  have HQ := Lib.hid hq
  clear hq
  go_wp2_with fail
  refine (agForget ab k zs _ w4 HQ.out).mono ?_
  rintro r w5 ⟨rfl, h5, hr5⟩
  have H5 := Lib.hid h5
  have HR5 := Lib.hid (HR4.out.trans hr5)
  clear h5 hr5
  go_wp2
  go_end0
  refine ⟨rfl, ?_, HR5.out⟩
  have := H5.out
  unfold turnM
  dsimp only at *
  rw [HM.out]
  exact this

set_option maxRecDepth 100000 in
set_option maxHeartbeats 1000000 in
theorem agRegister (ab : Nat) (k : ByteArray × ByteArray) (zs : List Int) (s : Ag) (w : World) (h : AgP w ab k zs s) :
    Calls Try.prog 31 #[.pointer (some ⟨ab, 0, none⟩)] w fun r w' => r = .returned (.agg #[.int .i64 0, .int .i64 (regM k s).2.1.op, .int .i64 (regM k s).2.1.st, .int .i64 0, .int .i64 0, .int .i64 (regM k s).2.1.N, .int .i64 (regM k s).2.1.sq, .string (regM k s).2.1.a, .string (regM k s).2.1.i, .bool false, .int .u32 0, .slice none 0 0, .slice none 0 0]) ∧ AgP w' ab k zs (regM k s).1 ∧ Rim ab w w' := by
  obtain ⟨i, now, ws, q, tag, op, asked, wt, wi, tm, st, kn, br, bl, fr, fl⟩ := s
  obtain ⟨sb, sc, wa, wc, h1, hsv, hws⟩ := h
  dsimp only at *
  obtain ⟨n, hn⟩ : ∃ n, ws.length = n := ⟨_, rfl⟩
  obtain ⟨m, hm⟩ : ∃ m, zs.length = m := ⟨_, rfl⟩
  rw [hn, hm] at h1
  have H1 := Lib.hid h1
  have HSV := Lib.hid hsv
  have HWS := Lib.hid hws
  have HN := Lib.hid hn
  have HM := Lib.hid hm
  clear h1 hsv hws hn hm
  unfold regM
  dsimp only
  have hk := blk_cell H1.out
  have hl := blk_lt H1.out
  have hf := blk_free H1.out
  have D0 := Lib.hid (show Below w.heap.size w (w.alloc (.cells #[.int .i64 0, .int .i64 0, .int .i64 0, .int .i64 0, .int .i64 0, .int .i64 0, .int .i64 0, .string ⟨#[]⟩, .string ⟨#[]⟩, .bool false, .int .u32 0, .slice none 0 0, .slice none 0 0] 37)) from (Below.refl _ _).alloc (Nat.le_refl _) _)
  have HZ := Lib.hid (blk_new w #[.int .i64 0, .int .i64 0, .int .i64 0, .int .i64 0, .int .i64 0, .int .i64 0, .int .i64 0, .string ⟨#[]⟩, .string ⟨#[]⟩, .bool false, .int .u32 0, .slice none 0 0, .slice none 0 0] 37)
  have H2 := Lib.hid (blk_ext D0.out H1.out)
  go_enter Try.func31, Try.ntmps31
  go_upto_region 1 with (fail)
  obtain ⟨p, hp⟩ : ∃ p, w.heap.size = p := ⟨_, rfl⟩
  have HPW := Lib.hid hp
  have hpa : p ≠ ab := by omega
  rw [hp] at HZ
  try rw [hp]
  clear hp hk hl hf
  generalize (w.alloc (.cells #[.int .i64 0, .int .i64 0, .int .i64 0, .int .i64 0, .int .i64 0, .int .i64 0, .int .i64 0, .string ⟨#[]⟩, .string ⟨#[]⟩, .bool false, .int .u32 0, .slice none 0 0, .slice none 0 0] 37)) = w1 at *
  have hk := blk_cell H2.out
  have hl := blk_lt H2.out
  have hf := blk_free H2.out
  go_upto_region 2 with (fail)
  have H3 := Lib.hid (show ((w1.setCell ⟨ab, 16, none⟩ (.bool true)).setCell ⟨ab, 17, none⟩ (.int .i64 now)).heap[ab]? = some (.cells #[.string k.1, .string k.2, .slice (some ⟨sb, 0, none⟩) m sc, .int .i64 (i : Nat), .int .i64 now, .slice wa n wc, .slice none 0 0, .int .i64 q, .int .i64 tag, .int .i64 op, .int .i64 asked, .bool wt, .bool wi, .int .i64 tm, .int .i64 st, .bool kn, .bool true, .int .i64 now, .bool fr, .int .i64 fl] 57 (0, 0)) from blk_set (n := 17) (vs' := #[.string k.1, .string k.2, .slice (some ⟨sb, 0, none⟩) m sc, .int .i64 (i : Nat), .int .i64 now, .slice wa n wc, .slice none 0 0, .int .i64 q, .int .i64 tag, .int .i64 op, .int .i64 asked, .bool wt, .bool wi, .int .i64 tm, .int .i64 st, .bool kn, .bool true, .int .i64 now, .bool fr, .int .i64 fl]) (blk_set (n := 16) (vs' := #[.string k.1, .string k.2, .slice (some ⟨sb, 0, none⟩) m sc, .int .i64 (i : Nat), .int .i64 now, .slice wa n wc, .slice none 0 0, .int .i64 q, .int .i64 tag, .int .i64 op, .int .i64 asked, .bool wt, .bool wi, .int .i64 tm, .int .i64 st, .bool kn, .bool true, .int .i64 bl, .bool fr, .int .i64 fl]) H2.out (by first | rfl | simp)) (by first | rfl | simp))
  have hr3 : Rim ab w1 ((w1.setCell ⟨ab, 16, none⟩ (.bool true)).setCell ⟨ab, 17, none⟩ (.int .i64 now)) := rim_set (rim_set (Rim.of (Below.refl _ _)))
  have HZ3 := Lib.hid (hr3.rimT H2.out HZ.out (by decide))
  have HR3 := Lib.hid ((Rim.of D0.out).trans hr3)
  have HP3 := Lib.hid (AgP.own H1.out HSV.out HWS.out HR3.out)
  clear hr3 hk hl hf H2 HZ
  generalize ((w1.setCell ⟨ab, 16, none⟩ (.bool true)).setCell ⟨ab, 17, none⟩ (.int .i64 now)) = w3 at *
  have hk := blk_cell H3.out
  have hl := blk_lt H3.out
  haveI hIq : Nonempty (Of w3) := of_some _
  have hG0 := blk_of H3.out
  refine wp_region_split 13 1 12 rfl rfl (by kernel_rfl) (by kernel_rfl) (by kernel_rfl) (by kernel_rfl) (by kernel_rfl) ?_
  simp only [List.take_succ_cons, List.take_zero]
  refine wpAny_stay w3 (by kernel_rfl) ((Below.refl _ _).drew) ?_
  repeat (first | go_big_quiet_step (fail) | quiet_step (fail))
  refine wpQuiet_nil ?_
  intro w4 hb4
  clear hIq hG0
  simp only [behind]
  have H4 := Lib.hid (blk_ext hb4 H3.out)
  have HR4 := Lib.hid (HR3.out.trans (Rim.of hb4))
  have HZ4 := Lib.hid (blk_ext hb4 HZ3.out)
  have HP4 := Lib.hid (And.intro (HP3.out.1.keep fun b cur hc => hb4.block b (blk_lt hc)) (HP3.out.2.keep fun b cur hc => hb4.block b (blk_lt hc)))
  clear hb4 hk hl H3 HR3 HP3 HZ3
  have hk := blk_cell HZ4.out
  have hl := blk_lt HZ4.out
  have hf := blk_free HZ4.out
  refine wpAny_one 13 _ (by kernel_rfl) rfl ?_
  refine wpOp_do (by simp only [List.getElem?_toArray, List.getElem?_cons_succ, List.getElem?_cons_zero]; rfl) (by rfl) (fun K hK => ?_)
  go_big_op
  refine hK _ _ ?_
  clear hK K
  refine wpAny_end (by kernel_rfl) ?_
  go_wp2_with fail
  refine bodyPost_ret (v := .agg #[.int .i64 0, .int .i64 1, .int .i64 st, .int .i64 0, .int .i64 0, .int .i64 tm, .int .i64 0, .string k.1, .string k.2, .bool false, .int .u32 0, .slice none 0 0, .slice none 0 0]) (by have hk2 := blk_cell (blk_fill13 (v0 := .int .i64 0) (v1 := .int .i64 1) (v2 := .int .i64 st) (v3 := .int .i64 0) (v4 := .int .i64 0) (v5 := .int .i64 tm) (v6 := .int .i64 0) (v7 := .string k.1) (v8 := .string k.2) (v9 := .bool false) (v10 := .int .u32 0) (v11 := .slice none 0 0) (v12 := .slice none 0 0) HZ4.out rfl); simp [results, Try.results31, go_sem, hk2]) rfl ⟨rfl, ?_, ?_⟩
  · refine ⟨sb, sc, wa, wc, ?_, ?_, ?_⟩
    · dsimp only
      rw [HN.out, HM.out]
      exact blk_over13 (Ne.symm hpa) H4.out
    · exact HP4.out.1.keep fun b cur hc => (blk_over13 (fun e => by subst e; have h9 := HZ4.out.symm.trans hc; simp at h9) hc).trans hc.symm
    · exact HP4.out.2.keep fun b cur hc => (blk_over13 (fun e => by subst e; have h9 := HZ4.out.symm.trans hc; simp at h9) hc).trans hc.symm
  · exact rim_new HR4.out HPW.out HZ4.out (Rim13 (Rim.of (Below.refl _ _)))

end Go.Proofs.Ytibgphjadiidaaa
