/- A desk: Set. -/
import Derived.Test.YtkhmaaalmlnblaaDkP
import Derived.Test.YtkhmaaalmlnblaaHist
namespace Go.Proofs.Ytkhmaaalmlnblaa
open Go.RowKit
set_option linter.unusedVariables false
set_option linter.unusedSimpArgs false

set_option maxRecDepth 100000 in
set_option maxHeartbeats 4000000 in
theorem deskSetIn (db : Nat) (nd t0 k0 n0 : Int) (es : List En) (g l tt : Int) (ks : List Ky) (e : En) (w : World) (h : DkP w db nd t0 k0 n0 es g l tt ks) (hs : Asc es) (hn : es.length ≤ 900) (hin : isIn (enK e) es = true) (hks : ks.length ≤ 1000000) :
    Calls Try.prog 28 #[.pointer (some ⟨db, 0, none⟩), .agg #[.string e.c.a, .string e.c.i, .int .i64 e.c.s, .int .i64 e.c.o, .int .i64 e.c.l, .int .i64 e.c.t, .int .i64 e.c.k, .int .i64 e.c.n, .bool e.c.g, .int .i64 e.seen]] w fun r w' => r = .returned (.int .i64 0) ∧ DkP w' db nd t0 k0 n0 (es.set (low (enK e) es) e) g l tt (ks ++ [(e.c.a, e.c.i)]) ∧ Rim db w w' := by
  have D0 := Lib.hid (show Below w.heap.size w (w.alloc (.cells #[.string e.c.a, .string e.c.i, .int .i64 e.c.s, .int .i64 e.c.o, .int .i64 e.c.l, .int .i64 e.c.t, .int .i64 e.c.k, .int .i64 e.c.n, .bool e.c.g, .int .i64 e.seen] 55)) from (Below.refl _ _).alloc (Nat.le_refl _) _)
  have HX := Lib.hid (blk_new w #[.string e.c.a, .string e.c.i, .int .i64 e.c.s, .int .i64 e.c.o, .int .i64 e.c.l, .int .i64 e.c.t, .int .i64 e.c.k, .int .i64 e.c.n, .bool e.c.g, .int .i64 e.seen] 55)
  have HP := Lib.hid (h.ext D0.out)
  have hlt := h.lt
  have HAS := Lib.hid hs
  clear h hs
  go_enter Try.func28, Try.ntmps28
  go_upto_region 1 with (fail)
  obtain ⟨p, hp⟩ : ∃ p, w.heap.size = p := ⟨_, rfl⟩
  have hpd : p ≠ db := by omega
  have HPW := Lib.hid hp
  rw [hp] at HX
  try rw [hp]
  clear hp hlt
  generalize (w.alloc (.cells #[.string e.c.a, .string e.c.i, .int .i64 e.c.s, .int .i64 e.c.o, .int .i64 e.c.l, .int .i64 e.c.t, .int .i64 e.c.k, .int .i64 e.c.n, .bool e.c.g, .int .i64 e.seen] 55)) = w1 at *
  have HX0 := Lib.hid (blk_ext ((Below.refl w1.heap.size w1).drew) HX.out)
  have HP0 := Lib.hid (HP.out.ext ((Below.refl w1.heap.size w1).drew))
  have D1 := Lib.hid (ext_trans D0.out ((Below.refl w1.heap.size w1).drew))
  have hldb := HP.out.lt
  haveI hI0 : Nonempty (In (fun W : World => W.heap[p]? = some (.cells #[.string e.c.a, .string e.c.i, .int .i64 e.c.s, .int .i64 e.c.o, .int .i64 e.c.l, .int .i64 e.c.t, .int .i64 e.c.k, .int .i64 e.c.n, .bool e.c.g, .int .i64 e.seen] 55 (0, 0)))) := ⟨⟨_, HX0.out⟩⟩
  have hL0 : ∀ g : In (fun W : World => W.heap[p]? = some (.cells #[.string e.c.a, .string e.c.i, .int .i64 e.c.s, .int .i64 e.c.o, .int .i64 e.c.l, .int .i64 e.c.t, .int .i64 e.c.k, .int .i64 e.c.n, .bool e.c.g, .int .i64 e.seen] 55 (0, 0))), p < g.w.heap.size := fun g => blk_lt g.h
  have hB0_0 : ∀ g : In (fun W : World => W.heap[p]? = some (.cells #[.string e.c.a, .string e.c.i, .int .i64 e.c.s, .int .i64 e.c.o, .int .i64 e.c.l, .int .i64 e.c.t, .int .i64 e.c.k, .int .i64 e.c.n, .bool e.c.g, .int .i64 e.seen] 55 (0, 0))), g.w.cell? ⟨p, 0, none⟩ = some (.string e.c.a) := fun g => by rw [blk_cell g.h]; rfl
  have hB0_1 : ∀ g : In (fun W : World => W.heap[p]? = some (.cells #[.string e.c.a, .string e.c.i, .int .i64 e.c.s, .int .i64 e.c.o, .int .i64 e.c.l, .int .i64 e.c.t, .int .i64 e.c.k, .int .i64 e.c.n, .bool e.c.g, .int .i64 e.seen] 55 (0, 0))), g.w.cell? ⟨p, 1, none⟩ = some (.string e.c.i) := fun g => by rw [blk_cell g.h]; rfl
  have hB0_2 : ∀ g : In (fun W : World => W.heap[p]? = some (.cells #[.string e.c.a, .string e.c.i, .int .i64 e.c.s, .int .i64 e.c.o, .int .i64 e.c.l, .int .i64 e.c.t, .int .i64 e.c.k, .int .i64 e.c.n, .bool e.c.g, .int .i64 e.seen] 55 (0, 0))), g.w.cell? ⟨p, 2, none⟩ = some (.int .i64 e.c.s) := fun g => by rw [blk_cell g.h]; rfl
  have hB0_3 : ∀ g : In (fun W : World => W.heap[p]? = some (.cells #[.string e.c.a, .string e.c.i, .int .i64 e.c.s, .int .i64 e.c.o, .int .i64 e.c.l, .int .i64 e.c.t, .int .i64 e.c.k, .int .i64 e.c.n, .bool e.c.g, .int .i64 e.seen] 55 (0, 0))), g.w.cell? ⟨p, 3, none⟩ = some (.int .i64 e.c.o) := fun g => by rw [blk_cell g.h]; rfl
  have hB0_4 : ∀ g : In (fun W : World => W.heap[p]? = some (.cells #[.string e.c.a, .string e.c.i, .int .i64 e.c.s, .int .i64 e.c.o, .int .i64 e.c.l, .int .i64 e.c.t, .int .i64 e.c.k, .int .i64 e.c.n, .bool e.c.g, .int .i64 e.seen] 55 (0, 0))), g.w.cell? ⟨p, 4, none⟩ = some (.int .i64 e.c.l) := fun g => by rw [blk_cell g.h]; rfl
  have hB0_5 : ∀ g : In (fun W : World => W.heap[p]? = some (.cells #[.string e.c.a, .string e.c.i, .int .i64 e.c.s, .int .i64 e.c.o, .int .i64 e.c.l, .int .i64 e.c.t, .int .i64 e.c.k, .int .i64 e.c.n, .bool e.c.g, .int .i64 e.seen] 55 (0, 0))), g.w.cell? ⟨p, 5, none⟩ = some (.int .i64 e.c.t) := fun g => by rw [blk_cell g.h]; rfl
  have hB0_6 : ∀ g : In (fun W : World => W.heap[p]? = some (.cells #[.string e.c.a, .string e.c.i, .int .i64 e.c.s, .int .i64 e.c.o, .int .i64 e.c.l, .int .i64 e.c.t, .int .i64 e.c.k, .int .i64 e.c.n, .bool e.c.g, .int .i64 e.seen] 55 (0, 0))), g.w.cell? ⟨p, 6, none⟩ = some (.int .i64 e.c.k) := fun g => by rw [blk_cell g.h]; rfl
  have hB0_7 : ∀ g : In (fun W : World => W.heap[p]? = some (.cells #[.string e.c.a, .string e.c.i, .int .i64 e.c.s, .int .i64 e.c.o, .int .i64 e.c.l, .int .i64 e.c.t, .int .i64 e.c.k, .int .i64 e.c.n, .bool e.c.g, .int .i64 e.seen] 55 (0, 0))), g.w.cell? ⟨p, 7, none⟩ = some (.int .i64 e.c.n) := fun g => by rw [blk_cell g.h]; rfl
  have hB0_8 : ∀ g : In (fun W : World => W.heap[p]? = some (.cells #[.string e.c.a, .string e.c.i, .int .i64 e.c.s, .int .i64 e.c.o, .int .i64 e.c.l, .int .i64 e.c.t, .int .i64 e.c.k, .int .i64 e.c.n, .bool e.c.g, .int .i64 e.seen] 55 (0, 0))), g.w.cell? ⟨p, 8, none⟩ = some (.bool e.c.g) := fun g => by rw [blk_cell g.h]; rfl
  have hB0_9 : ∀ g : In (fun W : World => W.heap[p]? = some (.cells #[.string e.c.a, .string e.c.i, .int .i64 e.c.s, .int .i64 e.c.o, .int .i64 e.c.l, .int .i64 e.c.t, .int .i64 e.c.k, .int .i64 e.c.n, .bool e.c.g, .int .i64 e.seen] 55 (0, 0))), g.w.cell? ⟨p, 9, none⟩ = some (.int .i64 e.seen) := fun g => by rw [blk_cell g.h]; rfl
  refine Hist.wp_region_hist (fun W : World => W.heap[p]? = some (.cells #[.string e.c.a, .string e.c.i, .int .i64 e.c.s, .int .i64 e.c.o, .int .i64 e.c.l, .int .i64 e.c.t, .int .i64 e.c.k, .int .i64 e.c.n, .bool e.c.g, .int .i64 e.seen] 55 (0, 0))) (by kernel_rfl) (by kernel_rfl) (by kernel_rfl) HX0.out ?_
  clear HX HP D0
  generalize w1.drew = x0 at *
  obtain ⟨Dk0, hds, hback⟩ := HP0.out.s
  have HDS := Lib.hid hds
  have HBK := Lib.hid hback
  clear hds hback
  repeat (first | (refine Hist.wpG_plain 0 _ (by decide +kernel) rfl (by rfl) (by rfl) (fun K hK => ?_); go_big_quiet_op; refine hK _ ?_; clear hK K))
  refine Hist.wpG_call (by rfl) (by rfl) (fun K hK => ?_)
  go_big_op
  refine (dkPutIn Dk0 db 32 es e _ HDS.out HAS.out hn hin).mono ?_
  rintro r x1 ⟨rfl, hds, hr⟩
  have HX1 := Lib.hid ((hr.block p hpd (blk_lt HX0.out)).trans HX0.out)
  have HP1 := Lib.hid (HBK.out x1 _ hds hr)
  have HR1 := Lib.hid ((Rim.of D1.out).trans hr)
  refine hK _ _ ⟨(fun W : World => W.heap[p]? = some (.cells #[.string e.c.a, .string e.c.i, .int .i64 e.c.s, .int .i64 e.c.o, .int .i64 e.c.l, .int .i64 e.c.t, .int .i64 e.c.k, .int .i64 e.c.n, .bool e.c.g, .int .i64 e.seen] 55 (0, 0))), (by simp only [List.cons_append, List.nil_append, List.forall_mem_cons]; repeat' (first | exact HX1.out | (intro _ h; cases h; done) | constructor)), ?_⟩
  clear hK K hds hr HX0 HP0 D1 HDS HBK
  repeat (first | (refine Hist.wpG_plain 1 _ (by decide +kernel) rfl (by rfl) (by rfl) (fun K hK => ?_); go_big_quiet_op; refine hK _ ?_; clear hK K) | (refine Hist.wpG_plain 0 _ (by decide +kernel) rfl (by rfl) (by rfl) (fun K hK => ?_); go_big_quiet_op; refine hK _ ?_; clear hK K))
  refine Hist.wpG_nil ?_
  clear hI0 hL0 hB0_0 hB0_1 hB0_2 hB0_3 hB0_4 hB0_5 hB0_6 hB0_7 hB0_8 hB0_9
  go_upto_region 3 with (fail)
  have HX2 := Lib.hid (blk_ext ((Below.refl x1.heap.size x1).drew) HX1.out)
  have HP2 := Lib.hid (HP1.out.ext ((Below.refl x1.heap.size x1).drew))
  have HR2 := Lib.hid (HR1.out.trans (Rim.of ((Below.refl x1.heap.size x1).drew)))
  haveI hI2 : Nonempty (In (fun W : World => W.heap[p]? = some (.cells #[.string e.c.a, .string e.c.i, .int .i64 e.c.s, .int .i64 e.c.o, .int .i64 e.c.l, .int .i64 e.c.t, .int .i64 e.c.k, .int .i64 e.c.n, .bool e.c.g, .int .i64 e.seen] 55 (0, 0)))) := ⟨⟨_, HX2.out⟩⟩
  have hL2 : ∀ g : In (fun W : World => W.heap[p]? = some (.cells #[.string e.c.a, .string e.c.i, .int .i64 e.c.s, .int .i64 e.c.o, .int .i64 e.c.l, .int .i64 e.c.t, .int .i64 e.c.k, .int .i64 e.c.n, .bool e.c.g, .int .i64 e.seen] 55 (0, 0))), p < g.w.heap.size := fun g => blk_lt g.h
  have hB2_0 : ∀ g : In (fun W : World => W.heap[p]? = some (.cells #[.string e.c.a, .string e.c.i, .int .i64 e.c.s, .int .i64 e.c.o, .int .i64 e.c.l, .int .i64 e.c.t, .int .i64 e.c.k, .int .i64 e.c.n, .bool e.c.g, .int .i64 e.seen] 55 (0, 0))), g.w.cell? ⟨p, 0, none⟩ = some (.string e.c.a) := fun g => by rw [blk_cell g.h]; rfl
  have hB2_1 : ∀ g : In (fun W : World => W.heap[p]? = some (.cells #[.string e.c.a, .string e.c.i, .int .i64 e.c.s, .int .i64 e.c.o, .int .i64 e.c.l, .int .i64 e.c.t, .int .i64 e.c.k, .int .i64 e.c.n, .bool e.c.g, .int .i64 e.seen] 55 (0, 0))), g.w.cell? ⟨p, 1, none⟩ = some (.string e.c.i) := fun g => by rw [blk_cell g.h]; rfl
  have hB2_2 : ∀ g : In (fun W : World => W.heap[p]? = some (.cells #[.string e.c.a, .string e.c.i, .int .i64 e.c.s, .int .i64 e.c.o, .int .i64 e.c.l, .int .i64 e.c.t, .int .i64 e.c.k, .int .i64 e.c.n, .bool e.c.g, .int .i64 e.seen] 55 (0, 0))), g.w.cell? ⟨p, 2, none⟩ = some (.int .i64 e.c.s) := fun g => by rw [blk_cell g.h]; rfl
  have hB2_3 : ∀ g : In (fun W : World => W.heap[p]? = some (.cells #[.string e.c.a, .string e.c.i, .int .i64 e.c.s, .int .i64 e.c.o, .int .i64 e.c.l, .int .i64 e.c.t, .int .i64 e.c.k, .int .i64 e.c.n, .bool e.c.g, .int .i64 e.seen] 55 (0, 0))), g.w.cell? ⟨p, 3, none⟩ = some (.int .i64 e.c.o) := fun g => by rw [blk_cell g.h]; rfl
  have hB2_4 : ∀ g : In (fun W : World => W.heap[p]? = some (.cells #[.string e.c.a, .string e.c.i, .int .i64 e.c.s, .int .i64 e.c.o, .int .i64 e.c.l, .int .i64 e.c.t, .int .i64 e.c.k, .int .i64 e.c.n, .bool e.c.g, .int .i64 e.seen] 55 (0, 0))), g.w.cell? ⟨p, 4, none⟩ = some (.int .i64 e.c.l) := fun g => by rw [blk_cell g.h]; rfl
  have hB2_5 : ∀ g : In (fun W : World => W.heap[p]? = some (.cells #[.string e.c.a, .string e.c.i, .int .i64 e.c.s, .int .i64 e.c.o, .int .i64 e.c.l, .int .i64 e.c.t, .int .i64 e.c.k, .int .i64 e.c.n, .bool e.c.g, .int .i64 e.seen] 55 (0, 0))), g.w.cell? ⟨p, 5, none⟩ = some (.int .i64 e.c.t) := fun g => by rw [blk_cell g.h]; rfl
  have hB2_6 : ∀ g : In (fun W : World => W.heap[p]? = some (.cells #[.string e.c.a, .string e.c.i, .int .i64 e.c.s, .int .i64 e.c.o, .int .i64 e.c.l, .int .i64 e.c.t, .int .i64 e.c.k, .int .i64 e.c.n, .bool e.c.g, .int .i64 e.seen] 55 (0, 0))), g.w.cell? ⟨p, 6, none⟩ = some (.int .i64 e.c.k) := fun g => by rw [blk_cell g.h]; rfl
  have hB2_7 : ∀ g : In (fun W : World => W.heap[p]? = some (.cells #[.string e.c.a, .string e.c.i, .int .i64 e.c.s, .int .i64 e.c.o, .int .i64 e.c.l, .int .i64 e.c.t, .int .i64 e.c.k, .int .i64 e.c.n, .bool e.c.g, .int .i64 e.seen] 55 (0, 0))), g.w.cell? ⟨p, 7, none⟩ = some (.int .i64 e.c.n) := fun g => by rw [blk_cell g.h]; rfl
  have hB2_8 : ∀ g : In (fun W : World => W.heap[p]? = some (.cells #[.string e.c.a, .string e.c.i, .int .i64 e.c.s, .int .i64 e.c.o, .int .i64 e.c.l, .int .i64 e.c.t, .int .i64 e.c.k, .int .i64 e.c.n, .bool e.c.g, .int .i64 e.seen] 55 (0, 0))), g.w.cell? ⟨p, 8, none⟩ = some (.bool e.c.g) := fun g => by rw [blk_cell g.h]; rfl
  have hB2_9 : ∀ g : In (fun W : World => W.heap[p]? = some (.cells #[.string e.c.a, .string e.c.i, .int .i64 e.c.s, .int .i64 e.c.o, .int .i64 e.c.l, .int .i64 e.c.t, .int .i64 e.c.k, .int .i64 e.c.n, .bool e.c.g, .int .i64 e.seen] 55 (0, 0))), g.w.cell? ⟨p, 9, none⟩ = some (.int .i64 e.seen) := fun g => by rw [blk_cell g.h]; rfl
  refine Hist.wp_region_hist (fun W : World => W.heap[p]? = some (.cells #[.string e.c.a, .string e.c.i, .int .i64 e.c.s, .int .i64 e.c.o, .int .i64 e.c.l, .int .i64 e.c.t, .int .i64 e.c.k, .int .i64 e.c.n, .bool e.c.g, .int .i64 e.seen] 55 (0, 0))) (by kernel_rfl) (by kernel_rfl) (by kernel_rfl) HX2.out ?_
  clear HX1 HP1 HR1
  generalize x1.drew = x2 at *
  obtain ⟨Dq, hdq, hback⟩ := HP2.out.r
  have HDQ := Lib.hid hdq
  have HBQ := Lib.hid hback
  clear hdq hback
  repeat (first | (refine Hist.wpG_plain 0 _ (by decide +kernel) rfl (by rfl) (by rfl) (fun K hK => ?_); go_big_quiet_op; refine hK _ ?_; clear hK K))
  refine Hist.wpG_call (by rfl) (by rfl) (fun K hK => ?_)
  go_big_op
  refine (recentAddD Dq db ks.length (lastK ks ks.length) (e.c.a, e.c.i) _ HDQ.out (by rw [lastK_len _ _ (Nat.le_refl _)]; omega) hks).mono ?_
  rintro r x3 ⟨rfl, hdq, hr⟩
  have HX3 := Lib.hid ((hr.block p hpd (blk_lt HX2.out)).trans HX2.out)
  have HP3 := Lib.hid (HBQ.out x3 (ks ++ [(e.c.a, e.c.i)]) (by have h9 := hdq; rw [addK_all] at h9; rw [List.length_append]; rw [List.length_append] at h9; exact h9) hr)
  have HR3 := Lib.hid (HR2.out.trans ⟨hr.os, hr.tape, hr.output, hr.size, fun k hk hl => hr.block k hk hl⟩)
  refine hK _ _ ⟨(fun W : World => W.heap[p]? = some (.cells #[.string e.c.a, .string e.c.i, .int .i64 e.c.s, .int .i64 e.c.o, .int .i64 e.c.l, .int .i64 e.c.t, .int .i64 e.c.k, .int .i64 e.c.n, .bool e.c.g, .int .i64 e.seen] 55 (0, 0))), (by simp only [List.cons_append, List.nil_append, List.forall_mem_cons]; repeat' (first | exact HX3.out | (intro _ h; cases h; done) | constructor)), ?_⟩
  clear hK K hdq hr HX2 HP2 HDQ HBQ HR2
  try simp only [Act.put, List.setIfInBounds_toArray, List.set_cons_succ, List.set_cons_zero]
  refine Hist.wpG_nil ?_
  clear hI2 hL2 hB2_0 hB2_1 hB2_2 hB2_3 hB2_4 hB2_5 hB2_6 hB2_7 hB2_8 hB2_9
  go_wp2
  go_ret
  exact ⟨rfl, HP3.out, HR3.out⟩

set_option maxRecDepth 100000 in
set_option maxHeartbeats 4000000 in
theorem deskSetNew (db : Nat) (nd t0 k0 n0 : Int) (es : List En) (g l tt : Int) (ks : List Ky) (e : En) (w : World) (h : DkP w db nd t0 k0 n0 es g l tt ks) (hs : Asc es) (hn : es.length ≤ 900) (hin : isIn (enK e) es = false) (hm : (es.length : Int) < 32) (hks : ks.length ≤ 1000000) :
    Calls Try.prog 28 #[.pointer (some ⟨db, 0, none⟩), .agg #[.string e.c.a, .string e.c.i, .int .i64 e.c.s, .int .i64 e.c.o, .int .i64 e.c.l, .int .i64 e.c.t, .int .i64 e.c.k, .int .i64 e.c.n, .bool e.c.g, .int .i64 e.seen]] w fun r w' => r = .returned (.int .i64 0) ∧ DkP w' db nd t0 k0 n0 (insAt es (low (enK e) es) e) g l tt (ks ++ [(e.c.a, e.c.i)]) ∧ Rim db w w' := by
  have D0 := Lib.hid (show Below w.heap.size w (w.alloc (.cells #[.string e.c.a, .string e.c.i, .int .i64 e.c.s, .int .i64 e.c.o, .int .i64 e.c.l, .int .i64 e.c.t, .int .i64 e.c.k, .int .i64 e.c.n, .bool e.c.g, .int .i64 e.seen] 55)) from (Below.refl _ _).alloc (Nat.le_refl _) _)
  have HX := Lib.hid (blk_new w #[.string e.c.a, .string e.c.i, .int .i64 e.c.s, .int .i64 e.c.o, .int .i64 e.c.l, .int .i64 e.c.t, .int .i64 e.c.k, .int .i64 e.c.n, .bool e.c.g, .int .i64 e.seen] 55)
  have HP := Lib.hid (h.ext D0.out)
  have hlt := h.lt
  have HAS := Lib.hid hs
  clear h hs
  go_enter Try.func28, Try.ntmps28
  go_upto_region 1 with (fail)
  obtain ⟨p, hp⟩ : ∃ p, w.heap.size = p := ⟨_, rfl⟩
  have hpd : p ≠ db := by omega
  have HPW := Lib.hid hp
  rw [hp] at HX
  try rw [hp]
  clear hp hlt
  generalize (w.alloc (.cells #[.string e.c.a, .string e.c.i, .int .i64 e.c.s, .int .i64 e.c.o, .int .i64 e.c.l, .int .i64 e.c.t, .int .i64 e.c.k, .int .i64 e.c.n, .bool e.c.g, .int .i64 e.seen] 55)) = w1 at *
  have HX0 := Lib.hid (blk_ext ((Below.refl w1.heap.size w1).drew) HX.out)
  have HP0 := Lib.hid (HP.out.ext ((Below.refl w1.heap.size w1).drew))
  have D1 := Lib.hid (ext_trans D0.out ((Below.refl w1.heap.size w1).drew))
  have hldb := HP.out.lt
  haveI hI0 : Nonempty (In (fun W : World => W.heap[p]? = some (.cells #[.string e.c.a, .string e.c.i, .int .i64 e.c.s, .int .i64 e.c.o, .int .i64 e.c.l, .int .i64 e.c.t, .int .i64 e.c.k, .int .i64 e.c.n, .bool e.c.g, .int .i64 e.seen] 55 (0, 0)))) := ⟨⟨_, HX0.out⟩⟩
  have hL0 : ∀ g : In (fun W : World => W.heap[p]? = some (.cells #[.string e.c.a, .string e.c.i, .int .i64 e.c.s, .int .i64 e.c.o, .int .i64 e.c.l, .int .i64 e.c.t, .int .i64 e.c.k, .int .i64 e.c.n, .bool e.c.g, .int .i64 e.seen] 55 (0, 0))), p < g.w.heap.size := fun g => blk_lt g.h
  have hB0_0 : ∀ g : In (fun W : World => W.heap[p]? = some (.cells #[.string e.c.a, .string e.c.i, .int .i64 e.c.s, .int .i64 e.c.o, .int .i64 e.c.l, .int .i64 e.c.t, .int .i64 e.c.k, .int .i64 e.c.n, .bool e.c.g, .int .i64 e.seen] 55 (0, 0))), g.w.cell? ⟨p, 0, none⟩ = some (.string e.c.a) := fun g => by rw [blk_cell g.h]; rfl
  have hB0_1 : ∀ g : In (fun W : World => W.heap[p]? = some (.cells #[.string e.c.a, .string e.c.i, .int .i64 e.c.s, .int .i64 e.c.o, .int .i64 e.c.l, .int .i64 e.c.t, .int .i64 e.c.k, .int .i64 e.c.n, .bool e.c.g, .int .i64 e.seen] 55 (0, 0))), g.w.cell? ⟨p, 1, none⟩ = some (.string e.c.i) := fun g => by rw [blk_cell g.h]; rfl
  have hB0_2 : ∀ g : In (fun W : World => W.heap[p]? = some (.cells #[.string e.c.a, .string e.c.i, .int .i64 e.c.s, .int .i64 e.c.o, .int .i64 e.c.l, .int .i64 e.c.t, .int .i64 e.c.k, .int .i64 e.c.n, .bool e.c.g, .int .i64 e.seen] 55 (0, 0))), g.w.cell? ⟨p, 2, none⟩ = some (.int .i64 e.c.s) := fun g => by rw [blk_cell g.h]; rfl
  have hB0_3 : ∀ g : In (fun W : World => W.heap[p]? = some (.cells #[.string e.c.a, .string e.c.i, .int .i64 e.c.s, .int .i64 e.c.o, .int .i64 e.c.l, .int .i64 e.c.t, .int .i64 e.c.k, .int .i64 e.c.n, .bool e.c.g, .int .i64 e.seen] 55 (0, 0))), g.w.cell? ⟨p, 3, none⟩ = some (.int .i64 e.c.o) := fun g => by rw [blk_cell g.h]; rfl
  have hB0_4 : ∀ g : In (fun W : World => W.heap[p]? = some (.cells #[.string e.c.a, .string e.c.i, .int .i64 e.c.s, .int .i64 e.c.o, .int .i64 e.c.l, .int .i64 e.c.t, .int .i64 e.c.k, .int .i64 e.c.n, .bool e.c.g, .int .i64 e.seen] 55 (0, 0))), g.w.cell? ⟨p, 4, none⟩ = some (.int .i64 e.c.l) := fun g => by rw [blk_cell g.h]; rfl
  have hB0_5 : ∀ g : In (fun W : World => W.heap[p]? = some (.cells #[.string e.c.a, .string e.c.i, .int .i64 e.c.s, .int .i64 e.c.o, .int .i64 e.c.l, .int .i64 e.c.t, .int .i64 e.c.k, .int .i64 e.c.n, .bool e.c.g, .int .i64 e.seen] 55 (0, 0))), g.w.cell? ⟨p, 5, none⟩ = some (.int .i64 e.c.t) := fun g => by rw [blk_cell g.h]; rfl
  have hB0_6 : ∀ g : In (fun W : World => W.heap[p]? = some (.cells #[.string e.c.a, .string e.c.i, .int .i64 e.c.s, .int .i64 e.c.o, .int .i64 e.c.l, .int .i64 e.c.t, .int .i64 e.c.k, .int .i64 e.c.n, .bool e.c.g, .int .i64 e.seen] 55 (0, 0))), g.w.cell? ⟨p, 6, none⟩ = some (.int .i64 e.c.k) := fun g => by rw [blk_cell g.h]; rfl
  have hB0_7 : ∀ g : In (fun W : World => W.heap[p]? = some (.cells #[.string e.c.a, .string e.c.i, .int .i64 e.c.s, .int .i64 e.c.o, .int .i64 e.c.l, .int .i64 e.c.t, .int .i64 e.c.k, .int .i64 e.c.n, .bool e.c.g, .int .i64 e.seen] 55 (0, 0))), g.w.cell? ⟨p, 7, none⟩ = some (.int .i64 e.c.n) := fun g => by rw [blk_cell g.h]; rfl
  have hB0_8 : ∀ g : In (fun W : World => W.heap[p]? = some (.cells #[.string e.c.a, .string e.c.i, .int .i64 e.c.s, .int .i64 e.c.o, .int .i64 e.c.l, .int .i64 e.c.t, .int .i64 e.c.k, .int .i64 e.c.n, .bool e.c.g, .int .i64 e.seen] 55 (0, 0))), g.w.cell? ⟨p, 8, none⟩ = some (.bool e.c.g) := fun g => by rw [blk_cell g.h]; rfl
  have hB0_9 : ∀ g : In (fun W : World => W.heap[p]? = some (.cells #[.string e.c.a, .string e.c.i, .int .i64 e.c.s, .int .i64 e.c.o, .int .i64 e.c.l, .int .i64 e.c.t, .int .i64 e.c.k, .int .i64 e.c.n, .bool e.c.g, .int .i64 e.seen] 55 (0, 0))), g.w.cell? ⟨p, 9, none⟩ = some (.int .i64 e.seen) := fun g => by rw [blk_cell g.h]; rfl
  refine Hist.wp_region_hist (fun W : World => W.heap[p]? = some (.cells #[.string e.c.a, .string e.c.i, .int .i64 e.c.s, .int .i64 e.c.o, .int .i64 e.c.l, .int .i64 e.c.t, .int .i64 e.c.k, .int .i64 e.c.n, .bool e.c.g, .int .i64 e.seen] 55 (0, 0))) (by kernel_rfl) (by kernel_rfl) (by kernel_rfl) HX0.out ?_
  clear HX HP D0
  generalize w1.drew = x0 at *
  obtain ⟨Dk0, hds, hback⟩ := HP0.out.s
  have HDS := Lib.hid hds
  have HBK := Lib.hid hback
  clear hds hback
  repeat (first | (refine Hist.wpG_plain 0 _ (by decide +kernel) rfl (by rfl) (by rfl) (fun K hK => ?_); go_big_quiet_op; refine hK _ ?_; clear hK K))
  refine Hist.wpG_call (by rfl) (by rfl) (fun K hK => ?_)
  go_big_op
  refine (dkPutNew Dk0 db 32 es e _ HDS.out HAS.out hn hin hm).mono ?_
  rintro r x1 ⟨rfl, hds, hr⟩
  have HX1 := Lib.hid ((hr.block p hpd (blk_lt HX0.out)).trans HX0.out)
  have HP1 := Lib.hid (HBK.out x1 _ hds hr)
  have HR1 := Lib.hid ((Rim.of D1.out).trans hr)
  refine hK _ _ ⟨(fun W : World => W.heap[p]? = some (.cells #[.string e.c.a, .string e.c.i, .int .i64 e.c.s, .int .i64 e.c.o, .int .i64 e.c.l, .int .i64 e.c.t, .int .i64 e.c.k, .int .i64 e.c.n, .bool e.c.g, .int .i64 e.seen] 55 (0, 0))), (by simp only [List.cons_append, List.nil_append, List.forall_mem_cons]; repeat' (first | exact HX1.out | (intro _ h; cases h; done) | constructor)), ?_⟩
  clear hK K hds hr HX0 HP0 D1 HDS HBK
  repeat (first | (refine Hist.wpG_plain 1 _ (by decide +kernel) rfl (by rfl) (by rfl) (fun K hK => ?_); go_big_quiet_op; refine hK _ ?_; clear hK K) | (refine Hist.wpG_plain 0 _ (by decide +kernel) rfl (by rfl) (by rfl) (fun K hK => ?_); go_big_quiet_op; refine hK _ ?_; clear hK K))
  refine Hist.wpG_nil ?_
  clear hI0 hL0 hB0_0 hB0_1 hB0_2 hB0_3 hB0_4 hB0_5 hB0_6 hB0_7 hB0_8 hB0_9
  go_upto_region 3 with (fail)
  have HX2 := Lib.hid (blk_ext ((Below.refl x1.heap.size x1).drew) HX1.out)
  have HP2 := Lib.hid (HP1.out.ext ((Below.refl x1.heap.size x1).drew))
  have HR2 := Lib.hid (HR1.out.trans (Rim.of ((Below.refl x1.heap.size x1).drew)))
  haveI hI2 : Nonempty (In (fun W : World => W.heap[p]? = some (.cells #[.string e.c.a, .string e.c.i, .int .i64 e.c.s, .int .i64 e.c.o, .int .i64 e.c.l, .int .i64 e.c.t, .int .i64 e.c.k, .int .i64 e.c.n, .bool e.c.g, .int .i64 e.seen] 55 (0, 0)))) := ⟨⟨_, HX2.out⟩⟩
  have hL2 : ∀ g : In (fun W : World => W.heap[p]? = some (.cells #[.string e.c.a, .string e.c.i, .int .i64 e.c.s, .int .i64 e.c.o, .int .i64 e.c.l, .int .i64 e.c.t, .int .i64 e.c.k, .int .i64 e.c.n, .bool e.c.g, .int .i64 e.seen] 55 (0, 0))), p < g.w.heap.size := fun g => blk_lt g.h
  have hB2_0 : ∀ g : In (fun W : World => W.heap[p]? = some (.cells #[.string e.c.a, .string e.c.i, .int .i64 e.c.s, .int .i64 e.c.o, .int .i64 e.c.l, .int .i64 e.c.t, .int .i64 e.c.k, .int .i64 e.c.n, .bool e.c.g, .int .i64 e.seen] 55 (0, 0))), g.w.cell? ⟨p, 0, none⟩ = some (.string e.c.a) := fun g => by rw [blk_cell g.h]; rfl
  have hB2_1 : ∀ g : In (fun W : World => W.heap[p]? = some (.cells #[.string e.c.a, .string e.c.i, .int .i64 e.c.s, .int .i64 e.c.o, .int .i64 e.c.l, .int .i64 e.c.t, .int .i64 e.c.k, .int .i64 e.c.n, .bool e.c.g, .int .i64 e.seen] 55 (0, 0))), g.w.cell? ⟨p, 1, none⟩ = some (.string e.c.i) := fun g => by rw [blk_cell g.h]; rfl
  have hB2_2 : ∀ g : In (fun W : World => W.heap[p]? = some (.cells #[.string e.c.a, .string e.c.i, .int .i64 e.c.s, .int .i64 e.c.o, .int .i64 e.c.l, .int .i64 e.c.t, .int .i64 e.c.k, .int .i64 e.c.n, .bool e.c.g, .int .i64 e.seen] 55 (0, 0))), g.w.cell? ⟨p, 2, none⟩ = some (.int .i64 e.c.s) := fun g => by rw [blk_cell g.h]; rfl
  have hB2_3 : ∀ g : In (fun W : World => W.heap[p]? = some (.cells #[.string e.c.a, .string e.c.i, .int .i64 e.c.s, .int .i64 e.c.o, .int .i64 e.c.l, .int .i64 e.c.t, .int .i64 e.c.k, .int .i64 e.c.n, .bool e.c.g, .int .i64 e.seen] 55 (0, 0))), g.w.cell? ⟨p, 3, none⟩ = some (.int .i64 e.c.o) := fun g => by rw [blk_cell g.h]; rfl
  have hB2_4 : ∀ g : In (fun W : World => W.heap[p]? = some (.cells #[.string e.c.a, .string e.c.i, .int .i64 e.c.s, .int .i64 e.c.o, .int .i64 e.c.l, .int .i64 e.c.t, .int .i64 e.c.k, .int .i64 e.c.n, .bool e.c.g, .int .i64 e.seen] 55 (0, 0))), g.w.cell? ⟨p, 4, none⟩ = some (.int .i64 e.c.l) := fun g => by rw [blk_cell g.h]; rfl
  have hB2_5 : ∀ g : In (fun W : World => W.heap[p]? = some (.cells #[.string e.c.a, .string e.c.i, .int .i64 e.c.s, .int .i64 e.c.o, .int .i64 e.c.l, .int .i64 e.c.t, .int .i64 e.c.k, .int .i64 e.c.n, .bool e.c.g, .int .i64 e.seen] 55 (0, 0))), g.w.cell? ⟨p, 5, none⟩ = some (.int .i64 e.c.t) := fun g => by rw [blk_cell g.h]; rfl
  have hB2_6 : ∀ g : In (fun W : World => W.heap[p]? = some (.cells #[.string e.c.a, .string e.c.i, .int .i64 e.c.s, .int .i64 e.c.o, .int .i64 e.c.l, .int .i64 e.c.t, .int .i64 e.c.k, .int .i64 e.c.n, .bool e.c.g, .int .i64 e.seen] 55 (0, 0))), g.w.cell? ⟨p, 6, none⟩ = some (.int .i64 e.c.k) := fun g => by rw [blk_cell g.h]; rfl
  have hB2_7 : ∀ g : In (fun W : World => W.heap[p]? = some (.cells #[.string e.c.a, .string e.c.i, .int .i64 e.c.s, .int .i64 e.c.o, .int .i64 e.c.l, .int .i64 e.c.t, .int .i64 e.c.k, .int .i64 e.c.n, .bool e.c.g, .int .i64 e.seen] 55 (0, 0))), g.w.cell? ⟨p, 7, none⟩ = some (.int .i64 e.c.n) := fun g => by rw [blk_cell g.h]; rfl
  have hB2_8 : ∀ g : In (fun W : World => W.heap[p]? = some (.cells #[.string e.c.a, .string e.c.i, .int .i64 e.c.s, .int .i64 e.c.o, .int .i64 e.c.l, .int .i64 e.c.t, .int .i64 e.c.k, .int .i64 e.c.n, .bool e.c.g, .int .i64 e.seen] 55 (0, 0))), g.w.cell? ⟨p, 8, none⟩ = some (.bool e.c.g) := fun g => by rw [blk_cell g.h]; rfl
  have hB2_9 : ∀ g : In (fun W : World => W.heap[p]? = some (.cells #[.string e.c.a, .string e.c.i, .int .i64 e.c.s, .int .i64 e.c.o, .int .i64 e.c.l, .int .i64 e.c.t, .int .i64 e.c.k, .int .i64 e.c.n, .bool e.c.g, .int .i64 e.seen] 55 (0, 0))), g.w.cell? ⟨p, 9, none⟩ = some (.int .i64 e.seen) := fun g => by rw [blk_cell g.h]; rfl
  refine Hist.wp_region_hist (fun W : World => W.heap[p]? = some (.cells #[.string e.c.a, .string e.c.i, .int .i64 e.c.s, .int .i64 e.c.o, .int .i64 e.c.l, .int .i64 e.c.t, .int .i64 e.c.k, .int .i64 e.c.n, .bool e.c.g, .int .i64 e.seen] 55 (0, 0))) (by kernel_rfl) (by kernel_rfl) (by kernel_rfl) HX2.out ?_
  clear HX1 HP1 HR1
  generalize x1.drew = x2 at *
  obtain ⟨Dq, hdq, hback⟩ := HP2.out.r
  have HDQ := Lib.hid hdq
  have HBQ := Lib.hid hback
  clear hdq hback
  repeat (first | (refine Hist.wpG_plain 0 _ (by decide +kernel) rfl (by rfl) (by rfl) (fun K hK => ?_); go_big_quiet_op; refine hK _ ?_; clear hK K))
  refine Hist.wpG_call (by rfl) (by rfl) (fun K hK => ?_)
  go_big_op
  refine (recentAddD Dq db ks.length (lastK ks ks.length) (e.c.a, e.c.i) _ HDQ.out (by rw [lastK_len _ _ (Nat.le_refl _)]; omega) hks).mono ?_
  rintro r x3 ⟨rfl, hdq, hr⟩
  have HX3 := Lib.hid ((hr.block p hpd (blk_lt HX2.out)).trans HX2.out)
  have HP3 := Lib.hid (HBQ.out x3 (ks ++ [(e.c.a, e.c.i)]) (by have h9 := hdq; rw [addK_all] at h9; rw [List.length_append]; rw [List.length_append] at h9; exact h9) hr)
  have HR3 := Lib.hid (HR2.out.trans ⟨hr.os, hr.tape, hr.output, hr.size, fun k hk hl => hr.block k hk hl⟩)
  refine hK _ _ ⟨(fun W : World => W.heap[p]? = some (.cells #[.string e.c.a, .string e.c.i, .int .i64 e.c.s, .int .i64 e.c.o, .int .i64 e.c.l, .int .i64 e.c.t, .int .i64 e.c.k, .int .i64 e.c.n, .bool e.c.g, .int .i64 e.seen] 55 (0, 0))), (by simp only [List.cons_append, List.nil_append, List.forall_mem_cons]; repeat' (first | exact HX3.out | (intro _ h; cases h; done) | constructor)), ?_⟩
  clear hK K hdq hr HX2 HP2 HDQ HBQ HR2
  try simp only [Act.put, List.setIfInBounds_toArray, List.set_cons_succ, List.set_cons_zero]
  refine Hist.wpG_nil ?_
  clear hI2 hL2 hB2_0 hB2_1 hB2_2 hB2_3 hB2_4 hB2_5 hB2_6 hB2_7 hB2_8 hB2_9
  go_wp2
  go_ret
  exact ⟨rfl, HP3.out, HR3.out⟩

end Go.Proofs.Ytkhmaaalmlnblaa
