/- A desk: New. -/
import Derived.Test.YtkhmaaalmlnblaaDkP
import Derived.Test.YtkhmaaalmlnblaaHist
namespace Go.Proofs.Ytkhmaaalmlnblaa
open Go.RowKit
set_option linter.unusedVariables false
set_option linter.unusedSimpArgs false

set_option maxRecDepth 100000 in
set_option maxHeartbeats 4000000 in
theorem deskNew (nd now : Int) (w : World) (h1 : 0 ≤ nd) (h2 : nd < 6) (h3 : 0 ≤ now) (h4 : now ≤ 1099511627776) :
    Calls Try.prog 7 #[.int .i64 nd, .int .i64 now] w fun r w' => ∃ db, r = .returned (.pointer (some ⟨db, 0, none⟩)) ∧ w.heap.size ≤ db ∧ DkP w' db nd 0 nd 0 [] now 0 0 [] ∧ Below w.heap.size w w' := by
  have d1 : decide (nd < 0) = false := decide_eq_false (by omega)
  have d2 : decide (6 ≤ nd) = false := decide_eq_false (by omega)
  have d3 : decide (now < 0) = false := decide_eq_false (by omega)
  have d4 : decide (1099511627776 < now) = false := decide_eq_false (by omega)
  go_enter Try.func7, Try.ntmps7
  go_upto_region 3 with (fail)
  haveI hI0 : Nonempty (In (fun _ : World => True)) := ⟨⟨w, trivial⟩⟩
  refine Hist.wp_region_hist (fun _ => True) (by kernel_rfl) (by kernel_rfl) (by kernel_rfl) trivial ?_
  have D0 := Lib.hid ((Below.refl w.heap.size w).drew)
  generalize w.drew = x0 at *
  repeat (first | (refine Hist.wpG_plain 0 _ (by decide +kernel) rfl (by rfl) (by rfl) (fun K hK => ?_); go_big_quiet_op; refine hK _ ?_; clear hK K))
  refine Hist.wpG_call (by rfl) (by rfl) (fun K hK => ?_)
  go_big_op
  refine (shNew 32 _ (by omega)).mono ?_
  rintro e x1 ⟨rfl, hs, hb⟩
  obtain ⟨sb, hsb⟩ : ∃ sb, x0.heap.size = sb := ⟨_, rfl⟩
  rw [hsb] at hs
  try rw [hsb]
  obtain ⟨a, c, g1, g2, g3, g4, g5⟩ := hs
  have HX1 := Lib.hid (show x1.heap[sb]? = some (.cells #[.int .i64 32, .slice a 0 c] 64 (0, 0)) from g1)
  have HF := Lib.hid (And.intro g3 (And.intro g4 g5))
  have D1 := Lib.hid (ext_trans D0.out hb)
  haveI hI1 : Nonempty (In (fun W : World => W.heap[sb]? = some (.cells #[.int .i64 32, .slice a 0 c] 64 (0, 0)))) := ⟨⟨_, HX1.out⟩⟩
  have hL1 : ∀ g : In (fun W : World => W.heap[sb]? = some (.cells #[.int .i64 32, .slice a 0 c] 64 (0, 0))), sb < g.w.heap.size := fun g => blk_lt g.h
  have hB1_0 : ∀ g : In (fun W : World => W.heap[sb]? = some (.cells #[.int .i64 32, .slice a 0 c] 64 (0, 0))), g.w.cell? ⟨sb, 0, none⟩ = some (.int .i64 32) := fun g => by rw [blk_cell g.h]; rfl
  have hB1_1 : ∀ g : In (fun W : World => W.heap[sb]? = some (.cells #[.int .i64 32, .slice a 0 c] 64 (0, 0))), g.w.cell? ⟨sb, 1, none⟩ = some (.slice a 0 c) := fun g => by rw [blk_cell g.h]; rfl
  refine hK _ _ ⟨(fun W : World => W.heap[sb]? = some (.cells #[.int .i64 32, .slice a 0 c] 64 (0, 0))), (by simp only [List.cons_append, List.nil_append, List.forall_mem_cons]; repeat' (first | exact HX1.out | (intro _ h; cases h; done) | (exact trivial) | constructor)), ?_⟩
  clear hK K g1 g2 g3 g4 g5 hb hsb D0
  repeat (first | (refine Hist.wpG_plain 1 _ (by decide +kernel) rfl (by rfl) (by rfl) (fun K hK => ?_); go_big_quiet_op; refine hK _ ?_; clear hK K) | (refine Hist.wpG_plain 0 _ (by decide +kernel) rfl (by rfl) (by rfl) (fun K hK => ?_); go_big_quiet_op; refine hK _ ?_; clear hK K))
  refine Hist.wpG_call (by rfl) (by rfl) (fun K hK => ?_)
  go_big_op
  refine (guardNew now _).mono ?_
  rintro e x2 ⟨rfl, hx2⟩
  have hb : Below x1.heap.size x1 x2 := by rw [hx2]; exact (Below.refl _ _).alloc (Nat.le_refl _) _
  obtain ⟨gb, hgb⟩ : ∃ gb, x1.heap.size = gb := ⟨_, rfl⟩
  have HX2 := Lib.hid (show x2.heap[gb]? = some (.cells #[.int .i64 now, .int .i64 0, .int .i64 0] 67 (0, 0)) from by rw [hx2, ← hgb]; exact blk_new _ _ _)
  try rw [hgb]
  clear hx2 hgb
  have HX12 := Lib.hid (blk_ext hb HX1.out)
  have D2 := Lib.hid (ext_trans D1.out hb)
  haveI hI2 : Nonempty (In (fun W : World => W.heap[gb]? = some (.cells #[.int .i64 now, .int .i64 0, .int .i64 0] 67 (0, 0)))) := ⟨⟨_, HX2.out⟩⟩
  have hL2 : ∀ g : In (fun W : World => W.heap[gb]? = some (.cells #[.int .i64 now, .int .i64 0, .int .i64 0] 67 (0, 0))), gb < g.w.heap.size := fun g => blk_lt g.h
  have hB2_0 : ∀ g : In (fun W : World => W.heap[gb]? = some (.cells #[.int .i64 now, .int .i64 0, .int .i64 0] 67 (0, 0))), g.w.cell? ⟨gb, 0, none⟩ = some (.int .i64 now) := fun g => by rw [blk_cell g.h]; rfl
  have hB2_1 : ∀ g : In (fun W : World => W.heap[gb]? = some (.cells #[.int .i64 now, .int .i64 0, .int .i64 0] 67 (0, 0))), g.w.cell? ⟨gb, 1, none⟩ = some (.int .i64 0) := fun g => by rw [blk_cell g.h]; rfl
  have hB2_2 : ∀ g : In (fun W : World => W.heap[gb]? = some (.cells #[.int .i64 now, .int .i64 0, .int .i64 0] 67 (0, 0))), g.w.cell? ⟨gb, 2, none⟩ = some (.int .i64 0) := fun g => by rw [blk_cell g.h]; rfl
  refine hK _ _ ⟨(fun W : World => W.heap[gb]? = some (.cells #[.int .i64 now, .int .i64 0, .int .i64 0] 67 (0, 0))), (by simp only [List.cons_append, List.nil_append, List.forall_mem_cons]; repeat' (first | exact HX12.out | exact HX2.out | (intro _ h; cases h; done) | (exact trivial) | constructor)), ?_⟩
  clear hK K hb D1
  repeat (first | (refine Hist.wpG_plain 2 _ (by decide +kernel) rfl (by rfl) (by rfl) (fun K hK => ?_); go_big_quiet_op; refine hK _ ?_; clear hK K) | (refine Hist.wpG_plain 1 _ (by decide +kernel) rfl (by rfl) (by rfl) (fun K hK => ?_); go_big_quiet_op; refine hK _ ?_; clear hK K) | (refine Hist.wpG_plain 0 _ (by decide +kernel) rfl (by rfl) (by rfl) (fun K hK => ?_); go_big_quiet_op; refine hK _ ?_; clear hK K))
  refine Hist.wpG_call (by rfl) (by rfl) (fun K hK => ?_)
  go_big_op
  refine (recentNew _).mono ?_
  rintro e x3 ⟨rfl, hq, hb⟩
  obtain ⟨rb, hrb⟩ : ∃ rb, x2.heap.size = rb := ⟨_, rfl⟩
  rw [hrb] at hq
  try rw [hrb]
  obtain ⟨ka, kc, q1, -, -, -, -, q6⟩ := hq
  obtain ⟨rfl, rfl⟩ := q6 rfl
  have HX3 := Lib.hid (show x3.heap[rb]? = some (.cells #[.int .i64 0, .slice none 0 0] 72 (0, 0)) from q1)
  have HX13 := Lib.hid (blk_ext hb HX12.out)
  have HX23 := Lib.hid (blk_ext hb HX2.out)
  have D3 := Lib.hid (ext_trans D2.out hb)
  haveI hI3 : Nonempty (In (fun W : World => W.heap[rb]? = some (.cells #[.int .i64 0, .slice none 0 0] 72 (0, 0)))) := ⟨⟨_, HX3.out⟩⟩
  have hL3 : ∀ g : In (fun W : World => W.heap[rb]? = some (.cells #[.int .i64 0, .slice none 0 0] 72 (0, 0))), rb < g.w.heap.size := fun g => blk_lt g.h
  have hB3_0 : ∀ g : In (fun W : World => W.heap[rb]? = some (.cells #[.int .i64 0, .slice none 0 0] 72 (0, 0))), g.w.cell? ⟨rb, 0, none⟩ = some (.int .i64 0) := fun g => by rw [blk_cell g.h]; rfl
  have hB3_1 : ∀ g : In (fun W : World => W.heap[rb]? = some (.cells #[.int .i64 0, .slice none 0 0] 72 (0, 0))), g.w.cell? ⟨rb, 1, none⟩ = some (.slice none 0 0) := fun g => by rw [blk_cell g.h]; rfl
  refine hK _ _ ⟨(fun W : World => W.heap[rb]? = some (.cells #[.int .i64 0, .slice none 0 0] 72 (0, 0))), (by simp only [List.cons_append, List.nil_append, List.forall_mem_cons]; repeat' (first | exact HX13.out | exact HX23.out | exact HX3.out | (intro _ h; cases h; done) | (exact trivial) | constructor)), ?_⟩
  clear hK K hb hrb q1 q6 D2
  repeat (first | (refine Hist.wpG_plain 3 _ (by decide +kernel) rfl (by rfl) (by rfl) (fun K hK => ?_); go_big_quiet_op; refine hK _ ?_; clear hK K) | (refine Hist.wpG_plain 2 _ (by decide +kernel) rfl (by rfl) (by rfl) (fun K hK => ?_); go_big_quiet_op; refine hK _ ?_; clear hK K) | (refine Hist.wpG_plain 1 _ (by decide +kernel) rfl (by rfl) (by rfl) (fun K hK => ?_); go_big_quiet_op; refine hK _ ?_; clear hK K) | (refine Hist.wpG_plain 0 _ (by decide +kernel) rfl (by rfl) (by rfl) (fun K hK => ?_); go_big_quiet_op; refine hK _ ?_; clear hK K))
  refine Hist.wpG_call (by rfl) (by rfl) (fun K hK => ?_)
  go_big_op
  have E4 := (Below.refl x3.heap.size x3).alloc (Nat.le_refl _) (.cells #[.int .i64 nd, .int .i64 0, .int .i64 nd, .int .i64 0, .int .i64 32, .slice a 0 c, .int .i64 now, .int .i64 0, .int .i64 0, .int .i64 0, .slice none 0 0] 74)
  have HX4 := Lib.hid (blk_new x3 #[.int .i64 nd, .int .i64 0, .int .i64 nd, .int .i64 0, .int .i64 32, .slice a 0 c, .int .i64 now, .int .i64 0, .int .i64 0, .int .i64 0, .slice none 0 0] 74)
  have HX14 := Lib.hid (blk_ext E4 HX13.out)
  have HX24 := Lib.hid (blk_ext E4 HX23.out)
  have HX34 := Lib.hid (blk_ext E4 HX3.out)
  have D4 := Lib.hid (ext_trans D3.out E4)
  have hdb := D3.out.size
  obtain ⟨db, hdb2⟩ : ∃ db, x3.heap.size = db := ⟨_, rfl⟩
  refine hK _ _ ⟨fun _ => True, (by simp only [List.cons_append, List.nil_append, List.forall_mem_cons]; repeat' (first | exact HX14.out | exact HX24.out | exact HX34.out | (intro _ h; cases h; done) | (exact trivial) | constructor)), ?_⟩
  clear hK K E4
  try simp only [Act.put, List.setIfInBounds_toArray, List.set_cons_succ, List.set_cons_zero]
  repeat (first | (refine Hist.wpG_plain 4 _ (by decide +kernel) rfl (by rfl) (by rfl) (fun K hK => ?_); go_big_quiet_op; refine hK _ ?_; clear hK K) | (refine Hist.wpG_plain 3 _ (by decide +kernel) rfl (by rfl) (by rfl) (fun K hK => ?_); go_big_quiet_op; refine hK _ ?_; clear hK K) | (refine Hist.wpG_plain 2 _ (by decide +kernel) rfl (by rfl) (by rfl) (fun K hK => ?_); go_big_quiet_op; refine hK _ ?_; clear hK K) | (refine Hist.wpG_plain 1 _ (by decide +kernel) rfl (by rfl) (by rfl) (fun K hK => ?_); go_big_quiet_op; refine hK _ ?_; clear hK K) | (refine Hist.wpG_plain 0 _ (by decide +kernel) rfl (by rfl) (by rfl) (fun K hK => ?_); go_big_quiet_op; refine hK _ ?_; clear hK K))
  refine Hist.wpG_nil ?_
  clear hI0 hI1 hL1 hB1_0 hB1_1 hI2 hL2 hB2_0 hB2_1 hB2_2 hI3 hL3 hB3_0 hB3_1
  go_wp2
  go_ret
  rw [hdb2] at HX4 hdb
  refine ⟨db, by rw [hdb2]; rfl, hdb, ⟨a, c, none, 0, HX4.out, ⟨.inl rfl, HF.out.1, HF.out.2.1, HF.out.2.2⟩, Nat.le_refl _, by simp [maxLen], .inl rfl, (by simp), (by simp), fun b o e => by cases e⟩, D4.out⟩

end Go.Proofs.Ytkhmaaalmlnblaa
