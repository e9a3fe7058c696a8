/- The document's queue: cards are taken. -/
import Derived.Test.YtmpkkkcoiljhpaaQueueS
import Derived.Test.YtmpkkkcoiljhpaaQueueO
import Derived.Test.YtmpkkkcoiljhpaaSplit
namespace Go.Proofs.Ytmpkkkcoiljhpaa
open Go.RowKit
set_option linter.unusedVariables false

set_option maxRecDepth 100000 in
set_option maxHeartbeats 1000000 in
theorem rqTake (rb lb np i : Nat) (rs : List (Int × List Cd)) (lost k p : Int) (cs : List Cd) (w : World) (h : RQ w rb lb np rs lost) (hix : ixQ k 0 (rs.take np) = (i : Int)) (hir : rs[i]? = some (p, cs)) (hnp : i < np) :
    Calls Try.prog 21 #[.pointer (some ⟨rb, 0, none⟩), .int .i64 k] w fun e w' => ∃ t, e = .returned t ∧ OwnC w.heap.size w' t (cs.take 4) ∧ RQ w' rb lb np (rs.set i (p, cs.drop 4)) lost ∧ Rim2 rb lb w w' := by
  obtain ⟨i0, hi, hz0, hz1, hz2⟩ := info_parts' info_card
  have HR := Lib.hid h
  have HIX := Lib.hid hix
  have HI := Lib.hid hir
  have hn6 := h.six.1
  have hl16 := h.le hir
  clear h hix hir
  go_enter Try.func21, Try.ntmps21
  go_wp2_with fail
  refine (rqAt rb lb np rs lost k _ HR.out).mono ?_
  rintro e w1 ⟨rfl, D1⟩
  rw [HIX.out]
  have HR1 := Lib.hid (HR.out.ext D1)
  obtain ⟨-, -, -, pv, X, h4, h5, h6, h7⟩ := HR1.out
  obtain ⟨v, hXi, a, c, rfl, hnc, hcm, hat, hfm⟩ := h7 i p cs hnp HI.out
  have HA1 := Lib.hid hat
  have H4 := Lib.hid h4
  have H6 := Lib.hid h6
  have HX := Lib.hid hXi
  have hc1 : w1.cell? ⟨rb, 1, none⟩ = some (.slice (some ⟨lb, 0, none⟩) np np) := by rw [blk_cell h4]; rfl
  have hcl : w1.cell? ⟨lb, i, none⟩ = some (.slice a cs.length c) := by rw [blk_cell h6]; exact hXi
  have hlr := blk_lt h4
  have hll := blk_lt h6
  obtain ⟨m, hm⟩ : ∃ m, cs.length = m := ⟨_, rfl⟩
  have HM := Lib.hid hm
  have HCM := Lib.hid hcm
  unfold maxLen at hcm
  rw [hm] at hcl hnc hl16
  have HX' := Lib.hid (show X[i]? = some (.slice a m c) from by rw [← hm]; exact hXi)
  clear h4 h5 h6 h7 hXi hat HR hm HX
  go_upto_region 5 with (fail)
  obtain ⟨N, hN, hN1, hN2, hN3⟩ : ∃ N : Nat, min (m : Int) 4 = (N : Int) ∧ N ≤ m ∧ N ≤ 4 ∧ (N = m ∨ N = 4) := ⟨min m 4, by omega, by omega, by omega, by omega⟩
  rw [hN]
  have HT4 := Lib.hid (show cs.take N = cs.take 4 by
    rcases hN3 with h | h
    · rw [List.take_of_length_le (by have := HM.out; omega), List.take_of_length_le (by have := HM.out; omega)]
    · rw [h])
  have HD4 := Lib.hid (show cs.drop N = cs.drop 4 by
    rcases hN3 with h | h
    · rw [List.drop_of_length_le (by have := HM.out; omega), List.drop_of_length_le (by have := HM.out; omega)]
    · rw [h])
  have HTL := Lib.hid (show (cs.take N).length = N by rw [List.length_take]; have := HM.out; omega)
  have HDL := Lib.hid (show (cs.drop N).length = m - N by rw [List.length_drop]; have := HM.out; omega)
  have D1' : Below w1.heap.size w1 (w1.alloc (.cells #[] 39)) := (Below.refl _ _).alloc (Nat.le_refl _) _
  have HO1 := Lib.hid (show (w1.alloc (.cells #[] 39)).ownsRow w1.heap.size 39 9 (.slice (some ⟨w1.heap.size, 0, none⟩) 0 0) 0 (flat cc []) from OwnR.made (enc := cc) w1.heap.size w1 (Nat.le_refl _))
  clear hN hN3
  rcases hfm with ⟨rfl, rfl⟩ | ⟨b, o, rfl⟩
  · obtain rfl : m = 0 := by omega
    obtain rfl : N = 0 := by omega
    have hap := fun (w : World) (ty : TypeId) => run_append_nil w ty (some ⟨w1.heap.size, 0, none⟩) 0 0 (Nat.le_refl _)
    go_wp2_with fail
    
    have HO2 := Lib.hid (show OwnC w1.heap.size (w1.alloc (.cells #[] 39)) (.slice (some ⟨w1.heap.size, 0, none⟩) 0 0) (cs.take 0) by unfold OwnC OwnR; rw [HTL.out]; have := HO1.out; simpa [flat_nil, List.take] using this)
    have hb2 := D1'
    obtain ⟨v2, hv2⟩ : ∃ v2, (Value.slice (some ⟨w1.heap.size, 0, none⟩) 0 0) = v2 := ⟨_, rfl⟩
    rw [hv2] at HO2 ⊢
    clear hap HO1 hv2 D1'
    generalize (w1.alloc (.cells #[] 39)) = w2 at *
    have D2 := ext_trans hb2 ((Below.refl w2.heap.size w2).drew)
    have HR2 := Lib.hid (HR1.out.ext D2)
    have HA2 := Lib.hid (HA1.out.ext D2)
    have HO3 := Lib.hid (HO2.out.ext ((Below.refl w2.heap.size w2).drew))
    have h4 := blk_ext D2 H4.out
    have h6 := blk_ext D2 H6.out
    haveI hI0 : Nonempty (In (fun W : World => W.heap[rb]? = some (.cells #[pv, .slice (some ⟨lb, 0, none⟩) np np, .int .i64 lost] 51 (0, 0)) ∧ W.heap[lb]? = some (.cells X 25 (0, 0)))) := ⟨⟨_, h4, h6⟩⟩
    have hF1 : ∀ g : In (fun W : World => W.heap[rb]? = some (.cells #[pv, .slice (some ⟨lb, 0, none⟩) np np, .int .i64 lost] 51 (0, 0)) ∧ W.heap[lb]? = some (.cells X 25 (0, 0))), g.w.cell? ⟨rb, 1, none⟩ = some (.slice (some ⟨lb, 0, none⟩) np np) := fun g => by rw [blk_cell g.h.1]; rfl
    have hF2 : ∀ g : In (fun W : World => W.heap[rb]? = some (.cells #[pv, .slice (some ⟨lb, 0, none⟩) np np, .int .i64 lost] 51 (0, 0)) ∧ W.heap[lb]? = some (.cells X 25 (0, 0))), rb < g.w.heap.size := fun g => blk_lt g.h.1
    have hF3 : ∀ g : In (fun W : World => W.heap[rb]? = some (.cells #[pv, .slice (some ⟨lb, 0, none⟩) np np, .int .i64 lost] 51 (0, 0)) ∧ W.heap[lb]? = some (.cells X 25 (0, 0))), g.w.cell? ⟨lb, i, none⟩ = some (.slice none 0 0) := fun g => by rw [blk_cell g.h.2]; exact HX'.out
    have hF4 : ∀ g : In (fun W : World => W.heap[rb]? = some (.cells #[pv, .slice (some ⟨lb, 0, none⟩) np np, .int .i64 lost] 51 (0, 0)) ∧ W.heap[lb]? = some (.cells X 25 (0, 0))), lb < g.w.heap.size := fun g => blk_lt g.h.2
    refine wp_region_split 17 1 16 rfl rfl (by kernel_rfl) (by kernel_rfl) (by kernel_rfl) (by kernel_rfl) (by kernel_rfl) ?_
    simp only [List.take_succ_cons, List.take_zero]
    refine wpAny_hist (fun W : World => W.heap[rb]? = some (.cells #[pv, .slice (some ⟨lb, 0, none⟩) np np, .int .i64 lost] 51 (0, 0)) ∧ W.heap[lb]? = some (.cells X 25 (0, 0))) (by kernel_rfl) (by kernel_rfl) ⟨h4, h6⟩ ?_
    have HS0 := Lib.hid (And.intro h4 h6)
    clear hb2 HO2 HR1 HA1 H4 H6 hc1 hcl h4 h6 hlr hll
    generalize w2.drew = x0 at *
    repeat (first | (refine Hist.wpG_plain 2 _ (by decide +kernel) rfl (by rfl) (by rfl) (fun K hK => ?_); go_big_quiet_op; refine hK _ ?_; clear hK K) | (refine Hist.wpG_plain 1 _ (by decide +kernel) rfl (by rfl) (by rfl) (fun K hK => ?_); go_big_quiet_op; refine hK _ ?_; clear hK K) | (refine Hist.wpG_plain 0 _ (by decide +kernel) rfl (by rfl) (by rfl) (fun K hK => ?_); go_big_quiet_op; refine hK _ ?_; clear hK K))
    refine Hist.wpG_call (by rfl) (by rfl) (fun K hK => ?_)
    go_big_op
    have E0 : Below x0.heap.size x0 (x0.alloc (.cells #[] 39)) := (Below.refl _ _).alloc (Nat.le_refl _) _
    have HO4 := Lib.hid (show (x0.alloc (.cells #[] 39)).ownsRow x0.heap.size 39 9 (.slice (some ⟨x0.heap.size, 0, none⟩) 0 0) 0 (flat cc []) from OwnR.made (enc := cc) x0.heap.size x0 (Nat.le_refl _))
    have HS1 := Lib.hid (And.intro (blk_ext E0 HS0.out.1) (blk_ext E0 HS0.out.2))
    refine hK _ _ ⟨(fun W : World => W.heap[rb]? = some (.cells #[pv, .slice (some ⟨lb, 0, none⟩) np np, .int .i64 lost] 51 (0, 0)) ∧ W.heap[lb]? = some (.cells X 25 (0, 0))), (by simp only [List.cons_append, List.nil_append, List.forall_mem_cons]; repeat' (first | exact HS1.out | (intro _ h; cases h; done) | constructor)), ?_⟩
    clear hK K
    repeat (first | (refine Hist.wpG_plain 2 _ (by decide +kernel) rfl (by rfl) (by rfl) (fun K hK => ?_); go_big_quiet_op; refine hK _ ?_; clear hK K) | (refine Hist.wpG_plain 1 _ (by decide +kernel) rfl (by rfl) (by rfl) (fun K hK => ?_); go_big_quiet_op; refine hK _ ?_; clear hK K) | (refine Hist.wpG_plain 0 _ (by decide +kernel) rfl (by rfl) (by rfl) (fun K hK => ?_); go_big_quiet_op; refine hK _ ?_; clear hK K))
    have hap := fun (ty : TypeId) => run_append_nil (x0.alloc (.cells #[] 39)) ty (some ⟨x0.heap.size, 0, none⟩) 0 0 (Nat.le_refl _)
    refine Hist.wpG_call (by rfl) (by rfl) (fun K hK => ?_)
    go_big_op
    obtain ⟨v4, hv4⟩ : ∃ v4, (Value.slice (some ⟨x0.heap.size, 0, none⟩) 0 0) = v4 := ⟨_, rfl⟩
    have E4 := E0
    have HO5 := Lib.hid (show OwnC x0.heap.size (x0.alloc (.cells #[] 39)) v4 (cs.drop 0) by unfold OwnC OwnR; rw [HDL.out, ← hv4]; have := HO4.out; rw [List.eq_nil_of_length_eq_zero HDL.out]; exact this)
    have HS4 := HS1
    rw [hv4]
    clear HO4 E0 hap hv4 HS1
    generalize (x0.alloc (.cells #[] 39)) = x4 at *
    refine hK _ _ ⟨(fun W : World => W.heap[rb]? = some (.cells #[pv, .slice (some ⟨lb, 0, none⟩) np np, .int .i64 lost] 51 (0, 0)) ∧ W.heap[lb]? = some (.cells X 25 (0, 0))), (by simp only [List.cons_append, List.nil_append, List.forall_mem_cons]; repeat' (first | exact HS4.out | (intro _ h; cases h; done) | constructor)), ?_⟩
    clear hK K
    try simp only [Act.put, List.setIfInBounds_toArray, List.set_cons_succ, List.set_cons_zero]
    repeat (first | (refine Hist.wpG_plain 2 _ (by decide +kernel) rfl (by rfl) (by rfl) (fun K hK => ?_); go_big_quiet_op; refine hK _ ?_; clear hK K) | (refine Hist.wpG_plain 1 _ (by decide +kernel) rfl (by rfl) (by rfl) (fun K hK => ?_); go_big_quiet_op; refine hK _ ?_; clear hK K) | (refine Hist.wpG_plain 0 _ (by decide +kernel) rfl (by rfl) (by rfl) (fun K hK => ?_); go_big_quiet_op; refine hK _ ?_; clear hK K))
    refine Hist.wpG_nil ?_
    obtain ⟨a4, c4, hv4⟩ : ∃ a4 c4, v4 = .slice a4 (0 - 0) c4 := by obtain ⟨a, c, e, -⟩ := HO5.out.read; rw [HDL.out] at e; exact ⟨a, c, e⟩
    subst hv4
    have hl4 := blk_lt HS4.out.2
    have hf4 := blk_free HS4.out.2
    have hc4 : x4.cell? ⟨lb, i, none⟩ = some (.slice none 0 0) := by rw [blk_cell HS4.out.2]; exact HX'.out
    simp only [behind]
    refine wpAny_one 17 _ (by kernel_rfl) rfl ?_
    refine wpOp_do (by simp only [List.getElem?_toArray, List.getElem?_cons_succ, List.getElem?_cons_zero]; rfl) (by rfl) (fun K hK => ?_)
    go_big_op
    refine hK _ _ ?_
    clear hK K
    refine wpAny_end (by kernel_rfl) ?_
    have HR5 := Lib.hid ((HR2.out.ext E4).setv HI.out hnp HO5.out.sl (by rw [HDL.out]; omega))
    have hk := (Kept.refl lb x4).setCell i (.slice a4 (0 - 0) c4)
    have HO6 := Lib.hid ((HR2.out.ext E4).own (Rim2.snd hk) (by decide) (by decide) ((HO3.out.ext E4).base D1.size))
    have HR6 := Lib.hid ((Rim2.of (a := rb) (b := lb) (ext_trans D1 (ext_trans D2 E4))).trans (Rim2.snd hk))
    clear hl4 hf4 hc4 hk hF1 hF2 hF3 hF4 hI0
    go_wp2
    go_ret
    exact ⟨_, rfl, by rw [← HT4.out]; exact HO6.out, by rw [← HD4.out]; exact HR5.out, HR6.out⟩
  · rcases Classical.propComplete (c = N) with hce | hce
    · go_wp2_with (at_builtin; refine wpList_append_own _ rfl _ _ 25 rfl (w1.heap.size) 39 i0 Cd.zero.v 9 88 Try.underlying25 hi hz0 hz1 hz2 rfl (by decide) (.slice (some ⟨w1.heap.size, 0, none⟩) 0 0) 0 (flat cc []) rfl HO1.out ⟨b, o, none⟩ N c (flat cc (cs.take N)) rfl ?c0 ?c1 ?c2 ?c3 ?c4 ?c5 ?_)
      case c0 => rw [flat_len cc_len, HTL.out]
      case c1 => intro j u hj; rw [add_off]; exact cat_cells ((HA1.out.ext D1').take N) j u hj
      case c2 => exact flat_one cc_one _
      case c3 => unfold maxLen; omega
      case c4 => omega
      case c5 => exact D1'.size
      intro v2 w2 ho2 hg2 _
      have hb2 : Below w1.heap.size w1 w2 := D1'.grown hg2 D1'.size (fun q hq => own_ge HO1.out hq)
      have HO2 := Lib.hid (show OwnC w1.heap.size w2 v2 (cs.take N) by unfold OwnC OwnR; rw [HTL.out]; simpa [flat_nil] using ho2)
      clear ho2 hg2 
      go_wp2_with fail
      
      have D2 := ext_trans hb2 ((Below.refl w2.heap.size w2).drew)
      have HR2 := Lib.hid (HR1.out.ext D2)
      have HA2 := Lib.hid (HA1.out.ext D2)
      have HO3 := Lib.hid (HO2.out.ext ((Below.refl w2.heap.size w2).drew))
      have h4 := blk_ext D2 H4.out
      have h6 := blk_ext D2 H6.out
      haveI hI0 : Nonempty (In (fun W : World => W.heap[rb]? = some (.cells #[pv, .slice (some ⟨lb, 0, none⟩) np np, .int .i64 lost] 51 (0, 0)) ∧ W.heap[lb]? = some (.cells X 25 (0, 0)))) := ⟨⟨_, h4, h6⟩⟩
      have hF1 : ∀ g : In (fun W : World => W.heap[rb]? = some (.cells #[pv, .slice (some ⟨lb, 0, none⟩) np np, .int .i64 lost] 51 (0, 0)) ∧ W.heap[lb]? = some (.cells X 25 (0, 0))), g.w.cell? ⟨rb, 1, none⟩ = some (.slice (some ⟨lb, 0, none⟩) np np) := fun g => by rw [blk_cell g.h.1]; rfl
      have hF2 : ∀ g : In (fun W : World => W.heap[rb]? = some (.cells #[pv, .slice (some ⟨lb, 0, none⟩) np np, .int .i64 lost] 51 (0, 0)) ∧ W.heap[lb]? = some (.cells X 25 (0, 0))), rb < g.w.heap.size := fun g => blk_lt g.h.1
      have hF3 : ∀ g : In (fun W : World => W.heap[rb]? = some (.cells #[pv, .slice (some ⟨lb, 0, none⟩) np np, .int .i64 lost] 51 (0, 0)) ∧ W.heap[lb]? = some (.cells X 25 (0, 0))), g.w.cell? ⟨lb, i, none⟩ = some (.slice (some ⟨b, o, none⟩) m c) := fun g => by rw [blk_cell g.h.2]; exact HX'.out
      have hF4 : ∀ g : In (fun W : World => W.heap[rb]? = some (.cells #[pv, .slice (some ⟨lb, 0, none⟩) np np, .int .i64 lost] 51 (0, 0)) ∧ W.heap[lb]? = some (.cells X 25 (0, 0))), lb < g.w.heap.size := fun g => blk_lt g.h.2
      refine wp_region_split 17 1 16 rfl rfl (by kernel_rfl) (by kernel_rfl) (by kernel_rfl) (by kernel_rfl) (by kernel_rfl) ?_
      simp only [List.take_succ_cons, List.take_zero]
      refine wpAny_hist (fun W : World => W.heap[rb]? = some (.cells #[pv, .slice (some ⟨lb, 0, none⟩) np np, .int .i64 lost] 51 (0, 0)) ∧ W.heap[lb]? = some (.cells X 25 (0, 0))) (by kernel_rfl) (by kernel_rfl) ⟨h4, h6⟩ ?_
      have HS0 := Lib.hid (And.intro h4 h6)
      clear hb2 HO2 HR1 HA1 H4 H6 hc1 hcl h4 h6 hlr hll
      generalize w2.drew = x0 at *
      repeat (first | (refine Hist.wpG_plain 2 _ (by decide +kernel) rfl (by rfl) (by rfl) (fun K hK => ?_); go_big_quiet_op; refine hK _ ?_; clear hK K) | (refine Hist.wpG_plain 1 _ (by decide +kernel) rfl (by rfl) (by rfl) (fun K hK => ?_); go_big_quiet_op; refine hK _ ?_; clear hK K) | (refine Hist.wpG_plain 0 _ (by decide +kernel) rfl (by rfl) (by rfl) (fun K hK => ?_); go_big_quiet_op; refine hK _ ?_; clear hK K))
      refine Hist.wpG_call (by rfl) (by rfl) (fun K hK => ?_)
      go_big_op
      have E0 : Below x0.heap.size x0 (x0.alloc (.cells #[] 39)) := (Below.refl _ _).alloc (Nat.le_refl _) _
      have HO4 := Lib.hid (show (x0.alloc (.cells #[] 39)).ownsRow x0.heap.size 39 9 (.slice (some ⟨x0.heap.size, 0, none⟩) 0 0) 0 (flat cc []) from OwnR.made (enc := cc) x0.heap.size x0 (Nat.le_refl _))
      have HS1 := Lib.hid (And.intro (blk_ext E0 HS0.out.1) (blk_ext E0 HS0.out.2))
      refine hK _ _ ⟨(fun W : World => W.heap[rb]? = some (.cells #[pv, .slice (some ⟨lb, 0, none⟩) np np, .int .i64 lost] 51 (0, 0)) ∧ W.heap[lb]? = some (.cells X 25 (0, 0))), (by simp only [List.cons_append, List.nil_append, List.forall_mem_cons]; repeat' (first | exact HS1.out | (intro _ h; cases h; done) | constructor)), ?_⟩
      clear hK K
      repeat (first | (refine Hist.wpG_plain 2 _ (by decide +kernel) rfl (by rfl) (by rfl) (fun K hK => ?_); go_big_quiet_op; refine hK _ ?_; clear hK K) | (refine Hist.wpG_plain 1 _ (by decide +kernel) rfl (by rfl) (by rfl) (fun K hK => ?_); go_big_quiet_op; refine hK _ ?_; clear hK K) | (refine Hist.wpG_plain 0 _ (by decide +kernel) rfl (by rfl) (by rfl) (fun K hK => ?_); go_big_quiet_op; refine hK _ ?_; clear hK K))
      refine Hist.wpG_call (by rfl) (by rfl) (fun K hK => ?_)
      refine wp_append_own _ _ _ 25 rfl (x0.heap.size) 39 i0 Cd.zero.v 9 88 Try.underlying25 hi hz0 hz1 hz2 rfl (by decide) (.slice (some ⟨x0.heap.size, 0, none⟩) 0 0) 0 (flat cc []) rfl HO4.out ⟨b, o, none⟩ (m - N) (c - N) (flat cc (cs.drop N)) rfl ?c0 ?c1 ?c2 ?c3 ?c4 ?c5 ?_
      case c0 => rw [flat_len cc_len, HDL.out]
      case c1 => intro j u hj; rw [add_off]; exact (by rw [List.eq_nil_of_length_eq_zero (show (cs.drop N).length = 0 from by rw [HDL.out]; have := of_eq_true hce; omega)] at hj; simp [flat] at hj)
      case c2 => exact flat_one cc_one _
      case c3 => unfold maxLen; omega
      case c4 => omega
      case c5 => exact E0.size
      intro v4 x4 ho4 hg4 _
      have E4 : Below x0.heap.size x0 x4 := E0.grown hg4 E0.size (fun q hq => own_ge HO4.out hq)
      have HO5 := Lib.hid (show OwnC x0.heap.size x4 v4 (cs.drop N) by unfold OwnC OwnR; rw [HDL.out]; simpa [flat_nil] using ho4)
      have HS4 := Lib.hid (And.intro (blk_ext E4 HS0.out.1) (blk_ext E4 HS0.out.2))
      clear ho4 hg4 HO4 E0
      refine hK _ _ ⟨(fun W : World => W.heap[rb]? = some (.cells #[pv, .slice (some ⟨lb, 0, none⟩) np np, .int .i64 lost] 51 (0, 0)) ∧ W.heap[lb]? = some (.cells X 25 (0, 0))), (by simp only [List.cons_append, List.nil_append, List.forall_mem_cons]; repeat' (first | exact HS4.out | (intro _ h; cases h; done) | constructor)), ?_⟩
      clear hK K
      try simp only [Act.put, List.setIfInBounds_toArray, List.set_cons_succ, List.set_cons_zero]
      repeat (first | (refine Hist.wpG_plain 2 _ (by decide +kernel) rfl (by rfl) (by rfl) (fun K hK => ?_); go_big_quiet_op; refine hK _ ?_; clear hK K) | (refine Hist.wpG_plain 1 _ (by decide +kernel) rfl (by rfl) (by rfl) (fun K hK => ?_); go_big_quiet_op; refine hK _ ?_; clear hK K) | (refine Hist.wpG_plain 0 _ (by decide +kernel) rfl (by rfl) (by rfl) (fun K hK => ?_); go_big_quiet_op; refine hK _ ?_; clear hK K))
      refine Hist.wpG_nil ?_
      obtain ⟨a4, c4, hv4⟩ : ∃ a4 c4, v4 = .slice a4 (m - N) c4 := by obtain ⟨a, c, e, -⟩ := HO5.out.read; rw [HDL.out] at e; exact ⟨a, c, e⟩
      subst hv4
      have hl4 := blk_lt HS4.out.2
      have hf4 := blk_free HS4.out.2
      have hc4 : x4.cell? ⟨lb, i, none⟩ = some (.slice (some ⟨b, o, none⟩) m c) := by rw [blk_cell HS4.out.2]; exact HX'.out
      simp only [behind]
      refine wpAny_one 17 _ (by kernel_rfl) rfl ?_
      refine wpOp_do (by simp only [List.getElem?_toArray, List.getElem?_cons_succ, List.getElem?_cons_zero]; rfl) (by rfl) (fun K hK => ?_)
      go_big_op
      refine hK _ _ ?_
      clear hK K
      refine wpAny_end (by kernel_rfl) ?_
      have HR5 := Lib.hid ((HR2.out.ext E4).setv HI.out hnp HO5.out.sl (by rw [HDL.out]; omega))
      have hk := (Kept.refl lb x4).setCell i (.slice a4 (m - N) c4)
      have HO6 := Lib.hid ((HR2.out.ext E4).own (Rim2.snd hk) (by decide) (by decide) ((HO3.out.ext E4).base D1.size))
      have HR6 := Lib.hid ((Rim2.of (a := rb) (b := lb) (ext_trans D1 (ext_trans D2 E4))).trans (Rim2.snd hk))
      clear hl4 hf4 hc4 hk hF1 hF2 hF3 hF4 hI0
      go_wp2
      go_ret
      exact ⟨_, rfl, by rw [← HT4.out]; exact HO6.out, by rw [← HD4.out]; exact HR5.out, HR6.out⟩
    · go_wp2_with (at_builtin; refine wpList_append_own _ rfl _ _ 25 rfl (w1.heap.size) 39 i0 Cd.zero.v 9 88 Try.underlying25 hi hz0 hz1 hz2 rfl (by decide) (.slice (some ⟨w1.heap.size, 0, none⟩) 0 0) 0 (flat cc []) rfl HO1.out ⟨b, o, none⟩ N c (flat cc (cs.take N)) rfl ?c0 ?c1 ?c2 ?c3 ?c4 ?c5 ?_)
      case c0 => rw [flat_len cc_len, HTL.out]
      case c1 => intro j u hj; rw [add_off]; exact cat_cells ((HA1.out.ext D1').take N) j u hj
      case c2 => exact flat_one cc_one _
      case c3 => unfold maxLen; omega
      case c4 => omega
      case c5 => exact D1'.size
      intro v2 w2 ho2 hg2 _
      have hb2 : Below w1.heap.size w1 w2 := D1'.grown hg2 D1'.size (fun q hq => own_ge HO1.out hq)
      have HO2 := Lib.hid (show OwnC w1.heap.size w2 v2 (cs.take N) by unfold OwnC OwnR; rw [HTL.out]; simpa [flat_nil] using ho2)
      clear ho2 hg2 
      go_wp2_with fail
      
      have D2 := ext_trans hb2 ((Below.refl w2.heap.size w2).drew)
      have HR2 := Lib.hid (HR1.out.ext D2)
      have HA2 := Lib.hid (HA1.out.ext D2)
      have HO3 := Lib.hid (HO2.out.ext ((Below.refl w2.heap.size w2).drew))
      have h4 := blk_ext D2 H4.out
      have h6 := blk_ext D2 H6.out
      haveI hI0 : Nonempty (In (fun W : World => W.heap[rb]? = some (.cells #[pv, .slice (some ⟨lb, 0, none⟩) np np, .int .i64 lost] 51 (0, 0)) ∧ W.heap[lb]? = some (.cells X 25 (0, 0)))) := ⟨⟨_, h4, h6⟩⟩
      have hF1 : ∀ g : In (fun W : World => W.heap[rb]? = some (.cells #[pv, .slice (some ⟨lb, 0, none⟩) np np, .int .i64 lost] 51 (0, 0)) ∧ W.heap[lb]? = some (.cells X 25 (0, 0))), g.w.cell? ⟨rb, 1, none⟩ = some (.slice (some ⟨lb, 0, none⟩) np np) := fun g => by rw [blk_cell g.h.1]; rfl
      have hF2 : ∀ g : In (fun W : World => W.heap[rb]? = some (.cells #[pv, .slice (some ⟨lb, 0, none⟩) np np, .int .i64 lost] 51 (0, 0)) ∧ W.heap[lb]? = some (.cells X 25 (0, 0))), rb < g.w.heap.size := fun g => blk_lt g.h.1
      have hF3 : ∀ g : In (fun W : World => W.heap[rb]? = some (.cells #[pv, .slice (some ⟨lb, 0, none⟩) np np, .int .i64 lost] 51 (0, 0)) ∧ W.heap[lb]? = some (.cells X 25 (0, 0))), g.w.cell? ⟨lb, i, none⟩ = some (.slice (some ⟨b, o, none⟩) m c) := fun g => by rw [blk_cell g.h.2]; exact HX'.out
      have hF4 : ∀ g : In (fun W : World => W.heap[rb]? = some (.cells #[pv, .slice (some ⟨lb, 0, none⟩) np np, .int .i64 lost] 51 (0, 0)) ∧ W.heap[lb]? = some (.cells X 25 (0, 0))), lb < g.w.heap.size := fun g => blk_lt g.h.2
      refine wp_region_split 17 1 16 rfl rfl (by kernel_rfl) (by kernel_rfl) (by kernel_rfl) (by kernel_rfl) (by kernel_rfl) ?_
      simp only [List.take_succ_cons, List.take_zero]
      refine wpAny_hist (fun W : World => W.heap[rb]? = some (.cells #[pv, .slice (some ⟨lb, 0, none⟩) np np, .int .i64 lost] 51 (0, 0)) ∧ W.heap[lb]? = some (.cells X 25 (0, 0))) (by kernel_rfl) (by kernel_rfl) ⟨h4, h6⟩ ?_
      have HS0 := Lib.hid (And.intro h4 h6)
      clear hb2 HO2 HR1 HA1 H4 H6 hc1 hcl h4 h6 hlr hll
      generalize w2.drew = x0 at *
      repeat (first | (refine Hist.wpG_plain 2 _ (by decide +kernel) rfl (by rfl) (by rfl) (fun K hK => ?_); go_big_quiet_op; refine hK _ ?_; clear hK K) | (refine Hist.wpG_plain 1 _ (by decide +kernel) rfl (by rfl) (by rfl) (fun K hK => ?_); go_big_quiet_op; refine hK _ ?_; clear hK K) | (refine Hist.wpG_plain 0 _ (by decide +kernel) rfl (by rfl) (by rfl) (fun K hK => ?_); go_big_quiet_op; refine hK _ ?_; clear hK K))
      refine Hist.wpG_call (by rfl) (by rfl) (fun K hK => ?_)
      go_big_op
      have E0 : Below x0.heap.size x0 (x0.alloc (.cells #[] 39)) := (Below.refl _ _).alloc (Nat.le_refl _) _
      have HO4 := Lib.hid (show (x0.alloc (.cells #[] 39)).ownsRow x0.heap.size 39 9 (.slice (some ⟨x0.heap.size, 0, none⟩) 0 0) 0 (flat cc []) from OwnR.made (enc := cc) x0.heap.size x0 (Nat.le_refl _))
      have HS1 := Lib.hid (And.intro (blk_ext E0 HS0.out.1) (blk_ext E0 HS0.out.2))
      refine hK _ _ ⟨(fun W : World => W.heap[rb]? = some (.cells #[pv, .slice (some ⟨lb, 0, none⟩) np np, .int .i64 lost] 51 (0, 0)) ∧ W.heap[lb]? = some (.cells X 25 (0, 0))), (by simp only [List.cons_append, List.nil_append, List.forall_mem_cons]; repeat' (first | exact HS1.out | (intro _ h; cases h; done) | constructor)), ?_⟩
      clear hK K
      repeat (first | (refine Hist.wpG_plain 2 _ (by decide +kernel) rfl (by rfl) (by rfl) (fun K hK => ?_); go_big_quiet_op; refine hK _ ?_; clear hK K) | (refine Hist.wpG_plain 1 _ (by decide +kernel) rfl (by rfl) (by rfl) (fun K hK => ?_); go_big_quiet_op; refine hK _ ?_; clear hK K) | (refine Hist.wpG_plain 0 _ (by decide +kernel) rfl (by rfl) (by rfl) (fun K hK => ?_); go_big_quiet_op; refine hK _ ?_; clear hK K))
      refine Hist.wpG_call (by rfl) (by rfl) (fun K hK => ?_)
      refine wp_append_own _ _ _ 25 rfl (x0.heap.size) 39 i0 Cd.zero.v 9 88 Try.underlying25 hi hz0 hz1 hz2 rfl (by decide) (.slice (some ⟨x0.heap.size, 0, none⟩) 0 0) 0 (flat cc []) rfl HO4.out ⟨b, o + N * 9, none⟩ (m - N) (c - N) (flat cc (cs.drop N)) rfl ?c0 ?c1 ?c2 ?c3 ?c4 ?c5 ?_
      case c0 => rw [flat_len cc_len, HDL.out]
      case c1 => intro j u hj; rw [add_off]; exact (cat_cells ((HA2.out.ext E0).drop N) j u hj)
      case c2 => exact flat_one cc_one _
      case c3 => unfold maxLen; omega
      case c4 => omega
      case c5 => exact E0.size
      intro v4 x4 ho4 hg4 _
      have E4 : Below x0.heap.size x0 x4 := E0.grown hg4 E0.size (fun q hq => own_ge HO4.out hq)
      have HO5 := Lib.hid (show OwnC x0.heap.size x4 v4 (cs.drop N) by unfold OwnC OwnR; rw [HDL.out]; simpa [flat_nil] using ho4)
      have HS4 := Lib.hid (And.intro (blk_ext E4 HS0.out.1) (blk_ext E4 HS0.out.2))
      clear ho4 hg4 HO4 E0
      refine hK _ _ ⟨(fun W : World => W.heap[rb]? = some (.cells #[pv, .slice (some ⟨lb, 0, none⟩) np np, .int .i64 lost] 51 (0, 0)) ∧ W.heap[lb]? = some (.cells X 25 (0, 0))), (by simp only [List.cons_append, List.nil_append, List.forall_mem_cons]; repeat' (first | exact HS4.out | (intro _ h; cases h; done) | constructor)), ?_⟩
      clear hK K
      try simp only [Act.put, List.setIfInBounds_toArray, List.set_cons_succ, List.set_cons_zero]
      repeat (first | (refine Hist.wpG_plain 2 _ (by decide +kernel) rfl (by rfl) (by rfl) (fun K hK => ?_); go_big_quiet_op; refine hK _ ?_; clear hK K) | (refine Hist.wpG_plain 1 _ (by decide +kernel) rfl (by rfl) (by rfl) (fun K hK => ?_); go_big_quiet_op; refine hK _ ?_; clear hK K) | (refine Hist.wpG_plain 0 _ (by decide +kernel) rfl (by rfl) (by rfl) (fun K hK => ?_); go_big_quiet_op; refine hK _ ?_; clear hK K))
      refine Hist.wpG_nil ?_
      obtain ⟨a4, c4, hv4⟩ : ∃ a4 c4, v4 = .slice a4 (m - N) c4 := by obtain ⟨a, c, e, -⟩ := HO5.out.read; rw [HDL.out] at e; exact ⟨a, c, e⟩
      subst hv4
      have hl4 := blk_lt HS4.out.2
      have hf4 := blk_free HS4.out.2
      have hc4 : x4.cell? ⟨lb, i, none⟩ = some (.slice (some ⟨b, o, none⟩) m c) := by rw [blk_cell HS4.out.2]; exact HX'.out
      simp only [behind]
      refine wpAny_one 17 _ (by kernel_rfl) rfl ?_
      refine wpOp_do (by simp only [List.getElem?_toArray, List.getElem?_cons_succ, List.getElem?_cons_zero]; rfl) (by rfl) (fun K hK => ?_)
      go_big_op
      refine hK _ _ ?_
      clear hK K
      refine wpAny_end (by kernel_rfl) ?_
      have HR5 := Lib.hid ((HR2.out.ext E4).setv HI.out hnp HO5.out.sl (by rw [HDL.out]; omega))
      have hk := (Kept.refl lb x4).setCell i (.slice a4 (m - N) c4)
      have HO6 := Lib.hid ((HR2.out.ext E4).own (Rim2.snd hk) (by decide) (by decide) ((HO3.out.ext E4).base D1.size))
      have HR6 := Lib.hid ((Rim2.of (a := rb) (b := lb) (ext_trans D1 (ext_trans D2 E4))).trans (Rim2.snd hk))
      clear hl4 hf4 hc4 hk hF1 hF2 hF3 hF4 hI0
      go_wp2
      go_ret
      exact ⟨_, rfl, by rw [← HT4.out]; exact HO6.out, by rw [← HD4.out]; exact HR5.out, HR6.out⟩

end Go.Proofs.Ytmpkkkcoiljhpaa
