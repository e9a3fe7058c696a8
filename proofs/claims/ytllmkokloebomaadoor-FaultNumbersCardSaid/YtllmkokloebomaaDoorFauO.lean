/- The law's same. -/
import Derived.Test.YtllmkokloebomaaDoorFauN
import Derived.Test.YtllmkokloebomaaDoorHist
namespace Go.Proofs.YtllmkokloebomaaDoor
open Go.RowKit Go.Extern.Stop Go.Stop Go.Extern
set_option linter.unusedVariables false
set_option linter.unusedSimpArgs false


set_option maxRecDepth 100000 in
set_option maxHeartbeats 2000000 in
theorem same_empty (a : Option Addr) (c : Nat) (cd : Int) (w : World) (hG : EG w) :
    Calls Tryd.prog 7 #[.slice a 0 c, .int .i64 cd] w fun r w' => r = .returned (.bool true) ∧ Below w.heap.size w w' := by
  have hz := run_nil_nil
  have HG := Lib.hid hG
  clear hG
  skip
  skip
  skip
  go_enter Tryd.func7, Tryd.ntmps7
  go_wp2_with fail
  refine (chain_nil a c cd w).mono ?_
  rintro r w1 ⟨rfl, hw1⟩
  obtain rfl := hw1.symm
  go_wp2_with fail
  refine (code_nil _).mono ?_
  rintro r w1 ⟨rfl, hw1⟩
  obtain rfl := hw1.symm
  go_wp2_with fail
  refine (faultPath [] .nilIface .nilIface _ HG.out rfl .nil (by simp)).mono ?_
  rintro r w2 ⟨v, rfl, ho, hb⟩
  obtain ⟨va, vc, rfl, -⟩ := OwnR.form ho
  go_wp2
  go_ret
  exact ⟨rfl, hb⟩

set_option maxRecDepth 100000 in
set_option maxHeartbeats 2000000 in
theorem same_zero (a : Option Addr) (n c : Nat) (ls : List ByteArray) (w : World) (hG : EG w) (hx : TxAt w (.slice a n c) ls) (hn : n ≤ 90) (h1 : 0 < n) :
    Calls Tryd.prog 7 #[.slice a n c, .int .i64 0] w fun r w' => r = .returned (.bool true) ∧ Below w.heap.size w w' := by
  have hz := run_nil_nil
  have HG := Lib.hid hG
  clear hG
  have HX := Lib.hid hx
  have hne0 : ((n : Int) == 0) = false := by simpa using (show ¬ (n : Int) = 0 by omega)
  clear hx
  go_enter Tryd.func7, Tryd.ntmps7
  go_wp2_with fail
  refine (chain_zero a n c ls w HX.out hn h1).mono ?_
  rintro r w1 ⟨rfl, hw1⟩
  obtain rfl := hw1.symm
  go_wp2_with fail
  refine (code_nil _).mono ?_
  rintro r w1 ⟨rfl, hw1⟩
  obtain rfl := hw1.symm
  go_wp2_with fail
  refine (faultPath [] .nilIface .nilIface _ HG.out rfl .nil (by simp)).mono ?_
  rintro r w2 ⟨v, rfl, ho, hb⟩
  obtain ⟨va, vc, rfl, -⟩ := OwnR.form ho
  go_wp2
  go_ret
  exact ⟨rfl, hb⟩

set_option maxRecDepth 100000 in
set_option maxHeartbeats 8000000 in
theorem same_full (a : Option Addr) (n c : Nat) (ls : List ByteArray) (cd : Int) (A : ByteArray) (w : World) (hG : EG w) (hx : TxAt w (.slice a n c) ls) (hc : (Lit.int .i64 cd).wf = true) (hn : n ≤ 90) (h1 : 0 < n) (h0 : cd ≠ 0) (hA : fT ls (errT cd) = A) (hs : A.size ≤ 8000000) :
    Calls Tryd.prog 7 #[.slice a n c, .int .i64 cd] w fun r w' => r = .returned (.bool true) ∧ Below w.heap.size w w' := by
  obtain ⟨hl, hnc, b, o, hxa⟩ := hx.at
  obtain ⟨rfl, hxx⟩ := hxa.resolve_left (by omega)
  have hne0 : ((n : Int) == 0) = false := by simpa using (show ¬ (n : Int) = 0 by omega)
  have hc0 : (cd == 0) = false := by simpa using h0
  obtain ⟨D, hD⟩ : ∃ D, wrap64 (cd + 1) = D := ⟨_, rfl⟩
  have HDD := Lib.hid hD
  have HNE := Lib.hid (show false = (cd == D) from by
    rw [← hD]
    have := bounds_i64 hc
    symm
    have h : cd ≠ wrap64 (cd + 1) := by unfold wrap64; omega
    simpa using h)
  clear hD
  cases ls with
  | nil => simp at hl; omega
  | cons op l =>
  obtain ⟨ls, hls⟩ : ∃ ls, op :: l = ls := ⟨_, rfl⟩
  have HLS := Lib.hid hls
  have hx0 := hxx 0 op rfl
  rw [hls] at hx hl hxx hA
  have HG := Lib.hid hG
  have HX := Lib.hid hx
  have HL9 := Lib.hid (show ls.length ≤ 100 from by omega)
  have HX0 := Lib.hid hx0
  have HH0 := Lib.hid h0
  clear hG hx hl hxx hls hxa hx0 h0
  go_enter Tryd.func7, Tryd.ntmps7
  go_wp2_with fail
  refine (chain_ok (some ⟨b, o, none⟩) n c ls cd w HX.out hn h1 HH0.out).mono ?_
  rintro r v ⟨e, rfl, hf, hb⟩
  have hf2 := hf
  rw [← HLS.out] at hf2
  obtain ⟨q, e', rfl, hq, -⟩ := hf2
  have HF := Lib.hid hf
  have HQ := Lib.hid hq
  have HV := Lib.hid hb
  have HGV := Lib.hid (HG.out.ext hb)
  have HXV := Lib.hid (HX.out.ext hb)
  have hz := run_fault_nil (.pointer (some ⟨q, 0, none⟩))
  have hme := mErrF
  clear hf hq hb
  go_wp2_with fail
  refine (faultCode_hit ls cd _ v (HGV.out.ext (Below.refl v.heap.size v)) (HF.out.ext (Below.refl v.heap.size v)) HL9.out).mono ?_
  rintro r w1 ⟨rfl, hb⟩
  have HB1 := Lib.hid (ext_trans (Below.refl v.heap.size v) hb)
  clear hb
  go_wp2_with fail
  refine (faultPath ls (.iface 23 (.int .i64 cd)) _ w1 (HGV.out.ext HB1.out) (HF.out.ext HB1.out) (.no cd) HL9.out).mono ?_
  rintro r w2 ⟨pv, rfl, ho, hb⟩
  have HB2 := Lib.hid (ext_trans HB1.out hb)
  clear hb
  have HP := Lib.hid (OwnT.tx ho)
  clear ho
  go_wp2_with fail
  refine (sameTexts pv (.slice (some ⟨b, o, none⟩) n c) ls w2 HP.out (HXV.out.ext HB2.out)).mono ?_
  rintro r w3 ⟨rfl, hb⟩
  have HB3 := Lib.hid (ext_trans HB2.out hb)
  clear hb
  go_wp2_with fail
  refine (faultError ls (.iface 23 (.int .i64 cd)) (errT cd) A q w3 (HGV.out.ext HB3.out) (HF.out.ext HB3.out) (.no cd) HL9.out hA hs (fun w' _ => faultWordsE cd w' hc)).mono ?_
  rintro r w4 ⟨rfl, hb⟩
  have HB4 := Lib.hid (ext_trans HB3.out hb)
  clear hb
  go_wp2_with fail
  refine (lawText (some ⟨b, o, none⟩) n c ls cd A w4 (HXV.out.ext HB4.out) hc hn hA hs).mono ?_
  rintro r w5 ⟨rfl, hb⟩
  have HB5 := Lib.hid (ext_trans HB4.out hb)
  clear hb
  have DU := Lib.hid (show Below v.heap.size v ((w5.alloc (.cells #[.pointer none] 29)).alloc (.cells #[.int .i64 0] 23)) from (HB5.out.alloc HB5.out.size _).alloc (by have := HB5.out.size; simp; omega) _)
  have HT1 := Lib.hid (blk_alloc (blk_new w5 #[.pointer none] 29) (.cells #[.int .i64 0] 23))
  have HT2 := Lib.hid (blk_new (w5.alloc (.cells #[.pointer none] 29)) #[.int .i64 0] 23)
  go_wp2_with fail
  obtain ⟨t1, ht1⟩ : ∃ t1, w5.heap.size = t1 := ⟨_, rfl⟩
  have ht2 : (w5.alloc (.cells #[.pointer none] 29)).heap.size = t1 + 1 := by simp [ht1]
  have hvt : v.heap.size ≤ t1 := by rw [← ht1]; exact HB5.out.size
  rw [ht1] at HT1
  rw [ht2] at HT2
  try rw [ht1]
  generalize ((w5.alloc (.cells #[.pointer none] 29)).alloc (.cells #[.int .i64 0] 23)) = u1 at *
  have hc00 : wrap64 (cd + 1) = D := HDD.out
  haveI hI0 : Nonempty (In (fun _ : World => True)) := ⟨⟨u1, trivial⟩⟩
  refine Hist.wp_region_hist (fun _ => True) (by kernel_rfl) (by kernel_rfl) (by kernel_rfl) trivial ?_
  have DX := Lib.hid DU.out.drew
  have HT1 := Lib.hid (blk_drew HT1.out)
  have HT2 := Lib.hid (blk_drew HT2.out)
  generalize u1.drew = x0 at *
  repeat (first | (refine Hist.wpG_plain 0 _ (by decide +kernel) rfl (by rfl) (by rfl) (fun K hK => ?_); go_big_quiet_op; refine hK _ ?_; clear hK K))
  refine Hist.wpG_call (by rfl) (by rfl) (fun K hK => ?_)
  go_big_op
  refine (errAsF_fault ⟨q, 0, none⟩ t1 _ x0 (HGV.out.ext DX.out) HT1.out).mono ?_
  rintro r u2 ⟨rfl, u3, hb3, hk3, rfl⟩
  have HT1b := Lib.hid (blk_set (n := 0) (u := .pointer (some ⟨q, 0, none⟩)) (vs' := #[.pointer (some ⟨q, 0, none⟩)]) (hk3.trans HT1.out) (by simp))
  have HT2b := Lib.hid (blk_set_other (b := t1 + 1) (b' := t1) (n := 0) (u := .pointer (some ⟨q, 0, none⟩)) (by omega) (blk_ext hb3 HT2.out))
  have DU2 := Lib.hid ((ext_trans DX.out hb3).setCell (p := ⟨t1, 0, none⟩) (by show v.heap.size ≤ t1; omega) (.pointer (some ⟨q, 0, none⟩)))
  clear hb3 hk3
  generalize (u3.setCell ⟨t1, 0, none⟩ (.pointer (some ⟨q, 0, none⟩))) = u4 at *
  have HS1 := Lib.hid (show (fun W : World => W.heap[t1]? = some (.cells #[.pointer (some ⟨q, 0, none⟩)] 29 (0, 0)) ∧ W.heap[q]? = some (.cells #[.string op, e'] 31 (0, 0)) ∧ W.cell? ⟨b, o, none⟩ = some (.string op)) u4 from ⟨HT1b.out, blk_ext DU2.out HQ.out, by simpa using ext_cell (ext_trans HV.out DU2.out) HX0.out⟩)
  haveI hI1 : Nonempty (In (fun W : World => W.heap[t1]? = some (.cells #[.pointer (some ⟨q, 0, none⟩)] 29 (0, 0)) ∧ W.heap[q]? = some (.cells #[.string op, e'] 31 (0, 0)) ∧ W.cell? ⟨b, o, none⟩ = some (.string op))) := ⟨⟨u4, HS1.out⟩⟩
  have hA1 : ∀ g : In (fun W : World => W.heap[t1]? = some (.cells #[.pointer (some ⟨q, 0, none⟩)] 29 (0, 0)) ∧ W.heap[q]? = some (.cells #[.string op, e'] 31 (0, 0)) ∧ W.cell? ⟨b, o, none⟩ = some (.string op)), g.w.cell? ⟨t1, 0, none⟩ = some (.pointer (some ⟨q, 0, none⟩)) := fun g => blk_cell g.h.1 0
  have hA2 : ∀ g : In (fun W : World => W.heap[t1]? = some (.cells #[.pointer (some ⟨q, 0, none⟩)] 29 (0, 0)) ∧ W.heap[q]? = some (.cells #[.string op, e'] 31 (0, 0)) ∧ W.cell? ⟨b, o, none⟩ = some (.string op)), g.w.cell? ⟨q, 0, none⟩ = some (.string op) := fun g => blk_cell g.h.2.1 0
  have hA3 : ∀ g : In (fun W : World => W.heap[t1]? = some (.cells #[.pointer (some ⟨q, 0, none⟩)] 29 (0, 0)) ∧ W.heap[q]? = some (.cells #[.string op, e'] 31 (0, 0)) ∧ W.cell? ⟨b, o, none⟩ = some (.string op)), g.w.cell? ⟨b, o, none⟩ = some (.string op) := fun g => g.h.2.2
  have hA4 : ∀ g : In (fun W : World => W.heap[t1]? = some (.cells #[.pointer (some ⟨q, 0, none⟩)] 29 (0, 0)) ∧ W.heap[q]? = some (.cells #[.string op, e'] 31 (0, 0)) ∧ W.cell? ⟨b, o, none⟩ = some (.string op)), t1 < g.w.heap.size := fun g => blk_lt g.h.1
  have hA5 : ∀ g : In (fun W : World => W.heap[t1]? = some (.cells #[.pointer (some ⟨q, 0, none⟩)] 29 (0, 0)) ∧ W.heap[q]? = some (.cells #[.string op, e'] 31 (0, 0)) ∧ W.cell? ⟨b, o, none⟩ = some (.string op)), q < g.w.heap.size := fun g => blk_lt g.h.2.1
  have hA6 : ∀ g : In (fun W : World => W.heap[t1]? = some (.cells #[.pointer (some ⟨q, 0, none⟩)] 29 (0, 0)) ∧ W.heap[q]? = some (.cells #[.string op, e'] 31 (0, 0)) ∧ W.cell? ⟨b, o, none⟩ = some (.string op)), b < g.w.heap.size := fun g => cell_lt g.h.2.2
  refine hK _ _ ⟨(fun W : World => W.heap[t1]? = some (.cells #[.pointer (some ⟨q, 0, none⟩)] 29 (0, 0)) ∧ W.heap[q]? = some (.cells #[.string op, e'] 31 (0, 0)) ∧ W.cell? ⟨b, o, none⟩ = some (.string op)), (by simp only [List.cons_append, List.nil_append, List.forall_mem_cons]; repeat' (first | exact HS1.out | (intro _ h; cases h; done) | (exact trivial) | constructor)), ?_⟩
  clear hK K
  repeat (first | (refine Hist.wpG_plain 1 _ (by decide +kernel) rfl (by rfl) (by rfl) (fun K hK => ?_); go_big_quiet_op; refine hK _ ?_; clear hK K) | (refine Hist.wpG_plain 0 _ (by decide +kernel) rfl (by rfl) (by rfl) (fun K hK => ?_); go_big_quiet_op; refine hK _ ?_; clear hK K))
  refine Hist.wpG_call (by rfl) (by rfl) (fun K hK => ?_)
  go_big_op
  refine (errAsE_hit ls cd _ (t1 + 1) _ u4 (HGV.out.ext DU2.out) HT2b.out (HF.out.ext DU2.out)).mono ?_
  rintro r u5 ⟨rfl, u6, hb6, hk6, rfl⟩
  have HT2c := Lib.hid (blk_set (n := 0) (u := .int .i64 cd) (vs' := #[.int .i64 cd]) (hk6.trans HT2b.out) (by simp))
  have HT1c := Lib.hid (blk_set_other (b := t1) (b' := t1 + 1) (n := 0) (u := .int .i64 cd) (by omega) (blk_ext hb6 HT1b.out))
  have DU3 := Lib.hid ((ext_trans DU2.out hb6).setCell (p := ⟨t1 + 1, 0, none⟩) (by show v.heap.size ≤ t1 + 1; omega) (.int .i64 cd))
  clear hb6 hk6
  generalize (u6.setCell ⟨t1 + 1, 0, none⟩ (.int .i64 cd)) = u7 at *
  have HS17 := Lib.hid (show (fun W : World => W.heap[t1]? = some (.cells #[.pointer (some ⟨q, 0, none⟩)] 29 (0, 0)) ∧ W.heap[q]? = some (.cells #[.string op, e'] 31 (0, 0)) ∧ W.cell? ⟨b, o, none⟩ = some (.string op)) u7 from ⟨HT1c.out, blk_ext DU3.out HQ.out, by simpa using ext_cell (ext_trans HV.out DU3.out) HX0.out⟩)
  have HS2 := Lib.hid (show (fun W : World => W.heap[t1 + 1]? = some (.cells #[.int .i64 cd] 23 (0, 0))) u7 from HT2c.out)
  haveI hI2 : Nonempty (In (fun W : World => W.heap[t1 + 1]? = some (.cells #[.int .i64 cd] 23 (0, 0)))) := ⟨⟨u7, HS2.out⟩⟩
  have hA7 : ∀ g : In (fun W : World => W.heap[t1 + 1]? = some (.cells #[.int .i64 cd] 23 (0, 0))), g.w.cell? ⟨t1 + 1, 0, none⟩ = some (.int .i64 cd) := fun g => blk_cell g.h 0
  have hA8 : ∀ g : In (fun W : World => W.heap[t1 + 1]? = some (.cells #[.int .i64 cd] 23 (0, 0))), t1 + 1 < g.w.heap.size := fun g => blk_lt g.h
  refine hK _ _ ⟨(fun W : World => W.heap[t1 + 1]? = some (.cells #[.int .i64 cd] 23 (0, 0))), (by simp only [List.cons_append, List.nil_append, List.forall_mem_cons]; repeat' (first | exact HS17.out | exact HS2.out | (intro _ h; cases h; done) | (exact trivial) | constructor)), ?_⟩
  clear hK K
  repeat (first | (refine Hist.wpG_plain 2 _ (by decide +kernel) rfl (by rfl) (by rfl) (fun K hK => ?_); go_big_quiet_op; refine hK _ ?_; clear hK K) | (refine Hist.wpG_plain 1 _ (by decide +kernel) rfl (by rfl) (by rfl) (fun K hK => ?_); go_big_quiet_op; refine hK _ ?_; clear hK K) | (refine Hist.wpG_plain 0 _ (by decide +kernel) rfl (by rfl) (by rfl) (fun K hK => ?_); go_big_quiet_op; refine hK _ ?_; clear hK K))
  refine Hist.wpG_call (by rfl) (by rfl) (fun K hK => ?_)
  go_big_op
  refine (errIsE cd true ls (.iface 23 (.int .i64 cd)) _ u7 (HF.out.ext DU3.out) (.no cd) (.inl ⟨cd, rfl, by simp⟩)).mono ?_
  rintro r u8 ⟨rfl, hu8⟩
  obtain rfl := hu8.symm
  refine hK _ _ ⟨(fun _ : World => True), (by simp only [List.cons_append, List.nil_append, List.forall_mem_cons]; repeat' (first | exact HS17.out | exact HS2.out | (intro _ h; cases h; done) | (exact trivial) | constructor)), ?_⟩
  clear hK K
  repeat (first | (refine Hist.wpG_plain 3 _ (by decide +kernel) rfl (by rfl) (by rfl) (fun K hK => ?_); go_big_quiet_op; refine hK _ ?_; clear hK K) | (refine Hist.wpG_plain 2 _ (by decide +kernel) rfl (by rfl) (by rfl) (fun K hK => ?_); go_big_quiet_op; refine hK _ ?_; clear hK K) | (refine Hist.wpG_plain 1 _ (by decide +kernel) rfl (by rfl) (by rfl) (fun K hK => ?_); go_big_quiet_op; refine hK _ ?_; clear hK K) | (refine Hist.wpG_plain 0 _ (by decide +kernel) rfl (by rfl) (by rfl) (fun K hK => ?_); go_big_quiet_op; refine hK _ ?_; clear hK K))
  refine Hist.wpG_call (by rfl) (by rfl) (fun K hK => ?_)
  go_big_op
  refine (errIsE D false ls (.iface 23 (.int .i64 cd)) _ u7 (HF.out.ext DU3.out) (.no cd) (.inl ⟨cd, rfl, HNE.out⟩)).mono ?_
  rintro r u8 ⟨rfl, hu8⟩
  obtain rfl := hu8.symm
  refine hK _ _ ⟨(fun _ : World => True), (by simp only [List.cons_append, List.nil_append, List.forall_mem_cons]; repeat' (first | exact HS17.out | exact HS2.out | (intro _ h; cases h; done) | (exact trivial) | constructor)), ?_⟩
  clear hK K
  repeat (first | (refine Hist.wpG_plain 4 _ (by decide +kernel) rfl (by rfl) (by rfl) (fun K hK => ?_); go_big_quiet_op; refine hK _ ?_; clear hK K) | (refine Hist.wpG_plain 3 _ (by decide +kernel) rfl (by rfl) (by rfl) (fun K hK => ?_); go_big_quiet_op; refine hK _ ?_; clear hK K) | (refine Hist.wpG_plain 2 _ (by decide +kernel) rfl (by rfl) (by rfl) (fun K hK => ?_); go_big_quiet_op; refine hK _ ?_; clear hK K) | (refine Hist.wpG_plain 1 _ (by decide +kernel) rfl (by rfl) (by rfl) (fun K hK => ?_); go_big_quiet_op; refine hK _ ?_; clear hK K) | (refine Hist.wpG_plain 0 _ (by decide +kernel) rfl (by rfl) (by rfl) (fun K hK => ?_); go_big_quiet_op; refine hK _ ?_; clear hK K))
  refine Hist.wpG_call (by rfl) (by rfl) (fun K hK => ?_)
  go_big_op
  refine (faultHas cd true ls (.iface 23 (.int .i64 cd)) _ u7 (HF.out.ext DU3.out) (.no cd) HL9.out (.inl ⟨cd, rfl, by simp⟩)).mono ?_
  rintro r u8 ⟨rfl, hb8⟩
  have HS18 := Lib.hid (show (fun W : World => W.heap[t1]? = some (.cells #[.pointer (some ⟨q, 0, none⟩)] 29 (0, 0)) ∧ W.heap[q]? = some (.cells #[.string op, e'] 31 (0, 0)) ∧ W.cell? ⟨b, o, none⟩ = some (.string op)) u8 from ⟨blk_ext hb8 HT1c.out, blk_ext (ext_trans DU3.out hb8) HQ.out, by simpa using ext_cell (ext_trans HV.out (ext_trans DU3.out hb8)) HX0.out⟩)
  have HS28 := Lib.hid (show (fun W : World => W.heap[t1 + 1]? = some (.cells #[.int .i64 cd] 23 (0, 0))) u8 from blk_ext hb8 HT2c.out)
  have DU8 := Lib.hid (ext_trans DU3.out hb8)
  clear hb8
  refine hK _ _ ⟨(fun _ : World => True), (by simp only [List.cons_append, List.nil_append, List.forall_mem_cons]; repeat' (first | exact HS18.out | exact HS28.out | (intro _ h; cases h; done) | (exact trivial) | constructor)), ?_⟩
  clear hK K
  repeat (first | (refine Hist.wpG_plain 5 _ (by decide +kernel) rfl (by rfl) (by rfl) (fun K hK => ?_); go_big_quiet_op; refine hK _ ?_; clear hK K) | (refine Hist.wpG_plain 4 _ (by decide +kernel) rfl (by rfl) (by rfl) (fun K hK => ?_); go_big_quiet_op; refine hK _ ?_; clear hK K) | (refine Hist.wpG_plain 3 _ (by decide +kernel) rfl (by rfl) (by rfl) (fun K hK => ?_); go_big_quiet_op; refine hK _ ?_; clear hK K) | (refine Hist.wpG_plain 2 _ (by decide +kernel) rfl (by rfl) (by rfl) (fun K hK => ?_); go_big_quiet_op; refine hK _ ?_; clear hK K) | (refine Hist.wpG_plain 1 _ (by decide +kernel) rfl (by rfl) (by rfl) (fun K hK => ?_); go_big_quiet_op; refine hK _ ?_; clear hK K) | (refine Hist.wpG_plain 0 _ (by decide +kernel) rfl (by rfl) (by rfl) (fun K hK => ?_); go_big_quiet_op; refine hK _ ?_; clear hK K))
  refine Hist.wpG_call (by rfl) (by rfl) (fun K hK => ?_)
  go_big_op
  refine (faultHas D false ls (.iface 23 (.int .i64 cd)) _ u8 (HF.out.ext DU8.out) (.no cd) HL9.out (.inl ⟨cd, rfl, HNE.out⟩)).mono ?_
  rintro r u9 ⟨rfl, hb9⟩
  have HS19 := Lib.hid (show (fun W : World => W.heap[t1]? = some (.cells #[.pointer (some ⟨q, 0, none⟩)] 29 (0, 0)) ∧ W.heap[q]? = some (.cells #[.string op, e'] 31 (0, 0)) ∧ W.cell? ⟨b, o, none⟩ = some (.string op)) u9 from ⟨blk_ext hb9 (blk_ext (Below.refl _ _) HS18.out.1), blk_ext hb9 HS18.out.2.1, ext_cell hb9 HS18.out.2.2⟩)
  have HS29 := Lib.hid (show (fun W : World => W.heap[t1 + 1]? = some (.cells #[.int .i64 cd] 23 (0, 0))) u9 from blk_ext hb9 HS28.out)
  have DU9 := Lib.hid (ext_trans DU8.out hb9)
  clear hb9
  refine hK _ _ ⟨(fun _ : World => True), (by simp only [List.cons_append, List.nil_append, List.forall_mem_cons]; repeat' (first | exact HS19.out | exact HS29.out | (intro _ h; cases h; done) | (exact trivial) | constructor)), ?_⟩
  clear hK K
  repeat (first | (refine Hist.wpG_plain 6 _ (by decide +kernel) rfl (by rfl) (by rfl) (fun K hK => ?_); go_big_quiet_op; refine hK _ ?_; clear hK K) | (refine Hist.wpG_plain 5 _ (by decide +kernel) rfl (by rfl) (by rfl) (fun K hK => ?_); go_big_quiet_op; refine hK _ ?_; clear hK K) | (refine Hist.wpG_plain 4 _ (by decide +kernel) rfl (by rfl) (by rfl) (fun K hK => ?_); go_big_quiet_op; refine hK _ ?_; clear hK K) | (refine Hist.wpG_plain 3 _ (by decide +kernel) rfl (by rfl) (by rfl) (fun K hK => ?_); go_big_quiet_op; refine hK _ ?_; clear hK K) | (refine Hist.wpG_plain 2 _ (by decide +kernel) rfl (by rfl) (by rfl) (fun K hK => ?_); go_big_quiet_op; refine hK _ ?_; clear hK K) | (refine Hist.wpG_plain 1 _ (by decide +kernel) rfl (by rfl) (by rfl) (fun K hK => ?_); go_big_quiet_op; refine hK _ ?_; clear hK K) | (refine Hist.wpG_plain 0 _ (by decide +kernel) rfl (by rfl) (by rfl) (fun K hK => ?_); go_big_quiet_op; refine hK _ ?_; clear hK K))
  refine Hist.wpG_nil ?_
  clear hI0 hI1 hI2 hA1 hA2 hA3 hA4 hA5 hA6 hA7 hA8
  go_wp2
  go_ret
  exact ⟨rfl, ext_trans HV.out DU9.out⟩

/-- the law's same answers true -/
theorem lawSame (a : Option Addr) (n c : Nat) (ls : List ByteArray) (cd : Int) (w : World) (hG : EG w) (hx : TxAt w (.slice a n c) ls) (hc : (Lit.int .i64 cd).wf = true) (hn : n ≤ 90) (hs : (fT ls (errT cd)).size ≤ 8000000) :
    Calls Tryd.prog 7 #[.slice a n c, .int .i64 cd] w fun r w' => r = .returned (.bool true) ∧ Below w.heap.size w w' := by
  by_cases h1 : n = 0
  · subst h1
    exact same_empty a c cd w hG
  · by_cases h0 : cd = 0
    · subst h0
      exact same_zero a n c ls w hG hx hn (by omega)
    · exact same_full a n c ls cd _ w hG hx hc hn (by omega) h0 rfl hs
end Go.Proofs.YtllmkokloebomaaDoor
