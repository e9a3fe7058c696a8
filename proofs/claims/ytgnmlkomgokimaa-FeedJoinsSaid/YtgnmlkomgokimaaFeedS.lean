/- Feeds: the document's Full; two messages are the same. -/
import Derived.Test.YtgnmlkomgokimaaFeedF
import Derived.Test.YtgnmlkomgokimaaBd
import Derived.Test.YtgnmlkomgokimaaRecentF
namespace Go.Proofs.Ytgnmlkomgokimaa
open Go.RowKit
set_option linter.unusedVariables false
set_option linter.unusedSimpArgs false

set_option maxRecDepth 100000 in
set_option maxHeartbeats 2000000 in
theorem msgSame (full : Bool) (q s : Int) (cs : List Cd) (a1 a2 : Option Addr) (n c1 c2 : Nat) (w : World) (h1 : CAt w a1 cs) (h2 : CAt w a2 cs) (hl : cs.length = n) (hc1 : n ≤ c1) (hc2 : n ≤ c2) (hm1 : c1 ≤ maxLen) (hm2 : c2 ≤ maxLen) :
    Calls Try.prog 21 #[.agg #[.int .i64 2, .int .i64 5, .int .i64 0, .int .i64 0, .int .i64 0, .int .i64 0, .int .i64 q, .string ⟨#[]⟩, .string ⟨#[]⟩, .bool full, .int .u32 s, .slice a1 n c1, .slice none 0 0], .agg #[.int .i64 2, .int .i64 5, .int .i64 0, .int .i64 0, .int .i64 0, .int .i64 0, .int .i64 q, .string ⟨#[]⟩, .string ⟨#[]⟩, .bool full, .int .u32 s, .slice a2 n c2, .slice none 0 0]] w fun r w' => r = .returned (.bool true) ∧ Below w.heap.size w w' := by
  have D0 : Below w.heap.size w ((w.alloc (.cells #[.int .i64 2, .int .i64 5, .int .i64 0, .int .i64 0, .int .i64 0, .int .i64 0, .int .i64 q, .string ⟨#[]⟩, .string ⟨#[]⟩, .bool full, .int .u32 s, .slice a1 n c1, .slice none 0 0] 38)).alloc (.cells #[.int .i64 2, .int .i64 5, .int .i64 0, .int .i64 0, .int .i64 0, .int .i64 0, .int .i64 q, .string ⟨#[]⟩, .string ⟨#[]⟩, .bool full, .int .u32 s, .slice a2 n c2, .slice none 0 0] 38)) := ((Below.refl _ _).alloc (Nat.le_refl _) _).alloc (by simp) _
  have HK := Lib.hid (blk_alloc (blk_new w #[.int .i64 2, .int .i64 5, .int .i64 0, .int .i64 0, .int .i64 0, .int .i64 0, .int .i64 q, .string ⟨#[]⟩, .string ⟨#[]⟩, .bool full, .int .u32 s, .slice a1 n c1, .slice none 0 0] 38) (.cells #[.int .i64 2, .int .i64 5, .int .i64 0, .int .i64 0, .int .i64 0, .int .i64 0, .int .i64 q, .string ⟨#[]⟩, .string ⟨#[]⟩, .bool full, .int .u32 s, .slice a2 n c2, .slice none 0 0] 38))
  have HR := Lib.hid (show ((w.alloc (.cells #[.int .i64 2, .int .i64 5, .int .i64 0, .int .i64 0, .int .i64 0, .int .i64 0, .int .i64 q, .string ⟨#[]⟩, .string ⟨#[]⟩, .bool full, .int .u32 s, .slice a1 n c1, .slice none 0 0] 38)).alloc (.cells #[.int .i64 2, .int .i64 5, .int .i64 0, .int .i64 0, .int .i64 0, .int .i64 0, .int .i64 q, .string ⟨#[]⟩, .string ⟨#[]⟩, .bool full, .int .u32 s, .slice a2 n c2, .slice none 0 0] 38)).heap[w.heap.size + 1]? = some (.cells #[.int .i64 2, .int .i64 5, .int .i64 0, .int .i64 0, .int .i64 0, .int .i64 0, .int .i64 q, .string ⟨#[]⟩, .string ⟨#[]⟩, .bool full, .int .u32 s, .slice a2 n c2, .slice none 0 0] 38 (0, 0)) from blk_new_at (by simp) _ _)
  have HC1 := Lib.hid (h1.ext D0)
  have HC2 := Lib.hid (h2.ext D0)
  have HB0 := Lib.hid D0
  have HL := Lib.hid hl
  clear h1 h2 D0 hl
  go_enter Try.func21, Try.ntmps21
  go_upto_region 1 with (fail)
  obtain ⟨p, hp⟩ : ∃ p, w.heap.size = p := ⟨_, rfl⟩
  obtain ⟨r, hr⟩ : ∃ r, w.heap.size + 1 = r := ⟨_, rfl⟩
  rw [hp] at HK
  rw [hr] at HR
  try rw [hr]
  try rw [hp]
  clear hr hp
  generalize ((w.alloc (.cells #[.int .i64 2, .int .i64 5, .int .i64 0, .int .i64 0, .int .i64 0, .int .i64 0, .int .i64 q, .string ⟨#[]⟩, .string ⟨#[]⟩, .bool full, .int .u32 s, .slice a1 n c1, .slice none 0 0] 38)).alloc (.cells #[.int .i64 2, .int .i64 5, .int .i64 0, .int .i64 0, .int .i64 0, .int .i64 0, .int .i64 q, .string ⟨#[]⟩, .string ⟨#[]⟩, .bool full, .int .u32 s, .slice a2 n c2, .slice none 0 0] 38)) = w2 at *
  have hk1 := blk_cell HK.out
  have hl1 := blk_lt HK.out
  have hk2 := blk_cell HR.out
  have hl2 := blk_lt HR.out
  go_wp2_with fail
  refine (same5 a1 a2 n c1 c2 cs _ HC1.out HC2.out HL.out hc1 hc2 hm1 hm2).mono ?_
  rintro e w3 ⟨rfl, hb⟩
  have HK3 := Lib.hid (blk_ext hb HK.out)
  have HR3 := Lib.hid (blk_ext hb HR.out)
  have HB3 := Lib.hid (ext_trans HB0.out hb)
  clear hk1 hl1 hk2 hl2 HK HR HB0 hb HC1 HC2
  have hk1 := blk_cell HK3.out
  have hl1 := blk_lt HK3.out
  have hk2 := blk_cell HR3.out
  have hl2 := blk_lt HR3.out
  go_wp2_with fail
  refine (refKeys none none 0 0 [] _ (.inl rfl) (.inl rfl) (by simp)).mono ?_
  rintro e w4 ⟨rfl, hb⟩
  have HB4 := Lib.hid (ext_trans HB3.out hb)
  clear hk1 hl1 hk2 hl2 HK3 HR3 HB3 hb
  go_wp2
  go_ret
  exact ⟨rfl, HB4.out⟩

set_option maxRecDepth 100000 in
set_option maxHeartbeats 2000000 in
theorem refFull16 (wb xb : Nat) (most : Int) (es : List En) (ks : List Ky) (w : World) (h : RShP w wb most es) (h2 : RefAt w xb ks) (hn : es.length ≤ 20) (hc : ∀ x ∈ es, CdS x.c) :
    Calls Try.prog 22 #[.pointer (some ⟨wb, 0, none⟩), .pointer (some ⟨xb, 0, none⟩)] w fun r w' => FdP true (ks.length : Int) (sm (sealB (es.map (·.c)))) (seenL (es.map (·.c))) w r w' := by
  have D0 : Below w.heap.size w (w.alloc (.cells #[.int .i64 0, .int .i64 0, .int .i64 0, .int .i64 0, .int .i64 0, .int .i64 0, .int .i64 0, .string ⟨#[]⟩, .string ⟨#[]⟩, .bool false, .int .u32 0, .slice none 0 0, .slice none 0 0] 38)) := (Below.refl _ _).alloc (Nat.le_refl _) _
  have HX := Lib.hid (blk_new w #[.int .i64 0, .int .i64 0, .int .i64 0, .int .i64 0, .int .i64 0, .int .i64 0, .int .i64 0, .string ⟨#[]⟩, .string ⟨#[]⟩, .bool false, .int .u32 0, .slice none 0 0, .slice none 0 0] 38)
  obtain ⟨xa, xc, g1, -⟩ := h2
  obtain ⟨xn, hxn⟩ : ∃ xn, ks.length = xn := ⟨_, rfl⟩
  rw [hxn] at g1
  have HXN := Lib.hid hxn
  obtain ⟨ne, hne0⟩ : ∃ ne, es.length = ne := ⟨_, rfl⟩
  have HLM := Lib.hid (show (es.map (·.c)).length = ne from by rw [List.length_map]; exact hne0)
  have hne : ne ≤ 20 := by omega
  have HNE := Lib.hid hne0
  rw [HXN.out]
  have HW := Lib.hid (h.ext D0)
  have HG := Lib.hid (blk_ext D0 g1)
  have HB := Lib.hid D0
  have HCS := Lib.hid (show ∀ x ∈ (es.map (·.c)), CdS x from fun x hx => by obtain ⟨e, he, rfl⟩ := List.mem_map.1 hx; exact hc e he)

  obtain ⟨S, hS⟩ : ∃ S, sm (sealB (es.map (·.c))) = S := ⟨_, rfl⟩
  have HSS := Lib.hid hS
  rw [hS]
  clear h g1 D0 hc hS hxn hne0
  go_enter Try.func22, Try.ntmps22
  go_upto_region 1 with (fail)
  obtain ⟨r, hr⟩ : ∃ r, w.heap.size = r := ⟨_, rfl⟩
  rw [hr] at HX
  try rw [hr]
  have HRr := Lib.hid (show w.heap.size ≤ r by omega)
  clear hr
  generalize (w.alloc (.cells #[.int .i64 0, .int .i64 0, .int .i64 0, .int .i64 0, .int .i64 0, .int .i64 0, .int .i64 0, .string ⟨#[]⟩, .string ⟨#[]⟩, .bool false, .int .u32 0, .slice none 0 0, .slice none 0 0] 38)) = w0 at *
  have HB0 := Lib.hid (ext_trans HB.out ((Below.refl w0.heap.size w0).drew))
  have HW0 := Lib.hid (HW.out.ext ((Below.refl w0.heap.size w0).drew))
  have HG0 := Lib.hid (blk_ext ((Below.refl w0.heap.size w0).drew) HG.out)
  have HX0 := Lib.hid (blk_ext ((Below.refl w0.heap.size w0).drew) HX.out)
  haveI hI0 : Nonempty (In (fun W : World => W.heap[xb]? = some (.cells #[.slice xa xn xc] 70 (0, 0)))) := ⟨⟨_, HG0.out⟩⟩
  have hF1 : ∀ g : In (fun W : World => W.heap[xb]? = some (.cells #[.slice xa xn xc] 70 (0, 0))), g.w.cell? ⟨xb, 0, none⟩ = some (.slice xa xn xc) := fun g => by rw [blk_cell g.h]; rfl
  have hF2 : ∀ g : In (fun W : World => W.heap[xb]? = some (.cells #[.slice xa xn xc] 70 (0, 0))), xb < g.w.heap.size := fun g => blk_lt g.h
  refine wp_region_split 12 1 11 rfl rfl (by kernel_rfl) (by kernel_rfl) (by kernel_rfl) (by kernel_rfl) (by kernel_rfl) ?_
  simp only [List.take_succ_cons, List.take_zero]
  refine wpAny_hist (fun W : World => W.heap[xb]? = some (.cells #[.slice xa xn xc] 70 (0, 0))) (by kernel_rfl) (by kernel_rfl) HG0.out ?_
  clear HB HW HG HX
  generalize w0.drew = x0 at *
  repeat (first | (refine Hist.wpG_plain 0 _ (by decide +kernel) rfl (by rfl) (by rfl) (fun K hK => ?_); go_big_quiet_op; refine hK _ ?_; clear hK K))
  refine Hist.wpG_call (by rfl) (by rfl) (fun K hK => ?_)
  go_big_op
  refine (rshCards wb most es x0 HW0.out (by omega)).mono ?_
  rintro e x1 ⟨v1, rfl, ho, hb⟩
  obtain ⟨a1, c1, rfl, hc1, hm1, hat1, -, -⟩ := ho.read
  rw [HLM.out] at hc1 ⊢
  have HC1 := Lib.hid hat1
  have HW1 := Lib.hid (HW0.out.ext hb)
  have HG1 := Lib.hid (blk_ext hb HG0.out)
  have HB1 := Lib.hid (ext_trans HB0.out hb)
  have HX1 := Lib.hid (blk_ext hb HX0.out)
  refine hK _ _ ⟨(fun W : World => W.heap[xb]? = some (.cells #[.slice xa xn xc] 70 (0, 0))), (by simp only [List.cons_append, List.nil_append, List.forall_mem_cons]; repeat' (first | exact HG1.out | (intro _ h; cases h; done) | (exact trivial) | constructor)), ?_⟩
  clear hK K ho hb hat1
  clear HW0 HG0 HB0 HX0
  repeat (first | (refine Hist.wpG_plain 1 _ (by decide +kernel) rfl (by rfl) (by rfl) (fun K hK => ?_); go_big_quiet_op; refine hK _ ?_; clear hK K) | (refine Hist.wpG_plain 0 _ (by decide +kernel) rfl (by rfl) (by rfl) (fun K hK => ?_); go_big_quiet_op; refine hK _ ?_; clear hK K))
  refine Hist.wpG_call (by rfl) (by rfl) (fun K hK => ?_)
  go_big_op
  refine (refSeal9 a1 ne c1 (es.map (·.c)) _ HC1.out HLM.out hne hc1 HCS.out).mono ?_
  rintro e x2 ⟨rfl, hb⟩
  rw [HSS.out]
  have HW2 := Lib.hid (HW1.out.ext hb)
  have HG2 := Lib.hid (blk_ext hb HG1.out)
  have HB2 := Lib.hid (ext_trans HB1.out hb)
  have HX2 := Lib.hid (blk_ext hb HX1.out)
  refine hK _ _ ⟨(fun W : World => W.heap[xb]? = some (.cells #[.slice xa xn xc] 70 (0, 0))), (by simp only [List.cons_append, List.nil_append, List.forall_mem_cons]; repeat' (first | exact HG2.out | (intro _ h; cases h; done) | (exact trivial) | constructor)), ?_⟩
  clear hK K hb
  clear HW1 HG1 HB1 HX1 HC1
  repeat (first | (refine Hist.wpG_plain 2 _ (by decide +kernel) rfl (by rfl) (by rfl) (fun K hK => ?_); go_big_quiet_op; refine hK _ ?_; clear hK K) | (refine Hist.wpG_plain 1 _ (by decide +kernel) rfl (by rfl) (by rfl) (fun K hK => ?_); go_big_quiet_op; refine hK _ ?_; clear hK K) | (refine Hist.wpG_plain 0 _ (by decide +kernel) rfl (by rfl) (by rfl) (fun K hK => ?_); go_big_quiet_op; refine hK _ ?_; clear hK K))
  refine Hist.wpG_call (by rfl) (by rfl) (fun K hK => ?_)
  go_big_op
  refine (rshCards wb most es x2 HW2.out (by omega)).mono ?_
  rintro e x3 ⟨v3, rfl, ho, hb⟩
  obtain ⟨a3, c3, rfl, hc3, hm3, hat3, -, -⟩ := ho.read
  rw [HLM.out] at hc3 ⊢
  have HC3 := Lib.hid hat3
  have HG3 := Lib.hid (blk_ext hb HG2.out)
  have HB3 := Lib.hid (ext_trans HB2.out hb)
  have HX3 := Lib.hid (blk_ext hb HX2.out)
  refine hK _ _ ⟨(fun W : World => W.heap[xb]? = some (.cells #[.slice xa xn xc] 70 (0, 0))), (by simp only [List.cons_append, List.nil_append, List.forall_mem_cons]; repeat' (first | exact HG3.out | (intro _ h; cases h; done) | (exact trivial) | constructor)), ?_⟩
  clear hK K ho hb hat3
  clear HW2 HG2 HB2 HX2
  repeat (first | (refine Hist.wpG_plain 3 _ (by decide +kernel) rfl (by rfl) (by rfl) (fun K hK => ?_); go_big_quiet_op; refine hK _ ?_; clear hK K) | (refine Hist.wpG_plain 2 _ (by decide +kernel) rfl (by rfl) (by rfl) (fun K hK => ?_); go_big_quiet_op; refine hK _ ?_; clear hK K) | (refine Hist.wpG_plain 1 _ (by decide +kernel) rfl (by rfl) (by rfl) (fun K hK => ?_); go_big_quiet_op; refine hK _ ?_; clear hK K) | (refine Hist.wpG_plain 0 _ (by decide +kernel) rfl (by rfl) (by rfl) (fun K hK => ?_); go_big_quiet_op; refine hK _ ?_; clear hK K))
  refine Hist.wpG_call (by rfl) (by rfl) (fun K hK => ?_)
  go_big_op
  refine (refSeen9 a3 ne c3 (es.map (·.c)) _ HC3.out HLM.out (by omega) hc3).mono ?_
  rintro e x4 ⟨v4, rfl, ho, hb⟩
  obtain ⟨va, vc, rfl, hvc, hvm, hvat, hvb, -⟩ := ho.read
  obtain ⟨k, hk⟩ : ∃ k, (seenL (es.map (·.c))).length = k := ⟨_, rfl⟩
  have HKL := Lib.hid hk
  rw [hk] at hvc ⊢
  clear hk
  have HV4 := Lib.hid hvat
  have HG4 := Lib.hid (blk_ext hb HG3.out)
  have HB4 := Lib.hid (ext_trans HB3.out hb)
  have HX4 := Lib.hid (blk_ext hb HX3.out)
  have hz3 := blk_lt HX3.out
  have HVB := Lib.hid (show ∀ b o, va = some ⟨b, o, none⟩ → b ≠ r from fun b o e => by have := (hvb b o e).1; omega)
  refine hK _ _ ⟨(fun W : World => W.heap[xb]? = some (.cells #[.slice xa xn xc] 70 (0, 0))), (by simp only [List.cons_append, List.nil_append, List.forall_mem_cons]; repeat' (first | exact HG4.out | (intro _ h; cases h; done) | (exact trivial) | constructor)), ?_⟩
  clear hK K ho hb hvat hvb hz3
  clear HG3 HB3 HX3 HC3
  repeat (first | (refine Hist.wpG_plain 4 _ (by decide +kernel) rfl (by rfl) (by rfl) (fun K hK => ?_); go_big_quiet_op; refine hK _ ?_; clear hK K) | (refine Hist.wpG_plain 3 _ (by decide +kernel) rfl (by rfl) (by rfl) (fun K hK => ?_); go_big_quiet_op; refine hK _ ?_; clear hK K) | (refine Hist.wpG_plain 2 _ (by decide +kernel) rfl (by rfl) (by rfl) (fun K hK => ?_); go_big_quiet_op; refine hK _ ?_; clear hK K) | (refine Hist.wpG_plain 1 _ (by decide +kernel) rfl (by rfl) (by rfl) (fun K hK => ?_); go_big_quiet_op; refine hK _ ?_; clear hK K) | (refine Hist.wpG_plain 0 _ (by decide +kernel) rfl (by rfl) (by rfl) (fun K hK => ?_); go_big_quiet_op; refine hK _ ?_; clear hK K))
  refine Hist.wpG_nil ?_

  have hk4 := blk_cell HX4.out
  have hf4 := blk_free HX4.out
  have hl4 := blk_lt HX4.out
  simp only [behind]
  refine wpAny_one 12 _ (by kernel_rfl) rfl ?_
  refine wpOp_do (by simp only [List.getElem?_toArray, List.getElem?_cons_succ, List.getElem?_cons_zero]; rfl) (by rfl) (fun K hK => ?_)
  go_big_op
  refine hK _ _ ?_
  clear hK K
  refine wpAny_end (by kernel_rfl) ?_
  clear hF1 hF2 hI0
  go_wp2_with fail
  refine bodyPost_ret (v := .agg #[.int .i64 2, .int .i64 5, .int .i64 0, .int .i64 0, .int .i64 0, .int .i64 0, .int .i64 (xn : Int), .string ⟨#[]⟩, .string ⟨#[]⟩, .bool true, .int .u32 S, .slice va k vc, .slice none 0 0]) (by have hk2 := blk_cell (blk_fill13 (v0 := .int .i64 2) (v1 := .int .i64 5) (v2 := .int .i64 0) (v3 := .int .i64 0) (v4 := .int .i64 0) (v5 := .int .i64 0) (v6 := .int .i64 (xn : Int)) (v7 := .string ⟨#[]⟩) (v8 := .string ⟨#[]⟩) (v9 := .bool true) (v10 := .int .u32 S) (v11 := .slice va k vc) (v12 := .slice none 0 0) HX4.out rfl); simp [results, Try.results22, go_sem, hk2]) rfl ?_
  exact ⟨va, k, vc, rfl, HKL.out, hvc, hvm, HV4.out.keep (fun b cur hc he => by
    obtain ⟨o, e⟩ := he
    exact (blk_over13 (HVB.out b o e) hc).trans hc.symm), below_fill13 HB4.out HRr.out⟩

end Go.Proofs.Ytgnmlkomgokimaa
