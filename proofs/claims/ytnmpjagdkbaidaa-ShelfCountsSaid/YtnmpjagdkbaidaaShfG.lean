/- Package shelf: Get. -/
import Derived.Test.YtnmpjagdkbaidaaShfD
namespace Go.Proofs.Ytnmpjagdkbaidaa
open Go.RowKit
set_option linter.unusedVariables false
set_option linter.unusedSimpArgs false

set_option maxRecDepth 100000 in
set_option maxHeartbeats 2000000 in
theorem shGetYes (sb : Nat) (most : Int) (es : List En) (k : Ky) (w : World) (h : ShP w sb most es) (x : En) (hs : Asc es) (hn : es.length ≤ 900) (hx : es[low k es]? = some x) (hin : isIn k es = true) :
    Calls Try.prog 21 #[.pointer (some ⟨sb, 0, none⟩), .agg #[.string k.1, .string k.2]] w fun r w' => r = .returned (.tuple #[.agg #[.string x.c.a, .string x.c.i, .int .i64 x.c.s, .int .i64 x.c.o, .int .i64 x.c.l, .int .i64 x.c.t, .int .i64 x.c.k, .int .i64 x.c.n, .bool x.c.g, .int .i64 x.seen], .bool true]) ∧ Below w.heap.size w w' := by
  obtain ⟨a, c, h1, h2, h3, h4, h5⟩ := h
  have H1 := Lib.hid h1
  have H2 := Lib.hid h2
  obtain ⟨n, hl⟩ : ∃ n, es.length = n := ⟨_, rfl⟩
  have HL := Lib.hid hl
  rw [hl] at h3 hn H1
  clear h1 h2 hl
  unfold maxLen at h4
  have E0 : Below w.heap.size w ((w.alloc (.cells #[.string k.1, .string k.2] 27)).alloc (.cells #[.string ⟨#[]⟩, .string ⟨#[]⟩, .int .i64 0, .int .i64 0, .int .i64 0, .int .i64 0, .int .i64 0, .int .i64 0, .bool false, .int .i64 0] 48)) := ((Below.refl _ _).alloc (Nat.le_refl _) _).alloc (by simp) _
  have HK := Lib.hid (show ((w.alloc (.cells #[.string k.1, .string k.2] 27)).alloc (.cells #[.string ⟨#[]⟩, .string ⟨#[]⟩, .int .i64 0, .int .i64 0, .int .i64 0, .int .i64 0, .int .i64 0, .int .i64 0, .bool false, .int .i64 0] 48)).heap[w.heap.size]? = some (.cells #[.string k.1, .string k.2] 27 (0, 0)) from blk_alloc (blk_new _ _ _) _)
  have HE := Lib.hid (show ((w.alloc (.cells #[.string k.1, .string k.2] 27)).alloc (.cells #[.string ⟨#[]⟩, .string ⟨#[]⟩, .int .i64 0, .int .i64 0, .int .i64 0, .int .i64 0, .int .i64 0, .int .i64 0, .bool false, .int .i64 0] 48)).heap[w.heap.size + 1]? = some (.cells #[.string ⟨#[]⟩, .string ⟨#[]⟩, .int .i64 0, .int .i64 0, .int .i64 0, .int .i64 0, .int .i64 0, .int .i64 0, .bool false, .int .i64 0] 48 (0, 0)) from blk_new_at (by simp) _ _)
  have H10 := Lib.hid (show BoxS ((w.alloc (.cells #[.string k.1, .string k.2] 27)).alloc (.cells #[.string ⟨#[]⟩, .string ⟨#[]⟩, .int .i64 0, .int .i64 0, .int .i64 0, .int .i64 0, .int .i64 0, .int .i64 0, .bool false, .int .i64 0] 48)) sb most a n c from blk_ext E0 H1.out)
  have H20 := Lib.hid (SAt.ext H2.out E0)
  have HB0 := Lib.hid E0
  have HIN := Lib.hid hin
  obtain ⟨P, hP⟩ : ∃ P, low k es = P := ⟨_, rfl⟩
  have HP := Lib.hid hP
  rw [hP] at hx
  have HX := Lib.hid hx
  have hlt : P < n := by rw [← HL.out]; exact (List.getElem?_eq_some_iff.1 hx).1
  have hPi : (P : Int) < (n : Int) := by omega
  clear hx
  clear E0 hin hP
  go_enter Try.func21, Try.ntmps21
  go_upto_region 1 with (fail)
  obtain ⟨q, hq⟩ : ∃ q, w.heap.size = q := ⟨_, rfl⟩
  have HQ := Lib.hid hq
  rw [hq] at HK HE ⊢
  clear hq
  generalize ((w.alloc (.cells #[.string k.1, .string k.2] 27)).alloc (.cells #[.string ⟨#[]⟩, .string ⟨#[]⟩, .int .i64 0, .int .i64 0, .int .i64 0, .int .i64 0, .int .i64 0, .int .i64 0, .bool false, .int .i64 0] 48)) = w0 at *
  have hk0 := blk_cell HK.out
  have hl0 := blk_lt HK.out
  go_wp2_with fail
  refine (shFind sb most a n c es k _ H10.out H20.out hs HL.out (by omega)).mono ?_
  rintro r w1 ⟨rfl, hb1⟩
  rw [HIN.out, HP.out]
  clear hk0 hl0
  have H11 := Lib.hid (show BoxS w1 sb most a n c from blk_ext hb1 H10.out)
  have H21 := Lib.hid (SAt.ext H20.out hb1)
  have HE1 := Lib.hid (blk_ext hb1 HE.out)
  have HB1 := Lib.hid (ext_trans HB0.out hb1)
  have hk1 := blk_cell HE1.out
  have hf1 := blk_free HE1.out
  have hl1 := blk_lt HE1.out
  clear hb1 HK HE H10 H20 HB0 H1 H2 hs
  obtain ⟨b, o, rfl⟩ : ∃ b o, a = some ⟨b, o, none⟩ := by
    rcases H21.out with h | ⟨b, o, e, _⟩
    · have := HX.out; rw [h] at this; simp at this
    · exact ⟨b, o, e⟩
  obtain ⟨x0, x1, x2, x3, x4, x5, x6, x7, x8, x9⟩ := EAt.at H21.out HX.out
  have c1 := blk_cell H11.out 1
  simp only [List.getElem?_toArray, List.getElem?_cons_zero, List.getElem?_cons_succ] at c1
  go_wp2_with fail
  exact bodyPost_ret (v := .tuple #[.agg #[.string x.c.a, .string x.c.i, .int .i64 x.c.s, .int .i64 x.c.o, .int .i64 x.c.l, .int .i64 x.c.t, .int .i64 x.c.k, .int .i64 x.c.n, .bool x.c.g, .int .i64 x.seen], .bool true]) (by have hk2 := blk_cell (blk_fill10 (v0 := .string x.c.a) (v1 := .string x.c.i) (v2 := .int .i64 x.c.s) (v3 := .int .i64 x.c.o) (v4 := .int .i64 x.c.l) (v5 := .int .i64 x.c.t) (v6 := .int .i64 x.c.k) (v7 := .int .i64 x.c.n) (v8 := .bool x.c.g) (v9 := .int .i64 x.seen) HE1.out rfl); simp [results, Try.results21, go_sem, hk2]) rfl ⟨rfl, below_fill10 HB1.out (by have := HQ.out; omega)⟩

set_option maxRecDepth 100000 in
set_option maxHeartbeats 2000000 in
theorem shGetNo (sb : Nat) (most : Int) (es : List En) (k : Ky) (w : World) (h : ShP w sb most es) (hs : Asc es) (hn : es.length ≤ 900) (hin : isIn k es = false) :
    Calls Try.prog 21 #[.pointer (some ⟨sb, 0, none⟩), .agg #[.string k.1, .string k.2]] w fun r w' => r = .returned (.tuple #[.agg #[.string ⟨#[]⟩, .string ⟨#[]⟩, .int .i64 0, .int .i64 0, .int .i64 0, .int .i64 0, .int .i64 0, .int .i64 0, .bool false, .int .i64 0], .bool false]) ∧ Below w.heap.size w w' := by
  obtain ⟨a, c, h1, h2, h3, h4, h5⟩ := h
  have H1 := Lib.hid h1
  have H2 := Lib.hid h2
  obtain ⟨n, hl⟩ : ∃ n, es.length = n := ⟨_, rfl⟩
  have HL := Lib.hid hl
  rw [hl] at h3 hn H1
  clear h1 h2 hl
  unfold maxLen at h4
  have E0 : Below w.heap.size w ((w.alloc (.cells #[.string k.1, .string k.2] 27)).alloc (.cells #[.string ⟨#[]⟩, .string ⟨#[]⟩, .int .i64 0, .int .i64 0, .int .i64 0, .int .i64 0, .int .i64 0, .int .i64 0, .bool false, .int .i64 0] 48)) := ((Below.refl _ _).alloc (Nat.le_refl _) _).alloc (by simp) _
  have HK := Lib.hid (show ((w.alloc (.cells #[.string k.1, .string k.2] 27)).alloc (.cells #[.string ⟨#[]⟩, .string ⟨#[]⟩, .int .i64 0, .int .i64 0, .int .i64 0, .int .i64 0, .int .i64 0, .int .i64 0, .bool false, .int .i64 0] 48)).heap[w.heap.size]? = some (.cells #[.string k.1, .string k.2] 27 (0, 0)) from blk_alloc (blk_new _ _ _) _)
  have HE := Lib.hid (show ((w.alloc (.cells #[.string k.1, .string k.2] 27)).alloc (.cells #[.string ⟨#[]⟩, .string ⟨#[]⟩, .int .i64 0, .int .i64 0, .int .i64 0, .int .i64 0, .int .i64 0, .int .i64 0, .bool false, .int .i64 0] 48)).heap[w.heap.size + 1]? = some (.cells #[.string ⟨#[]⟩, .string ⟨#[]⟩, .int .i64 0, .int .i64 0, .int .i64 0, .int .i64 0, .int .i64 0, .int .i64 0, .bool false, .int .i64 0] 48 (0, 0)) from blk_new_at (by simp) _ _)
  have H10 := Lib.hid (show BoxS ((w.alloc (.cells #[.string k.1, .string k.2] 27)).alloc (.cells #[.string ⟨#[]⟩, .string ⟨#[]⟩, .int .i64 0, .int .i64 0, .int .i64 0, .int .i64 0, .int .i64 0, .int .i64 0, .bool false, .int .i64 0] 48)) sb most a n c from blk_ext E0 H1.out)
  have H20 := Lib.hid (SAt.ext H2.out E0)
  have HB0 := Lib.hid E0
  have HIN := Lib.hid hin
  obtain ⟨P, hP⟩ : ∃ P, low k es = P := ⟨_, rfl⟩
  have HP := Lib.hid hP
  clear E0 hin hP
  go_enter Try.func21, Try.ntmps21
  go_upto_region 1 with (fail)
  obtain ⟨q, hq⟩ : ∃ q, w.heap.size = q := ⟨_, rfl⟩
  have HQ := Lib.hid hq
  rw [hq] at HK HE ⊢
  clear hq
  generalize ((w.alloc (.cells #[.string k.1, .string k.2] 27)).alloc (.cells #[.string ⟨#[]⟩, .string ⟨#[]⟩, .int .i64 0, .int .i64 0, .int .i64 0, .int .i64 0, .int .i64 0, .int .i64 0, .bool false, .int .i64 0] 48)) = w0 at *
  have hk0 := blk_cell HK.out
  have hl0 := blk_lt HK.out
  go_wp2_with fail
  refine (shFind sb most a n c es k _ H10.out H20.out hs HL.out (by omega)).mono ?_
  rintro r w1 ⟨rfl, hb1⟩
  rw [HIN.out, HP.out]
  clear hk0 hl0
  have H11 := Lib.hid (show BoxS w1 sb most a n c from blk_ext hb1 H10.out)
  have H21 := Lib.hid (SAt.ext H20.out hb1)
  have HE1 := Lib.hid (blk_ext hb1 HE.out)
  have HB1 := Lib.hid (ext_trans HB0.out hb1)
  have hk1 := blk_cell HE1.out
  have hf1 := blk_free HE1.out
  have hl1 := blk_lt HE1.out
  clear hb1 HK HE H10 H20 HB0 H1 H2 hs
  go_wp2_with fail
  exact bodyPost_ret (v := .tuple #[.agg #[.string ⟨#[]⟩, .string ⟨#[]⟩, .int .i64 0, .int .i64 0, .int .i64 0, .int .i64 0, .int .i64 0, .int .i64 0, .bool false, .int .i64 0], .bool false]) (by have hk2 := blk_cell (blk_fill10 (v0 := .string ⟨#[]⟩) (v1 := .string ⟨#[]⟩) (v2 := .int .i64 0) (v3 := .int .i64 0) (v4 := .int .i64 0) (v5 := .int .i64 0) (v6 := .int .i64 0) (v7 := .int .i64 0) (v8 := .bool false) (v9 := .int .i64 0) HE1.out rfl); simp [results, Try.results21, go_sem, hk2]) rfl ⟨rfl, below_fill10 HB1.out (by have := HQ.out; omega)⟩

end Go.Proofs.Ytnmpjagdkbaidaa
