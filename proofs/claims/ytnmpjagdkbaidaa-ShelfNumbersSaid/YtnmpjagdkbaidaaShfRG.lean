/- The document's own shelf: Get, Live; Cards. -/
import Derived.Test.YtnmpjagdkbaidaaShfR
namespace Go.Proofs.Ytnmpjagdkbaidaa
open Go.RowKit
set_option linter.unusedVariables false
set_option linter.unusedSimpArgs false

set_option maxRecDepth 100000 in
set_option maxHeartbeats 2000000 in
theorem rshGetYes (sb : Nat) (most : Int) (es : List En) (k : Ky) (w : World) (h : RShP w sb most es) (x : En) (hs : Asc es) (hn : es.length ≤ 900) (hx : es[low k es]? = some x) (hin : isIn k es = true) :
    Calls Try.prog 25 #[.pointer (some ⟨sb, 0, none⟩), .agg #[.string k.1, .string k.2]] w fun r w' => r = .returned (.tuple #[.agg #[.string x.c.a, .string x.c.i, .int .i64 x.c.s, .int .i64 x.c.o, .int .i64 x.c.l, .int .i64 x.c.t, .int .i64 x.c.k, .int .i64 x.c.n, .bool x.c.g, .int .i64 x.seen], .bool true]) ∧ Below w.heap.size w w' := by
  obtain ⟨a, c, h1, h2, h3, h4, h5⟩ := h
  have H1 := Lib.hid h1
  have H2 := Lib.hid h2
  obtain ⟨n, hl⟩ : ∃ n, es.length = n := ⟨_, rfl⟩
  have HL := Lib.hid hl
  rw [hl] at h3 hn H1
  clear h1 h2 hl
  unfold maxLen at h4
  have E0 : Below w.heap.size w ((w.alloc (.cells #[.string k.1, .string k.2] 27)).alloc (.cells #[.string ⟨#[]⟩, .string ⟨#[]⟩, .int .i64 0, .int .i64 0, .int .i64 0, .int .i64 0, .int .i64 0, .int .i64 0, .bool false, .int .i64 0] 63)) := ((Below.refl _ _).alloc (Nat.le_refl _) _).alloc (by simp) _
  have HK := Lib.hid (show ((w.alloc (.cells #[.string k.1, .string k.2] 27)).alloc (.cells #[.string ⟨#[]⟩, .string ⟨#[]⟩, .int .i64 0, .int .i64 0, .int .i64 0, .int .i64 0, .int .i64 0, .int .i64 0, .bool false, .int .i64 0] 63)).heap[w.heap.size]? = some (.cells #[.string k.1, .string k.2] 27 (0, 0)) from blk_alloc (blk_new _ _ _) _)
  have HE := Lib.hid (show ((w.alloc (.cells #[.string k.1, .string k.2] 27)).alloc (.cells #[.string ⟨#[]⟩, .string ⟨#[]⟩, .int .i64 0, .int .i64 0, .int .i64 0, .int .i64 0, .int .i64 0, .int .i64 0, .bool false, .int .i64 0] 63)).heap[w.heap.size + 1]? = some (.cells #[.string ⟨#[]⟩, .string ⟨#[]⟩, .int .i64 0, .int .i64 0, .int .i64 0, .int .i64 0, .int .i64 0, .int .i64 0, .bool false, .int .i64 0] 63 (0, 0)) from blk_new_at (by simp) _ _)
  have H10 := Lib.hid (show BoxR ((w.alloc (.cells #[.string k.1, .string k.2] 27)).alloc (.cells #[.string ⟨#[]⟩, .string ⟨#[]⟩, .int .i64 0, .int .i64 0, .int .i64 0, .int .i64 0, .int .i64 0, .int .i64 0, .bool false, .int .i64 0] 63)) sb most a n c from blk_ext E0 H1.out)
  have H20 := Lib.hid (SAt.ext H2.out E0)
  have HB0 := Lib.hid E0
  have HIN := Lib.hid hin
  obtain ⟨P, hP⟩ : ∃ P, low k es = P := ⟨_, rfl⟩
  have HP := Lib.hid hP
  rw [hP] at hx
  have HX := Lib.hid hx
  have hlt : P < n := by rw [← HL.out]; exact (List.getElem?_eq_some_iff.1 hx).1
  have hPi : (P : Int) < (n : Int) := by omega
  clear hx
  clear E0 hin hP
  go_enter Try.func25, Try.ntmps25
  go_upto_region 1 with (fail)
  obtain ⟨q, hq⟩ : ∃ q, w.heap.size = q := ⟨_, rfl⟩
  have HQ := Lib.hid hq
  rw [hq] at HK HE ⊢
  clear hq
  generalize ((w.alloc (.cells #[.string k.1, .string k.2] 27)).alloc (.cells #[.string ⟨#[]⟩, .string ⟨#[]⟩, .int .i64 0, .int .i64 0, .int .i64 0, .int .i64 0, .int .i64 0, .int .i64 0, .bool false, .int .i64 0] 63)) = w0 at *
  have hk0 := blk_cell HK.out
  have hl0 := blk_lt HK.out
  go_wp2_with fail
  refine (rshFind sb most a n c es k _ H10.out H20.out hs HL.out (by omega)).mono ?_
  rintro r w1 ⟨rfl, hb1⟩
  rw [HIN.out, HP.out]
  clear hk0 hl0
  have H11 := Lib.hid (show BoxR w1 sb most a n c from blk_ext hb1 H10.out)
  have H21 := Lib.hid (SAt.ext H20.out hb1)
  have HE1 := Lib.hid (blk_ext hb1 HE.out)
  have HB1 := Lib.hid (ext_trans HB0.out hb1)
  have hk1 := blk_cell HE1.out
  have hf1 := blk_free HE1.out
  have hl1 := blk_lt HE1.out
  clear hb1 HK HE H10 H20 HB0 H1 H2 hs
  obtain ⟨b, o, rfl⟩ : ∃ b o, a = some ⟨b, o, none⟩ := by
    rcases H21.out with h | ⟨b, o, e, _⟩
    · have := HX.out; rw [h] at this; simp at this
    · exact ⟨b, o, e⟩
  obtain ⟨x0, x1, x2, x3, x4, x5, x6, x7, x8, x9⟩ := REAt.at H21.out HX.out
  have c1 := blk_cell H11.out 1
  simp only [List.getElem?_toArray, List.getElem?_cons_zero, List.getElem?_cons_succ] at c1
  go_wp2_with fail
  exact bodyPost_ret (v := .tuple #[.agg #[.string x.c.a, .string x.c.i, .int .i64 x.c.s, .int .i64 x.c.o, .int .i64 x.c.l, .int .i64 x.c.t, .int .i64 x.c.k, .int .i64 x.c.n, .bool x.c.g, .int .i64 x.seen], .bool true]) (by have hk2 := blk_cell (blk_fill10 (v0 := .string x.c.a) (v1 := .string x.c.i) (v2 := .int .i64 x.c.s) (v3 := .int .i64 x.c.o) (v4 := .int .i64 x.c.l) (v5 := .int .i64 x.c.t) (v6 := .int .i64 x.c.k) (v7 := .int .i64 x.c.n) (v8 := .bool x.c.g) (v9 := .int .i64 x.seen) HE1.out rfl); simp [results, Try.results25, go_sem, hk2]) rfl ⟨rfl, below_fill10 HB1.out (by have := HQ.out; omega)⟩

set_option maxRecDepth 100000 in
set_option maxHeartbeats 2000000 in
theorem rshGetNo (sb : Nat) (most : Int) (es : List En) (k : Ky) (w : World) (h : RShP w sb most es) (hs : Asc es) (hn : es.length ≤ 900) (hin : isIn k es = false) :
    Calls Try.prog 25 #[.pointer (some ⟨sb, 0, none⟩), .agg #[.string k.1, .string k.2]] w fun r w' => r = .returned (.tuple #[.agg #[.string ⟨#[]⟩, .string ⟨#[]⟩, .int .i64 0, .int .i64 0, .int .i64 0, .int .i64 0, .int .i64 0, .int .i64 0, .bool false, .int .i64 0], .bool false]) ∧ Below w.heap.size w w' := by
  obtain ⟨a, c, h1, h2, h3, h4, h5⟩ := h
  have H1 := Lib.hid h1
  have H2 := Lib.hid h2
  obtain ⟨n, hl⟩ : ∃ n, es.length = n := ⟨_, rfl⟩
  have HL := Lib.hid hl
  rw [hl] at h3 hn H1
  clear h1 h2 hl
  unfold maxLen at h4
  have E0 : Below w.heap.size w ((w.alloc (.cells #[.string k.1, .string k.2] 27)).alloc (.cells #[.string ⟨#[]⟩, .string ⟨#[]⟩, .int .i64 0, .int .i64 0, .int .i64 0, .int .i64 0, .int .i64 0, .int .i64 0, .bool false, .int .i64 0] 63)) := ((Below.refl _ _).alloc (Nat.le_refl _) _).alloc (by simp) _
  have HK := Lib.hid (show ((w.alloc (.cells #[.string k.1, .string k.2] 27)).alloc (.cells #[.string ⟨#[]⟩, .string ⟨#[]⟩, .int .i64 0, .int .i64 0, .int .i64 0, .int .i64 0, .int .i64 0, .int .i64 0, .bool false, .int .i64 0] 63)).heap[w.heap.size]? = some (.cells #[.string k.1, .string k.2] 27 (0, 0)) from blk_alloc (blk_new _ _ _) _)
  have HE := Lib.hid (show ((w.alloc (.cells #[.string k.1, .string k.2] 27)).alloc (.cells #[.string ⟨#[]⟩, .string ⟨#[]⟩, .int .i64 0, .int .i64 0, .int .i64 0, .int .i64 0, .int .i64 0, .int .i64 0, .bool false, .int .i64 0] 63)).heap[w.heap.size + 1]? = some (.cells #[.string ⟨#[]⟩, .string ⟨#[]⟩, .int .i64 0, .int .i64 0, .int .i64 0, .int .i64 0, .int .i64 0, .int .i64 0, .bool false, .int .i64 0] 63 (0, 0)) from blk_new_at (by simp) _ _)
  have H10 := Lib.hid (show BoxR ((w.alloc (.cells #[.string k.1, .string k.2] 27)).alloc (.cells #[.string ⟨#[]⟩, .string ⟨#[]⟩, .int .i64 0, .int .i64 0, .int .i64 0, .int .i64 0, .int .i64 0, .int .i64 0, .bool false, .int .i64 0] 63)) sb most a n c from blk_ext E0 H1.out)
  have H20 := Lib.hid (SAt.ext H2.out E0)
  have HB0 := Lib.hid E0
  have HIN := Lib.hid hin
  obtain ⟨P, hP⟩ : ∃ P, low k es = P := ⟨_, rfl⟩
  have HP := Lib.hid hP
  clear E0 hin hP
  go_enter Try.func25, Try.ntmps25
  go_upto_region 1 with (fail)
  obtain ⟨q, hq⟩ : ∃ q, w.heap.size = q := ⟨_, rfl⟩
  have HQ := Lib.hid hq
  rw [hq] at HK HE ⊢
  clear hq
  generalize ((w.alloc (.cells #[.string k.1, .string k.2] 27)).alloc (.cells #[.string ⟨#[]⟩, .string ⟨#[]⟩, .int .i64 0, .int .i64 0, .int .i64 0, .int .i64 0, .int .i64 0, .int .i64 0, .bool false, .int .i64 0] 63)) = w0 at *
  have hk0 := blk_cell HK.out
  have hl0 := blk_lt HK.out
  go_wp2_with fail
  refine (rshFind sb most a n c es k _ H10.out H20.out hs HL.out (by omega)).mono ?_
  rintro r w1 ⟨rfl, hb1⟩
  rw [HIN.out, HP.out]
  clear hk0 hl0
  have H11 := Lib.hid (show BoxR w1 sb most a n c from blk_ext hb1 H10.out)
  have H21 := Lib.hid (SAt.ext H20.out hb1)
  have HE1 := Lib.hid (blk_ext hb1 HE.out)
  have HB1 := Lib.hid (ext_trans HB0.out hb1)
  have hk1 := blk_cell HE1.out
  have hf1 := blk_free HE1.out
  have hl1 := blk_lt HE1.out
  clear hb1 HK HE H10 H20 HB0 H1 H2 hs
  go_wp2_with fail
  exact bodyPost_ret (v := .tuple #[.agg #[.string ⟨#[]⟩, .string ⟨#[]⟩, .int .i64 0, .int .i64 0, .int .i64 0, .int .i64 0, .int .i64 0, .int .i64 0, .bool false, .int .i64 0], .bool false]) (by have hk2 := blk_cell (blk_fill10 (v0 := .string ⟨#[]⟩) (v1 := .string ⟨#[]⟩) (v2 := .int .i64 0) (v3 := .int .i64 0) (v4 := .int .i64 0) (v5 := .int .i64 0) (v6 := .int .i64 0) (v7 := .int .i64 0) (v8 := .bool false) (v9 := .int .i64 0) HE1.out rfl); simp [results, Try.results25, go_sem, hk2]) rfl ⟨rfl, below_fill10 HB1.out (by have := HQ.out; omega)⟩

set_option maxRecDepth 100000 in
set_option maxHeartbeats 1000000 in
theorem rLive (a : Option Addr) (n c : Nat) (es : List En) (w : World) (h : REAt w a es) (hl : es.length = n) (hn : n ≤ 900) :
    Calls Try.prog 38 #[.slice a n c] w fun r w' => r = .returned (.int .i64 (livN es)) ∧ Below w.heap.size w w' := by
  have H2 := Lib.hid h
  have HL := Lib.hid hl
  clear h hl
  go_enter Try.func38, Try.ntmps38
  go_wp2_with fail
  go_loopw [3, 8] (fun l i wr => ∃ J : Nat, J ≤ n ∧ i = .int .i64 (J : Int) ∧ l = .int .i64 (livN (es.take J) : Int) ∧ Below w.heap.size w wr) (fun l i _ => n - (intOf i).toNat)
  case atStart => exact ⟨0, by omega, rfl, rfl, Below.refl _ _⟩
  case round =>
    obtain ⟨w2, rfl⟩ : ∃ y : World, y = wr := ⟨_, rfl⟩
    obtain ⟨J, hJ, rfl, rfl, hb2⟩ := hrel
    obtain ⟨V, hV⟩ : ∃ V, livN (es.take J) = V := ⟨_, rfl⟩
    have hVb : V ≤ 900 := by
      have h1 := livN_le (es.take J)
      rw [List.length_take, HL.out] at h1
      omega
    have HV := Lib.hid hV
    rw [hV]
    clear hV
    by_cases hlt : J < n
    · obtain ⟨x, hx⟩ : ∃ x, es[J]? = some x := ⟨_, List.getElem?_eq_getElem (by have := HL.out; omega)⟩
      obtain ⟨b, o, rfl⟩ : ∃ b o, a = some ⟨b, o, none⟩ := by
        rcases H2.out with h | ⟨b, o, e, _⟩
        · rw [h] at hx; simp at hx
        · exact ⟨b, o, e⟩
      obtain ⟨y0, y1, y2, y3, y4, y5, y6, y7, y8, y9⟩ := REAt.at (H2.out.ext hb2) hx
      have HST := Lib.hid (show livN (es.take (J + 1)) = V + (if x.c.g then 0 else 1) from by rw [List.take_add_one, hx]; show livN (es.take J ++ [x]) = _; rw [livN_snoc, HV.out])
      have HB3 := Lib.hid (show Below w.heap.size w (w2.alloc (.cells #[.string x.c.a, .string x.c.i, .int .i64 x.c.s, .int .i64 x.c.o, .int .i64 x.c.l, .int .i64 x.c.t, .int .i64 x.c.k, .int .i64 x.c.n, .bool x.c.g, .int .i64 x.seen] 63)) from hb2.alloc hb2.size _)
      clear hx hb2
      obtain ⟨⟨ca, ci, cs, co, cl, ct, ck, cn, cg⟩, seen⟩ := x
      simp only at y0 y1 y2 y3 y4 y5 y6 y7 y8 y9 HST HB3
      cases cg
      · go_wp2_with fail
        go_roundw
        case rel => exact ⟨J + 1, by omega, by go_num, by rw [HST.out]; go_num, HB3.out⟩
        case measure => simp [intOf]; omega
      · go_wp2_with fail
        go_roundw
        case rel => exact ⟨J + 1, by omega, by go_num, by rw [HST.out]; go_num, HB3.out⟩
        case measure => simp [intOf]; omega
    · have hJn : n = J := by omega
      have HF := Lib.hid (show livN es = V from by rw [← HV.out, List.take_of_length_le (by have := HL.out; omega)])
      go_wp2
      go_ret
      exact ⟨by rw [HF.out]; rfl, hb2⟩

end Go.Proofs.Ytnmpjagdkbaidaa
