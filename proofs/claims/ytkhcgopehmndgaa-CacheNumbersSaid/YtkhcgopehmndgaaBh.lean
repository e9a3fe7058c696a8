/- Several texts as one: ShfD, ShfG. -/
import Derived.Test.YtkhcgopehmndgaaBg
import Derived.Deep.RegionLaw
/- slices.Delete of one entry; Drop. -/
namespace Go.Proofs.Ytkhcgopehmndgaa
open Go.RowKit
set_option linter.unusedVariables false
set_option linter.unusedSimpArgs false

theorem run_clear1 (w : World) (ty : TypeId) (b o c : Nat) (hc : ∀ j, j < 10 → (w.cell? ⟨b, o + j, none⟩).isSome = true) (hf : ∀ j, j < 10 → w.frozen? ⟨b, o + j, none⟩ = false) :
    (Builtin.clear_ #[74] ty #[.slice (some ⟨b, o, none⟩) 1 c]).run Try.prog w = .ok (.tuple #[]) (w.setCells b o (ec En.zero)) := by
  obtain ⟨i0, hi, hz0, hz1, hz2⟩ := info_parts' info_en
  have hv : (zeroValue 54).run Try.prog w = .ok En.zero.v w := by simp [zeroValue, typeInfo, hi, hz0]
  have hst := run_storeCells_cells (P := Try.prog) b o (ec En.zero) 0 w (by rw [ec_len]; simpa using hc) (by rw [ec_len]; simpa using hf) (ec_one _)
  simp only [Nat.add_zero] at hst
  have hzc : (Builtin.zeroCells (En.zero.v).cells 1).toList = ec En.zero := by first | kernel_rfl | (simp [Builtin.zeroCells, ec, Value.cells]; done) | (simp [Builtin.zeroCells, Array.range, Array.ofFn, ec, Value.cells]; rfl)
  simp only [En.v, En.zero, Cd.zero] at hv hzc
  simp [Builtin.clear_, run_underlying Try.underlying74, hv, hzc, hst]
def delAt (ls : List En) (i : Nat) : List En := ls.take i ++ ls.drop (i + 1)
theorem delAt_len (ls : List En) (i : Nat) (h : i < ls.length) : (delAt ls i).length = ls.length - 1 := by simp [delAt]; omega

theorem asc_del {es : List En} (h : Asc es) (i : Nat) : Asc (delAt es i) := by
  refine List.Pairwise.sublist ?_ h
  unfold delAt
  have h1 : (es.take i ++ es.drop (i + 1)).Sublist (es.take i ++ es.drop i) := List.Sublist.append (List.Sublist.refl _) (by rw [← List.drop_drop]; exact List.drop_sublist _ _)
  rwa [List.take_append_drop] at h1
theorem isIn_at {k : Ky} {es : List En} (h : isIn k es = true) : ∃ x, es[low k es]? = some x ∧ x.c.a = k.1 ∧ x.c.i = k.2 := by
  unfold isIn at h
  cases hx : es[low k es]? with
  | none => rw [hx] at h; cases h
  | some x =>
    rw [hx] at h
    simp at h
    exact ⟨x, rfl, h.1, h.2⟩
theorem asc_put {es : List En} {e : En} (h : Asc es) (hi : isIn (enK e) es = true) : Asc (es.set (low (enK e) es) e) := by
  obtain ⟨x, hx, h1, h2⟩ := isIn_at hi
  have ha : ∀ l : List En, Asc l ↔ (l.map enK).Pairwise (fun a b => kc a.1 a.2 b.1 b.2 < 0) := fun l => by
    unfold Asc
    rw [List.pairwise_map]
    rfl
  rw [ha] at h ⊢
  have e1 : (es.set (low (enK e) es) e).map enK = es.map enK := by
    rw [List.map_set]
    apply List.ext_getElem?
    intro q
    rw [List.getElem?_set]
    split
    · rename_i hq
      subst hq
      rw [List.getElem?_map, hx]
      have hlt := (List.getElem?_eq_some_iff.1 hx).1
      rw [List.length_map, if_pos hlt]
      show some (enK e) = some (x.c.a, x.c.i)
      rw [h1, h2]
    · rfl
  rw [e1]
  exact h
theorem asc_ins {es : List En} {e : En} (h : Asc es) (hi : isIn (enK e) es = false) : Asc (insAt es (low (enK e) es) e) := by
  have hl := low_iff (enK e) es h
  obtain ⟨p, hp⟩ : ∃ p, low (enK e) es = p := ⟨_, rfl⟩
  have hin : ∀ x, es[p]? = some x → ¬ (x.c.a = e.c.a ∧ x.c.i = e.c.i) := by
    rintro x hx ⟨h1, h2⟩
    unfold isIn at hi
    rw [hp, hx] at hi
    simp [enK, h1, h2] at hi
  rw [hp] at hl ⊢
  have h1 : ∀ x ∈ es.take p, kc x.c.a x.c.i e.c.a e.c.i < 0 := by
    intro x hx
    obtain ⟨q, hq⟩ := List.mem_iff_getElem?.1 hx
    rw [List.getElem?_take] at hq
    split at hq
    · rename_i hlt
      have := hl q x hq
      rw [decide_eq_true hlt] at this
      exact of_decide_eq_true this
    · cases hq
  have h2 : ∀ y ∈ es.drop p, kc e.c.a e.c.i y.c.a y.c.i < 0 := by
    intro y hy
    obtain ⟨q, hq⟩ := List.mem_iff_getElem?.1 hy
    rw [List.getElem?_drop] at hq
    have h3 := hl (p + q) y hq
    rw [decide_eq_false (by omega)] at h3
    have h4 : 0 ≤ kc y.c.a y.c.i e.c.a e.c.i := by have h5 : ¬ kc y.c.a y.c.i e.c.a e.c.i < 0 := of_decide_eq_false h3; omega
    have h5 := kc_neg e.c.a e.c.i y.c.a y.c.i
    have h6 : kc y.c.a y.c.i e.c.a e.c.i ≠ 0 := by
      intro h7
      obtain ⟨e1, e2⟩ := kc_zero h7
      cases q with
      | zero => exact hin y (by simpa using hq) ⟨e1, e2⟩
      | succ q =>
        obtain ⟨x, hx⟩ : ∃ x, es[p]? = some x := ⟨_, List.getElem?_eq_getElem (by have := (List.getElem?_eq_some_iff.1 hq).1; omega)⟩
        have h8 := hl p x hx
        rw [decide_eq_false (by omega)] at h8
        have h9 : ¬ kc x.c.a x.c.i e.c.a e.c.i < 0 := of_decide_eq_false h8
        have h10 : kc x.c.a x.c.i y.c.a y.c.i < 0 := by
          obtain ⟨l1, g1⟩ := List.getElem?_eq_some_iff.1 hx
          obtain ⟨l2, g2⟩ := List.getElem?_eq_some_iff.1 hq
          have := List.pairwise_iff_getElem.1 h p (p + (q + 1)) l1 l2 (by omega)
          rwa [g1, g2] at this
        rw [e1, e2] at h10
        exact h9 h10
    omega
  unfold insAt
  rw [List.append_assoc]
  have h0 : (es.take p ++ es.drop p).Pairwise (fun x y => kc x.c.a x.c.i y.c.a y.c.i < 0) := by rw [List.take_append_drop]; exact h
  obtain ⟨p1, p2, p3⟩ := List.pairwise_append.1 h0
  refine List.pairwise_append.2 ⟨p1, List.pairwise_append.2 ⟨List.pairwise_singleton _ _, p2, fun x hx y hy => ?_⟩, fun x hx y hy => ?_⟩
  · simp at hx; subst hx; exact h2 y hy
  · rcases List.mem_append.1 hy with hy | hy
    · simp at hy; subst hy; exact h1 x hx
    · exact p3 x hx y hy

end Go.Proofs.Ytkhcgopehmndgaa

/- Package shelf: Get. -/
namespace Go.Proofs.Ytkhcgopehmndgaa
open Go.RowKit
set_option linter.unusedVariables false
set_option linter.unusedSimpArgs false

set_option maxRecDepth 100000 in
set_option maxHeartbeats 2000000 in
theorem shGetYes (sb : Nat) (most : Int) (es : List En) (k : Ky) (w : World) (h : ShP w sb most es) (x : En) (hs : Asc es) (hn : es.length ≤ 900) (hx : es[low k es]? = some x) (hin : isIn k es = true) :
    Calls Try.prog 62 #[.pointer (some ⟨sb, 0, none⟩), .agg #[.string k.1, .string k.2]] w fun r w' => r = .returned (.tuple #[.agg #[.string x.c.a, .string x.c.i, .int .i64 x.c.s, .int .i64 x.c.o, .int .i64 x.c.l, .int .i64 x.c.t, .int .i64 x.c.k, .int .i64 x.c.n, .bool x.c.g, .int .i64 x.seen], .bool true]) ∧ Below w.heap.size w w' := by
  obtain ⟨a, c, h1, h2, h3, h4, h5⟩ := h
  have H1 := Lib.hid h1
  have H2 := Lib.hid h2
  obtain ⟨n, hl⟩ : ∃ n, es.length = n := ⟨_, rfl⟩
  have HL := Lib.hid hl
  rw [hl] at h3 hn H1
  clear h1 h2 hl
  unfold maxLen at h4
  have E0 : Below w.heap.size w ((w.alloc (.cells #[.string k.1, .string k.2] 31)).alloc (.cells #[.string ⟨#[]⟩, .string ⟨#[]⟩, .int .i64 0, .int .i64 0, .int .i64 0, .int .i64 0, .int .i64 0, .int .i64 0, .bool false, .int .i64 0] 54)) := ((Below.refl _ _).alloc (Nat.le_refl _) _).alloc (by simp) _
  have HK := Lib.hid (show ((w.alloc (.cells #[.string k.1, .string k.2] 31)).alloc (.cells #[.string ⟨#[]⟩, .string ⟨#[]⟩, .int .i64 0, .int .i64 0, .int .i64 0, .int .i64 0, .int .i64 0, .int .i64 0, .bool false, .int .i64 0] 54)).heap[w.heap.size]? = some (.cells #[.string k.1, .string k.2] 31 (0, 0)) from blk_alloc (blk_new _ _ _) _)
  have HE := Lib.hid (show ((w.alloc (.cells #[.string k.1, .string k.2] 31)).alloc (.cells #[.string ⟨#[]⟩, .string ⟨#[]⟩, .int .i64 0, .int .i64 0, .int .i64 0, .int .i64 0, .int .i64 0, .int .i64 0, .bool false, .int .i64 0] 54)).heap[w.heap.size + 1]? = some (.cells #[.string ⟨#[]⟩, .string ⟨#[]⟩, .int .i64 0, .int .i64 0, .int .i64 0, .int .i64 0, .int .i64 0, .int .i64 0, .bool false, .int .i64 0] 54 (0, 0)) from blk_new_at (by simp) _ _)
  have H10 := Lib.hid (show BoxS ((w.alloc (.cells #[.string k.1, .string k.2] 31)).alloc (.cells #[.string ⟨#[]⟩, .string ⟨#[]⟩, .int .i64 0, .int .i64 0, .int .i64 0, .int .i64 0, .int .i64 0, .int .i64 0, .bool false, .int .i64 0] 54)) sb most a n c from blk_ext E0 H1.out)
  have H20 := Lib.hid (SAt.ext H2.out E0)
  have HB0 := Lib.hid E0
  have HIN := Lib.hid hin
  obtain ⟨P, hP⟩ : ∃ P, low k es = P := ⟨_, rfl⟩
  have HP := Lib.hid hP
  rw [hP] at hx
  have HX := Lib.hid hx
  have hlt : P < n := by rw [← HL.out]; exact (List.getElem?_eq_some_iff.1 hx).1
  have hPi : (P : Int) < (n : Int) := by omega
  clear hx
  clear E0 hin hP
  go_enter Try.func62, Try.ntmps62
  go_upto_region 1 with (fail)
  obtain ⟨q, hq⟩ : ∃ q, w.heap.size = q := ⟨_, rfl⟩
  have HQ := Lib.hid hq
  rw [hq] at HK HE ⊢
  clear hq
  generalize ((w.alloc (.cells #[.string k.1, .string k.2] 31)).alloc (.cells #[.string ⟨#[]⟩, .string ⟨#[]⟩, .int .i64 0, .int .i64 0, .int .i64 0, .int .i64 0, .int .i64 0, .int .i64 0, .bool false, .int .i64 0] 54)) = w0 at *
  have hk0 := blk_cell HK.out
  have hl0 := blk_lt HK.out
  go_wp2_with fail
  refine (shFind sb most a n c es k _ H10.out H20.out hs HL.out (by omega)).mono ?_
  rintro r w1 ⟨rfl, hb1⟩
  rw [HIN.out, HP.out]
  clear hk0 hl0
  have H11 := Lib.hid (show BoxS w1 sb most a n c from blk_ext hb1 H10.out)
  have H21 := Lib.hid (SAt.ext H20.out hb1)
  have HE1 := Lib.hid (blk_ext hb1 HE.out)
  have HB1 := Lib.hid (ext_trans HB0.out hb1)
  have hk1 := blk_cell HE1.out
  have hf1 := blk_free HE1.out
  have hl1 := blk_lt HE1.out
  clear hb1 HK HE H10 H20 HB0 H1 H2 hs
  obtain ⟨b, o, rfl⟩ : ∃ b o, a = some ⟨b, o, none⟩ := by
    rcases H21.out with h | ⟨b, o, e, _⟩
    · have := HX.out; rw [h] at this; simp at this
    · exact ⟨b, o, e⟩
  obtain ⟨x0, x1, x2, x3, x4, x5, x6, x7, x8, x9⟩ := EAt.at H21.out HX.out
  have c1 := blk_cell H11.out 1
  simp only [List.getElem?_toArray, List.getElem?_cons_zero, List.getElem?_cons_succ] at c1
  go_wp2_with fail
  exact bodyPost_ret (v := .tuple #[.agg #[.string x.c.a, .string x.c.i, .int .i64 x.c.s, .int .i64 x.c.o, .int .i64 x.c.l, .int .i64 x.c.t, .int .i64 x.c.k, .int .i64 x.c.n, .bool x.c.g, .int .i64 x.seen], .bool true]) (by have hk2 := blk_cell (blk_fill10 (v0 := .string x.c.a) (v1 := .string x.c.i) (v2 := .int .i64 x.c.s) (v3 := .int .i64 x.c.o) (v4 := .int .i64 x.c.l) (v5 := .int .i64 x.c.t) (v6 := .int .i64 x.c.k) (v7 := .int .i64 x.c.n) (v8 := .bool x.c.g) (v9 := .int .i64 x.seen) HE1.out rfl); simp [results, Try.results62, go_sem, hk2]) rfl ⟨rfl, below_fill10 HB1.out (by have := HQ.out; omega)⟩

set_option maxRecDepth 100000 in
set_option maxHeartbeats 2000000 in
theorem shGetNo (sb : Nat) (most : Int) (es : List En) (k : Ky) (w : World) (h : ShP w sb most es) (hs : Asc es) (hn : es.length ≤ 900) (hin : isIn k es = false) :
    Calls Try.prog 62 #[.pointer (some ⟨sb, 0, none⟩), .agg #[.string k.1, .string k.2]] w fun r w' => r = .returned (.tuple #[.agg #[.string ⟨#[]⟩, .string ⟨#[]⟩, .int .i64 0, .int .i64 0, .int .i64 0, .int .i64 0, .int .i64 0, .int .i64 0, .bool false, .int .i64 0], .bool false]) ∧ Below w.heap.size w w' := by
  obtain ⟨a, c, h1, h2, h3, h4, h5⟩ := h
  have H1 := Lib.hid h1
  have H2 := Lib.hid h2
  obtain ⟨n, hl⟩ : ∃ n, es.length = n := ⟨_, rfl⟩
  have HL := Lib.hid hl
  rw [hl] at h3 hn H1
  clear h1 h2 hl
  unfold maxLen at h4
  have E0 : Below w.heap.size w ((w.alloc (.cells #[.string k.1, .string k.2] 31)).alloc (.cells #[.string ⟨#[]⟩, .string ⟨#[]⟩, .int .i64 0, .int .i64 0, .int .i64 0, .int .i64 0, .int .i64 0, .int .i64 0, .bool false, .int .i64 0] 54)) := ((Below.refl _ _).alloc (Nat.le_refl _) _).alloc (by simp) _
  have HK := Lib.hid (show ((w.alloc (.cells #[.string k.1, .string k.2] 31)).alloc (.cells #[.string ⟨#[]⟩, .string ⟨#[]⟩, .int .i64 0, .int .i64 0, .int .i64 0, .int .i64 0, .int .i64 0, .int .i64 0, .bool false, .int .i64 0] 54)).heap[w.heap.size]? = some (.cells #[.string k.1, .string k.2] 31 (0, 0)) from blk_alloc (blk_new _ _ _) _)
  have HE := Lib.hid (show ((w.alloc (.cells #[.string k.1, .string k.2] 31)).alloc (.cells #[.string ⟨#[]⟩, .string ⟨#[]⟩, .int .i64 0, .int .i64 0, .int .i64 0, .int .i64 0, .int .i64 0, .int .i64 0, .bool false, .int .i64 0] 54)).heap[w.heap.size + 1]? = some (.cells #[.string ⟨#[]⟩, .string ⟨#[]⟩, .int .i64 0, .int .i64 0, .int .i64 0, .int .i64 0, .int .i64 0, .int .i64 0, .bool false, .int .i64 0] 54 (0, 0)) from blk_new_at (by simp) _ _)
  have H10 := Lib.hid (show BoxS ((w.alloc (.cells #[.string k.1, .string k.2] 31)).alloc (.cells #[.string ⟨#[]⟩, .string ⟨#[]⟩, .int .i64 0, .int .i64 0, .int .i64 0, .int .i64 0, .int .i64 0, .int .i64 0, .bool false, .int .i64 0] 54)) sb most a n c from blk_ext E0 H1.out)
  have H20 := Lib.hid (SAt.ext H2.out E0)
  have HB0 := Lib.hid E0
  have HIN := Lib.hid hin
  obtain ⟨P, hP⟩ : ∃ P, low k es = P := ⟨_, rfl⟩
  have HP := Lib.hid hP
  clear E0 hin hP
  go_enter Try.func62, Try.ntmps62
  go_upto_region 1 with (fail)
  obtain ⟨q, hq⟩ : ∃ q, w.heap.size = q := ⟨_, rfl⟩
  have HQ := Lib.hid hq
  rw [hq] at HK HE ⊢
  clear hq
  generalize ((w.alloc (.cells #[.string k.1, .string k.2] 31)).alloc (.cells #[.string ⟨#[]⟩, .string ⟨#[]⟩, .int .i64 0, .int .i64 0, .int .i64 0, .int .i64 0, .int .i64 0, .int .i64 0, .bool false, .int .i64 0] 54)) = w0 at *
  have hk0 := blk_cell HK.out
  have hl0 := blk_lt HK.out
  go_wp2_with fail
  refine (shFind sb most a n c es k _ H10.out H20.out hs HL.out (by omega)).mono ?_
  rintro r w1 ⟨rfl, hb1⟩
  rw [HIN.out, HP.out]
  clear hk0 hl0
  have H11 := Lib.hid (show BoxS w1 sb most a n c from blk_ext hb1 H10.out)
  have H21 := Lib.hid (SAt.ext H20.out hb1)
  have HE1 := Lib.hid (blk_ext hb1 HE.out)
  have HB1 := Lib.hid (ext_trans HB0.out hb1)
  have hk1 := blk_cell HE1.out
  have hf1 := blk_free HE1.out
  have hl1 := blk_lt HE1.out
  clear hb1 HK HE H10 H20 HB0 H1 H2 hs
  go_wp2_with fail
  exact bodyPost_ret (v := .tuple #[.agg #[.string ⟨#[]⟩, .string ⟨#[]⟩, .int .i64 0, .int .i64 0, .int .i64 0, .int .i64 0, .int .i64 0, .int .i64 0, .bool false, .int .i64 0], .bool false]) (by have hk2 := blk_cell (blk_fill10 (v0 := .string ⟨#[]⟩) (v1 := .string ⟨#[]⟩) (v2 := .int .i64 0) (v3 := .int .i64 0) (v4 := .int .i64 0) (v5 := .int .i64 0) (v6 := .int .i64 0) (v7 := .int .i64 0) (v8 := .bool false) (v9 := .int .i64 0) HE1.out rfl); simp [results, Try.results62, go_sem, hk2]) rfl ⟨rfl, below_fill10 HB1.out (by have := HQ.out; omega)⟩

end Go.Proofs.Ytkhcgopehmndgaa
