/- The document's own shelf: Put of a key that is there; a shelf that is full. -/
import Derived.Test.YtnmpjagdkbaidaaShfRG
import Derived.Test.YtnmpjagdkbaidaaSplit
namespace Go.Proofs.Ytnmpjagdkbaidaa
open Go.RowKit
set_option linter.unusedVariables false
set_option linter.unusedSimpArgs false

theorem REAt.shelf {w : World} {a : Option Addr} {ls : List En} {sb : Nat} {most : Int} {a' : Option Addr} {n c : Nat} (h : REAt w a ls) (hs : BoxR w sb most a' n c) (v : Value) : REAt (w.setCell ⟨sb, 1, none⟩ v) a ls :=
  h.keep fun b cur hc _ => Below.heap_setCell w _ _ b (fun e => by
    have e1 : b = sb := e
    subst e1
    unfold BoxR at hs
    rw [hs] at hc
    simp at hc)
theorem rshp_set {w : World} {sb : Nat} {most : Int} {a : Option Addr} {n c base : Nat} {ls : List En} {v : Value} (hs : BoxR w sb most a n c) (ho : OwnRE base w v ls) : RShP (w.setCell ⟨sb, 1, none⟩ v) sb most ls := by
  obtain ⟨a2, c2, rfl, h1, h2, h3, -, h4⟩ := OwnR.read ec_len ho
  refine ⟨a2, c2, blk_set hs (by simp), REAt.shelf h3 hs _, h1, h2, ?_⟩
  rcases h4 with ⟨e1, e2, -⟩ | ⟨g, e⟩
  · exact .inl ⟨e1, e2⟩
  · exact .inr ⟨g, 0, e⟩
theorem RShP.rim {w w' : World} {s s' : Nat} {most : Int} {es : List En} (h : RShP w s most es) (hr : Rim s' w w') (hne : s ≠ s') {cur : Array Value} {U : TypeId} (hU : U ≠ 63) (hs : w.heap[s']? = some (.cells cur U (0, 0))) : RShP w' s most es := by
  obtain ⟨a, c, h1, h2, h3⟩ := h
  refine ⟨a, c, (hr.block s hne (blk_lt h1)).trans h1, h2.keep fun b cur' hc _ => hr.block b (fun e => ?_) (blk_lt hc), h3⟩
  subst e
  rw [hs] at hc
  simp at hc
  exact hU hc.2

theorem wpAny_stay {P : Program} {Q : Exit → Act → World → Prop} {a : Act} {w : World} {l : List Oper} (W : World) (hB : Region.lexB .any l.toArray = true) (hw : Below W.heap.size W w)
    (h : wpQuiet P l.toArray (fun w' => ∃ g : Of W, w' = g.w) (fun a' => ∀ w', Below W.heap.size W w' → Q .normal a' w') l a) : wpAny P .any l.toArray Q l.length (Array.replicate l.length false) a w := by
  simp only [Region.lexB, Bool.and_eq_true] at hB
  refine wpAny_of_quiet (C := fun w' => ∃ g : Of W, w' = g.w) (Q := fun a' => ∀ w', (∃ g : Of W, w' = g.w) → Q .normal a' w') (fun _ w' hw' h => h w' hw') _ _ _ _ ⟨⟨w, hw⟩, rfl⟩ ?_
  have e : (fun a' : Act => ∀ w' : World, (∃ g : Of W, w' = g.w) → Q .normal a' w') = fun a' => ∀ w', Below W.heap.size W w' → Q .normal a' w' := by
    funext a'
    exact propext ⟨fun h w' hb => h w' ⟨⟨w', hb⟩, rfl⟩, fun h w' ⟨g, hg⟩ => h w' (by rw [hg]; exact g.h)⟩
  rw [e]
  have := wpAnyQ_lex (C := fun w' => ∃ g : Of W, w' = g.w) (md := .any) hB.1 l 0 (Array.replicate l.length false) a (by simp) (by simpa using hB.2) h
  simpa using this

set_option maxRecDepth 100000 in
set_option maxHeartbeats 1000000 in
theorem rshPutNo (sb : Nat) (most : Int) (es : List En) (e : En) (w : World) (h : RShP w sb most es) (hs : Asc es) (hn : es.length ≤ 900) (hin : isIn (enK e) es = false) (hm : most ≤ es.length) :
    Calls Try.prog 26 #[.pointer (some ⟨sb, 0, none⟩), .agg #[.string e.c.a, .string e.c.i, .int .i64 e.c.s, .int .i64 e.c.o, .int .i64 e.c.l, .int .i64 e.c.t, .int .i64 e.c.k, .int .i64 e.c.n, .bool e.c.g, .int .i64 e.seen]] w fun r w' => r = .returned (.int .i64 24) ∧ Below w.heap.size w w' := by
  obtain ⟨a, c, h1, h2, h3, h4, h5⟩ := h
  have E0 : Below w.heap.size w (w.alloc (.cells #[.string e.c.a, .string e.c.i, .int .i64 e.c.s, .int .i64 e.c.o, .int .i64 e.c.l, .int .i64 e.c.t, .int .i64 e.c.k, .int .i64 e.c.n, .bool e.c.g, .int .i64 e.seen] 63)) := (Below.refl _ _).alloc (Nat.le_refl _) _
  have HP := Lib.hid (show (w.alloc (.cells #[.string e.c.a, .string e.c.i, .int .i64 e.c.s, .int .i64 e.c.o, .int .i64 e.c.l, .int .i64 e.c.t, .int .i64 e.c.k, .int .i64 e.c.n, .bool e.c.g, .int .i64 e.seen] 63)).heap[w.heap.size]? = some (.cells #[.string e.c.a, .string e.c.i, .int .i64 e.c.s, .int .i64 e.c.o, .int .i64 e.c.l, .int .i64 e.c.t, .int .i64 e.c.k, .int .i64 e.c.n, .bool e.c.g, .int .i64 e.seen] 63 (0, 0)) from blk_new _ _ _)
  have H1 := Lib.hid (show BoxR (w.alloc (.cells #[.string e.c.a, .string e.c.i, .int .i64 e.c.s, .int .i64 e.c.o, .int .i64 e.c.l, .int .i64 e.c.t, .int .i64 e.c.k, .int .i64 e.c.n, .bool e.c.g, .int .i64 e.seen] 63)) sb most a es.length c from blk_ext E0 h1)
  have HE := Lib.hid (SAt.ext h2 E0)
  have HB0 := Lib.hid E0
  have HS := Lib.hid hs
  have H5 := Lib.hid h5
  have hsb := blk_lt h1
  have hll := low_le (enK e) es
  obtain ⟨P, hP⟩ : ∃ P, low (enK e) es = P := ⟨_, rfl⟩
  have HPP := Lib.hid hP
  have HIN := Lib.hid hin
  rw [hP] at hll
  obtain ⟨n, hl⟩ : ∃ n, es.length = n := ⟨_, rfl⟩
  have HL := Lib.hid hl
  rw [hl] at H1 h3 hn hll hm
  have hm2 : decide (most ≤ (n : Int)) = true := by simpa using hm
  clear h1 h2 h5 hs E0 hP hl hin
  unfold maxLen at h4
  go_enter Try.func26, Try.ntmps26
  go_upto_region 1 with (fail)
  obtain ⟨p, hp⟩ : ∃ p, w.heap.size = p := ⟨_, rfl⟩
  have HPS := Lib.hid hp
  rw [hp] at HP ⊢
  clear hp
  generalize (w.alloc (.cells #[.string e.c.a, .string e.c.i, .int .i64 e.c.s, .int .i64 e.c.o, .int .i64 e.c.l, .int .i64 e.c.t, .int .i64 e.c.k, .int .i64 e.c.n, .bool e.c.g, .int .i64 e.seen] 63)) = w0 at *
  have hk0 := blk_cell HP.out
  have hl0 := blk_lt HP.out
  go_wp2_with fail
  refine (rshFind sb most a n c es (e.c.a, e.c.i) _ H1.out HE.out HS.out HL.out (by omega)).mono ?_
  rintro r w1 ⟨rfl, hb1⟩
  rw [show low (e.c.a, e.c.i) es = P from HPP.out, show isIn (e.c.a, e.c.i) es = false from HIN.out]
  clear hk0 hl0
  have HP1 := Lib.hid (blk_ext hb1 HP.out)
  have H11 := Lib.hid (show BoxR w1 sb most a n c from blk_ext hb1 H1.out)
  have HE1 := Lib.hid (SAt.ext HE.out hb1)
  have HB1 := Lib.hid (ext_trans HB0.out hb1)
  have c0 := blk_cell H11.out 0
  have c1 := blk_cell H11.out 1
  simp only [List.getElem?_toArray, List.getElem?_cons_zero, List.getElem?_cons_succ] at c0 c1
  clear hb1 HP H1 HE HB0
  go_wp2_with fail
  haveI hIq : Nonempty (Of w1) := of_some _
  have hF0 := of_cell c0
  have hF1 := of_cell c1
  first | (refine wp_region_stay w1 (by kernel_rfl) (by kernel_rfl) (by go_grown) ?_) | (refine wp_region_stay_seq w1 (by go_grown) ?_)
  repeat (go_big_quiet_step (fail))
  refine wpQuiet_nil ?_
  intro w2 hb2
  clear hIq hF0 hF1

  have HB2 := Lib.hid (ext_trans HB1.out hb2)
  clear hb2 c0 c1
  go_wp2
  go_ret
  exact ⟨rfl, HB2.out⟩

set_option maxRecDepth 100000 in
set_option maxHeartbeats 2000000 in
theorem rshPutIn (sb : Nat) (most : Int) (es : List En) (e : En) (w : World) (h : RShP w sb most es) (hs : Asc es) (hn : es.length ≤ 900) (hin : isIn (enK e) es = true) :
    Calls Try.prog 26 #[.pointer (some ⟨sb, 0, none⟩), .agg #[.string e.c.a, .string e.c.i, .int .i64 e.c.s, .int .i64 e.c.o, .int .i64 e.c.l, .int .i64 e.c.t, .int .i64 e.c.k, .int .i64 e.c.n, .bool e.c.g, .int .i64 e.seen]] w fun r w' => r = .returned (.int .i64 0) ∧ RShP w' sb most (es.set (low (enK e) es) e) ∧ Rim sb w w' := by
  obtain ⟨a, c, h1, h2, h3, h4, h5⟩ := h
  have E0 : Below w.heap.size w (w.alloc (.cells #[.string e.c.a, .string e.c.i, .int .i64 e.c.s, .int .i64 e.c.o, .int .i64 e.c.l, .int .i64 e.c.t, .int .i64 e.c.k, .int .i64 e.c.n, .bool e.c.g, .int .i64 e.seen] 63)) := (Below.refl _ _).alloc (Nat.le_refl _) _
  have HP := Lib.hid (show (w.alloc (.cells #[.string e.c.a, .string e.c.i, .int .i64 e.c.s, .int .i64 e.c.o, .int .i64 e.c.l, .int .i64 e.c.t, .int .i64 e.c.k, .int .i64 e.c.n, .bool e.c.g, .int .i64 e.seen] 63)).heap[w.heap.size]? = some (.cells #[.string e.c.a, .string e.c.i, .int .i64 e.c.s, .int .i64 e.c.o, .int .i64 e.c.l, .int .i64 e.c.t, .int .i64 e.c.k, .int .i64 e.c.n, .bool e.c.g, .int .i64 e.seen] 63 (0, 0)) from blk_new _ _ _)
  have H1 := Lib.hid (show BoxR (w.alloc (.cells #[.string e.c.a, .string e.c.i, .int .i64 e.c.s, .int .i64 e.c.o, .int .i64 e.c.l, .int .i64 e.c.t, .int .i64 e.c.k, .int .i64 e.c.n, .bool e.c.g, .int .i64 e.seen] 63)) sb most a es.length c from blk_ext E0 h1)
  have HE := Lib.hid (SAt.ext h2 E0)
  have HB0 := Lib.hid E0
  have HS := Lib.hid hs
  have H5 := Lib.hid h5
  have hsb := blk_lt h1
  have hll := low_le (enK e) es
  obtain ⟨P, hP⟩ : ∃ P, low (enK e) es = P := ⟨_, rfl⟩
  have HPP := Lib.hid hP
  have HIN := Lib.hid hin
  rw [hP] at hll ⊢
  have hlt : P < es.length := by
    obtain ⟨x, hx, -⟩ := isIn_at hin
    rw [hP] at hx
    exact (List.getElem?_eq_some_iff.1 hx).1
  obtain ⟨n, hl⟩ : ∃ n, es.length = n := ⟨_, rfl⟩
  have HL := Lib.hid hl
  rw [hl] at H1 h3 hn hll hlt
  clear h1 h2 h5 hs E0 hP hl hin
  unfold maxLen at h4
  go_enter Try.func26, Try.ntmps26
  go_upto_region 1 with (fail)
  obtain ⟨p, hp⟩ : ∃ p, w.heap.size = p := ⟨_, rfl⟩
  have HPS := Lib.hid hp
  rw [hp] at HP ⊢
  clear hp
  generalize (w.alloc (.cells #[.string e.c.a, .string e.c.i, .int .i64 e.c.s, .int .i64 e.c.o, .int .i64 e.c.l, .int .i64 e.c.t, .int .i64 e.c.k, .int .i64 e.c.n, .bool e.c.g, .int .i64 e.seen] 63)) = w0 at *
  have hk0 := blk_cell HP.out
  have hl0 := blk_lt HP.out
  go_wp2_with fail
  refine (rshFind sb most a n c es (e.c.a, e.c.i) _ H1.out HE.out HS.out HL.out (by omega)).mono ?_
  rintro r w1 ⟨rfl, hb1⟩
  rw [show low (e.c.a, e.c.i) es = P from HPP.out, show isIn (e.c.a, e.c.i) es = true from HIN.out]
  clear hk0 hl0
  have HP1 := Lib.hid (blk_ext hb1 HP.out)
  have H11 := Lib.hid (show BoxR w1 sb most a n c from blk_ext hb1 H1.out)
  have HE1 := Lib.hid (SAt.ext HE.out hb1)
  have HB1 := Lib.hid (ext_trans HB0.out hb1)
  have c0 := blk_cell H11.out 0
  have c1 := blk_cell H11.out 1
  simp only [List.getElem?_toArray, List.getElem?_cons_zero, List.getElem?_cons_succ] at c0 c1
  clear hb1 HP H1 HE HB0
  obtain ⟨i0, hi, hz0, hz1, hz2⟩ := info_parts' info_re
  obtain ⟨b, o, rfl⟩ : ∃ b o, a = some ⟨b, o, none⟩ := by
    rcases HE1.out with h | ⟨b, o, e', _⟩
    · have := HL.out; rw [h] at this; simp at this; omega
    · exact ⟨b, o, e'⟩
  have hl11 := blk_lt H11.out
  have B0 : Below w1.heap.size w1 (w1.alloc (.cells #[] 63)) := (Below.refl _ _).alloc (Nat.le_refl _) _
  have O0 := (OwnR.made (enc := ec) (k := 10) (T := 63) w1.heap.size w1 (Nat.le_refl _))
  have hcells := Lib.hid (show ∀ j u, (flat ec es)[j]? = some u → (w1.alloc (.cells #[] 63)).cell? ((⟨b, o, none⟩ : Addr).add j) = some u from fun j u hj => by
    rw [add_off]
    rcases HE1.out with h | ⟨b', o', e', _, h⟩
    · rw [h] at hj; simp [flat] at hj
    · simp at e'
      obtain ⟨rfl, rfl⟩ := e'
      exact ext_cell B0 (h j u hj))
  go_wp2_with (at_builtin; refine wpList_append_own _ rfl _ _ 77 rfl (w1.heap.size) 63 i0 En.zero.v 10 96 Try.underlying77 hi hz0 hz1 hz2 rfl (by decide) (.slice (some ⟨w1.heap.size, 0, none⟩) 0 0) 0 (flat ec []) rfl O0 ⟨b, o, none⟩ n c (flat ec es) rfl ?c0 ?c1 ?c2 ?c3 ?c4 ?c5 ?_)
  case c0 => rw [flat_len ec_len, HL.out]
  case c1 => exact hcells.out
  case c2 => exact flat_one ec_one es
  case c3 => unfold maxLen; omega
  case c4 => omega
  case c5 => exact B0.size
  intro v' w5 ho hg _
  have B5 : Below w1.heap.size w1 w5 := B0.grown hg B0.size (fun q hq => own_ge O0 hq)
  have ho' : OwnRE w1.heap.size w5 v' es := by unfold OwnRE OwnR; rw [HL.out]; simpa [flat_nil] using ho
  obtain ⟨ra, rc, rfl, hrc, hrm, -, -, -⟩ := OwnR.read ec_len ho'
  rw [HL.out] at ho' hrc ⊢
  obtain ⟨g, rfl, hg0, hg1, -⟩ := OwnR.addr ho' HL.out (by omega)
  have HO5 := Lib.hid ho'
  have HP5 := Lib.hid (blk_ext B5 HP1.out)
  have H15 := Lib.hid (show BoxR w5 sb most (some ⟨b, o, none⟩) n c from blk_ext B5 H11.out)
  have HB5 := Lib.hid (ext_trans HB1.out B5)
  have hz1' := HB1.out.size
  have hne : sb ≠ g := by have := blk_lt H11.out; omega
  unfold maxLen at hrm
  clear ho hg O0 B0 hcells ho' c0 c1 HP1 H11 HE1 B5
  have hk5 := blk_cell H15.out
  have hf5 := blk_free H15.out
  have hl5 := blk_lt H15.out
  have HO6 := Lib.hid (show OwnRE w1.heap.size (w5.setCell ⟨sb, 1, none⟩ (.slice (some ⟨g, 0, none⟩) n rc)) (.slice (some ⟨g, 0, none⟩) n rc) es from own_blocks HO5.out (fun b' cur hc => Below.heap_setCell w5 _ _ b' (fun e' => by
    have e1 : b' = sb := e'
    subst e1
    have := H15.out
    unfold BoxR at this
    rw [this] at hc
    simp at hc)))
  have H16 := Lib.hid (show BoxR (w5.setCell ⟨sb, 1, none⟩ (.slice (some ⟨g, 0, none⟩) n rc)) sb most (some ⟨g, 0, none⟩) n rc from blk_set H15.out (by simp))
  have hps : p ≠ sb := by have := HPS.out; omega
  have HP6 := Lib.hid (show (w5.setCell ⟨sb, 1, none⟩ (.slice (some ⟨g, 0, none⟩) n rc)).heap[p]? = some (.cells #[.string e.c.a, .string e.c.i, .int .i64 e.c.s, .int .i64 e.c.o, .int .i64 e.c.l, .int .i64 e.c.t, .int .i64 e.c.k, .int .i64 e.c.n, .bool e.c.g, .int .i64 e.seen] 63 (0, 0)) from blk_set_other hps HP5.out)
  have HR6 := Lib.hid (show Rim sb w (w5.setCell ⟨sb, 1, none⟩ (.slice (some ⟨g, 0, none⟩) n rc)) from (Rim.of HB5.out).trans (Rim.kept ((Kept.refl sb w5).setCell _ _)))
  go_wp2_with fail
  have hkept : Kept g w5 w5 := Kept.refl _ _
  generalize (w5.setCell ⟨sb, 1, none⟩ (.slice (some ⟨g, 0, none⟩) n rc)) = w6 at *
  obtain ⟨cur6, hcur6⟩ : ∃ cur, w6.heap[g]? = some (.cells cur 63 (0, 0)) := by
    obtain ⟨-, -, -, cur, h, -⟩ := OwnR.num HO6.out
    exact ⟨cur, h⟩
  have HC6 := Lib.hid hcur6
  have d1 := blk_cell H16.out 1
  simp only [List.getElem?_toArray, List.getElem?_cons_zero, List.getElem?_cons_succ] at d1
  obtain ⟨e0, e1, e2, e3, e4, e5, e6, e7, e8, e9⟩ : w6.cell? ⟨p, 0, none⟩ = some (.string e.c.a) ∧ w6.cell? ⟨p, 1, none⟩ = some (.string e.c.i) ∧ w6.cell? ⟨p, 2, none⟩ = some (.int .i64 e.c.s) ∧ w6.cell? ⟨p, 3, none⟩ = some (.int .i64 e.c.o) ∧ w6.cell? ⟨p, 4, none⟩ = some (.int .i64 e.c.l) ∧ w6.cell? ⟨p, 5, none⟩ = some (.int .i64 e.c.t) ∧ w6.cell? ⟨p, 6, none⟩ = some (.int .i64 e.c.k) ∧ w6.cell? ⟨p, 7, none⟩ = some (.int .i64 e.c.n) ∧ w6.cell? ⟨p, 8, none⟩ = some (.bool e.c.g) ∧ w6.cell? ⟨p, 9, none⟩ = some (.int .i64 e.seen) := by
    have hk := blk_cell HP6.out
    exact ⟨by rw [hk]; rfl, by rw [hk]; rfl, by rw [hk]; rfl, by rw [hk]; rfl, by rw [hk]; rfl, by rw [hk]; rfl, by rw [hk]; rfl, by rw [hk]; rfl, by rw [hk]; rfl, by rw [hk]; rfl⟩
  have hPi : (P : Int) < (n : Int) := by omega
  clear hkept hcur6 hk5 hf5 hl5
  haveI hIq : Nonempty (Of w6) := of_some _
  have hF0 := of_cell d1
  have hF1 := of_cell e0
  have hF2 := of_cell e1
  have hF3 := of_cell e2
  have hF4 := of_cell e3
  have hF5 := of_cell e4
  have hF6 := of_cell e5
  have hF7 := of_cell e6
  have hF8 := of_cell e7
  have hF9 := of_cell e8
  have hF10 := of_cell e9
  refine wp_region_split 7 1 6 rfl rfl (by kernel_rfl) (by kernel_rfl) (by kernel_rfl) (by kernel_rfl) (by kernel_rfl) ?_
  simp only [List.take_succ_cons, List.take_zero]
  refine wpAny_stay w6 (by kernel_rfl) ((Below.refl _ _).drew) ?_
  repeat (go_big_quiet_step (fail))
  refine wpQuiet_nil ?_
  intro w7 hb7
  clear hIq hF0 hF1 hF2 hF3 hF4 hF5 hF6 hF7 hF8 hF9 hF10 e0 e1 e2 e3 e4 e5 e6 e7 e8 e9 d1
  simp only [behind]
  have HC7 := Lib.hid (blk_ext hb7 HC6.out)
  have HO7 := Lib.hid (show OwnRE w1.heap.size w7 (.slice (some ⟨g, 0, none⟩) n rc) es from OwnR.ext HO6.out hb7)
  have H17 := Lib.hid (show BoxR w7 sb most (some ⟨g, 0, none⟩) n rc from blk_ext hb7 H16.out)
  have HR7 := Lib.hid (show Rim sb w w7 from HR6.out.trans (Rim.of hb7))
  have HPUT := Lib.hid (OwnR.put ec_len HO7.out (i := P) (by have := HL.out; omega) e)
  have HKP := Lib.hid (kept_sets (ec e) (o := P * 10) (Kept.refl g w7))
  obtain ⟨y0, y1, y2, y3, y4, y5, y6, y7, y8, y9⟩ := REAt.at (show REAt w7 (some ⟨g, 0, none⟩) es from by obtain ⟨a', c', e', -, -, h, -⟩ := OwnR.read ec_len HO7.out; simp at e'; rw [e'.1]; exact h) (List.getElem?_eq_getElem (show P < es.length by have := HL.out; omega))
  simp only [Nat.zero_add] at y0 y1 y2 y3 y4 y5 y6 y7 y8 y9
  have hf7 := blk_free HC7.out
  have hl7 := blk_lt HC7.out
  clear hb7 HC6 HO6 H16 HR6
  refine wpAny_one 7 _ (by kernel_rfl) rfl ?_
  refine wpOp_do (by simp only [List.getElem?_toArray, List.getElem?_cons_succ, List.getElem?_cons_zero]; rfl) (by rfl) (fun K hK => ?_)
  go_big_op
  refine hK _ _ ?_
  clear hK K
  refine wpAny_end (by kernel_rfl) ?_
  have HRES := Lib.hid (show RShP (w7.setCells g (P * 10) (ec e)) sb most (es.set P e) from by
    refine ⟨some ⟨g, 0, none⟩, rc, ?_, ?_, by rw [List.length_set, HL.out]; exact hrc, by unfold maxLen; exact hrm, .inr ⟨g, 0, rfl⟩⟩
    · rw [List.length_set, HL.out]
      exact (HKP.out.block sb hne).trans H17.out
    · obtain ⟨a', c', e', -, -, h, -⟩ := OwnR.read ec_len HPUT.out
      simp at e'
      rw [e'.1]
      exact h)
  have HRIM := Lib.hid (show Rim sb w (w7.setCells g (P * 10) (ec e)) from ⟨HKP.out.os.trans HR7.out.os, HKP.out.tape.trans HR7.out.tape, HKP.out.output.trans HR7.out.output, by rw [HKP.out.size]; exact HR7.out.size, fun k hk hl => (HKP.out.block k (by omega)).trans (HR7.out.block k hk hl)⟩)
  clear HPUT HKP
  go_wp2
  go_ret
  exact ⟨rfl, HRES.out, HRIM.out⟩

end Go.Proofs.Ytnmpjagdkbaidaa
