/- Package shelf: Put. -/
import Derived.Test.YtnmpjagdkbaidaaShfF
namespace Go.Proofs.Ytnmpjagdkbaidaa
open Go.RowKit
set_option linter.unusedVariables false
set_option linter.unusedSimpArgs false

/-- block sb is a shelf of at most so many that holds es -/
def ShP (w : World) (sb : Nat) (most : Int) (es : List En) : Prop := ∃ a c, BoxS w sb most a es.length c ∧ EAt w a es ∧ es.length ≤ c ∧ c ≤ maxLen ∧ ((a = none ∧ c = 0) ∨ ∃ b o, a = some ⟨b, o, none⟩)
theorem ShP.ext {w w' : World} {sb : Nat} {most : Int} {es : List En} (h : ShP w sb most es) (hb : Below w.heap.size w w') : ShP w' sb most es := by
  obtain ⟨a, c, h1, h2, h3⟩ := h
  exact ⟨a, c, blk_ext hb h1, h2.ext hb, h3⟩
theorem ShP.lt {w : World} {sb : Nat} {most : Int} {es : List En} (h : ShP w sb most es) : sb < w.heap.size := by
  obtain ⟨a, c, h1, h2, h3⟩ := h
  exact blk_lt h1
def enK (e : En) : Ky := (e.c.a, e.c.i)
/-- a row stays when a shelf's block is written -/
theorem EAt.shelf {w : World} {a : Option Addr} {ls : List En} {sb : Nat} {most : Int} {a' : Option Addr} {n c : Nat} (h : EAt w a ls) (hs : BoxS w sb most a' n c) (v : Value) : EAt (w.setCell ⟨sb, 1, none⟩ v) a ls :=
  h.keep fun b cur hc _ => Below.heap_setCell w _ _ b (fun e => by
    have e1 : b = sb := e
    subst e1
    unfold BoxS at hs
    rw [hs] at hc
    simp at hc)
theorem shp_set {w : World} {sb : Nat} {most : Int} {a : Option Addr} {n c base : Nat} {ls : List En} {v : Value} (hs : BoxS w sb most a n c) (ho : OwnE base w v ls) : ShP (w.setCell ⟨sb, 1, none⟩ v) sb most ls := by
  obtain ⟨a2, c2, rfl, h1, h2, h3, -, h4⟩ := OwnR.read ec_len ho
  refine ⟨a2, c2, blk_set hs (by simp), EAt.shelf h3 hs _, h1, h2, ?_⟩
  rcases h4 with ⟨e1, e2, -⟩ | ⟨g, e⟩
  · exact .inl ⟨e1, e2⟩
  · exact .inr ⟨g, 0, e⟩

set_option maxRecDepth 100000 in
set_option maxHeartbeats 1000000 in
theorem shPutNo (sb : Nat) (most : Int) (es : List En) (e : En) (w : World) (h : ShP w sb most es) (hs : Asc es) (hn : es.length ≤ 900) (hin : isIn (enK e) es = false) (hm : most ≤ es.length) :
    Calls Try.prog 14 #[.pointer (some ⟨sb, 0, none⟩), .agg #[.string e.c.a, .string e.c.i, .int .i64 e.c.s, .int .i64 e.c.o, .int .i64 e.c.l, .int .i64 e.c.t, .int .i64 e.c.k, .int .i64 e.c.n, .bool e.c.g, .int .i64 e.seen]] w fun r w' => r = .returned (.int .i64 24) ∧ Below w.heap.size w w' := by
  obtain ⟨a, c, h1, h2, h3, h4, h5⟩ := h
  have E0 : Below w.heap.size w (w.alloc (.cells #[.string e.c.a, .string e.c.i, .int .i64 e.c.s, .int .i64 e.c.o, .int .i64 e.c.l, .int .i64 e.c.t, .int .i64 e.c.k, .int .i64 e.c.n, .bool e.c.g, .int .i64 e.seen] 48)) := (Below.refl _ _).alloc (Nat.le_refl _) _
  have HP := Lib.hid (show (w.alloc (.cells #[.string e.c.a, .string e.c.i, .int .i64 e.c.s, .int .i64 e.c.o, .int .i64 e.c.l, .int .i64 e.c.t, .int .i64 e.c.k, .int .i64 e.c.n, .bool e.c.g, .int .i64 e.seen] 48)).heap[w.heap.size]? = some (.cells #[.string e.c.a, .string e.c.i, .int .i64 e.c.s, .int .i64 e.c.o, .int .i64 e.c.l, .int .i64 e.c.t, .int .i64 e.c.k, .int .i64 e.c.n, .bool e.c.g, .int .i64 e.seen] 48 (0, 0)) from blk_new _ _ _)
  have H1 := Lib.hid (show BoxS (w.alloc (.cells #[.string e.c.a, .string e.c.i, .int .i64 e.c.s, .int .i64 e.c.o, .int .i64 e.c.l, .int .i64 e.c.t, .int .i64 e.c.k, .int .i64 e.c.n, .bool e.c.g, .int .i64 e.seen] 48)) sb most a es.length c from blk_ext E0 h1)
  have HE := Lib.hid (SAt.ext h2 E0)
  have HB0 := Lib.hid E0
  have HS := Lib.hid hs
  have H5 := Lib.hid h5
  have hsb := blk_lt h1
  have hll := low_le (enK e) es
  obtain ⟨P, hP⟩ : ∃ P, low (enK e) es = P := ⟨_, rfl⟩
  have HPP := Lib.hid hP
  have HIN := Lib.hid hin
  rw [hP] at hll
  obtain ⟨n, hl⟩ : ∃ n, es.length = n := ⟨_, rfl⟩
  have HL := Lib.hid hl
  rw [hl] at H1 h3 hn hll hm
  have hm2 : decide (most ≤ (n : Int)) = true := by simpa using hm
  clear h1 h2 h5 hs E0 hP hl hin
  unfold maxLen at h4
  go_enter Try.func14, Try.ntmps14
  go_upto_region 1 with (fail)
  obtain ⟨p, hp⟩ : ∃ p, w.heap.size = p := ⟨_, rfl⟩
  have HPS := Lib.hid hp
  rw [hp] at HP ⊢
  clear hp
  generalize (w.alloc (.cells #[.string e.c.a, .string e.c.i, .int .i64 e.c.s, .int .i64 e.c.o, .int .i64 e.c.l, .int .i64 e.c.t, .int .i64 e.c.k, .int .i64 e.c.n, .bool e.c.g, .int .i64 e.seen] 48)) = w0 at *
  have hk0 := blk_cell HP.out
  have hl0 := blk_lt HP.out
  go_wp2_with fail
  refine (shFind sb most a n c es (e.c.a, e.c.i) _ H1.out HE.out HS.out HL.out (by omega)).mono ?_
  rintro r w1 ⟨rfl, hb1⟩
  rw [show low (e.c.a, e.c.i) es = P from HPP.out, show isIn (e.c.a, e.c.i) es = false from HIN.out]
  clear hk0 hl0
  have HP1 := Lib.hid (blk_ext hb1 HP.out)
  have H11 := Lib.hid (show BoxS w1 sb most a n c from blk_ext hb1 H1.out)
  have HE1 := Lib.hid (SAt.ext HE.out hb1)
  have HB1 := Lib.hid (ext_trans HB0.out hb1)
  have c0 := blk_cell H11.out 0
  have c1 := blk_cell H11.out 1
  simp only [List.getElem?_toArray, List.getElem?_cons_zero, List.getElem?_cons_succ] at c0 c1
  clear hb1 HP H1 HE HB0
  go_wp2_with fail
  haveI hIq : Nonempty (Of w1) := of_some _
  have hF0 := of_cell c0
  have hF1 := of_cell c1
  first | (refine wp_region_stay w1 (by kernel_rfl) (by kernel_rfl) (by go_grown) ?_) | (refine wp_region_stay_seq w1 (by go_grown) ?_)
  repeat (go_big_quiet_step (fail))
  refine wpQuiet_nil ?_
  intro w2 hb2
  clear hIq hF0 hF1

  have HB2 := Lib.hid (ext_trans HB1.out hb2)
  clear hb2 c0 c1
  go_wp2
  go_ret
  exact ⟨rfl, HB2.out⟩

set_option maxRecDepth 100000 in
set_option maxHeartbeats 2000000 in
theorem shPutIn (sb : Nat) (most : Int) (es : List En) (e : En) (w : World) (h : ShP w sb most es) (hs : Asc es) (hn : es.length ≤ 900) (hin : isIn (enK e) es = true) :
    Calls Try.prog 14 #[.pointer (some ⟨sb, 0, none⟩), .agg #[.string e.c.a, .string e.c.i, .int .i64 e.c.s, .int .i64 e.c.o, .int .i64 e.c.l, .int .i64 e.c.t, .int .i64 e.c.k, .int .i64 e.c.n, .bool e.c.g, .int .i64 e.seen]] w fun r w' => r = .returned (.int .i64 0) ∧ ShP w' sb most (es.set (low (enK e) es) e) ∧ Rim sb w w' := by
  obtain ⟨a, c, h1, h2, h3, h4, h5⟩ := h
  have E0 : Below w.heap.size w (w.alloc (.cells #[.string e.c.a, .string e.c.i, .int .i64 e.c.s, .int .i64 e.c.o, .int .i64 e.c.l, .int .i64 e.c.t, .int .i64 e.c.k, .int .i64 e.c.n, .bool e.c.g, .int .i64 e.seen] 48)) := (Below.refl _ _).alloc (Nat.le_refl _) _
  have HP := Lib.hid (show (w.alloc (.cells #[.string e.c.a, .string e.c.i, .int .i64 e.c.s, .int .i64 e.c.o, .int .i64 e.c.l, .int .i64 e.c.t, .int .i64 e.c.k, .int .i64 e.c.n, .bool e.c.g, .int .i64 e.seen] 48)).heap[w.heap.size]? = some (.cells #[.string e.c.a, .string e.c.i, .int .i64 e.c.s, .int .i64 e.c.o, .int .i64 e.c.l, .int .i64 e.c.t, .int .i64 e.c.k, .int .i64 e.c.n, .bool e.c.g, .int .i64 e.seen] 48 (0, 0)) from blk_new _ _ _)
  have H1 := Lib.hid (show BoxS (w.alloc (.cells #[.string e.c.a, .string e.c.i, .int .i64 e.c.s, .int .i64 e.c.o, .int .i64 e.c.l, .int .i64 e.c.t, .int .i64 e.c.k, .int .i64 e.c.n, .bool e.c.g, .int .i64 e.seen] 48)) sb most a es.length c from blk_ext E0 h1)
  have HE := Lib.hid (SAt.ext h2 E0)
  have HB0 := Lib.hid E0
  have HS := Lib.hid hs
  have H5 := Lib.hid h5
  have hsb := blk_lt h1
  have hll := low_le (enK e) es
  obtain ⟨P, hP⟩ : ∃ P, low (enK e) es = P := ⟨_, rfl⟩
  have HPP := Lib.hid hP
  have HIN := Lib.hid hin
  rw [hP] at hll ⊢
  have hlt : P < es.length := by
    have hh := hin
    unfold isIn at hh
    rw [hP] at hh
    rcases Nat.lt_or_ge P es.length with h | h
    · exact h
    · rw [List.getElem?_eq_none h] at hh; cases hh
  obtain ⟨n, hl⟩ : ∃ n, es.length = n := ⟨_, rfl⟩
  have HL := Lib.hid hl
  rw [hl] at H1 h3 hn hll hlt
  clear h1 h2 h5 hs E0 hP hl hin
  unfold maxLen at h4
  go_enter Try.func14, Try.ntmps14
  go_upto_region 1 with (fail)
  obtain ⟨p, hp⟩ : ∃ p, w.heap.size = p := ⟨_, rfl⟩
  have HPS := Lib.hid hp
  rw [hp] at HP ⊢
  clear hp
  generalize (w.alloc (.cells #[.string e.c.a, .string e.c.i, .int .i64 e.c.s, .int .i64 e.c.o, .int .i64 e.c.l, .int .i64 e.c.t, .int .i64 e.c.k, .int .i64 e.c.n, .bool e.c.g, .int .i64 e.seen] 48)) = w0 at *
  have hk0 := blk_cell HP.out
  have hl0 := blk_lt HP.out
  go_wp2_with fail
  refine (shFind sb most a n c es (e.c.a, e.c.i) _ H1.out HE.out HS.out HL.out (by omega)).mono ?_
  rintro r w1 ⟨rfl, hb1⟩
  rw [show low (e.c.a, e.c.i) es = P from HPP.out, show isIn (e.c.a, e.c.i) es = true from HIN.out]
  clear hk0 hl0
  have HP1 := Lib.hid (blk_ext hb1 HP.out)
  have H11 := Lib.hid (show BoxS w1 sb most a n c from blk_ext hb1 H1.out)
  have HE1 := Lib.hid (SAt.ext HE.out hb1)
  have HB1 := Lib.hid (ext_trans HB0.out hb1)
  have c0 := blk_cell H11.out 0
  have c1 := blk_cell H11.out 1
  simp only [List.getElem?_toArray, List.getElem?_cons_zero, List.getElem?_cons_succ] at c0 c1
  clear hb1 HP H1 HE HB0
  go_wp2_with fail
  haveI hIq : Nonempty (Of w1) := of_some _
  have hF0 := of_cell c0
  have hF1 := of_cell c1
  first | (refine wp_region_stay w1 (by kernel_rfl) (by kernel_rfl) (by go_grown) ?_) | (refine wp_region_stay_seq w1 (by go_grown) ?_)
  repeat (go_big_quiet_step (fail))
  refine wpQuiet_nil ?_
  intro w2 hb2
  clear hIq hF0 hF1

  have HB2 := Lib.hid (ext_trans HB1.out hb2)
  have HP2 := Lib.hid (blk_ext hb2 HP1.out)
  have H12 := Lib.hid (show BoxS w2 sb most a n c from blk_ext hb2 H11.out)
  have HE2 := Lib.hid (SAt.ext HE1.out hb2)
  clear c0 c1
  have c1 := blk_cell H12.out 1
  simp only [List.getElem?_toArray, List.getElem?_cons_zero, List.getElem?_cons_succ] at c1
  clear hb2 HP1 H11 HE1 HB1
  go_wp2_with fail
  refine (cloneE a n c es _ HE2.out HL.out (by omega) H5.out).mono ?_
  rintro r w3 ⟨v3, rfl, ho3, hb3⟩
  clear c1
  obtain ⟨ra, rc, rfl, hrc, hrm, hat, hrb, -⟩ := OwnR.read ec_len ho3
  have HAT := Lib.hid (show EAt w3 ra es from hat)
  rw [HL.out] at ho3 hrc ⊢
  have HO3 := Lib.hid ho3
  have HP3 := Lib.hid (blk_ext hb3 HP2.out)
  have H13 := Lib.hid (show BoxS w3 sb most a n c from blk_ext hb3 H12.out)
  have HB3 := Lib.hid (ext_trans HB2.out hb3)
  have hz2 := HB2.out.size
  have hz3 := hb3.size
  have HRB := Lib.hid hrb
  unfold maxLen at hrm
  clear ho3 hb3 hat HP2 H12 HE2 HB2 hrb
  obtain ⟨g, rfl, hg0, hg1⟩ := OwnR.addr HO3.out HL.out (by omega)
  obtain ⟨-, -, -, cur3, hcur3, hcs3, -⟩ := OwnR.num HO3.out
  have hk3 := blk_cell HP3.out
  have hf3 := blk_free hcur3
  have hlg3 := blk_lt hcur3
  obtain ⟨y, hy⟩ : ∃ y, es[P]? = some y := ⟨_, List.getElem?_eq_getElem (by have := HL.out; omega)⟩
  obtain ⟨y0, y1, y2, y3, y4, y5, y6, y7, y8, y9⟩ := EAt.at HAT.out hy
  simp only [Nat.zero_add] at y0 y1 y2 y3 y4 y5 y6 y7 y8 y9
  have hpn : (P : Int) < (n : Int) := by omega
  have HPUT := Lib.hid (OwnR.put ec_len HO3.out (i := P) (by have := HL.out; omega) e)
  have HKP := Lib.hid (kept_sets (ec e) (o := P * 10) (Kept.refl g w3))
  clear hcur3 hcs3 hy
  go_upto_region 8 with (fail)
  refine wp_letter (fun W => OwnE w2.heap.size W (.slice (some ⟨g, 0, none⟩) n rc) (es.set P e) ∧ Kept g w3 W) ⟨HPUT.out, HKP.out⟩ ?_
  clear HPUT HKP hk3 hf3 hlg3 y0 y1 y2 y3 y4 y5 y6 y7 y8 y9
  rintro w4 ⟨ho4, hk4⟩
  have hne : sb ≠ g := by have := blk_lt H13.out; omega
  have H14 : BoxS w4 sb most a n c := (hk4.block sb hne).trans H13.out
  have HB4 := Lib.hid (HB3.out.trans ((Rim.kept hk4).below (by omega) HB3.out.size))
  have HRES := Lib.hid (shp_set H14 ho4)
  have HRIM := Lib.hid (show Rim sb w (w4.setCell ⟨sb, 1, none⟩ (.slice (some ⟨g, 0, none⟩) n rc)) from (Rim.of HB4.out).trans (Rim.kept ((Kept.refl sb w4).setCell _ _)))
  have hk5 := blk_cell H14
  have hf5 := blk_free H14
  have hl5 := blk_lt H14
  clear ho4 hk4 H14
  go_wp2
  go_ret
  exact ⟨rfl, HRES.out, HRIM.out⟩

set_option maxRecDepth 100000 in
set_option maxHeartbeats 2000000 in
theorem shPutNew (sb : Nat) (most : Int) (es : List En) (e : En) (w : World) (h : ShP w sb most es) (hs : Asc es) (hn : es.length ≤ 900) (hin : isIn (enK e) es = false) (hm : (es.length : Int) < most) :
    Calls Try.prog 14 #[.pointer (some ⟨sb, 0, none⟩), .agg #[.string e.c.a, .string e.c.i, .int .i64 e.c.s, .int .i64 e.c.o, .int .i64 e.c.l, .int .i64 e.c.t, .int .i64 e.c.k, .int .i64 e.c.n, .bool e.c.g, .int .i64 e.seen]] w fun r w' => r = .returned (.int .i64 0) ∧ ShP w' sb most (insAt es (low (enK e) es) e) ∧ Rim sb w w' := by
  obtain ⟨a, c, h1, h2, h3, h4, h5⟩ := h
  have E0 : Below w.heap.size w (w.alloc (.cells #[.string e.c.a, .string e.c.i, .int .i64 e.c.s, .int .i64 e.c.o, .int .i64 e.c.l, .int .i64 e.c.t, .int .i64 e.c.k, .int .i64 e.c.n, .bool e.c.g, .int .i64 e.seen] 48)) := (Below.refl _ _).alloc (Nat.le_refl _) _
  have HP := Lib.hid (show (w.alloc (.cells #[.string e.c.a, .string e.c.i, .int .i64 e.c.s, .int .i64 e.c.o, .int .i64 e.c.l, .int .i64 e.c.t, .int .i64 e.c.k, .int .i64 e.c.n, .bool e.c.g, .int .i64 e.seen] 48)).heap[w.heap.size]? = some (.cells #[.string e.c.a, .string e.c.i, .int .i64 e.c.s, .int .i64 e.c.o, .int .i64 e.c.l, .int .i64 e.c.t, .int .i64 e.c.k, .int .i64 e.c.n, .bool e.c.g, .int .i64 e.seen] 48 (0, 0)) from blk_new _ _ _)
  have H1 := Lib.hid (show BoxS (w.alloc (.cells #[.string e.c.a, .string e.c.i, .int .i64 e.c.s, .int .i64 e.c.o, .int .i64 e.c.l, .int .i64 e.c.t, .int .i64 e.c.k, .int .i64 e.c.n, .bool e.c.g, .int .i64 e.seen] 48)) sb most a es.length c from blk_ext E0 h1)
  have HE := Lib.hid (SAt.ext h2 E0)
  have HB0 := Lib.hid E0
  have HS := Lib.hid hs
  have H5 := Lib.hid h5
  have hsb := blk_lt h1
  have hll := low_le (enK e) es
  obtain ⟨P, hP⟩ : ∃ P, low (enK e) es = P := ⟨_, rfl⟩
  have HPP := Lib.hid hP
  have HIN := Lib.hid hin
  rw [hP] at hll ⊢
  obtain ⟨n, hl⟩ : ∃ n, es.length = n := ⟨_, rfl⟩
  have HL := Lib.hid hl
  rw [hl] at H1 h3 hn hll hm
  have hm3 : ¬ most ≤ (n : Int) := by omega
  have hm2 : decide (most ≤ (n : Int)) = false := by simpa using hm
  clear h1 h2 h5 hs E0 hP hl hin
  unfold maxLen at h4
  go_enter Try.func14, Try.ntmps14
  go_upto_region 1 with (fail)
  obtain ⟨p, hp⟩ : ∃ p, w.heap.size = p := ⟨_, rfl⟩
  have HPS := Lib.hid hp
  rw [hp] at HP ⊢
  clear hp
  generalize (w.alloc (.cells #[.string e.c.a, .string e.c.i, .int .i64 e.c.s, .int .i64 e.c.o, .int .i64 e.c.l, .int .i64 e.c.t, .int .i64 e.c.k, .int .i64 e.c.n, .bool e.c.g, .int .i64 e.seen] 48)) = w0 at *
  have hk0 := blk_cell HP.out
  have hl0 := blk_lt HP.out
  go_wp2_with fail
  refine (shFind sb most a n c es (e.c.a, e.c.i) _ H1.out HE.out HS.out HL.out (by omega)).mono ?_
  rintro r w1 ⟨rfl, hb1⟩
  rw [show low (e.c.a, e.c.i) es = P from HPP.out, show isIn (e.c.a, e.c.i) es = false from HIN.out]
  clear hk0 hl0
  have HP1 := Lib.hid (blk_ext hb1 HP.out)
  have H11 := Lib.hid (show BoxS w1 sb most a n c from blk_ext hb1 H1.out)
  have HE1 := Lib.hid (SAt.ext HE.out hb1)
  have HB1 := Lib.hid (ext_trans HB0.out hb1)
  have c0 := blk_cell H11.out 0
  have c1 := blk_cell H11.out 1
  simp only [List.getElem?_toArray, List.getElem?_cons_zero, List.getElem?_cons_succ] at c0 c1
  clear hb1 HP H1 HE HB0
  go_wp2_with fail
  haveI hIq : Nonempty (Of w1) := of_some _
  have hF0 := of_cell c0
  have hF1 := of_cell c1
  first | (refine wp_region_stay w1 (by kernel_rfl) (by kernel_rfl) (by go_grown) ?_) | (refine wp_region_stay_seq w1 (by go_grown) ?_)
  repeat (go_big_quiet_step (fail))
  refine wpQuiet_nil ?_
  intro w2 hb2
  clear hIq hF0 hF1

  have HB2 := Lib.hid (ext_trans HB1.out hb2)
  have HP2 := Lib.hid (blk_ext hb2 HP1.out)
  have H12 := Lib.hid (show BoxS w2 sb most a n c from blk_ext hb2 H11.out)
  have HE2 := Lib.hid (SAt.ext HE1.out hb2)
  clear c0 c1
  have c1 := blk_cell H12.out 1
  simp only [List.getElem?_toArray, List.getElem?_cons_zero, List.getElem?_cons_succ] at c1
  clear hb2 HP1 H11 HE1 HB1
  go_wp2_with fail
  refine (cloneE a n c es _ HE2.out HL.out (by omega) H5.out).mono ?_
  rintro r w3 ⟨v3, rfl, ho3, hb3⟩
  clear c1
  obtain ⟨ra, rc, rfl, hrc, hrm, hat, hrb, -⟩ := OwnR.read ec_len ho3
  have HAT := Lib.hid (show EAt w3 ra es from hat)
  rw [HL.out] at ho3 hrc ⊢
  have HO3 := Lib.hid ho3
  have HP3 := Lib.hid (blk_ext hb3 HP2.out)
  have H13 := Lib.hid (show BoxS w3 sb most a n c from blk_ext hb3 H12.out)
  have HB3 := Lib.hid (ext_trans HB2.out hb3)
  have hz2 := HB2.out.size
  have hz3 := hb3.size
  have HRB := Lib.hid hrb
  unfold maxLen at hrm
  clear ho3 hb3 hat HP2 H12 HE2 HB2 hrb
  have hk3 := blk_cell HP3.out
  have hl3 := blk_lt HP3.out
  have E4 : Below w3.heap.size w3 (w3.alloc (.cells #[.string e.c.a, .string e.c.i, .int .i64 e.c.s, .int .i64 e.c.o, .int .i64 e.c.l, .int .i64 e.c.t, .int .i64 e.c.k, .int .i64 e.c.n, .bool e.c.g, .int .i64 e.seen] 48)) := (Below.refl _ _).alloc (Nat.le_refl _) _
  have HO4 := Lib.hid (show OwnE w2.heap.size (w3.alloc (.cells #[.string e.c.a, .string e.c.i, .int .i64 e.c.s, .int .i64 e.c.o, .int .i64 e.c.l, .int .i64 e.c.t, .int .i64 e.c.k, .int .i64 e.c.n, .bool e.c.g, .int .i64 e.seen] 48)) (.slice ra n rc) es from OwnR.ext HO3.out E4)
  have HV4 := Lib.hid (show (w3.alloc (.cells #[.string e.c.a, .string e.c.i, .int .i64 e.c.s, .int .i64 e.c.o, .int .i64 e.c.l, .int .i64 e.c.t, .int .i64 e.c.k, .int .i64 e.c.n, .bool e.c.g, .int .i64 e.seen] 48)).heap[w3.heap.size]? = some (.cells #[.string e.c.a, .string e.c.i, .int .i64 e.c.s, .int .i64 e.c.o, .int .i64 e.c.l, .int .i64 e.c.t, .int .i64 e.c.k, .int .i64 e.c.n, .bool e.c.g, .int .i64 e.seen] 48 (0, 0)) from blk_new _ _ _)
  have HB4 := Lib.hid (ext_trans HB3.out E4)
  have H14 := Lib.hid (show BoxS (w3.alloc (.cells #[.string e.c.a, .string e.c.i, .int .i64 e.c.s, .int .i64 e.c.o, .int .i64 e.c.l, .int .i64 e.c.t, .int .i64 e.c.k, .int .i64 e.c.n, .bool e.c.g, .int .i64 e.seen] 48)) sb most a n c from blk_ext E4 H13.out)
  have hz4 := E4.size
  clear E4 H13 HB3 HO3
  have hvb : ∀ g o, ra = some ⟨g, o, none⟩ → w3.heap.size ≠ g := fun g o e => by have := (HRB.out g o e).2.1; omega
  go_wp2_with fail
  clear hk3 hl3
  obtain ⟨vb, hvbe⟩ : ∃ vb, w3.heap.size = vb := ⟨_, rfl⟩
  rw [hvbe] at hvb HV4 ⊢
  generalize (w3.alloc (.cells #[.string e.c.a, .string e.c.i, .int .i64 e.c.s, .int .i64 e.c.o, .int .i64 e.c.l, .int .i64 e.c.t, .int .i64 e.c.k, .int .i64 e.c.n, .bool e.c.g, .int .i64 e.seen] 48)) = w4 at *
  refine (insertE w2.heap.size ra n rc P es e vb w4 HO4.out HL.out (by omega) (by omega) HV4.out hvb (by omega)).mono ?_
  rintro r w5 ⟨v5, rfl, ho5, hb5⟩
  have H15 := Lib.hid (show BoxS w5 sb most a n c from (hb5.block sb (by omega)).trans H14.out)
  have HB5 := Lib.hid (HB4.out.trans (hb5.mono (by omega)))
  have HRES := Lib.hid (shp_set H15.out ho5)
  have HRIM := Lib.hid (show Rim sb w (w5.setCell ⟨sb, 1, none⟩ v5) from (Rim.of HB5.out).trans (Rim.kept ((Kept.refl sb w5).setCell _ _)))
  have hk5 := blk_cell H15.out
  have hf5 := blk_free H15.out
  have hl5 := blk_lt H15.out
  obtain ⟨a5, c5, rfl, -, -, -⟩ := OwnR.form ho5
  clear ho5 hb5 HV4 HO4 HB4 H14
  go_wp2
  go_ret
  exact ⟨rfl, HRES.out, HRIM.out⟩

end Go.Proofs.Ytnmpjagdkbaidaa
