/- Several texts as one: ShfP, ShfA, ShfK. -/
import Derived.Test.YtkhcgopehmndgaaBf
/- Package shelf: Put. -/
namespace Go.Proofs.Ytkhcgopehmndgaa
open Go.RowKit
set_option linter.unusedVariables false
set_option linter.unusedSimpArgs false

/-- block sb is a shelf of at most so many that holds es -/
def ShP (w : World) (sb : Nat) (most : Int) (es : List En) : Prop := ∃ a c, BoxS w sb most a es.length c ∧ EAt w a es ∧ es.length ≤ c ∧ c ≤ maxLen ∧ ((a = none ∧ c = 0) ∨ ∃ b o, a = some ⟨b, o, none⟩)
theorem ShP.ext {w w' : World} {sb : Nat} {most : Int} {es : List En} (h : ShP w sb most es) (hb : Below w.heap.size w w') : ShP w' sb most es := by
  obtain ⟨a, c, h1, h2, h3⟩ := h
  exact ⟨a, c, blk_ext hb h1, h2.ext hb, h3⟩
theorem ShP.lt {w : World} {sb : Nat} {most : Int} {es : List En} (h : ShP w sb most es) : sb < w.heap.size := by
  obtain ⟨a, c, h1, h2, h3⟩ := h
  exact blk_lt h1
def enK (e : En) : Ky := (e.c.a, e.c.i)
/-- a row stays when a shelf's block is written -/
theorem EAt.shelf {w : World} {a : Option Addr} {ls : List En} {sb : Nat} {most : Int} {a' : Option Addr} {n c : Nat} (h : EAt w a ls) (hs : BoxS w sb most a' n c) (v : Value) : EAt (w.setCell ⟨sb, 1, none⟩ v) a ls :=
  h.keep fun b cur hc _ => Below.heap_setCell w _ _ b (fun e => by
    have e1 : b = sb := e
    subst e1
    unfold BoxS at hs
    rw [hs] at hc
    simp at hc)
theorem shp_set {w : World} {sb : Nat} {most : Int} {a : Option Addr} {n c base : Nat} {ls : List En} {v : Value} (hs : BoxS w sb most a n c) (ho : OwnE base w v ls) : ShP (w.setCell ⟨sb, 1, none⟩ v) sb most ls := by
  obtain ⟨a2, c2, rfl, h1, h2, h3, -, h4⟩ := OwnR.read ec_len ho
  refine ⟨a2, c2, blk_set hs (by simp), EAt.shelf h3 hs _, h1, h2, ?_⟩
  rcases h4 with ⟨e1, e2, -⟩ | ⟨g, e⟩
  · exact .inl ⟨e1, e2⟩
  · exact .inr ⟨g, 0, e⟩

set_option maxRecDepth 100000 in
set_option maxHeartbeats 1000000 in
theorem shPutNo (sb : Nat) (most : Int) (es : List En) (e : En) (w : World) (h : ShP w sb most es) (hs : Asc es) (hn : es.length ≤ 900) (hin : isIn (enK e) es = false) (hm : most ≤ es.length) :
    Calls Try.prog 15 #[.pointer (some ⟨sb, 0, none⟩), .agg #[.string e.c.a, .string e.c.i, .int .i64 e.c.s, .int .i64 e.c.o, .int .i64 e.c.l, .int .i64 e.c.t, .int .i64 e.c.k, .int .i64 e.c.n, .bool e.c.g, .int .i64 e.seen]] w fun r w' => r = .returned (.int .i64 24) ∧ Below w.heap.size w w' := by
  obtain ⟨a, c, h1, h2, h3, h4, h5⟩ := h
  have E0 : Below w.heap.size w (w.alloc (.cells #[.string e.c.a, .string e.c.i, .int .i64 e.c.s, .int .i64 e.c.o, .int .i64 e.c.l, .int .i64 e.c.t, .int .i64 e.c.k, .int .i64 e.c.n, .bool e.c.g, .int .i64 e.seen] 54)) := (Below.refl _ _).alloc (Nat.le_refl _) _
  have HP := Lib.hid (show (w.alloc (.cells #[.string e.c.a, .string e.c.i, .int .i64 e.c.s, .int .i64 e.c.o, .int .i64 e.c.l, .int .i64 e.c.t, .int .i64 e.c.k, .int .i64 e.c.n, .bool e.c.g, .int .i64 e.seen] 54)).heap[w.heap.size]? = some (.cells #[.string e.c.a, .string e.c.i, .int .i64 e.c.s, .int .i64 e.c.o, .int .i64 e.c.l, .int .i64 e.c.t, .int .i64 e.c.k, .int .i64 e.c.n, .bool e.c.g, .int .i64 e.seen] 54 (0, 0)) from blk_new _ _ _)
  have H1 := Lib.hid (show BoxS (w.alloc (.cells #[.string e.c.a, .string e.c.i, .int .i64 e.c.s, .int .i64 e.c.o, .int .i64 e.c.l, .int .i64 e.c.t, .int .i64 e.c.k, .int .i64 e.c.n, .bool e.c.g, .int .i64 e.seen] 54)) sb most a es.length c from blk_ext E0 h1)
  have HE := Lib.hid (SAt.ext h2 E0)
  have HB0 := Lib.hid E0
  have HS := Lib.hid hs
  have H5 := Lib.hid h5
  have hsb := blk_lt h1
  have hll := low_le (enK e) es
  obtain ⟨P, hP⟩ : ∃ P, low (enK e) es = P := ⟨_, rfl⟩
  have HPP := Lib.hid hP
  have HIN := Lib.hid hin
  rw [hP] at hll
  obtain ⟨n, hl⟩ : ∃ n, es.length = n := ⟨_, rfl⟩
  have HL := Lib.hid hl
  rw [hl] at H1 h3 hn hll hm
  have hm2 : decide (most ≤ (n : Int)) = true := by simpa using hm
  clear h1 h2 h5 hs E0 hP hl hin
  unfold maxLen at h4
  go_enter Try.func15, Try.ntmps15
  go_upto_region 1 with (fail)
  obtain ⟨p, hp⟩ : ∃ p, w.heap.size = p := ⟨_, rfl⟩
  have HPS := Lib.hid hp
  rw [hp] at HP ⊢
  clear hp
  generalize (w.alloc (.cells #[.string e.c.a, .string e.c.i, .int .i64 e.c.s, .int .i64 e.c.o, .int .i64 e.c.l, .int .i64 e.c.t, .int .i64 e.c.k, .int .i64 e.c.n, .bool e.c.g, .int .i64 e.seen] 54)) = w0 at *
  have hk0 := blk_cell HP.out
  have hl0 := blk_lt HP.out
  go_wp2_with fail
  refine (shFind sb most a n c es (e.c.a, e.c.i) _ H1.out HE.out HS.out HL.out (by omega)).mono ?_
  rintro r w1 ⟨rfl, hb1⟩
  rw [show low (e.c.a, e.c.i) es = P from HPP.out, show isIn (e.c.a, e.c.i) es = false from HIN.out]
  clear hk0 hl0
  have HP1 := Lib.hid (blk_ext hb1 HP.out)
  have H11 := Lib.hid (show BoxS w1 sb most a n c from blk_ext hb1 H1.out)
  have HE1 := Lib.hid (SAt.ext HE.out hb1)
  have HB1 := Lib.hid (ext_trans HB0.out hb1)
  have c0 := blk_cell H11.out 0
  have c1 := blk_cell H11.out 1
  simp only [List.getElem?_toArray, List.getElem?_cons_zero, List.getElem?_cons_succ] at c0 c1
  clear hb1 HP H1 HE HB0
  go_wp2_with fail
  haveI hIq : Nonempty (Of w1) := of_some _
  have hF0 := of_cell c0
  have hF1 := of_cell c1
  first | (refine wp_region_stay w1 (by kernel_rfl) (by kernel_rfl) (by go_grown) ?_) | (refine wp_region_stay_seq w1 (by go_grown) ?_)
  repeat (go_big_quiet_step (fail))
  refine wpQuiet_nil ?_
  intro w2 hb2
  clear hIq hF0 hF1

  have HB2 := Lib.hid (ext_trans HB1.out hb2)
  clear hb2 c0 c1
  go_wp2
  go_ret
  exact ⟨rfl, HB2.out⟩

set_option maxRecDepth 100000 in
set_option maxHeartbeats 2000000 in
theorem shPutIn (sb : Nat) (most : Int) (es : List En) (e : En) (w : World) (h : ShP w sb most es) (hs : Asc es) (hn : es.length ≤ 900) (hin : isIn (enK e) es = true) :
    Calls Try.prog 15 #[.pointer (some ⟨sb, 0, none⟩), .agg #[.string e.c.a, .string e.c.i, .int .i64 e.c.s, .int .i64 e.c.o, .int .i64 e.c.l, .int .i64 e.c.t, .int .i64 e.c.k, .int .i64 e.c.n, .bool e.c.g, .int .i64 e.seen]] w fun r w' => r = .returned (.int .i64 0) ∧ ShP w' sb most (es.set (low (enK e) es) e) ∧ Rim sb w w' := by
  obtain ⟨a, c, h1, h2, h3, h4, h5⟩ := h
  have E0 : Below w.heap.size w (w.alloc (.cells #[.string e.c.a, .string e.c.i, .int .i64 e.c.s, .int .i64 e.c.o, .int .i64 e.c.l, .int .i64 e.c.t, .int .i64 e.c.k, .int .i64 e.c.n, .bool e.c.g, .int .i64 e.seen] 54)) := (Below.refl _ _).alloc (Nat.le_refl _) _
  have HP := Lib.hid (show (w.alloc (.cells #[.string e.c.a, .string e.c.i, .int .i64 e.c.s, .int .i64 e.c.o, .int .i64 e.c.l, .int .i64 e.c.t, .int .i64 e.c.k, .int .i64 e.c.n, .bool e.c.g, .int .i64 e.seen] 54)).heap[w.heap.size]? = some (.cells #[.string e.c.a, .string e.c.i, .int .i64 e.c.s, .int .i64 e.c.o, .int .i64 e.c.l, .int .i64 e.c.t, .int .i64 e.c.k, .int .i64 e.c.n, .bool e.c.g, .int .i64 e.seen] 54 (0, 0)) from blk_new _ _ _)
  have H1 := Lib.hid (show BoxS (w.alloc (.cells #[.string e.c.a, .string e.c.i, .int .i64 e.c.s, .int .i64 e.c.o, .int .i64 e.c.l, .int .i64 e.c.t, .int .i64 e.c.k, .int .i64 e.c.n, .bool e.c.g, .int .i64 e.seen] 54)) sb most a es.length c from blk_ext E0 h1)
  have HE := Lib.hid (SAt.ext h2 E0)
  have HB0 := Lib.hid E0
  have HS := Lib.hid hs
  have H5 := Lib.hid h5
  have hsb := blk_lt h1
  have hll := low_le (enK e) es
  obtain ⟨P, hP⟩ : ∃ P, low (enK e) es = P := ⟨_, rfl⟩
  have HPP := Lib.hid hP
  have HIN := Lib.hid hin
  rw [hP] at hll ⊢
  have hlt : P < es.length := by
    have hh := hin
    unfold isIn at hh
    rw [hP] at hh
    rcases Nat.lt_or_ge P es.length with h | h
    · exact h
    · rw [List.getElem?_eq_none h] at hh; cases hh
  obtain ⟨n, hl⟩ : ∃ n, es.length = n := ⟨_, rfl⟩
  have HL := Lib.hid hl
  rw [hl] at H1 h3 hn hll hlt
  clear h1 h2 h5 hs E0 hP hl hin
  unfold maxLen at h4
  go_enter Try.func15, Try.ntmps15
  go_upto_region 1 with (fail)
  obtain ⟨p, hp⟩ : ∃ p, w.heap.size = p := ⟨_, rfl⟩
  have HPS := Lib.hid hp
  rw [hp] at HP ⊢
  clear hp
  generalize (w.alloc (.cells #[.string e.c.a, .string e.c.i, .int .i64 e.c.s, .int .i64 e.c.o, .int .i64 e.c.l, .int .i64 e.c.t, .int .i64 e.c.k, .int .i64 e.c.n, .bool e.c.g, .int .i64 e.seen] 54)) = w0 at *
  have hk0 := blk_cell HP.out
  have hl0 := blk_lt HP.out
  go_wp2_with fail
  refine (shFind sb most a n c es (e.c.a, e.c.i) _ H1.out HE.out HS.out HL.out (by omega)).mono ?_
  rintro r w1 ⟨rfl, hb1⟩
  rw [show low (e.c.a, e.c.i) es = P from HPP.out, show isIn (e.c.a, e.c.i) es = true from HIN.out]
  clear hk0 hl0
  have HP1 := Lib.hid (blk_ext hb1 HP.out)
  have H11 := Lib.hid (show BoxS w1 sb most a n c from blk_ext hb1 H1.out)
  have HE1 := Lib.hid (SAt.ext HE.out hb1)
  have HB1 := Lib.hid (ext_trans HB0.out hb1)
  have c0 := blk_cell H11.out 0
  have c1 := blk_cell H11.out 1
  simp only [List.getElem?_toArray, List.getElem?_cons_zero, List.getElem?_cons_succ] at c0 c1
  clear hb1 HP H1 HE HB0
  go_wp2_with fail
  haveI hIq : Nonempty (Of w1) := of_some _
  have hF0 := of_cell c0
  have hF1 := of_cell c1
  first | (refine wp_region_stay w1 (by kernel_rfl) (by kernel_rfl) (by go_grown) ?_) | (refine wp_region_stay_seq w1 (by go_grown) ?_)
  repeat (go_big_quiet_step (fail))
  refine wpQuiet_nil ?_
  intro w2 hb2
  clear hIq hF0 hF1

  have HB2 := Lib.hid (ext_trans HB1.out hb2)
  have HP2 := Lib.hid (blk_ext hb2 HP1.out)
  have H12 := Lib.hid (show BoxS w2 sb most a n c from blk_ext hb2 H11.out)
  have HE2 := Lib.hid (SAt.ext HE1.out hb2)
  clear c0 c1
  have c1 := blk_cell H12.out 1
  simp only [List.getElem?_toArray, List.getElem?_cons_zero, List.getElem?_cons_succ] at c1
  clear hb2 HP1 H11 HE1 HB1
  go_wp2_with fail
  refine (cloneE a n c es _ HE2.out HL.out (by omega) H5.out).mono ?_
  rintro r w3 ⟨v3, rfl, ho3, hb3⟩
  clear c1
  obtain ⟨ra, rc, rfl, hrc, hrm, hat, hrb, -⟩ := OwnR.read ec_len ho3
  have HAT := Lib.hid (show EAt w3 ra es from hat)
  rw [HL.out] at ho3 hrc ⊢
  have HO3 := Lib.hid ho3
  have HP3 := Lib.hid (blk_ext hb3 HP2.out)
  have H13 := Lib.hid (show BoxS w3 sb most a n c from blk_ext hb3 H12.out)
  have HB3 := Lib.hid (ext_trans HB2.out hb3)
  have hz2 := HB2.out.size
  have hz3 := hb3.size
  have HRB := Lib.hid hrb
  unfold maxLen at hrm
  clear ho3 hb3 hat HP2 H12 HE2 HB2 hrb
  obtain ⟨g, rfl, hg0, hg1⟩ := OwnR.addr HO3.out HL.out (by omega)
  obtain ⟨-, -, -, cur3, hcur3, hcs3, -⟩ := OwnR.num HO3.out
  have hk3 := blk_cell HP3.out
  have hf3 := blk_free hcur3
  have hlg3 := blk_lt hcur3
  obtain ⟨y, hy⟩ : ∃ y, es[P]? = some y := ⟨_, List.getElem?_eq_getElem (by have := HL.out; omega)⟩
  obtain ⟨y0, y1, y2, y3, y4, y5, y6, y7, y8, y9⟩ := EAt.at HAT.out hy
  simp only [Nat.zero_add] at y0 y1 y2 y3 y4 y5 y6 y7 y8 y9
  have hpn : (P : Int) < (n : Int) := by omega
  have HPUT := Lib.hid (OwnR.put ec_len HO3.out (i := P) (by have := HL.out; omega) e)
  have HKP := Lib.hid (kept_sets (ec e) (o := P * 10) (Kept.refl g w3))
  clear hcur3 hcs3 hy
  go_upto_region 8 with (fail)
  refine wp_letter (fun W => OwnE w2.heap.size W (.slice (some ⟨g, 0, none⟩) n rc) (es.set P e) ∧ Kept g w3 W) ⟨HPUT.out, HKP.out⟩ ?_
  clear HPUT HKP hk3 hf3 hlg3 y0 y1 y2 y3 y4 y5 y6 y7 y8 y9
  rintro w4 ⟨ho4, hk4⟩
  have hne : sb ≠ g := by have := blk_lt H13.out; omega
  have H14 : BoxS w4 sb most a n c := (hk4.block sb hne).trans H13.out
  have HB4 := Lib.hid (HB3.out.trans ((Rim.kept hk4).below (by omega) HB3.out.size))
  have HRES := Lib.hid (shp_set H14 ho4)
  have HRIM := Lib.hid (show Rim sb w (w4.setCell ⟨sb, 1, none⟩ (.slice (some ⟨g, 0, none⟩) n rc)) from (Rim.of HB4.out).trans (Rim.kept ((Kept.refl sb w4).setCell _ _)))
  have hk5 := blk_cell H14
  have hf5 := blk_free H14
  have hl5 := blk_lt H14
  clear ho4 hk4 H14
  go_wp2
  go_ret
  exact ⟨rfl, HRES.out, HRIM.out⟩

set_option maxRecDepth 100000 in
set_option maxHeartbeats 2000000 in
theorem shPutNew (sb : Nat) (most : Int) (es : List En) (e : En) (w : World) (h : ShP w sb most es) (hs : Asc es) (hn : es.length ≤ 900) (hin : isIn (enK e) es = false) (hm : (es.length : Int) < most) :
    Calls Try.prog 15 #[.pointer (some ⟨sb, 0, none⟩), .agg #[.string e.c.a, .string e.c.i, .int .i64 e.c.s, .int .i64 e.c.o, .int .i64 e.c.l, .int .i64 e.c.t, .int .i64 e.c.k, .int .i64 e.c.n, .bool e.c.g, .int .i64 e.seen]] w fun r w' => r = .returned (.int .i64 0) ∧ ShP w' sb most (insAt es (low (enK e) es) e) ∧ Rim sb w w' := by
  obtain ⟨a, c, h1, h2, h3, h4, h5⟩ := h
  have E0 : Below w.heap.size w (w.alloc (.cells #[.string e.c.a, .string e.c.i, .int .i64 e.c.s, .int .i64 e.c.o, .int .i64 e.c.l, .int .i64 e.c.t, .int .i64 e.c.k, .int .i64 e.c.n, .bool e.c.g, .int .i64 e.seen] 54)) := (Below.refl _ _).alloc (Nat.le_refl _) _
  have HP := Lib.hid (show (w.alloc (.cells #[.string e.c.a, .string e.c.i, .int .i64 e.c.s, .int .i64 e.c.o, .int .i64 e.c.l, .int .i64 e.c.t, .int .i64 e.c.k, .int .i64 e.c.n, .bool e.c.g, .int .i64 e.seen] 54)).heap[w.heap.size]? = some (.cells #[.string e.c.a, .string e.c.i, .int .i64 e.c.s, .int .i64 e.c.o, .int .i64 e.c.l, .int .i64 e.c.t, .int .i64 e.c.k, .int .i64 e.c.n, .bool e.c.g, .int .i64 e.seen] 54 (0, 0)) from blk_new _ _ _)
  have H1 := Lib.hid (show BoxS (w.alloc (.cells #[.string e.c.a, .string e.c.i, .int .i64 e.c.s, .int .i64 e.c.o, .int .i64 e.c.l, .int .i64 e.c.t, .int .i64 e.c.k, .int .i64 e.c.n, .bool e.c.g, .int .i64 e.seen] 54)) sb most a es.length c from blk_ext E0 h1)
  have HE := Lib.hid (SAt.ext h2 E0)
  have HB0 := Lib.hid E0
  have HS := Lib.hid hs
  have H5 := Lib.hid h5
  have hsb := blk_lt h1
  have hll := low_le (enK e) es
  obtain ⟨P, hP⟩ : ∃ P, low (enK e) es = P := ⟨_, rfl⟩
  have HPP := Lib.hid hP
  have HIN := Lib.hid hin
  rw [hP] at hll ⊢
  obtain ⟨n, hl⟩ : ∃ n, es.length = n := ⟨_, rfl⟩
  have HL := Lib.hid hl
  rw [hl] at H1 h3 hn hll hm
  have hm3 : ¬ most ≤ (n : Int) := by omega
  have hm2 : decide (most ≤ (n : Int)) = false := by simpa using hm
  clear h1 h2 h5 hs E0 hP hl hin
  unfold maxLen at h4
  go_enter Try.func15, Try.ntmps15
  go_upto_region 1 with (fail)
  obtain ⟨p, hp⟩ : ∃ p, w.heap.size = p := ⟨_, rfl⟩
  have HPS := Lib.hid hp
  rw [hp] at HP ⊢
  clear hp
  generalize (w.alloc (.cells #[.string e.c.a, .string e.c.i, .int .i64 e.c.s, .int .i64 e.c.o, .int .i64 e.c.l, .int .i64 e.c.t, .int .i64 e.c.k, .int .i64 e.c.n, .bool e.c.g, .int .i64 e.seen] 54)) = w0 at *
  have hk0 := blk_cell HP.out
  have hl0 := blk_lt HP.out
  go_wp2_with fail
  refine (shFind sb most a n c es (e.c.a, e.c.i) _ H1.out HE.out HS.out HL.out (by omega)).mono ?_
  rintro r w1 ⟨rfl, hb1⟩
  rw [show low (e.c.a, e.c.i) es = P from HPP.out, show isIn (e.c.a, e.c.i) es = false from HIN.out]
  clear hk0 hl0
  have HP1 := Lib.hid (blk_ext hb1 HP.out)
  have H11 := Lib.hid (show BoxS w1 sb most a n c from blk_ext hb1 H1.out)
  have HE1 := Lib.hid (SAt.ext HE.out hb1)
  have HB1 := Lib.hid (ext_trans HB0.out hb1)
  have c0 := blk_cell H11.out 0
  have c1 := blk_cell H11.out 1
  simp only [List.getElem?_toArray, List.getElem?_cons_zero, List.getElem?_cons_succ] at c0 c1
  clear hb1 HP H1 HE HB0
  go_wp2_with fail
  haveI hIq : Nonempty (Of w1) := of_some _
  have hF0 := of_cell c0
  have hF1 := of_cell c1
  first | (refine wp_region_stay w1 (by kernel_rfl) (by kernel_rfl) (by go_grown) ?_) | (refine wp_region_stay_seq w1 (by go_grown) ?_)
  repeat (go_big_quiet_step (fail))
  refine wpQuiet_nil ?_
  intro w2 hb2
  clear hIq hF0 hF1

  have HB2 := Lib.hid (ext_trans HB1.out hb2)
  have HP2 := Lib.hid (blk_ext hb2 HP1.out)
  have H12 := Lib.hid (show BoxS w2 sb most a n c from blk_ext hb2 H11.out)
  have HE2 := Lib.hid (SAt.ext HE1.out hb2)
  clear c0 c1
  have c1 := blk_cell H12.out 1
  simp only [List.getElem?_toArray, List.getElem?_cons_zero, List.getElem?_cons_succ] at c1
  clear hb2 HP1 H11 HE1 HB1
  go_wp2_with fail
  refine (cloneE a n c es _ HE2.out HL.out (by omega) H5.out).mono ?_
  rintro r w3 ⟨v3, rfl, ho3, hb3⟩
  clear c1
  obtain ⟨ra, rc, rfl, hrc, hrm, hat, hrb, -⟩ := OwnR.read ec_len ho3
  have HAT := Lib.hid (show EAt w3 ra es from hat)
  rw [HL.out] at ho3 hrc ⊢
  have HO3 := Lib.hid ho3
  have HP3 := Lib.hid (blk_ext hb3 HP2.out)
  have H13 := Lib.hid (show BoxS w3 sb most a n c from blk_ext hb3 H12.out)
  have HB3 := Lib.hid (ext_trans HB2.out hb3)
  have hz2 := HB2.out.size
  have hz3 := hb3.size
  have HRB := Lib.hid hrb
  unfold maxLen at hrm
  clear ho3 hb3 hat HP2 H12 HE2 HB2 hrb
  have hk3 := blk_cell HP3.out
  have hl3 := blk_lt HP3.out
  have E4 : Below w3.heap.size w3 (w3.alloc (.cells #[.string e.c.a, .string e.c.i, .int .i64 e.c.s, .int .i64 e.c.o, .int .i64 e.c.l, .int .i64 e.c.t, .int .i64 e.c.k, .int .i64 e.c.n, .bool e.c.g, .int .i64 e.seen] 54)) := (Below.refl _ _).alloc (Nat.le_refl _) _
  have HO4 := Lib.hid (show OwnE w2.heap.size (w3.alloc (.cells #[.string e.c.a, .string e.c.i, .int .i64 e.c.s, .int .i64 e.c.o, .int .i64 e.c.l, .int .i64 e.c.t, .int .i64 e.c.k, .int .i64 e.c.n, .bool e.c.g, .int .i64 e.seen] 54)) (.slice ra n rc) es from OwnR.ext HO3.out E4)
  have HV4 := Lib.hid (show (w3.alloc (.cells #[.string e.c.a, .string e.c.i, .int .i64 e.c.s, .int .i64 e.c.o, .int .i64 e.c.l, .int .i64 e.c.t, .int .i64 e.c.k, .int .i64 e.c.n, .bool e.c.g, .int .i64 e.seen] 54)).heap[w3.heap.size]? = some (.cells #[.string e.c.a, .string e.c.i, .int .i64 e.c.s, .int .i64 e.c.o, .int .i64 e.c.l, .int .i64 e.c.t, .int .i64 e.c.k, .int .i64 e.c.n, .bool e.c.g, .int .i64 e.seen] 54 (0, 0)) from blk_new _ _ _)
  have HB4 := Lib.hid (ext_trans HB3.out E4)
  have H14 := Lib.hid (show BoxS (w3.alloc (.cells #[.string e.c.a, .string e.c.i, .int .i64 e.c.s, .int .i64 e.c.o, .int .i64 e.c.l, .int .i64 e.c.t, .int .i64 e.c.k, .int .i64 e.c.n, .bool e.c.g, .int .i64 e.seen] 54)) sb most a n c from blk_ext E4 H13.out)
  have hz4 := E4.size
  clear E4 H13 HB3 HO3
  have hvb : ∀ g o, ra = some ⟨g, o, none⟩ → w3.heap.size ≠ g := fun g o e => by have := (HRB.out g o e).2.1; omega
  go_wp2_with fail
  clear hk3 hl3
  obtain ⟨vb, hvbe⟩ : ∃ vb, w3.heap.size = vb := ⟨_, rfl⟩
  rw [hvbe] at hvb HV4 ⊢
  generalize (w3.alloc (.cells #[.string e.c.a, .string e.c.i, .int .i64 e.c.s, .int .i64 e.c.o, .int .i64 e.c.l, .int .i64 e.c.t, .int .i64 e.c.k, .int .i64 e.c.n, .bool e.c.g, .int .i64 e.seen] 54)) = w4 at *
  refine (insertE w2.heap.size ra n rc P es e vb w4 HO4.out HL.out (by omega) (by omega) HV4.out hvb (by omega)).mono ?_
  rintro r w5 ⟨v5, rfl, ho5, hb5⟩
  have H15 := Lib.hid (show BoxS w5 sb most a n c from (hb5.block sb (by omega)).trans H14.out)
  have HB5 := Lib.hid (HB4.out.trans (hb5.mono (by omega)))
  have HRES := Lib.hid (shp_set H15.out ho5)
  have HRIM := Lib.hid (show Rim sb w (w5.setCell ⟨sb, 1, none⟩ v5) from (Rim.of HB5.out).trans (Rim.kept ((Kept.refl sb w5).setCell _ _)))
  have hk5 := blk_cell H15.out
  have hf5 := blk_free H15.out
  have hl5 := blk_lt H15.out
  obtain ⟨a5, c5, rfl, -, -, -⟩ := OwnR.form ho5
  clear ho5 hb5 HV4 HO4 HB4 H14
  go_wp2
  go_ret
  exact ⟨rfl, HRES.out, HRIM.out⟩

end Go.Proofs.Ytkhcgopehmndgaa

/- Package shelf: New, All, Len, Live, Drop of none; lease.Same of one list. -/
namespace Go.Proofs.Ytkhcgopehmndgaa
open Go.RowKit
set_option linter.unusedVariables false
set_option linter.unusedSimpArgs false

def livN (es : List En) : Nat := (es.filter (fun e => !e.c.g)).length
theorem livN_snoc (es : List En) (x : En) : livN (es ++ [x]) = livN es + (if x.c.g then 0 else 1) := by
  unfold livN
  rw [List.filter_append]
  cases h : x.c.g <;> simp [h]
theorem livN_le (es : List En) : livN es ≤ es.length := List.length_filter_le _ _

set_option maxRecDepth 100000 in
set_option maxHeartbeats 1000000 in
theorem shNew (m : Nat) (w : World) (hm : m ≤ 32) :
    Calls Try.prog 10 #[.int .i64 m] w fun r w' => r = .returned (.pointer (some ⟨w.heap.size, 0, none⟩)) ∧ ShP w' w.heap.size m [] ∧ Below w.heap.size w w' := by
  have h1 : max (m : Int) 0 = (m : Int) := by omega
  have h2 : min (m : Int) 32 = (m : Int) := by omega
  have HR := Lib.hid (show ShP (w.alloc (.cells #[.int .i64 m, .slice none 0 0] 76)) w.heap.size m [] from ⟨none, 0, blk_new _ _ _, .inl rfl, Nat.le_refl _, by unfold maxLen; omega, .inl ⟨rfl, rfl⟩⟩)
  have HB := Lib.hid (show Below w.heap.size w (w.alloc (.cells #[.int .i64 m, .slice none 0 0] 76)) from (Below.refl _ _).alloc (Nat.le_refl _) _)
  go_enter Try.func10, Try.ntmps10
  go_wp2
  go_ret
  exact ⟨rfl, HR.out, HB.out⟩

end Go.Proofs.Ytkhcgopehmndgaa

/- 'known' of layer 10; lists. -/
namespace Go.Proofs.Ytkhcgopehmndgaa
open Go.RowKit
set_option linter.unusedVariables false
set_option linter.unusedSimpArgs false

abbrev Str (ls : List Cd) : Prop := ls.Pairwise (fun x y => klt x y = true)
theorem klt_trans {x y z : Cd} (h1 : klt x y = true) (h2 : klt y z = true) : klt x z = true := by
  have e1 := klt_of h1
  have e2 := klt_of h2
  have n1 := kcmp_neg x z
  rcases Int.lt_or_le (kcmp x z) 0 with h | h
  · exact klt_yes h
  · exfalso
    have h3 := kcmp_le (x := z) (y := x) (z := y) (by omega) (by omega)
    have n2 := kcmp_neg y z
    omega

theorem kcmp_key {x y z : Cd} (ha : x.a = y.a) (hi : x.i = y.i) : kcmp z x = kcmp z y ∧ kcmp x z = kcmp y z := by unfold kcmp; rw [ha, hi]; exact ⟨rfl, rfl⟩

theorem kq_iff {x y : Cd} (h : kq x y = true) : x.a = y.a ∧ x.i = y.i := by simpa [kq] using h

theorem kq_ne {x y : Cd} (h : kq x y = false) : kcmp x y ≠ 0 := by
  intro e
  obtain ⟨h1, h2⟩ := kc_zero e
  rw [kq_yes h1 h2] at h
  cases h

theorem on_str (T : List Cd) : ∀ out : List Cd, Str out → Ord klt (out ++ T) → Str (T.foldl onS out) := by
  induction T with
  | nil => intro out h _; exact h
  | cons x xs ih =>
    intro out h ho
    rcases List.eq_nil_or_concat out with rfl | ⟨o, y, rfl⟩
    · exact ih [x] (List.pairwise_singleton _ _) (by simpa using ho)
    · rw [List.concat_eq_append] at h ho
      obtain ⟨h1, h2, h3⟩ := List.pairwise_append.1 h
      show Str (xs.foldl onS (onS (o.concat y) x))
      rw [List.concat_eq_append]
      cases hk : kq y x
      · rw [onS_other _ _ _ hk]
        refine ih _ ?_ (by simpa using ho)
        have hyx : klt y x = true := by
          have h4 : klt x y = false := (List.pairwise_append.1 ho).2.2 y (by simp) x (by simp)
          have h5 := klt_nof h4
          have h6 := kq_ne hk
          have h7 := kcmp_neg y x
          exact klt_yes (by omega)
        refine List.pairwise_append.2 ⟨h, List.pairwise_singleton _ _, fun z hz w hw => ?_⟩
        simp at hw
        subst hw
        rcases List.mem_append.1 hz with hz | hz
        · exact klt_trans (h3 z hz y (by simp)) hyx
        · simp at hz; subst hz; exact hyx
      · rw [onS_same _ _ _ hk]
        obtain ⟨e1, e2⟩ := kq_iff hk
        refine ih _ ?_ ?_
        · refine List.pairwise_append.2 ⟨h1, List.pairwise_singleton _ _, fun z hz w hw => ?_⟩
          simp at hw
          subst hw
          have := h3 z hz y (by simp)
          unfold klt at this ⊢
          rw [← (kcmp_key (z := z) e1 e2).1]
          exact this
        · refine List.Pairwise.sublist ?_ ho
          rw [List.append_assoc, List.append_assoc]
          exact List.Sublist.append (List.Sublist.refl o) (List.sublist_append_right [y] _)

theorem onc_str (cs : List Cd) : Str (onc cs) := on_str _ [] List.Pairwise.nil (by simpa using srt_is klt klt_weak cs)

theorem on_mem (T : List Cd) : ∀ out : List Cd, ∀ y ∈ T.foldl onS out, y ∈ out ∨ y ∈ T := by
  induction T with
  | nil => intro out y h; exact .inl h
  | cons x xs ih =>
    intro out y h
    rcases ih (onS out x) y h with h1 | h1
    · have : y ∈ out ∨ y = x := by
        rcases List.eq_nil_or_concat out with rfl | ⟨o, z, rfl⟩
        · simp [onS_nil] at h1; exact .inr h1
        · rw [List.concat_eq_append] at h1 ⊢
          cases hk : kq z x
          · rw [onS_other _ _ _ hk] at h1
            rcases List.mem_append.1 h1 with h2 | h2
            · exact .inl h2
            · exact .inr (by simpa using h2)
          · rw [onS_same _ _ _ hk] at h1
            rcases List.mem_append.1 h1 with h2 | h2
            · exact .inl (List.mem_append.2 (.inl h2))
            · exact .inr (by simpa using h2)
      rcases this with h2 | h2
      · exact .inl h2
      · exact .inr (by simp [h2])
    · exact .inr (by simp [h1])

theorem onc_mem {cs : List Cd} {y : Cd} (h : y ∈ onc cs) : y ∈ cs := by
  rcases on_mem _ [] y h with h1 | h1
  · cases h1
  · exact (srt_mem klt y cs).1 h1


theorem ShP.rim {w w' : World} {s s' : Nat} {most : Int} {es : List En} (h : ShP w s most es) (hr : Rim s' w w') (hne : s ≠ s') {cur : Array Value} (hs : w.heap[s']? = some (.cells cur 76 (0, 0))) : ShP w' s most es := by
  obtain ⟨a, c, h1, h2, h3⟩ := h
  refine ⟨a, c, (hr.block s hne (blk_lt h1)).trans h1, h2.keep fun b cur' hc _ => hr.block b (fun e => ?_) (blk_lt hc), h3⟩
  subst e
  rw [hs] at hc
  simp at hc
theorem ShP.cur {w : World} {s : Nat} {most : Int} {es : List En} (h : ShP w s most es) : ∃ cur, w.heap[s]? = some (.cells cur 76 (0, 0)) := by
  obtain ⟨a, c, h1, -⟩ := h
  exact ⟨_, h1⟩
def en0 (c : Cd) : En := ⟨c, 0⟩
def en9 (c : Cd) : En := ⟨c, 9⟩
theorem low_all (k : Ky) (es : List En) (h : ∀ e ∈ es, elk k e = true) : low k es = es.length := by
  induction es with
  | nil => rfl
  | cons x xs ih =>
    unfold low
    rw [h x (by simp), if_pos rfl, ih (fun e he => h e (List.mem_cons_of_mem _ he))]
    rfl
theorem low_no (k : Ky) (es : List En) (h : ∀ e ∈ es, elk k e = false) : low k es = 0 := by
  cases es with
  | nil => rfl
  | cons x xs =>
    unfold low
    rw [h x (by simp)]
    rfl
theorem str_asc {l : List Cd} (h : Str l) : Asc (l.map en0) := List.pairwise_map.2 (List.Pairwise.imp (fun h => klt_of h) h)
/-- the next one behind all -/
theorem back_no {l : List Cd} (h : Str l) {J : Nat} {x : Cd} (hx : l[J]? = some x) : isIn (enK (en0 x)) ((l.take J).map en0) = false ∧ insAt ((l.take J).map en0) (low (enK (en0 x)) ((l.take J).map en0)) (en0 x) = (l.take (J + 1)).map en0 := by
  have h1 : ∀ e ∈ (l.take J).map en0, elk (enK (en0 x)) e = true := by
    intro e he
    obtain ⟨c, hc, rfl⟩ := List.mem_map.1 he
    have h2 : Str (l.take (J + 1)) := List.Pairwise.sublist (List.take_sublist _ _) h
    rw [List.take_add_one, hx] at h2
    have h3 := (List.pairwise_append.1 h2).2.2 c hc x (by simp)
    exact h3
  have h2 := low_all _ _ h1
  constructor
  · unfold isIn
    rw [h2, List.getElem?_eq_none (Nat.le_refl _)]
  · rw [h2, insAt_end, List.take_add_one, hx, List.map_append]
    rfl
theorem kc_self (a i : ByteArray) : kc a i a i = 0 := by
  have := kc_neg a i a i
  omega
/-- the next one ahead of all -/
theorem front_no {y : Cd} {t : List Cd} (h : Str (y :: t)) : isIn (enK (en9 y)) (t.map en0) = false ∧ insAt (t.map en0) (low (enK (en9 y)) (t.map en0)) (en9 y) = en9 y :: t.map en0 := by
  obtain ⟨h1, h2⟩ := List.pairwise_cons.1 h
  have h3 : ∀ e ∈ t.map en0, elk (enK (en9 y)) e = false := by
    intro e he
    obtain ⟨c, hc, rfl⟩ := List.mem_map.1 he
    have h4 := klt_of (h1 c hc)
    have h5 := kcmp_neg y c
    refine decide_eq_false (fun h6 => ?_)
    have h7 : kcmp c y < 0 := h6
    omega
  have h4 := low_no _ _ h3
  constructor
  · unfold isIn
    rw [h4]
    cases t with
    | nil => rfl
    | cons c cs =>
      have h5 := klt_of (h1 c (by simp))
      have h6 : ¬ (c.a = y.a ∧ c.i = y.i) := by
        rintro ⟨e1, e2⟩
        unfold kcmp at h5
        rw [e1, e2, kc_self] at h5
        omega
      show (decide (c.a = y.a) && decide (c.i = y.i)) = false
      by_cases e1 : c.a = y.a
      · have e2 : ¬ c.i = y.i := fun e2 => h6 ⟨e1, e2⟩
        simp [e2]
      · simp [e1]
  · rw [h4]
    rfl
theorem front_yes {y : Cd} {t : List Cd} : isIn (enK (en0 y)) (en9 y :: t.map en0) = true ∧ (en9 y :: t.map en0).set (low (enK (en0 y)) (en9 y :: t.map en0)) (en0 y) = (y :: t).map en0 := by
  have h1 : elk (enK (en0 y)) (en9 y) = false := decide_eq_false (by show ¬ kc y.a y.i y.a y.i < 0; rw [kc_self]; omega)
  have h4 : low (enK (en0 y)) (en9 y :: t.map en0) = 0 := by
    unfold low
    rw [h1]
    rfl
  constructor
  · unfold isIn
    rw [h4]
    show (decide (y.a = y.a) && decide (y.i = y.i)) = true
    simp
  · rw [h4]
    rfl
theorem front_asc {y : Cd} {t : List Cd} (h : Str (y :: t)) : Asc (en9 y :: t.map en0) := by
  obtain ⟨h1, h2⟩ := List.pairwise_cons.1 h
  refine List.pairwise_cons.2 ⟨fun e he => ?_, str_asc h2⟩
  obtain ⟨c, hc, rfl⟩ := List.mem_map.1 he
  exact klt_of (h1 c hc)

def eA : En := ⟨⟨⟨#[97]⟩, ⟨#[]⟩, 0, 0, 0, 0, 0, 0, true⟩, 0⟩
def eB : En := ⟨⟨⟨#[98]⟩, ⟨#[]⟩, 0, 0, 0, 0, 0, 0, false⟩, 0⟩
def eC : En := ⟨⟨⟨#[99]⟩, ⟨#[]⟩, 0, 0, 0, 0, 0, 0, false⟩, 0⟩
def eD : En := ⟨⟨⟨#[98]⟩, ⟨#[]⟩, 0, 0, 0, 0, 0, 0, false⟩, 4⟩
theorem asc0 : Asc [] := List.Pairwise.nil
theorem asc1 (e : En) : Asc [e] := List.pairwise_singleton _ _
theorem ascAB : Asc [eA, eB] := List.pairwise_cons.2 ⟨fun e he => by simp at he; subst he; show kc ⟨#[97]⟩ ⟨#[]⟩ ⟨#[98]⟩ ⟨#[]⟩ < 0; rw [show kc ⟨#[97]⟩ ⟨#[]⟩ ⟨#[98]⟩ ⟨#[]⟩ = -1 from rfl]; omega, asc1 _⟩
theorem ascAD : Asc [eA, eD] := List.pairwise_cons.2 ⟨fun e he => by simp at he; subst he; show kc ⟨#[97]⟩ ⟨#[]⟩ ⟨#[98]⟩ ⟨#[]⟩ < 0; rw [show kc ⟨#[97]⟩ ⟨#[]⟩ ⟨#[98]⟩ ⟨#[]⟩ = -1 from rfl]; omega, asc1 _⟩
theorem k0 : isIn (enK En.zero) [] = false := rfl
theorem k1 : isIn (enK eB) [] = false ∧ insAt [] (low (enK eB) []) eB = [eB] := ⟨rfl, rfl⟩
theorem k2 : isIn (enK eA) [eB] = false ∧ insAt [eB] (low (enK eA) [eB]) eA = [eA, eB] := ⟨rfl, rfl⟩
theorem k3 : isIn (enK eC) [eA, eB] = false := rfl
theorem k4 : isIn (enK eD) [eA, eB] = true ∧ [eA, eB].set (low (enK eD) [eA, eB]) eD = [eA, eD] := ⟨rfl, rfl⟩
theorem k5 : isIn (⟨#[]⟩, ⟨#[]⟩) [eA, eD] = false := rfl
theorem k6 : livN [eA, eD] = 1 := rfl

end Go.Proofs.Ytkhcgopehmndgaa
