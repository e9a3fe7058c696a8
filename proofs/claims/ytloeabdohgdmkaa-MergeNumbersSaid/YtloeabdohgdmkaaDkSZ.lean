/- A shelf inside a desk. -/
import Derived.Test.YtloeabdohgdmkaaBhZ
namespace Go.Proofs.Ytloeabdohgdmkaa
open Go.RowKit
set_option linter.unusedVariables false
set_option linter.unusedSimpArgs false

/-- a desk's cells but those of its shelf -/
structure DkR where
  v0 : Value
  v1 : Value
  v2 : Value
  v3 : Value
  v6 : Value
  v7 : Value
  v8 : Value
  v9 : Value
  v10 : Value
def BoxD (Dk0 : DkR) (w : World) (sb : Nat) (most : Int) (a : Option Addr) (n c : Nat) : Prop := w.heap[sb]? = some (.cells #[Dk0.v0, Dk0.v1, Dk0.v2, Dk0.v3, .int .i64 most, .slice a n c, Dk0.v6, Dk0.v7, Dk0.v8, Dk0.v9, Dk0.v10] 92 (0, 0))
def BoxPD (w : World) (p sb : Nat) : Prop := w.heap[p]? = some (.cells #[.pointer (some ⟨sb, 4, none⟩)] 39 (0, 0))
set_option maxRecDepth 100000 in
set_option maxHeartbeats 1000000 in
theorem dkClosure (Dk0 : DkR) (p1 p2 sb : Nat) (most : Int) (a : Option Addr) (n c j : Nat) (es : List En) (k : Ky) (x : En) (w : World) (h1 : BoxPD w p1 sb) (h2 : BoxK w p2 k) (h3 : BoxD Dk0 w sb most a n c) (h : EAt w a es) (hx : es[j]? = some x) (hl : es.length = n) (hn : n ≤ 1000) :
    Calls Try.prog 68 #[.int .i64 j, .pointer (some ⟨p1, 0, none⟩), .pointer (some ⟨p2, 0, none⟩)] w fun r w' => r = .returned (.bool (!(elk k x))) ∧ Below w.heap.size w w' := by
  have hj : j < n := by rw [← hl]; exact (List.getElem?_eq_some_iff.1 hx).1
  obtain ⟨b, o, rfl⟩ : ∃ b o, a = some ⟨b, o, none⟩ := by
    rcases h with h | ⟨b, o, e, _⟩
    · rw [h] at hx; simp at hx
    · exact ⟨b, o, e⟩
  obtain ⟨x0, x1, -⟩ := EAt.at h hx
  have c1 := blk_cell h1 0
  have c2 := blk_cell h2 0
  have c3 := blk_cell h2 1
  have c4 := blk_cell h3 5
  simp only [List.getElem?_toArray, List.getElem?_cons_zero, List.getElem?_cons_succ] at c1 c2 c3 c4
  have hj0 : (j : Int) < (n : Int) := by omega
  clear h h1 h2 h3 hx hl
  go_enter Try.func68, Try.ntmps68
  go_wp2_with fail
  haveI hIq : Nonempty (Of w) := of_some _
  have hF0 := of_cell c1
  have hF1 := of_cell c2
  have hF2 := of_cell c3
  have hF3 := of_cell c4
  have hF4 := of_cell x0
  have hF5 := of_cell x1
  first | (refine wp_region_stay w (by kernel_rfl) (by kernel_rfl) (by go_grown) ?_) | (refine wp_region_stay_seq w (by go_grown) ?_)
  repeat (go_big_quiet_step ((go_at_call 69; with_reducible refine stay_call (cardLessB x.c.a x.c.i k.1 k.2 _))))
  refine wpQuiet_nil ?_
  intro w5 hb5
  clear hIq hF0 hF1 hF2 hF3 hF4 hF5

  have HB := Lib.hid hb5
  clear hb5
  go_wp2
  go_ret
  exact ⟨rfl, HB.out⟩
set_option maxRecDepth 100000 in
set_option maxHeartbeats 1000000 in
theorem dkSearch (Dk0 : DkR) (p1 p2 sb : Nat) (most : Int) (a : Option Addr) (n c : Nat) (es : List En) (k : Ky) (w : World) (h1 : BoxPD w p1 sb) (h2 : BoxK w p2 k) (h3 : BoxD Dk0 w sb most a n c) (h : EAt w a es) (hs : Asc es) (hl : es.length = n) (hn : n ≤ 1000) :
    Calls Try.prog 67 #[.int .i64 n, .func (.func 68) #[] #[.pointer (some ⟨p1, 0, none⟩), .pointer (some ⟨p2, 0, none⟩)]] w fun r w' => r = .returned (.int .i64 (low k es)) ∧ Below w.heap.size w w' := by
  have H1 := Lib.hid h1
  have H2 := Lib.hid h2
  have H3 := Lib.hid h3
  have HE := Lib.hid h
  have HL := Lib.hid hl
  have HI := Lib.hid (low_iff k es hs)
  have hll := low_le k es
  rw [hl] at hll
  obtain ⟨L, hL⟩ : ∃ L, low k es = L := ⟨_, rfl⟩
  rw [hL] at hll HI ⊢
  clear h1 h2 h3 h hl hs hL
  go_enter Try.func67, Try.ntmps67
  go_wp2_with fail
  go_loopw [5, 6] (fun i j wr => ∃ I J : Nat, I ≤ L ∧ L ≤ J ∧ J ≤ n ∧ i = .int .i64 (I : Int) ∧ j = .int .i64 (J : Int) ∧ Below w.heap.size w wr) (fun i j _ => (intOf j).toNat - (intOf i).toNat)
  case atStart => exact ⟨0, n, by omega, hll, by omega, rfl, rfl, Below.refl _ _⟩
  case round =>
    obtain ⟨w2, rfl⟩ : ∃ y : World, y = wr := ⟨_, rfl⟩
    obtain ⟨I, J, hI, hJ, hJn, rfl, rfl, hb2⟩ := hrel
    have HB2 := Lib.hid hb2
    by_cases hlt : I < J
    · have hlt' : decide ((I : Int) < (J : Int)) = true := by simp; omega
      obtain ⟨M, hM⟩ : ∃ M, (I + J) / 2 = M := ⟨_, rfl⟩
      have hM1 : I ≤ M := by omega
      have hM2 : M < J := by omega
      obtain ⟨x, hx⟩ : ∃ x, es[M]? = some x := ⟨_, List.getElem?_eq_getElem (by have := HL.out; omega)⟩
      have HX := Lib.hid hx
      have HQ := Lib.hid (HI.out M x hx)
      have HM := Lib.hid hM
      clear hx hb2 hM
      go_wp2_with fail
      rw [show ((I : Int) + (J : Int)) / 2 = (M : Int) from by have := HM.out; omega]
      refine (dkClosure Dk0 p1 p2 sb most a n c M es k x _ (blk_ext HB2.out H1.out) (blk_ext HB2.out H2.out) (blk_ext HB2.out H3.out) (HE.out.ext HB2.out) HX.out HL.out hn).mono ?_
      rintro e w3 ⟨rfl, hb3⟩
      rw [HQ.out]
      have HB3 := Lib.hid (ext_trans HB2.out hb3)
      clear hb3
      by_cases hml : M < L
      · rw [decide_eq_true hml]
        go_wp2
        go_roundw
        case rel => exact ⟨M + 1, J, by omega, hJ, hJn, by go_num, rfl, HB3.out⟩
        case measure => simp [intOf]; omega
      · rw [decide_eq_false hml]
        go_wp2
        go_roundw
        case rel => exact ⟨I, M, hI, by omega, by omega, rfl, by go_num, HB3.out⟩
        case measure => simp [intOf]; omega
    · obtain rfl : I = L := by omega
      have hlt' : decide ((I : Int) < (J : Int)) = false := by simp; omega
      clear hb2
      go_wp2
      go_ret
      exact ⟨rfl, HB2.out⟩
set_option maxRecDepth 100000 in
set_option maxHeartbeats 2000000 in
theorem dkFind (Dk0 : DkR) (sb : Nat) (most : Int) (a : Option Addr) (n c : Nat) (es : List En) (k : Ky) (w : World) (h3 : BoxD Dk0 w sb most a n c) (h : EAt w a es) (hs : Asc es) (hl : es.length = n) (hn : n ≤ 1000) :
    Calls Try.prog 40 #[.pointer (some ⟨sb, 4, none⟩), .agg #[.string k.1, .string k.2]] w fun r w' => r = .returned (.tuple #[.int .i64 (low k es), .bool (isIn k es)]) ∧ Below w.heap.size w w' := by
  have E0 : Below w.heap.size w ((w.alloc (.cells #[.pointer (some ⟨sb, 4, none⟩)] 39)).alloc (.cells #[.string k.1, .string k.2] 30)) := ((Below.refl _ _).alloc (Nat.le_refl _) _).alloc (by simp) _
  have H1 := Lib.hid (show BoxPD ((w.alloc (.cells #[.pointer (some ⟨sb, 4, none⟩)] 39)).alloc (.cells #[.string k.1, .string k.2] 30)) w.heap.size sb from blk_alloc (blk_new _ _ _) _)
  have H2 := Lib.hid (show BoxK ((w.alloc (.cells #[.pointer (some ⟨sb, 4, none⟩)] 39)).alloc (.cells #[.string k.1, .string k.2] 30)) (w.heap.size + 1) k from blk_new_at (by simp) _ _)
  have H3 := Lib.hid (show BoxD Dk0 ((w.alloc (.cells #[.pointer (some ⟨sb, 4, none⟩)] 39)).alloc (.cells #[.string k.1, .string k.2] 30)) sb most a n c from blk_ext E0 h3)
  have HE := Lib.hid (SAt.ext h E0)
  have HB0 := Lib.hid E0
  have HL := Lib.hid hl
  have HS := Lib.hid hs
  have hll := low_le k es
  rw [hl] at hll
  obtain ⟨P, hP⟩ : ∃ P, low k es = P := ⟨_, rfl⟩
  obtain ⟨R, hR⟩ : ∃ R, isIn k es = R := ⟨_, rfl⟩
  have HP := Lib.hid hP
  have HI := Lib.hid (show R = match es[P]? with
    | some x => decide (x.c.a = k.1) && decide (x.c.i = k.2)
    | none => false from by rw [← hR, ← hP]; rfl)
  rw [hP] at hll
  rw [hP, hR]
  clear h3 h hs hl E0 hP hR
  go_enter Try.func40, Try.ntmps40
  go_upto_region 1 with (fail)
  obtain ⟨p1, hp1⟩ : ∃ p1, w.heap.size = p1 := ⟨_, rfl⟩
  rw [hp1] at H1 H2 ⊢
  generalize ((w.alloc (.cells #[.pointer (some ⟨sb, 4, none⟩)] 39)).alloc (.cells #[.string k.1, .string k.2] 30)) = w0 at *
  have c1 := blk_cell H1.out 0
  have c4 := blk_cell H3.out 5
  simp only [List.getElem?_toArray, List.getElem?_cons_zero, List.getElem?_cons_succ] at c1 c4
  have l1 := blk_lt H1.out
  go_wp2_with fail
  refine (dkSearch Dk0 p1 (p1 + 1) sb most a n c es k _ H1.out H2.out H3.out HE.out HS.out HL.out hn).mono ?_
  rintro e w1 ⟨rfl, hb1⟩
  clear c1 c4 l1
  have HB1 := Lib.hid (show Below w.heap.size w w1 from ext_trans HB0.out hb1)
  have c1 := blk_cell (blk_ext hb1 H1.out) 0
  have c2 := blk_cell (blk_ext hb1 H2.out) 0
  have c3 := blk_cell (blk_ext hb1 H2.out) 1
  have c4 := blk_cell (blk_ext hb1 H3.out) 5
  simp only [List.getElem?_toArray, List.getElem?_cons_zero, List.getElem?_cons_succ] at c1 c2 c3 c4
  have HE1 := Lib.hid (SAt.ext HE.out hb1)
  have hin := HI.out
  rw [HP.out]
  clear HI HP hb1 H1 H2 H3 HE HB0 HS
  by_cases hp : P < n
  · obtain ⟨x, hx⟩ : ∃ x, es[P]? = some x := ⟨_, List.getElem?_eq_getElem (by have := HL.out; omega)⟩
    rw [hx] at hin
    obtain ⟨b, o, rfl⟩ : ∃ b o, a = some ⟨b, o, none⟩ := by
      rcases HE1.out with h | ⟨b, o, e, _⟩
      · rw [h] at hx; simp at hx
      · exact ⟨b, o, e⟩
    obtain ⟨x0, x1, -⟩ := EAt.at HE1.out hx
    have hd1 : decide ((P : Int) < (n : Int)) = true := by simp; omega
    have hd2 : (P : Int) < (n : Int) := by omega
    clear hx
    obtain ⟨k1, k2⟩ := k
    simp only at *
    by_cases e1 : x.c.a = k1
    · by_cases e2 : x.c.i = k2
      · obtain rfl : R = true := by rw [hin, e1, e2]; simp
        rw [e1] at x0
        rw [e2] at x1
        clear hin e1 e2
        skip
        go_wp2_with fail
        haveI hIq : Nonempty (Of w1) := of_some _
        have hF0 := of_cell c1
        have hF1 := of_cell c2
        have hF2 := of_cell c3
        have hF3 := of_cell c4
        have hF4 := of_cell x0
        have hF5 := of_cell x1
        first | (refine wp_region_stay w1 (by kernel_rfl) (by kernel_rfl) (by go_grown) ?_) | (refine wp_region_stay_seq w1 (by go_grown) ?_)
        repeat (go_big_quiet_step (fail))
        refine wpQuiet_nil ?_
        intro w5 hb5
        clear hIq hF0 hF1 hF2 hF3 hF4 hF5
        have HB := Lib.hid (ext_trans HB1.out hb5)
        clear hb5
        go_wp2
        exact bodyPost_ret (v := .tuple #[.int .i64 P, .bool true]) (by simp [results, Try.results40, go_sem]) rfl ⟨rfl, HB.out⟩
      · obtain rfl : R = false := by rw [hin]; simp [e2]
        rw [e1] at x0
        have h4 : ¬ x.c.i.toList = k2.toList := fun e => e2 (str_inj e)
        clear hin e1 e2
        skip
        go_wp2_with fail
        haveI hIq : Nonempty (Of w1) := of_some _
        have hF0 := of_cell c1
        have hF1 := of_cell c2
        have hF2 := of_cell c3
        have hF3 := of_cell c4
        have hF4 := of_cell x0
        have hF5 := of_cell x1
        first | (refine wp_region_stay w1 (by kernel_rfl) (by kernel_rfl) (by go_grown) ?_) | (refine wp_region_stay_seq w1 (by go_grown) ?_)
        repeat (go_big_quiet_step (fail))
        refine wpQuiet_nil ?_
        intro w5 hb5
        clear hIq hF0 hF1 hF2 hF3 hF4 hF5
        have HB := Lib.hid (ext_trans HB1.out hb5)
        clear hb5
        go_wp2
        exact bodyPost_ret (v := .tuple #[.int .i64 P, .bool false]) (by simp [results, Try.results40, go_sem]) rfl ⟨rfl, HB.out⟩
    · obtain rfl : R = false := by rw [hin]; simp [e1]
      have h4 : ¬ x.c.a.toList = k1.toList := fun e => e1 (str_inj e)
      clear hin e1
      skip
      go_wp2_with fail
      haveI hIq : Nonempty (Of w1) := of_some _
      have hF0 := of_cell c1
      have hF1 := of_cell c2
      have hF2 := of_cell c3
      have hF3 := of_cell c4
      have hF4 := of_cell x0
      have hF5 := of_cell x1
      first | (refine wp_region_stay w1 (by kernel_rfl) (by kernel_rfl) (by go_grown) ?_) | (refine wp_region_stay_seq w1 (by go_grown) ?_)
      repeat (go_big_quiet_step (fail))
      refine wpQuiet_nil ?_
      intro w5 hb5
      clear hIq hF0 hF1 hF2 hF3 hF4 hF5
      have HB := Lib.hid (ext_trans HB1.out hb5)
      clear hb5
      go_wp2
      exact bodyPost_ret (v := .tuple #[.int .i64 P, .bool false]) (by simp [results, Try.results40, go_sem]) rfl ⟨rfl, HB.out⟩
  · obtain rfl : R = false := by rw [hin, List.getElem?_eq_none (by have := HL.out; omega)]
    have hd1 : decide ((P : Int) < (n : Int)) = false := by simp; omega
    clear hin
    skip
    go_wp2_with fail
    haveI hIq : Nonempty (Of w1) := of_some _
    have hF0 := of_cell c1
    have hF1 := of_cell c2
    have hF2 := of_cell c3
    have hF3 := of_cell c4
    first | (refine wp_region_stay w1 (by kernel_rfl) (by kernel_rfl) (by go_grown) ?_) | (refine wp_region_stay_seq w1 (by go_grown) ?_)
    repeat (go_big_quiet_step (fail))
    refine wpQuiet_nil ?_
    intro w5 hb5
    clear hIq hF0 hF1 hF2 hF3
    have HB := Lib.hid (ext_trans HB1.out hb5)
    clear hb5
    go_wp2
    exact bodyPost_ret (v := .tuple #[.int .i64 P, .bool false]) (by simp [results, Try.results40, go_sem]) rfl ⟨rfl, HB.out⟩
/-- block sb is a shelf of at most so many that holds es -/
def DkS (Dk0 : DkR) (w : World) (sb : Nat) (most : Int) (es : List En) : Prop := ∃ a c, BoxD Dk0 w sb most a es.length c ∧ EAt w a es ∧ es.length ≤ c ∧ c ≤ maxLen ∧ ((a = none ∧ c = 0) ∨ ∃ b o, a = some ⟨b, o, none⟩)
theorem DkS.ext {Dk0 : DkR} {w w' : World} {sb : Nat} {most : Int} {es : List En} (h : DkS Dk0 w sb most es) (hb : Below w.heap.size w w') : DkS Dk0 w' sb most es := by
  obtain ⟨a, c, h1, h2, h3⟩ := h
  exact ⟨a, c, blk_ext hb h1, h2.ext hb, h3⟩
theorem DkS.lt {Dk0 : DkR} {w : World} {sb : Nat} {most : Int} {es : List En} (h : DkS Dk0 w sb most es) : sb < w.heap.size := by
  obtain ⟨a, c, h1, h2, h3⟩ := h
  exact blk_lt h1
/-- a row stays when a shelf's block is written -/
theorem EAt.desk {Dk0 : DkR} {w : World} {a : Option Addr} {ls : List En} {sb : Nat} {most : Int} {a' : Option Addr} {n c : Nat} (h : EAt w a ls) (hs : BoxD Dk0 w sb most a' n c) (v : Value) : EAt (w.setCell ⟨sb, 5, none⟩ v) a ls :=
  h.keep fun b cur hc _ => Below.heap_setCell w _ _ b (fun e => by
    have e1 : b = sb := e
    subst e1
    unfold BoxD at hs
    rw [hs] at hc
    simp at hc)
theorem dks_set {Dk0 : DkR} {w : World} {sb : Nat} {most : Int} {a : Option Addr} {n c base : Nat} {ls : List En} {v : Value} (hs : BoxD Dk0 w sb most a n c) (ho : OwnE base w v ls) : DkS Dk0 (w.setCell ⟨sb, 5, none⟩ v) sb most ls := by
  obtain ⟨a2, c2, rfl, h1, h2, h3, -, h4⟩ := OwnR.read ec_len ho
  refine ⟨a2, c2, blk_set hs (by simp), EAt.desk h3 hs _, h1, h2, ?_⟩
  rcases h4 with ⟨e1, e2, -⟩ | ⟨g, e⟩
  · exact .inl ⟨e1, e2⟩
  · exact .inr ⟨g, 0, e⟩
set_option maxRecDepth 100000 in
set_option maxHeartbeats 1000000 in
theorem dkPutNo (Dk0 : DkR) (sb : Nat) (most : Int) (es : List En) (e : En) (w : World) (h : DkS Dk0 w sb most es) (hs : Asc es) (hn : es.length ≤ 900) (hin : isIn (enK e) es = false) (hm : most ≤ es.length) :
    Calls Try.prog 36 #[.pointer (some ⟨sb, 4, none⟩), .agg #[.string e.c.a, .string e.c.i, .int .i64 e.c.s, .int .i64 e.c.o, .int .i64 e.c.l, .int .i64 e.c.t, .int .i64 e.c.k, .int .i64 e.c.n, .bool e.c.g, .int .i64 e.seen]] w fun r w' => r = .returned (.int .i64 24) ∧ Below w.heap.size w w' := by
  obtain ⟨a, c, h1, h2, h3, h4, h5⟩ := h
  have E0 : Below w.heap.size w (w.alloc (.cells #[.string e.c.a, .string e.c.i, .int .i64 e.c.s, .int .i64 e.c.o, .int .i64 e.c.l, .int .i64 e.c.t, .int .i64 e.c.k, .int .i64 e.c.n, .bool e.c.g, .int .i64 e.seen] 56)) := (Below.refl _ _).alloc (Nat.le_refl _) _
  have HP := Lib.hid (show (w.alloc (.cells #[.string e.c.a, .string e.c.i, .int .i64 e.c.s, .int .i64 e.c.o, .int .i64 e.c.l, .int .i64 e.c.t, .int .i64 e.c.k, .int .i64 e.c.n, .bool e.c.g, .int .i64 e.seen] 56)).heap[w.heap.size]? = some (.cells #[.string e.c.a, .string e.c.i, .int .i64 e.c.s, .int .i64 e.c.o, .int .i64 e.c.l, .int .i64 e.c.t, .int .i64 e.c.k, .int .i64 e.c.n, .bool e.c.g, .int .i64 e.seen] 56 (0, 0)) from blk_new _ _ _)
  have H1 := Lib.hid (show BoxD Dk0 (w.alloc (.cells #[.string e.c.a, .string e.c.i, .int .i64 e.c.s, .int .i64 e.c.o, .int .i64 e.c.l, .int .i64 e.c.t, .int .i64 e.c.k, .int .i64 e.c.n, .bool e.c.g, .int .i64 e.seen] 56)) sb most a es.length c from blk_ext E0 h1)
  have HE := Lib.hid (SAt.ext h2 E0)
  have HB0 := Lib.hid E0
  have HS := Lib.hid hs
  have H5 := Lib.hid h5
  have hsb := blk_lt h1
  have hll := low_le (enK e) es
  obtain ⟨P, hP⟩ : ∃ P, low (enK e) es = P := ⟨_, rfl⟩
  have HPP := Lib.hid hP
  have HIN := Lib.hid hin
  rw [hP] at hll
  obtain ⟨n, hl⟩ : ∃ n, es.length = n := ⟨_, rfl⟩
  have HL := Lib.hid hl
  rw [hl] at H1 h3 hn hll hm
  have hm2 : decide (most ≤ (n : Int)) = true := by simpa using hm
  clear h1 h2 h5 hs E0 hP hl hin
  unfold maxLen at h4
  go_enter Try.func36, Try.ntmps36
  go_upto_region 1 with (fail)
  obtain ⟨p, hp⟩ : ∃ p, w.heap.size = p := ⟨_, rfl⟩
  have HPS := Lib.hid hp
  rw [hp] at HP ⊢
  clear hp
  generalize (w.alloc (.cells #[.string e.c.a, .string e.c.i, .int .i64 e.c.s, .int .i64 e.c.o, .int .i64 e.c.l, .int .i64 e.c.t, .int .i64 e.c.k, .int .i64 e.c.n, .bool e.c.g, .int .i64 e.seen] 56)) = w0 at *
  have hk0 := blk_cell HP.out
  have hl0 := blk_lt HP.out
  go_wp2_with fail
  refine (dkFind Dk0 sb most a n c es (e.c.a, e.c.i) _ H1.out HE.out HS.out HL.out (by omega)).mono ?_
  rintro r w1 ⟨rfl, hb1⟩
  rw [show low (e.c.a, e.c.i) es = P from HPP.out, show isIn (e.c.a, e.c.i) es = false from HIN.out]
  clear hk0 hl0
  have HP1 := Lib.hid (blk_ext hb1 HP.out)
  have H11 := Lib.hid (show BoxD Dk0 w1 sb most a n c from blk_ext hb1 H1.out)
  have HE1 := Lib.hid (SAt.ext HE.out hb1)
  have HB1 := Lib.hid (ext_trans HB0.out hb1)
  have c0 := blk_cell H11.out 4
  have c1 := blk_cell H11.out 5
  simp only [List.getElem?_toArray, List.getElem?_cons_zero, List.getElem?_cons_succ] at c0 c1
  clear hb1 HP H1 HE HB0
  go_wp2_with fail
  haveI hIq : Nonempty (Of w1) := of_some _
  have hF0 := of_cell c0
  have hF1 := of_cell c1
  first | (refine wp_region_stay w1 (by kernel_rfl) (by kernel_rfl) (by go_grown) ?_) | (refine wp_region_stay_seq w1 (by go_grown) ?_)
  repeat (go_big_quiet_step (fail))
  refine wpQuiet_nil ?_
  intro w2 hb2
  clear hIq hF0 hF1

  have HB2 := Lib.hid (ext_trans HB1.out hb2)
  clear hb2 c0 c1
  go_wp2
  go_ret
  exact ⟨rfl, HB2.out⟩
set_option maxRecDepth 100000 in
set_option maxHeartbeats 2000000 in
theorem dkPutIn (Dk0 : DkR) (sb : Nat) (most : Int) (es : List En) (e : En) (w : World) (h : DkS Dk0 w sb most es) (hs : Asc es) (hn : es.length ≤ 900) (hin : isIn (enK e) es = true) :
    Calls Try.prog 36 #[.pointer (some ⟨sb, 4, none⟩), .agg #[.string e.c.a, .string e.c.i, .int .i64 e.c.s, .int .i64 e.c.o, .int .i64 e.c.l, .int .i64 e.c.t, .int .i64 e.c.k, .int .i64 e.c.n, .bool e.c.g, .int .i64 e.seen]] w fun r w' => r = .returned (.int .i64 0) ∧ DkS Dk0 w' sb most (es.set (low (enK e) es) e) ∧ Rim sb w w' := by
  obtain ⟨a, c, h1, h2, h3, h4, h5⟩ := h
  have E0 : Below w.heap.size w (w.alloc (.cells #[.string e.c.a, .string e.c.i, .int .i64 e.c.s, .int .i64 e.c.o, .int .i64 e.c.l, .int .i64 e.c.t, .int .i64 e.c.k, .int .i64 e.c.n, .bool e.c.g, .int .i64 e.seen] 56)) := (Below.refl _ _).alloc (Nat.le_refl _) _
  have HP := Lib.hid (show (w.alloc (.cells #[.string e.c.a, .string e.c.i, .int .i64 e.c.s, .int .i64 e.c.o, .int .i64 e.c.l, .int .i64 e.c.t, .int .i64 e.c.k, .int .i64 e.c.n, .bool e.c.g, .int .i64 e.seen] 56)).heap[w.heap.size]? = some (.cells #[.string e.c.a, .string e.c.i, .int .i64 e.c.s, .int .i64 e.c.o, .int .i64 e.c.l, .int .i64 e.c.t, .int .i64 e.c.k, .int .i64 e.c.n, .bool e.c.g, .int .i64 e.seen] 56 (0, 0)) from blk_new _ _ _)
  have H1 := Lib.hid (show BoxD Dk0 (w.alloc (.cells #[.string e.c.a, .string e.c.i, .int .i64 e.c.s, .int .i64 e.c.o, .int .i64 e.c.l, .int .i64 e.c.t, .int .i64 e.c.k, .int .i64 e.c.n, .bool e.c.g, .int .i64 e.seen] 56)) sb most a es.length c from blk_ext E0 h1)
  have HE := Lib.hid (SAt.ext h2 E0)
  have HB0 := Lib.hid E0
  have HS := Lib.hid hs
  have H5 := Lib.hid h5
  have hsb := blk_lt h1
  have hll := low_le (enK e) es
  obtain ⟨P, hP⟩ : ∃ P, low (enK e) es = P := ⟨_, rfl⟩
  have HPP := Lib.hid hP
  have HIN := Lib.hid hin
  rw [hP] at hll ⊢
  have hlt : P < es.length := by
    have hh := hin
    unfold isIn at hh
    rw [hP] at hh
    rcases Nat.lt_or_ge P es.length with h | h
    · exact h
    · rw [List.getElem?_eq_none h] at hh; cases hh
  obtain ⟨n, hl⟩ : ∃ n, es.length = n := ⟨_, rfl⟩
  have HL := Lib.hid hl
  rw [hl] at H1 h3 hn hll hlt
  clear h1 h2 h5 hs E0 hP hl hin
  unfold maxLen at h4
  go_enter Try.func36, Try.ntmps36
  go_upto_region 1 with (fail)
  obtain ⟨p, hp⟩ : ∃ p, w.heap.size = p := ⟨_, rfl⟩
  have HPS := Lib.hid hp
  rw [hp] at HP ⊢
  clear hp
  generalize (w.alloc (.cells #[.string e.c.a, .string e.c.i, .int .i64 e.c.s, .int .i64 e.c.o, .int .i64 e.c.l, .int .i64 e.c.t, .int .i64 e.c.k, .int .i64 e.c.n, .bool e.c.g, .int .i64 e.seen] 56)) = w0 at *
  have hk0 := blk_cell HP.out
  have hl0 := blk_lt HP.out
  go_wp2_with fail
  refine (dkFind Dk0 sb most a n c es (e.c.a, e.c.i) _ H1.out HE.out HS.out HL.out (by omega)).mono ?_
  rintro r w1 ⟨rfl, hb1⟩
  rw [show low (e.c.a, e.c.i) es = P from HPP.out, show isIn (e.c.a, e.c.i) es = true from HIN.out]
  clear hk0 hl0
  have HP1 := Lib.hid (blk_ext hb1 HP.out)
  have H11 := Lib.hid (show BoxD Dk0 w1 sb most a n c from blk_ext hb1 H1.out)
  have HE1 := Lib.hid (SAt.ext HE.out hb1)
  have HB1 := Lib.hid (ext_trans HB0.out hb1)
  have c0 := blk_cell H11.out 4
  have c1 := blk_cell H11.out 5
  simp only [List.getElem?_toArray, List.getElem?_cons_zero, List.getElem?_cons_succ] at c0 c1
  clear hb1 HP H1 HE HB0
  go_wp2_with fail
  haveI hIq : Nonempty (Of w1) := of_some _
  have hF0 := of_cell c0
  have hF1 := of_cell c1
  first | (refine wp_region_stay w1 (by kernel_rfl) (by kernel_rfl) (by go_grown) ?_) | (refine wp_region_stay_seq w1 (by go_grown) ?_)
  repeat (go_big_quiet_step (fail))
  refine wpQuiet_nil ?_
  intro w2 hb2
  clear hIq hF0 hF1

  have HB2 := Lib.hid (ext_trans HB1.out hb2)
  have HP2 := Lib.hid (blk_ext hb2 HP1.out)
  have H12 := Lib.hid (show BoxD Dk0 w2 sb most a n c from blk_ext hb2 H11.out)
  have HE2 := Lib.hid (SAt.ext HE1.out hb2)
  clear c0 c1
  have c1 := blk_cell H12.out 5
  simp only [List.getElem?_toArray, List.getElem?_cons_zero, List.getElem?_cons_succ] at c1
  clear hb2 HP1 H11 HE1 HB1
  go_wp2_with fail
  refine (cloneE a n c es _ HE2.out HL.out (by omega) H5.out).mono ?_
  rintro r w3 ⟨v3, rfl, ho3, hb3⟩
  clear c1
  obtain ⟨ra, rc, rfl, hrc, hrm, hat, hrb, -⟩ := OwnR.read ec_len ho3
  have HAT := Lib.hid (show EAt w3 ra es from hat)
  rw [HL.out] at ho3 hrc ⊢
  have HO3 := Lib.hid ho3
  have HP3 := Lib.hid (blk_ext hb3 HP2.out)
  have H13 := Lib.hid (show BoxD Dk0 w3 sb most a n c from blk_ext hb3 H12.out)
  have HB3 := Lib.hid (ext_trans HB2.out hb3)
  have hz2 := HB2.out.size
  have hz3 := hb3.size
  have HRB := Lib.hid hrb
  unfold maxLen at hrm
  clear ho3 hb3 hat HP2 H12 HE2 HB2 hrb
  obtain ⟨g, rfl, hg0, hg1⟩ := OwnR.addr HO3.out HL.out (by omega)
  obtain ⟨-, -, -, cur3, hcur3, hcs3, -⟩ := OwnR.num HO3.out
  have hk3 := blk_cell HP3.out
  have hf3 := blk_free hcur3
  have hlg3 := blk_lt hcur3
  obtain ⟨y, hy⟩ : ∃ y, es[P]? = some y := ⟨_, List.getElem?_eq_getElem (by have := HL.out; omega)⟩
  obtain ⟨y0, y1, y2, y3, y4, y5, y6, y7, y8, y9⟩ := EAt.at HAT.out hy
  simp only [Nat.zero_add] at y0 y1 y2 y3 y4 y5 y6 y7 y8 y9
  have hpn : (P : Int) < (n : Int) := by omega
  have HPUT := Lib.hid (OwnR.put ec_len HO3.out (i := P) (by have := HL.out; omega) e)
  have HKP := Lib.hid (kept_sets (ec e) (o := P * 10) (Kept.refl g w3))
  clear hcur3 hcs3 hy
  go_upto_region 8 with (fail)
  refine wp_letter (fun W => OwnE w2.heap.size W (.slice (some ⟨g, 0, none⟩) n rc) (es.set P e) ∧ Kept g w3 W) ⟨HPUT.out, HKP.out⟩ ?_
  clear HPUT HKP hk3 hf3 hlg3 y0 y1 y2 y3 y4 y5 y6 y7 y8 y9
  rintro w4 ⟨ho4, hk4⟩
  have hne : sb ≠ g := by have := blk_lt H13.out; omega
  have H14 : BoxD Dk0 w4 sb most a n c := (hk4.block sb hne).trans H13.out
  have HB4 := Lib.hid (HB3.out.trans ((Rim.kept hk4).below (by omega) HB3.out.size))
  have HRES := Lib.hid (dks_set H14 ho4)
  have HRIM := Lib.hid (show Rim sb w (w4.setCell ⟨sb, 5, none⟩ (.slice (some ⟨g, 0, none⟩) n rc)) from (Rim.of HB4.out).trans (Rim.kept ((Kept.refl sb w4).setCell _ _)))
  have hk5 := blk_cell H14
  have hf5 := blk_free H14
  have hl5 := blk_lt H14
  clear ho4 hk4 H14
  go_wp2
  go_ret
  exact ⟨rfl, HRES.out, HRIM.out⟩
set_option maxRecDepth 100000 in
set_option maxHeartbeats 2000000 in
theorem dkPutNew (Dk0 : DkR) (sb : Nat) (most : Int) (es : List En) (e : En) (w : World) (h : DkS Dk0 w sb most es) (hs : Asc es) (hn : es.length ≤ 900) (hin : isIn (enK e) es = false) (hm : (es.length : Int) < most) :
    Calls Try.prog 36 #[.pointer (some ⟨sb, 4, none⟩), .agg #[.string e.c.a, .string e.c.i, .int .i64 e.c.s, .int .i64 e.c.o, .int .i64 e.c.l, .int .i64 e.c.t, .int .i64 e.c.k, .int .i64 e.c.n, .bool e.c.g, .int .i64 e.seen]] w fun r w' => r = .returned (.int .i64 0) ∧ DkS Dk0 w' sb most (insAt es (low (enK e) es) e) ∧ Rim sb w w' := by
  obtain ⟨a, c, h1, h2, h3, h4, h5⟩ := h
  have E0 : Below w.heap.size w (w.alloc (.cells #[.string e.c.a, .string e.c.i, .int .i64 e.c.s, .int .i64 e.c.o, .int .i64 e.c.l, .int .i64 e.c.t, .int .i64 e.c.k, .int .i64 e.c.n, .bool e.c.g, .int .i64 e.seen] 56)) := (Below.refl _ _).alloc (Nat.le_refl _) _
  have HP := Lib.hid (show (w.alloc (.cells #[.string e.c.a, .string e.c.i, .int .i64 e.c.s, .int .i64 e.c.o, .int .i64 e.c.l, .int .i64 e.c.t, .int .i64 e.c.k, .int .i64 e.c.n, .bool e.c.g, .int .i64 e.seen] 56)).heap[w.heap.size]? = some (.cells #[.string e.c.a, .string e.c.i, .int .i64 e.c.s, .int .i64 e.c.o, .int .i64 e.c.l, .int .i64 e.c.t, .int .i64 e.c.k, .int .i64 e.c.n, .bool e.c.g, .int .i64 e.seen] 56 (0, 0)) from blk_new _ _ _)
  have H1 := Lib.hid (show BoxD Dk0 (w.alloc (.cells #[.string e.c.a, .string e.c.i, .int .i64 e.c.s, .int .i64 e.c.o, .int .i64 e.c.l, .int .i64 e.c.t, .int .i64 e.c.k, .int .i64 e.c.n, .bool e.c.g, .int .i64 e.seen] 56)) sb most a es.length c from blk_ext E0 h1)
  have HE := Lib.hid (SAt.ext h2 E0)
  have HB0 := Lib.hid E0
  have HS := Lib.hid hs
  have H5 := Lib.hid h5
  have hsb := blk_lt h1
  have hll := low_le (enK e) es
  obtain ⟨P, hP⟩ : ∃ P, low (enK e) es = P := ⟨_, rfl⟩
  have HPP := Lib.hid hP
  have HIN := Lib.hid hin
  rw [hP] at hll ⊢
  obtain ⟨n, hl⟩ : ∃ n, es.length = n := ⟨_, rfl⟩
  have HL := Lib.hid hl
  rw [hl] at H1 h3 hn hll hm
  have hm3 : ¬ most ≤ (n : Int) := by omega
  have hm2 : decide (most ≤ (n : Int)) = false := by simpa using hm
  clear h1 h2 h5 hs E0 hP hl hin
  unfold maxLen at h4
  go_enter Try.func36, Try.ntmps36
  go_upto_region 1 with (fail)
  obtain ⟨p, hp⟩ : ∃ p, w.heap.size = p := ⟨_, rfl⟩
  have HPS := Lib.hid hp
  rw [hp] at HP ⊢
  clear hp
  generalize (w.alloc (.cells #[.string e.c.a, .string e.c.i, .int .i64 e.c.s, .int .i64 e.c.o, .int .i64 e.c.l, .int .i64 e.c.t, .int .i64 e.c.k, .int .i64 e.c.n, .bool e.c.g, .int .i64 e.seen] 56)) = w0 at *
  have hk0 := blk_cell HP.out
  have hl0 := blk_lt HP.out
  go_wp2_with fail
  refine (dkFind Dk0 sb most a n c es (e.c.a, e.c.i) _ H1.out HE.out HS.out HL.out (by omega)).mono ?_
  rintro r w1 ⟨rfl, hb1⟩
  rw [show low (e.c.a, e.c.i) es = P from HPP.out, show isIn (e.c.a, e.c.i) es = false from HIN.out]
  clear hk0 hl0
  have HP1 := Lib.hid (blk_ext hb1 HP.out)
  have H11 := Lib.hid (show BoxD Dk0 w1 sb most a n c from blk_ext hb1 H1.out)
  have HE1 := Lib.hid (SAt.ext HE.out hb1)
  have HB1 := Lib.hid (ext_trans HB0.out hb1)
  have c0 := blk_cell H11.out 4
  have c1 := blk_cell H11.out 5
  simp only [List.getElem?_toArray, List.getElem?_cons_zero, List.getElem?_cons_succ] at c0 c1
  clear hb1 HP H1 HE HB0
  go_wp2_with fail
  haveI hIq : Nonempty (Of w1) := of_some _
  have hF0 := of_cell c0
  have hF1 := of_cell c1
  first | (refine wp_region_stay w1 (by kernel_rfl) (by kernel_rfl) (by go_grown) ?_) | (refine wp_region_stay_seq w1 (by go_grown) ?_)
  repeat (go_big_quiet_step (fail))
  refine wpQuiet_nil ?_
  intro w2 hb2
  clear hIq hF0 hF1

  have HB2 := Lib.hid (ext_trans HB1.out hb2)
  have HP2 := Lib.hid (blk_ext hb2 HP1.out)
  have H12 := Lib.hid (show BoxD Dk0 w2 sb most a n c from blk_ext hb2 H11.out)
  have HE2 := Lib.hid (SAt.ext HE1.out hb2)
  clear c0 c1
  have c1 := blk_cell H12.out 5
  simp only [List.getElem?_toArray, List.getElem?_cons_zero, List.getElem?_cons_succ] at c1
  clear hb2 HP1 H11 HE1 HB1
  go_wp2_with fail
  refine (cloneE a n c es _ HE2.out HL.out (by omega) H5.out).mono ?_
  rintro r w3 ⟨v3, rfl, ho3, hb3⟩
  clear c1
  obtain ⟨ra, rc, rfl, hrc, hrm, hat, hrb, -⟩ := OwnR.read ec_len ho3
  have HAT := Lib.hid (show EAt w3 ra es from hat)
  rw [HL.out] at ho3 hrc ⊢
  have HO3 := Lib.hid ho3
  have HP3 := Lib.hid (blk_ext hb3 HP2.out)
  have H13 := Lib.hid (show BoxD Dk0 w3 sb most a n c from blk_ext hb3 H12.out)
  have HB3 := Lib.hid (ext_trans HB2.out hb3)
  have hz2 := HB2.out.size
  have hz3 := hb3.size
  have HRB := Lib.hid hrb
  unfold maxLen at hrm
  clear ho3 hb3 hat HP2 H12 HE2 HB2 hrb
  have hk3 := blk_cell HP3.out
  have hl3 := blk_lt HP3.out
  have E4 : Below w3.heap.size w3 (w3.alloc (.cells #[.string e.c.a, .string e.c.i, .int .i64 e.c.s, .int .i64 e.c.o, .int .i64 e.c.l, .int .i64 e.c.t, .int .i64 e.c.k, .int .i64 e.c.n, .bool e.c.g, .int .i64 e.seen] 56)) := (Below.refl _ _).alloc (Nat.le_refl _) _
  have HO4 := Lib.hid (show OwnE w2.heap.size (w3.alloc (.cells #[.string e.c.a, .string e.c.i, .int .i64 e.c.s, .int .i64 e.c.o, .int .i64 e.c.l, .int .i64 e.c.t, .int .i64 e.c.k, .int .i64 e.c.n, .bool e.c.g, .int .i64 e.seen] 56)) (.slice ra n rc) es from OwnR.ext HO3.out E4)
  have HV4 := Lib.hid (show (w3.alloc (.cells #[.string e.c.a, .string e.c.i, .int .i64 e.c.s, .int .i64 e.c.o, .int .i64 e.c.l, .int .i64 e.c.t, .int .i64 e.c.k, .int .i64 e.c.n, .bool e.c.g, .int .i64 e.seen] 56)).heap[w3.heap.size]? = some (.cells #[.string e.c.a, .string e.c.i, .int .i64 e.c.s, .int .i64 e.c.o, .int .i64 e.c.l, .int .i64 e.c.t, .int .i64 e.c.k, .int .i64 e.c.n, .bool e.c.g, .int .i64 e.seen] 56 (0, 0)) from blk_new _ _ _)
  have HB4 := Lib.hid (ext_trans HB3.out E4)
  have H14 := Lib.hid (show BoxD Dk0 (w3.alloc (.cells #[.string e.c.a, .string e.c.i, .int .i64 e.c.s, .int .i64 e.c.o, .int .i64 e.c.l, .int .i64 e.c.t, .int .i64 e.c.k, .int .i64 e.c.n, .bool e.c.g, .int .i64 e.seen] 56)) sb most a n c from blk_ext E4 H13.out)
  have hz4 := E4.size
  clear E4 H13 HB3 HO3
  have hvb : ∀ g o, ra = some ⟨g, o, none⟩ → w3.heap.size ≠ g := fun g o e => by have := (HRB.out g o e).2.1; omega
  go_wp2_with fail
  clear hk3 hl3
  obtain ⟨vb, hvbe⟩ : ∃ vb, w3.heap.size = vb := ⟨_, rfl⟩
  rw [hvbe] at hvb HV4 ⊢
  generalize (w3.alloc (.cells #[.string e.c.a, .string e.c.i, .int .i64 e.c.s, .int .i64 e.c.o, .int .i64 e.c.l, .int .i64 e.c.t, .int .i64 e.c.k, .int .i64 e.c.n, .bool e.c.g, .int .i64 e.seen] 56)) = w4 at *
  refine (insertE w2.heap.size ra n rc P es e vb w4 HO4.out HL.out (by omega) (by omega) HV4.out hvb (by omega)).mono ?_
  rintro r w5 ⟨v5, rfl, ho5, hb5⟩
  have H15 := Lib.hid (show BoxD Dk0 w5 sb most a n c from (hb5.block sb (by omega)).trans H14.out)
  have HB5 := Lib.hid (HB4.out.trans (hb5.mono (by omega)))
  have HRES := Lib.hid (dks_set H15.out ho5)
  have HRIM := Lib.hid (show Rim sb w (w5.setCell ⟨sb, 5, none⟩ v5) from (Rim.of HB5.out).trans (Rim.kept ((Kept.refl sb w5).setCell _ _)))
  have hk5 := blk_cell H15.out
  have hf5 := blk_free H15.out
  have hl5 := blk_lt H15.out
  obtain ⟨a5, c5, rfl, -, -, -⟩ := OwnR.form ho5
  clear ho5 hb5 HV4 HO4 HB4 H14
  go_wp2
  go_ret
  exact ⟨rfl, HRES.out, HRIM.out⟩
set_option maxRecDepth 100000 in
set_option maxHeartbeats 1000000 in
theorem dkAll (Dk0 : DkR) (sb : Nat) (most : Int) (es : List En) (w : World) (h : DkS Dk0 w sb most es) (hn : es.length ≤ 900) :
    Calls Try.prog 23 #[.pointer (some ⟨sb, 4, none⟩)] w fun r w' => ∃ v, r = .returned v ∧ OwnE w.heap.size w' v es ∧ Below w.heap.size w w' := by
  obtain ⟨a, c, h1, h2, h3, h4, h5⟩ := h
  have H1 := Lib.hid h1
  have H2 := Lib.hid h2
  have c1 := blk_cell h1 5
  simp only [List.getElem?_toArray, List.getElem?_cons_zero, List.getElem?_cons_succ] at c1
  obtain ⟨n, hl⟩ : ∃ n, es.length = n := ⟨_, rfl⟩
  have HL := Lib.hid hl
  rw [hl] at c1 h3 hn H1
  clear h1 h2 hl
  unfold maxLen at h4
  go_enter Try.func23, Try.ntmps23
  go_wp2_with fail
  refine (cloneE a n c es _ H2.out HL.out (by omega) h5).mono ?_
  rintro r w1 ⟨v, rfl, ho, hb⟩
  have HO := Lib.hid ho
  have HB := Lib.hid hb
  obtain ⟨a5, c5, rfl, -, -, -⟩ := OwnR.form ho
  clear ho hb
  go_wp2
  go_ret
  exact ⟨_, rfl, HO.out, HB.out⟩
set_option maxRecDepth 100000 in
set_option maxHeartbeats 2000000 in
theorem dkGetYes (Dk0 : DkR) (sb : Nat) (most : Int) (es : List En) (k : Ky) (w : World) (h : DkS Dk0 w sb most es) (x : En) (hs : Asc es) (hn : es.length ≤ 900) (hx : es[low k es]? = some x) (hin : isIn k es = true) :
    Calls Try.prog 19 #[.pointer (some ⟨sb, 4, none⟩), .agg #[.string k.1, .string k.2]] w fun r w' => r = .returned (.tuple #[.agg #[.string x.c.a, .string x.c.i, .int .i64 x.c.s, .int .i64 x.c.o, .int .i64 x.c.l, .int .i64 x.c.t, .int .i64 x.c.k, .int .i64 x.c.n, .bool x.c.g, .int .i64 x.seen], .bool true]) ∧ Below w.heap.size w w' := by
  obtain ⟨a, c, h1, h2, h3, h4, h5⟩ := h
  have H1 := Lib.hid h1
  have H2 := Lib.hid h2
  obtain ⟨n, hl⟩ : ∃ n, es.length = n := ⟨_, rfl⟩
  have HL := Lib.hid hl
  rw [hl] at h3 hn H1
  clear h1 h2 hl
  unfold maxLen at h4
  have E0 : Below w.heap.size w ((w.alloc (.cells #[.string k.1, .string k.2] 30)).alloc (.cells #[.string ⟨#[]⟩, .string ⟨#[]⟩, .int .i64 0, .int .i64 0, .int .i64 0, .int .i64 0, .int .i64 0, .int .i64 0, .bool false, .int .i64 0] 56)) := ((Below.refl _ _).alloc (Nat.le_refl _) _).alloc (by simp) _
  have HK := Lib.hid (show ((w.alloc (.cells #[.string k.1, .string k.2] 30)).alloc (.cells #[.string ⟨#[]⟩, .string ⟨#[]⟩, .int .i64 0, .int .i64 0, .int .i64 0, .int .i64 0, .int .i64 0, .int .i64 0, .bool false, .int .i64 0] 56)).heap[w.heap.size]? = some (.cells #[.string k.1, .string k.2] 30 (0, 0)) from blk_alloc (blk_new _ _ _) _)
  have HE := Lib.hid (show ((w.alloc (.cells #[.string k.1, .string k.2] 30)).alloc (.cells #[.string ⟨#[]⟩, .string ⟨#[]⟩, .int .i64 0, .int .i64 0, .int .i64 0, .int .i64 0, .int .i64 0, .int .i64 0, .bool false, .int .i64 0] 56)).heap[w.heap.size + 1]? = some (.cells #[.string ⟨#[]⟩, .string ⟨#[]⟩, .int .i64 0, .int .i64 0, .int .i64 0, .int .i64 0, .int .i64 0, .int .i64 0, .bool false, .int .i64 0] 56 (0, 0)) from blk_new_at (by simp) _ _)
  have H10 := Lib.hid (show BoxD Dk0 ((w.alloc (.cells #[.string k.1, .string k.2] 30)).alloc (.cells #[.string ⟨#[]⟩, .string ⟨#[]⟩, .int .i64 0, .int .i64 0, .int .i64 0, .int .i64 0, .int .i64 0, .int .i64 0, .bool false, .int .i64 0] 56)) sb most a n c from blk_ext E0 H1.out)
  have H20 := Lib.hid (SAt.ext H2.out E0)
  have HB0 := Lib.hid E0
  have HIN := Lib.hid hin
  obtain ⟨P, hP⟩ : ∃ P, low k es = P := ⟨_, rfl⟩
  have HP := Lib.hid hP
  rw [hP] at hx
  have HX := Lib.hid hx
  have hlt : P < n := by rw [← HL.out]; exact (List.getElem?_eq_some_iff.1 hx).1
  have hPi : (P : Int) < (n : Int) := by omega
  clear hx
  clear E0 hin hP
  go_enter Try.func19, Try.ntmps19
  go_upto_region 1 with (fail)
  obtain ⟨q, hq⟩ : ∃ q, w.heap.size = q := ⟨_, rfl⟩
  have HQ := Lib.hid hq
  rw [hq] at HK HE ⊢
  clear hq
  generalize ((w.alloc (.cells #[.string k.1, .string k.2] 30)).alloc (.cells #[.string ⟨#[]⟩, .string ⟨#[]⟩, .int .i64 0, .int .i64 0, .int .i64 0, .int .i64 0, .int .i64 0, .int .i64 0, .bool false, .int .i64 0] 56)) = w0 at *
  have hk0 := blk_cell HK.out
  have hl0 := blk_lt HK.out
  go_wp2_with fail
  refine (dkFind Dk0 sb most a n c es k _ H10.out H20.out hs HL.out (by omega)).mono ?_
  rintro r w1 ⟨rfl, hb1⟩
  rw [HIN.out, HP.out]
  clear hk0 hl0
  have H11 := Lib.hid (show BoxD Dk0 w1 sb most a n c from blk_ext hb1 H10.out)
  have H21 := Lib.hid (SAt.ext H20.out hb1)
  have HE1 := Lib.hid (blk_ext hb1 HE.out)
  have HB1 := Lib.hid (ext_trans HB0.out hb1)
  have hk1 := blk_cell HE1.out
  have hf1 := blk_free HE1.out
  have hl1 := blk_lt HE1.out
  clear hb1 HK HE H10 H20 HB0 H1 H2 hs
  obtain ⟨b, o, rfl⟩ : ∃ b o, a = some ⟨b, o, none⟩ := by
    rcases H21.out with h | ⟨b, o, e, _⟩
    · have := HX.out; rw [h] at this; simp at this
    · exact ⟨b, o, e⟩
  obtain ⟨x0, x1, x2, x3, x4, x5, x6, x7, x8, x9⟩ := EAt.at H21.out HX.out
  have c1 := blk_cell H11.out 5
  simp only [List.getElem?_toArray, List.getElem?_cons_zero, List.getElem?_cons_succ] at c1
  go_wp2_with fail
  exact bodyPost_ret (v := .tuple #[.agg #[.string x.c.a, .string x.c.i, .int .i64 x.c.s, .int .i64 x.c.o, .int .i64 x.c.l, .int .i64 x.c.t, .int .i64 x.c.k, .int .i64 x.c.n, .bool x.c.g, .int .i64 x.seen], .bool true]) (by have hk2 := blk_cell (blk_fill10 (v0 := .string x.c.a) (v1 := .string x.c.i) (v2 := .int .i64 x.c.s) (v3 := .int .i64 x.c.o) (v4 := .int .i64 x.c.l) (v5 := .int .i64 x.c.t) (v6 := .int .i64 x.c.k) (v7 := .int .i64 x.c.n) (v8 := .bool x.c.g) (v9 := .int .i64 x.seen) HE1.out rfl); simp [results, Try.results19, go_sem, hk2]) rfl ⟨rfl, below_fill10 HB1.out (by have := HQ.out; omega)⟩
set_option maxRecDepth 100000 in
set_option maxHeartbeats 2000000 in
theorem dkGetNo (Dk0 : DkR) (sb : Nat) (most : Int) (es : List En) (k : Ky) (w : World) (h : DkS Dk0 w sb most es) (hs : Asc es) (hn : es.length ≤ 900) (hin : isIn k es = false) :
    Calls Try.prog 19 #[.pointer (some ⟨sb, 4, none⟩), .agg #[.string k.1, .string k.2]] w fun r w' => r = .returned (.tuple #[.agg #[.string ⟨#[]⟩, .string ⟨#[]⟩, .int .i64 0, .int .i64 0, .int .i64 0, .int .i64 0, .int .i64 0, .int .i64 0, .bool false, .int .i64 0], .bool false]) ∧ Below w.heap.size w w' := by
  obtain ⟨a, c, h1, h2, h3, h4, h5⟩ := h
  have H1 := Lib.hid h1
  have H2 := Lib.hid h2
  obtain ⟨n, hl⟩ : ∃ n, es.length = n := ⟨_, rfl⟩
  have HL := Lib.hid hl
  rw [hl] at h3 hn H1
  clear h1 h2 hl
  unfold maxLen at h4
  have E0 : Below w.heap.size w ((w.alloc (.cells #[.string k.1, .string k.2] 30)).alloc (.cells #[.string ⟨#[]⟩, .string ⟨#[]⟩, .int .i64 0, .int .i64 0, .int .i64 0, .int .i64 0, .int .i64 0, .int .i64 0, .bool false, .int .i64 0] 56)) := ((Below.refl _ _).alloc (Nat.le_refl _) _).alloc (by simp) _
  have HK := Lib.hid (show ((w.alloc (.cells #[.string k.1, .string k.2] 30)).alloc (.cells #[.string ⟨#[]⟩, .string ⟨#[]⟩, .int .i64 0, .int .i64 0, .int .i64 0, .int .i64 0, .int .i64 0, .int .i64 0, .bool false, .int .i64 0] 56)).heap[w.heap.size]? = some (.cells #[.string k.1, .string k.2] 30 (0, 0)) from blk_alloc (blk_new _ _ _) _)
  have HE := Lib.hid (show ((w.alloc (.cells #[.string k.1, .string k.2] 30)).alloc (.cells #[.string ⟨#[]⟩, .string ⟨#[]⟩, .int .i64 0, .int .i64 0, .int .i64 0, .int .i64 0, .int .i64 0, .int .i64 0, .bool false, .int .i64 0] 56)).heap[w.heap.size + 1]? = some (.cells #[.string ⟨#[]⟩, .string ⟨#[]⟩, .int .i64 0, .int .i64 0, .int .i64 0, .int .i64 0, .int .i64 0, .int .i64 0, .bool false, .int .i64 0] 56 (0, 0)) from blk_new_at (by simp) _ _)
  have H10 := Lib.hid (show BoxD Dk0 ((w.alloc (.cells #[.string k.1, .string k.2] 30)).alloc (.cells #[.string ⟨#[]⟩, .string ⟨#[]⟩, .int .i64 0, .int .i64 0, .int .i64 0, .int .i64 0, .int .i64 0, .int .i64 0, .bool false, .int .i64 0] 56)) sb most a n c from blk_ext E0 H1.out)
  have H20 := Lib.hid (SAt.ext H2.out E0)
  have HB0 := Lib.hid E0
  have HIN := Lib.hid hin
  obtain ⟨P, hP⟩ : ∃ P, low k es = P := ⟨_, rfl⟩
  have HP := Lib.hid hP
  clear E0 hin hP
  go_enter Try.func19, Try.ntmps19
  go_upto_region 1 with (fail)
  obtain ⟨q, hq⟩ : ∃ q, w.heap.size = q := ⟨_, rfl⟩
  have HQ := Lib.hid hq
  rw [hq] at HK HE ⊢
  clear hq
  generalize ((w.alloc (.cells #[.string k.1, .string k.2] 30)).alloc (.cells #[.string ⟨#[]⟩, .string ⟨#[]⟩, .int .i64 0, .int .i64 0, .int .i64 0, .int .i64 0, .int .i64 0, .int .i64 0, .bool false, .int .i64 0] 56)) = w0 at *
  have hk0 := blk_cell HK.out
  have hl0 := blk_lt HK.out
  go_wp2_with fail
  refine (dkFind Dk0 sb most a n c es k _ H10.out H20.out hs HL.out (by omega)).mono ?_
  rintro r w1 ⟨rfl, hb1⟩
  rw [HIN.out, HP.out]
  clear hk0 hl0
  have H11 := Lib.hid (show BoxD Dk0 w1 sb most a n c from blk_ext hb1 H10.out)
  have H21 := Lib.hid (SAt.ext H20.out hb1)
  have HE1 := Lib.hid (blk_ext hb1 HE.out)
  have HB1 := Lib.hid (ext_trans HB0.out hb1)
  have hk1 := blk_cell HE1.out
  have hf1 := blk_free HE1.out
  have hl1 := blk_lt HE1.out
  clear hb1 HK HE H10 H20 HB0 H1 H2 hs
  go_wp2_with fail
  exact bodyPost_ret (v := .tuple #[.agg #[.string ⟨#[]⟩, .string ⟨#[]⟩, .int .i64 0, .int .i64 0, .int .i64 0, .int .i64 0, .int .i64 0, .int .i64 0, .bool false, .int .i64 0], .bool false]) (by have hk2 := blk_cell (blk_fill10 (v0 := .string ⟨#[]⟩) (v1 := .string ⟨#[]⟩) (v2 := .int .i64 0) (v3 := .int .i64 0) (v4 := .int .i64 0) (v5 := .int .i64 0) (v6 := .int .i64 0) (v7 := .int .i64 0) (v8 := .bool false) (v9 := .int .i64 0) HE1.out rfl); simp [results, Try.results19, go_sem, hk2]) rfl ⟨rfl, below_fill10 HB1.out (by have := HQ.out; omega)⟩
end Go.Proofs.Ytloeabdohgdmkaa
