/- The document's own shelf: where an entry is; New, Live. -/
import Derived.Test.YtloeabdohgdmkaaBhZ
import Derived.Test.YtloeabdohgdmkaaSortRZ
import Derived.Test.YtloeabdohgdmkaaSplitZ
import Derived.Test.YtloeabdohgdmkaaBaZ
namespace Go.Proofs.Ytloeabdohgdmkaa
open Go.RowKit
set_option linter.unusedVariables false
set_option linter.unusedSimpArgs false

abbrev OwnRE (base : Nat) (w : World) (v : Value) (ls : List En) : Prop := OwnR ec 10 77 base w v ls
abbrev REAt (w : World) (a : Option Addr) (ls : List En) : Prop := SAt ec 10 77 w a ls
theorem REAt.at {w : World} {b o i : Nat} {ls : List En} {x : En} (h : REAt w (some ⟨b, o, none⟩) ls) (hi : ls[i]? = some x) :
    w.cell? ⟨b, o + i * 10, none⟩ = some (.string x.c.a) ∧ w.cell? ⟨b, o + i * 10 + 1, none⟩ = some (.string x.c.i) ∧ w.cell? ⟨b, o + i * 10 + 2, none⟩ = some (.int .i64 x.c.s) ∧ w.cell? ⟨b, o + i * 10 + 3, none⟩ = some (.int .i64 x.c.o) ∧ w.cell? ⟨b, o + i * 10 + 4, none⟩ = some (.int .i64 x.c.l) ∧ w.cell? ⟨b, o + i * 10 + 5, none⟩ = some (.int .i64 x.c.t) ∧ w.cell? ⟨b, o + i * 10 + 6, none⟩ = some (.int .i64 x.c.k) ∧ w.cell? ⟨b, o + i * 10 + 7, none⟩ = some (.int .i64 x.c.n) ∧ w.cell? ⟨b, o + i * 10 + 8, none⟩ = some (.bool x.c.g) ∧ w.cell? ⟨b, o + i * 10 + 9, none⟩ = some (.int .i64 x.seen) :=
  ⟨h.get ec_len hi 0 _ rfl, h.get ec_len hi 1 _ rfl, h.get ec_len hi 2 _ rfl, h.get ec_len hi 3 _ rfl, h.get ec_len hi 4 _ rfl, h.get ec_len hi 5 _ rfl, h.get ec_len hi 6 _ rfl, h.get ec_len hi 7 _ rfl, h.get ec_len hi 8 _ rfl, h.get ec_len hi 9 _ rfl⟩

theorem info_re : (Try.prog.info? 77).map (fun i => (i.zero, i.size, i.bytes)) = some (some En.zero.v, 10, 96) := by kernel_rfl
def BoxR (w : World) (sb : Nat) (most : Int) (a : Option Addr) (n c : Nat) : Prop := w.heap[sb]? = some (.cells #[.int .i64 most, .slice a n c] 67 (0, 0))
def RShP (w : World) (sb : Nat) (most : Int) (es : List En) : Prop := ∃ a c, BoxR w sb most a es.length c ∧ REAt w a es ∧ es.length ≤ c ∧ c ≤ maxLen ∧ ((a = none ∧ c = 0) ∨ ∃ b o, a = some ⟨b, o, none⟩)
theorem RShP.ext {w w' : World} {sb : Nat} {most : Int} {es : List En} (h : RShP w sb most es) (hb : Below w.heap.size w w') : RShP w' sb most es := by
  obtain ⟨a, c, h1, h2, h3⟩ := h
  exact ⟨a, c, blk_ext hb h1, h2.ext hb, h3⟩
theorem RShP.lt {w : World} {sb : Nat} {most : Int} {es : List En} (h : RShP w sb most es) : sb < w.heap.size := by
  obtain ⟨a, c, h1, h2, h3⟩ := h
  exact blk_lt h1

set_option maxRecDepth 100000 in
set_option maxHeartbeats 1000000 in
theorem rshNew (m : Nat) (w : World) (hm : m ≤ 32) :
    Calls Try.prog 41 #[.int .i64 m] w fun r w' => r = .returned (.pointer (some ⟨w.heap.size, 0, none⟩)) ∧ RShP w' w.heap.size m [] ∧ Below w.heap.size w w' := by
  have h2 : max (m : Int) 0 = (m : Int) := by omega
  have h1 : min (m : Int) 32 = (m : Int) := by omega
  have HR := Lib.hid (show RShP (w.alloc (.cells #[.int .i64 m, .slice none 0 0] 67)) w.heap.size m [] from ⟨none, 0, blk_new _ _ _, .inl rfl, Nat.le_refl _, by unfold maxLen; omega, .inl ⟨rfl, rfl⟩⟩)
  have HB := Lib.hid (show Below w.heap.size w (w.alloc (.cells #[.int .i64 m, .slice none 0 0] 67)) from (Below.refl _ _).alloc (Nat.le_refl _) _)
  go_enter Try.func41, Try.ntmps41
  go_wp2
  go_ret
  exact ⟨rfl, HR.out, HB.out⟩

set_option maxRecDepth 100000 in
set_option maxHeartbeats 2000000 in
theorem rshFind (sb : Nat) (most : Int) (a : Option Addr) (n c : Nat) (es : List En) (k : Ky) (w : World) (h3 : BoxR w sb most a n c) (h : REAt w a es) (hs : Asc es) (hl : es.length = n) (hn : n ≤ 1000) :
    Calls Try.prog 72 #[.pointer (some ⟨sb, 0, none⟩), .agg #[.string k.1, .string k.2]] w fun r w' => r = .returned (.tuple #[.int .i64 (low k es), .bool (isIn k es)]) ∧ Below w.heap.size w w' := by
  have E0 : Below w.heap.size w (w.alloc (.cells #[.string k.1, .string k.2] 30)) := (Below.refl _ _).alloc (Nat.le_refl _) _
  have H2 := Lib.hid (show BoxK (w.alloc (.cells #[.string k.1, .string k.2] 30)) w.heap.size k from blk_new _ _ _)
  have H3 := Lib.hid (show BoxR (w.alloc (.cells #[.string k.1, .string k.2] 30)) sb most a n c from blk_ext E0 h3)
  have HE := Lib.hid (SAt.ext h E0)
  have HB0 := Lib.hid E0
  have HL := Lib.hid hl
  have HI := Lib.hid (low_iff k es hs)
  have hll := low_le k es
  rw [hl] at hll
  obtain ⟨L, hL⟩ : ∃ L, low k es = L := ⟨_, rfl⟩
  obtain ⟨R, hR⟩ : ∃ R, isIn k es = R := ⟨_, rfl⟩
  have HIN := Lib.hid (show R = match es[L]? with
    | some x => decide (x.c.a = k.1) && decide (x.c.i = k.2)
    | none => false from by rw [← hR, ← hL]; rfl)
  rw [hL] at hll HI
  rw [hL, hR]
  clear h3 h hs hl E0 hL hR
  go_enter Try.func72, Try.ntmps72
  go_upto_region 1 with (fail)
  obtain ⟨p, hp⟩ : ∃ p, w.heap.size = p := ⟨_, rfl⟩
  rw [hp] at H2 ⊢
  have HPP := Lib.hid hp
  clear hp
  generalize (w.alloc (.cells #[.string k.1, .string k.2] 30)) = w0 at *
  go_wp2_with fail
  go_loopw [6] (fun i wr => ∃ J : Nat, J ≤ L ∧ i = .int .i64 (J : Int) ∧ Below w0.heap.size w0 wr) (fun i _ => n - (intOf i).toNat)
  case atStart => exact ⟨0, by omega, rfl, Below.refl _ _⟩
  case round =>
    obtain ⟨w2, rfl⟩ : ∃ y : World, y = wr := ⟨_, rfl⟩
    obtain ⟨J, hJ, rfl, hb2⟩ := hrel
    have HB2 := Lib.hid hb2
    have c1 := blk_cell (blk_ext hb2 H3.out) 1
    have c2 := blk_cell (blk_ext hb2 H2.out) 0
    have c3 := blk_cell (blk_ext hb2 H2.out) 1
    simp only [List.getElem?_toArray, List.getElem?_cons_zero, List.getElem?_cons_succ] at c1 c2 c3
    have HE2 := Lib.hid (SAt.ext HE.out hb2)
    clear hb2
    by_cases hlt : J < n
    · obtain ⟨x, hx⟩ : ∃ x, es[J]? = some x := ⟨_, List.getElem?_eq_getElem (by have := HL.out; omega)⟩
      obtain ⟨b, o, rfl⟩ : ∃ b o, a = some ⟨b, o, none⟩ := by
        rcases HE2.out with h | ⟨b, o, e, _⟩
        · rw [h] at hx; simp at hx
        · exact ⟨b, o, e⟩
      obtain ⟨x0, x1, -⟩ := REAt.at HE2.out hx
      have hd1 : decide ((J : Int) < (n : Int)) = true := by simp; omega
      have hd2 : (J : Int) < (n : Int) := by omega
      by_cases hJL : J < L
      · have HEL := Lib.hid (show decide (kc x.c.a x.c.i k.1 k.2 < 0) = true from by have := HI.out J x hx; rw [decide_eq_true hJL] at this; exact this)
        clear hx
        go_wp2_with fail
        haveI hIq : Nonempty (Of w2) := of_some _
        have hF0 := of_cell c1
        have hF1 := of_cell c2
        have hF2 := of_cell c3
        have hF3 := of_cell x0
        have hF4 := of_cell x1
        first | (refine wp_region_stay w2 (by kernel_rfl) (by kernel_rfl) (by go_grown) ?_) | (refine wp_region_stay_seq w2 (by go_grown) ?_)
        repeat (go_big_quiet_step ((go_at_call 74; with_reducible refine stay_bool (u := true) (refBefore x.c.a x.c.i k.1 k.2 _) HEL.out)))
        refine wpQuiet_nil ?_
        intro w3 hb3
        clear hIq hF0 hF1 hF2 hF3 hF4

        have HB3 := Lib.hid (ext_trans HB2.out hb3)
        clear hb3 c1 c2 c3 x0 x1
        go_wp2
        go_roundw
        case rel => exact ⟨J + 1, by omega, by go_num, HB3.out⟩
        case measure => simp [intOf]; omega
      · obtain rfl : J = L := by omega
        have HEL := Lib.hid (show decide (kc x.c.a x.c.i k.1 k.2 < 0) = false from by have := HI.out J x hx; rw [decide_eq_false hJL] at this; exact this)
        have hin := HIN.out
        rw [hx] at hin
        have HX := Lib.hid hx
        clear hx
        go_wp2_with fail
        haveI hIq : Nonempty (Of w2) := of_some _
        have hF0 := of_cell c1
        have hF1 := of_cell c2
        have hF2 := of_cell c3
        have hF3 := of_cell x0
        have hF4 := of_cell x1
        first | (refine wp_region_stay w2 (by kernel_rfl) (by kernel_rfl) (by go_grown) ?_) | (refine wp_region_stay_seq w2 (by go_grown) ?_)
        repeat (go_big_quiet_step ((go_at_call 74; with_reducible refine stay_bool (u := false) (refBefore x.c.a x.c.i k.1 k.2 _) HEL.out)))
        refine wpQuiet_nil ?_
        intro w3 hb3
        clear hIq hF0 hF1 hF2 hF3 hF4

        have HB3 := Lib.hid (show Below w.heap.size w w3 from ext_trans HB0.out (ext_trans HB2.out hb3))
        clear c1 c2 c3 x0 x1
        have c1 := blk_cell (blk_ext (ext_trans HB2.out hb3) H3.out) 1
        have c2 := blk_cell (blk_ext (ext_trans HB2.out hb3) H2.out) 0
        have c3 := blk_cell (blk_ext (ext_trans HB2.out hb3) H2.out) 1
        simp only [List.getElem?_toArray, List.getElem?_cons_zero, List.getElem?_cons_succ] at c1 c2 c3
        obtain ⟨x0, x1, -⟩ := REAt.at (SAt.ext HE2.out hb3) HX.out
        clear hb3
        obtain ⟨k1, k2⟩ := k
        simp only at *
        by_cases e1 : x.c.a = k1
        · by_cases e2 : x.c.i = k2
          · obtain rfl : R = true := by rw [hin, e1, e2]; simp
            rw [e1] at x0
            rw [e2] at x1
            clear hin e1 e2
            go_wp2_with fail
            haveI hIq : Nonempty (Of w3) := of_some _
            have hF0 := of_cell c1
            have hF1 := of_cell c2
            have hF2 := of_cell c3
            have hF3 := of_cell x0
            have hF4 := of_cell x1
            first | (refine wp_region_stay w3 (by kernel_rfl) (by kernel_rfl) (by go_grown) ?_) | (refine wp_region_stay_seq w3 (by go_grown) ?_)
            repeat (go_big_quiet_step (fail))
            refine wpQuiet_nil ?_
            intro w5 hb5
            clear hIq hF0 hF1 hF2 hF3 hF4
            have HB5 := Lib.hid (ext_trans HB3.out hb5)
            clear hb5
            go_wp2
            exact bodyPost_ret (v := .tuple #[.int .i64 J, .bool true]) (by simp [results, Try.results72, go_sem]) rfl ⟨rfl, HB5.out⟩
          · obtain rfl : R = false := by rw [hin]; simp [e2]
            rw [e1] at x0
            have h4 : ¬ x.c.i.toList = k2.toList := fun e => e2 (str_inj e)
            clear hin e1 e2
            go_wp2_with fail
            haveI hIq : Nonempty (Of w3) := of_some _
            have hF0 := of_cell c1
            have hF1 := of_cell c2
            have hF2 := of_cell c3
            have hF3 := of_cell x0
            have hF4 := of_cell x1
            first | (refine wp_region_stay w3 (by kernel_rfl) (by kernel_rfl) (by go_grown) ?_) | (refine wp_region_stay_seq w3 (by go_grown) ?_)
            repeat (go_big_quiet_step (fail))
            refine wpQuiet_nil ?_
            intro w5 hb5
            clear hIq hF0 hF1 hF2 hF3 hF4
            have HB5 := Lib.hid (ext_trans HB3.out hb5)
            clear hb5
            go_wp2
            exact bodyPost_ret (v := .tuple #[.int .i64 J, .bool false]) (by simp [results, Try.results72, go_sem]) rfl ⟨rfl, HB5.out⟩
        · obtain rfl : R = false := by rw [hin]; simp [e1]
          have h4 : ¬ x.c.a.toList = k1.toList := fun e => e1 (str_inj e)
          clear hin e1
          go_wp2_with fail
          haveI hIq : Nonempty (Of w3) := of_some _
          have hF0 := of_cell c1
          have hF1 := of_cell c2
          have hF2 := of_cell c3
          have hF3 := of_cell x0
          have hF4 := of_cell x1
          first | (refine wp_region_stay w3 (by kernel_rfl) (by kernel_rfl) (by go_grown) ?_) | (refine wp_region_stay_seq w3 (by go_grown) ?_)
          repeat (go_big_quiet_step (fail))
          refine wpQuiet_nil ?_
          intro w5 hb5
          clear hIq hF0 hF1 hF2 hF3 hF4
          have HB5 := Lib.hid (ext_trans HB3.out hb5)
          clear hb5
          go_wp2
          exact bodyPost_ret (v := .tuple #[.int .i64 J, .bool false]) (by simp [results, Try.results72, go_sem]) rfl ⟨rfl, HB5.out⟩
    · obtain rfl : J = L := by omega
      have hin := HIN.out
      obtain rfl : R = false := by rw [hin, List.getElem?_eq_none (by have := HL.out; omega)]
      have hd1 : decide ((J : Int) < (n : Int)) = false := by simp; omega
      clear hin
      go_wp2_with fail
      haveI hIq : Nonempty (Of w2) := of_some _
      have hF0 := of_cell c1
      have hF1 := of_cell c2
      have hF2 := of_cell c3
      first | (refine wp_region_stay w2 (by kernel_rfl) (by kernel_rfl) (by go_grown) ?_) | (refine wp_region_stay_seq w2 (by go_grown) ?_)
      repeat (go_big_quiet_step (fail))
      refine wpQuiet_nil ?_
      intro w3 hb3
      clear hIq hF0 hF1 hF2

      have HB3 := Lib.hid (show Below w.heap.size w w3 from ext_trans HB0.out (ext_trans HB2.out hb3))
      clear c1 c2 c3
      have c1 := blk_cell (blk_ext (ext_trans HB2.out hb3) H3.out) 1
      have c2 := blk_cell (blk_ext (ext_trans HB2.out hb3) H2.out) 0
      have c3 := blk_cell (blk_ext (ext_trans HB2.out hb3) H2.out) 1
      simp only [List.getElem?_toArray, List.getElem?_cons_zero, List.getElem?_cons_succ] at c1 c2 c3
      clear hb3
      go_wp2_with fail
      haveI hIq : Nonempty (Of w3) := of_some _
      have hF0 := of_cell c1
      have hF1 := of_cell c2
      have hF2 := of_cell c3
      first | (refine wp_region_stay w3 (by kernel_rfl) (by kernel_rfl) (by go_grown) ?_) | (refine wp_region_stay_seq w3 (by go_grown) ?_)
      repeat (go_big_quiet_step (fail))
      refine wpQuiet_nil ?_
      intro w5 hb5
      clear hIq hF0 hF1 hF2
      have HB5 := Lib.hid (ext_trans HB3.out hb5)
      clear hb5
      go_wp2
      exact bodyPost_ret (v := .tuple #[.int .i64 J, .bool false]) (by simp [results, Try.results72, go_sem]) rfl ⟨rfl, HB5.out⟩

end Go.Proofs.Ytloeabdohgdmkaa

/- The document's own shelf: Get, Live; Cards. -/
namespace Go.Proofs.Ytloeabdohgdmkaa
open Go.RowKit
set_option linter.unusedVariables false
set_option linter.unusedSimpArgs false

set_option maxRecDepth 100000 in
set_option maxHeartbeats 2000000 in
theorem rshGetYes (sb : Nat) (most : Int) (es : List En) (k : Ky) (w : World) (h : RShP w sb most es) (x : En) (hs : Asc es) (hn : es.length ≤ 900) (hx : es[low k es]? = some x) (hin : isIn k es = true) :
    Calls Try.prog 44 #[.pointer (some ⟨sb, 0, none⟩), .agg #[.string k.1, .string k.2]] w fun r w' => r = .returned (.tuple #[.agg #[.string x.c.a, .string x.c.i, .int .i64 x.c.s, .int .i64 x.c.o, .int .i64 x.c.l, .int .i64 x.c.t, .int .i64 x.c.k, .int .i64 x.c.n, .bool x.c.g, .int .i64 x.seen], .bool true]) ∧ Below w.heap.size w w' := by
  obtain ⟨a, c, h1, h2, h3, h4, h5⟩ := h
  have H1 := Lib.hid h1
  have H2 := Lib.hid h2
  obtain ⟨n, hl⟩ : ∃ n, es.length = n := ⟨_, rfl⟩
  have HL := Lib.hid hl
  rw [hl] at h3 hn H1
  clear h1 h2 hl
  unfold maxLen at h4
  have E0 : Below w.heap.size w ((w.alloc (.cells #[.string k.1, .string k.2] 30)).alloc (.cells #[.string ⟨#[]⟩, .string ⟨#[]⟩, .int .i64 0, .int .i64 0, .int .i64 0, .int .i64 0, .int .i64 0, .int .i64 0, .bool false, .int .i64 0] 77)) := ((Below.refl _ _).alloc (Nat.le_refl _) _).alloc (by simp) _
  have HK := Lib.hid (show ((w.alloc (.cells #[.string k.1, .string k.2] 30)).alloc (.cells #[.string ⟨#[]⟩, .string ⟨#[]⟩, .int .i64 0, .int .i64 0, .int .i64 0, .int .i64 0, .int .i64 0, .int .i64 0, .bool false, .int .i64 0] 77)).heap[w.heap.size]? = some (.cells #[.string k.1, .string k.2] 30 (0, 0)) from blk_alloc (blk_new _ _ _) _)
  have HE := Lib.hid (show ((w.alloc (.cells #[.string k.1, .string k.2] 30)).alloc (.cells #[.string ⟨#[]⟩, .string ⟨#[]⟩, .int .i64 0, .int .i64 0, .int .i64 0, .int .i64 0, .int .i64 0, .int .i64 0, .bool false, .int .i64 0] 77)).heap[w.heap.size + 1]? = some (.cells #[.string ⟨#[]⟩, .string ⟨#[]⟩, .int .i64 0, .int .i64 0, .int .i64 0, .int .i64 0, .int .i64 0, .int .i64 0, .bool false, .int .i64 0] 77 (0, 0)) from blk_new_at (by simp) _ _)
  have H10 := Lib.hid (show BoxR ((w.alloc (.cells #[.string k.1, .string k.2] 30)).alloc (.cells #[.string ⟨#[]⟩, .string ⟨#[]⟩, .int .i64 0, .int .i64 0, .int .i64 0, .int .i64 0, .int .i64 0, .int .i64 0, .bool false, .int .i64 0] 77)) sb most a n c from blk_ext E0 H1.out)
  have H20 := Lib.hid (SAt.ext H2.out E0)
  have HB0 := Lib.hid E0
  have HIN := Lib.hid hin
  obtain ⟨P, hP⟩ : ∃ P, low k es = P := ⟨_, rfl⟩
  have HP := Lib.hid hP
  rw [hP] at hx
  have HX := Lib.hid hx
  have hlt : P < n := by rw [← HL.out]; exact (List.getElem?_eq_some_iff.1 hx).1
  have hPi : (P : Int) < (n : Int) := by omega
  clear hx
  clear E0 hin hP
  go_enter Try.func44, Try.ntmps44
  go_upto_region 1 with (fail)
  obtain ⟨q, hq⟩ : ∃ q, w.heap.size = q := ⟨_, rfl⟩
  have HQ := Lib.hid hq
  rw [hq] at HK HE ⊢
  clear hq
  generalize ((w.alloc (.cells #[.string k.1, .string k.2] 30)).alloc (.cells #[.string ⟨#[]⟩, .string ⟨#[]⟩, .int .i64 0, .int .i64 0, .int .i64 0, .int .i64 0, .int .i64 0, .int .i64 0, .bool false, .int .i64 0] 77)) = w0 at *
  have hk0 := blk_cell HK.out
  have hl0 := blk_lt HK.out
  go_wp2_with fail
  refine (rshFind sb most a n c es k _ H10.out H20.out hs HL.out (by omega)).mono ?_
  rintro r w1 ⟨rfl, hb1⟩
  rw [HIN.out, HP.out]
  clear hk0 hl0
  have H11 := Lib.hid (show BoxR w1 sb most a n c from blk_ext hb1 H10.out)
  have H21 := Lib.hid (SAt.ext H20.out hb1)
  have HE1 := Lib.hid (blk_ext hb1 HE.out)
  have HB1 := Lib.hid (ext_trans HB0.out hb1)
  have hk1 := blk_cell HE1.out
  have hf1 := blk_free HE1.out
  have hl1 := blk_lt HE1.out
  clear hb1 HK HE H10 H20 HB0 H1 H2 hs
  obtain ⟨b, o, rfl⟩ : ∃ b o, a = some ⟨b, o, none⟩ := by
    rcases H21.out with h | ⟨b, o, e, _⟩
    · have := HX.out; rw [h] at this; simp at this
    · exact ⟨b, o, e⟩
  obtain ⟨x0, x1, x2, x3, x4, x5, x6, x7, x8, x9⟩ := REAt.at H21.out HX.out
  have c1 := blk_cell H11.out 1
  simp only [List.getElem?_toArray, List.getElem?_cons_zero, List.getElem?_cons_succ] at c1
  go_wp2_with fail
  exact bodyPost_ret (v := .tuple #[.agg #[.string x.c.a, .string x.c.i, .int .i64 x.c.s, .int .i64 x.c.o, .int .i64 x.c.l, .int .i64 x.c.t, .int .i64 x.c.k, .int .i64 x.c.n, .bool x.c.g, .int .i64 x.seen], .bool true]) (by have hk2 := blk_cell (blk_fill10 (v0 := .string x.c.a) (v1 := .string x.c.i) (v2 := .int .i64 x.c.s) (v3 := .int .i64 x.c.o) (v4 := .int .i64 x.c.l) (v5 := .int .i64 x.c.t) (v6 := .int .i64 x.c.k) (v7 := .int .i64 x.c.n) (v8 := .bool x.c.g) (v9 := .int .i64 x.seen) HE1.out rfl); simp [results, Try.results44, go_sem, hk2]) rfl ⟨rfl, below_fill10 HB1.out (by have := HQ.out; omega)⟩

set_option maxRecDepth 100000 in
set_option maxHeartbeats 2000000 in
theorem rshGetNo (sb : Nat) (most : Int) (es : List En) (k : Ky) (w : World) (h : RShP w sb most es) (hs : Asc es) (hn : es.length ≤ 900) (hin : isIn k es = false) :
    Calls Try.prog 44 #[.pointer (some ⟨sb, 0, none⟩), .agg #[.string k.1, .string k.2]] w fun r w' => r = .returned (.tuple #[.agg #[.string ⟨#[]⟩, .string ⟨#[]⟩, .int .i64 0, .int .i64 0, .int .i64 0, .int .i64 0, .int .i64 0, .int .i64 0, .bool false, .int .i64 0], .bool false]) ∧ Below w.heap.size w w' := by
  obtain ⟨a, c, h1, h2, h3, h4, h5⟩ := h
  have H1 := Lib.hid h1
  have H2 := Lib.hid h2
  obtain ⟨n, hl⟩ : ∃ n, es.length = n := ⟨_, rfl⟩
  have HL := Lib.hid hl
  rw [hl] at h3 hn H1
  clear h1 h2 hl
  unfold maxLen at h4
  have E0 : Below w.heap.size w ((w.alloc (.cells #[.string k.1, .string k.2] 30)).alloc (.cells #[.string ⟨#[]⟩, .string ⟨#[]⟩, .int .i64 0, .int .i64 0, .int .i64 0, .int .i64 0, .int .i64 0, .int .i64 0, .bool false, .int .i64 0] 77)) := ((Below.refl _ _).alloc (Nat.le_refl _) _).alloc (by simp) _
  have HK := Lib.hid (show ((w.alloc (.cells #[.string k.1, .string k.2] 30)).alloc (.cells #[.string ⟨#[]⟩, .string ⟨#[]⟩, .int .i64 0, .int .i64 0, .int .i64 0, .int .i64 0, .int .i64 0, .int .i64 0, .bool false, .int .i64 0] 77)).heap[w.heap.size]? = some (.cells #[.string k.1, .string k.2] 30 (0, 0)) from blk_alloc (blk_new _ _ _) _)
  have HE := Lib.hid (show ((w.alloc (.cells #[.string k.1, .string k.2] 30)).alloc (.cells #[.string ⟨#[]⟩, .string ⟨#[]⟩, .int .i64 0, .int .i64 0, .int .i64 0, .int .i64 0, .int .i64 0, .int .i64 0, .bool false, .int .i64 0] 77)).heap[w.heap.size + 1]? = some (.cells #[.string ⟨#[]⟩, .string ⟨#[]⟩, .int .i64 0, .int .i64 0, .int .i64 0, .int .i64 0, .int .i64 0, .int .i64 0, .bool false, .int .i64 0] 77 (0, 0)) from blk_new_at (by simp) _ _)
  have H10 := Lib.hid (show BoxR ((w.alloc (.cells #[.string k.1, .string k.2] 30)).alloc (.cells #[.string ⟨#[]⟩, .string ⟨#[]⟩, .int .i64 0, .int .i64 0, .int .i64 0, .int .i64 0, .int .i64 0, .int .i64 0, .bool false, .int .i64 0] 77)) sb most a n c from blk_ext E0 H1.out)
  have H20 := Lib.hid (SAt.ext H2.out E0)
  have HB0 := Lib.hid E0
  have HIN := Lib.hid hin
  obtain ⟨P, hP⟩ : ∃ P, low k es = P := ⟨_, rfl⟩
  have HP := Lib.hid hP
  clear E0 hin hP
  go_enter Try.func44, Try.ntmps44
  go_upto_region 1 with (fail)
  obtain ⟨q, hq⟩ : ∃ q, w.heap.size = q := ⟨_, rfl⟩
  have HQ := Lib.hid hq
  rw [hq] at HK HE ⊢
  clear hq
  generalize ((w.alloc (.cells #[.string k.1, .string k.2] 30)).alloc (.cells #[.string ⟨#[]⟩, .string ⟨#[]⟩, .int .i64 0, .int .i64 0, .int .i64 0, .int .i64 0, .int .i64 0, .int .i64 0, .bool false, .int .i64 0] 77)) = w0 at *
  have hk0 := blk_cell HK.out
  have hl0 := blk_lt HK.out
  go_wp2_with fail
  refine (rshFind sb most a n c es k _ H10.out H20.out hs HL.out (by omega)).mono ?_
  rintro r w1 ⟨rfl, hb1⟩
  rw [HIN.out, HP.out]
  clear hk0 hl0
  have H11 := Lib.hid (show BoxR w1 sb most a n c from blk_ext hb1 H10.out)
  have H21 := Lib.hid (SAt.ext H20.out hb1)
  have HE1 := Lib.hid (blk_ext hb1 HE.out)
  have HB1 := Lib.hid (ext_trans HB0.out hb1)
  have hk1 := blk_cell HE1.out
  have hf1 := blk_free HE1.out
  have hl1 := blk_lt HE1.out
  clear hb1 HK HE H10 H20 HB0 H1 H2 hs
  go_wp2_with fail
  exact bodyPost_ret (v := .tuple #[.agg #[.string ⟨#[]⟩, .string ⟨#[]⟩, .int .i64 0, .int .i64 0, .int .i64 0, .int .i64 0, .int .i64 0, .int .i64 0, .bool false, .int .i64 0], .bool false]) (by have hk2 := blk_cell (blk_fill10 (v0 := .string ⟨#[]⟩) (v1 := .string ⟨#[]⟩) (v2 := .int .i64 0) (v3 := .int .i64 0) (v4 := .int .i64 0) (v5 := .int .i64 0) (v6 := .int .i64 0) (v7 := .int .i64 0) (v8 := .bool false) (v9 := .int .i64 0) HE1.out rfl); simp [results, Try.results44, go_sem, hk2]) rfl ⟨rfl, below_fill10 HB1.out (by have := HQ.out; omega)⟩

end Go.Proofs.Ytloeabdohgdmkaa

/- The document's own shelf: Put of a key that is there; a shelf that is full. -/
namespace Go.Proofs.Ytloeabdohgdmkaa
open Go.RowKit
set_option linter.unusedVariables false
set_option linter.unusedSimpArgs false

theorem REAt.shelf {w : World} {a : Option Addr} {ls : List En} {sb : Nat} {most : Int} {a' : Option Addr} {n c : Nat} (h : REAt w a ls) (hs : BoxR w sb most a' n c) (v : Value) : REAt (w.setCell ⟨sb, 1, none⟩ v) a ls :=
  h.keep fun b cur hc _ => Below.heap_setCell w _ _ b (fun e => by
    have e1 : b = sb := e
    subst e1
    unfold BoxR at hs
    rw [hs] at hc
    simp at hc)
theorem rshp_set {w : World} {sb : Nat} {most : Int} {a : Option Addr} {n c base : Nat} {ls : List En} {v : Value} (hs : BoxR w sb most a n c) (ho : OwnRE base w v ls) : RShP (w.setCell ⟨sb, 1, none⟩ v) sb most ls := by
  obtain ⟨a2, c2, rfl, h1, h2, h3, -, h4⟩ := OwnR.read ec_len ho
  refine ⟨a2, c2, blk_set hs (by simp), REAt.shelf h3 hs _, h1, h2, ?_⟩
  rcases h4 with ⟨e1, e2, -⟩ | ⟨g, e⟩
  · exact .inl ⟨e1, e2⟩
  · exact .inr ⟨g, 0, e⟩
theorem RShP.rim {w w' : World} {s s' : Nat} {most : Int} {es : List En} (h : RShP w s most es) (hr : Rim s' w w') (hne : s ≠ s') {cur : Array Value} {U : TypeId} (hU : U ≠ 77) (hs : w.heap[s']? = some (.cells cur U (0, 0))) : RShP w' s most es := by
  obtain ⟨a, c, h1, h2, h3⟩ := h
  refine ⟨a, c, (hr.block s hne (blk_lt h1)).trans h1, h2.keep fun b cur' hc _ => hr.block b (fun e => ?_) (blk_lt hc), h3⟩
  subst e
  rw [hs] at hc
  simp at hc
  exact hU hc.2

theorem wpAny_stay {P : Program} {Q : Exit → Act → World → Prop} {a : Act} {w : World} {l : List Oper} (W : World) (hB : Region.lexB .any l.toArray = true) (hw : Below W.heap.size W w)
    (h : wpQuiet P l.toArray (fun w' => ∃ g : Of W, w' = g.w) (fun a' => ∀ w', Below W.heap.size W w' → Q .normal a' w') l a) : wpAny P .any l.toArray Q l.length (Array.replicate l.length false) a w := by
  simp only [Region.lexB, Bool.and_eq_true] at hB
  refine wpAny_of_quiet (C := fun w' => ∃ g : Of W, w' = g.w) (Q := fun a' => ∀ w', (∃ g : Of W, w' = g.w) → Q .normal a' w') (fun _ w' hw' h => h w' hw') _ _ _ _ ⟨⟨w, hw⟩, rfl⟩ ?_
  have e : (fun a' : Act => ∀ w' : World, (∃ g : Of W, w' = g.w) → Q .normal a' w') = fun a' => ∀ w', Below W.heap.size W w' → Q .normal a' w' := by
    funext a'
    exact propext ⟨fun h w' hb => h w' ⟨⟨w', hb⟩, rfl⟩, fun h w' ⟨g, hg⟩ => h w' (by rw [hg]; exact g.h)⟩
  rw [e]
  have := wpAnyQ_lex (C := fun w' => ∃ g : Of W, w' = g.w) (md := .any) hB.1 l 0 (Array.replicate l.length false) a (by simp) (by simpa using hB.2) h
  simpa using this

set_option maxRecDepth 100000 in
set_option maxHeartbeats 1000000 in
theorem rshPutNo (sb : Nat) (most : Int) (es : List En) (e : En) (w : World) (h : RShP w sb most es) (hs : Asc es) (hn : es.length ≤ 900) (hin : isIn (enK e) es = false) (hm : most ≤ es.length) :
    Calls Try.prog 45 #[.pointer (some ⟨sb, 0, none⟩), .agg #[.string e.c.a, .string e.c.i, .int .i64 e.c.s, .int .i64 e.c.o, .int .i64 e.c.l, .int .i64 e.c.t, .int .i64 e.c.k, .int .i64 e.c.n, .bool e.c.g, .int .i64 e.seen]] w fun r w' => r = .returned (.int .i64 24) ∧ Below w.heap.size w w' := by
  obtain ⟨a, c, h1, h2, h3, h4, h5⟩ := h
  have E0 : Below w.heap.size w (w.alloc (.cells #[.string e.c.a, .string e.c.i, .int .i64 e.c.s, .int .i64 e.c.o, .int .i64 e.c.l, .int .i64 e.c.t, .int .i64 e.c.k, .int .i64 e.c.n, .bool e.c.g, .int .i64 e.seen] 77)) := (Below.refl _ _).alloc (Nat.le_refl _) _
  have HP := Lib.hid (show (w.alloc (.cells #[.string e.c.a, .string e.c.i, .int .i64 e.c.s, .int .i64 e.c.o, .int .i64 e.c.l, .int .i64 e.c.t, .int .i64 e.c.k, .int .i64 e.c.n, .bool e.c.g, .int .i64 e.seen] 77)).heap[w.heap.size]? = some (.cells #[.string e.c.a, .string e.c.i, .int .i64 e.c.s, .int .i64 e.c.o, .int .i64 e.c.l, .int .i64 e.c.t, .int .i64 e.c.k, .int .i64 e.c.n, .bool e.c.g, .int .i64 e.seen] 77 (0, 0)) from blk_new _ _ _)
  have H1 := Lib.hid (show BoxR (w.alloc (.cells #[.string e.c.a, .string e.c.i, .int .i64 e.c.s, .int .i64 e.c.o, .int .i64 e.c.l, .int .i64 e.c.t, .int .i64 e.c.k, .int .i64 e.c.n, .bool e.c.g, .int .i64 e.seen] 77)) sb most a es.length c from blk_ext E0 h1)
  have HE := Lib.hid (SAt.ext h2 E0)
  have HB0 := Lib.hid E0
  have HS := Lib.hid hs
  have H5 := Lib.hid h5
  have hsb := blk_lt h1
  have hll := low_le (enK e) es
  obtain ⟨P, hP⟩ : ∃ P, low (enK e) es = P := ⟨_, rfl⟩
  have HPP := Lib.hid hP
  have HIN := Lib.hid hin
  rw [hP] at hll
  obtain ⟨n, hl⟩ : ∃ n, es.length = n := ⟨_, rfl⟩
  have HL := Lib.hid hl
  rw [hl] at H1 h3 hn hll hm
  have hm2 : decide (most ≤ (n : Int)) = true := by simpa using hm
  clear h1 h2 h5 hs E0 hP hl hin
  unfold maxLen at h4
  go_enter Try.func45, Try.ntmps45
  go_upto_region 1 with (fail)
  obtain ⟨p, hp⟩ : ∃ p, w.heap.size = p := ⟨_, rfl⟩
  have HPS := Lib.hid hp
  rw [hp] at HP ⊢
  clear hp
  generalize (w.alloc (.cells #[.string e.c.a, .string e.c.i, .int .i64 e.c.s, .int .i64 e.c.o, .int .i64 e.c.l, .int .i64 e.c.t, .int .i64 e.c.k, .int .i64 e.c.n, .bool e.c.g, .int .i64 e.seen] 77)) = w0 at *
  have hk0 := blk_cell HP.out
  have hl0 := blk_lt HP.out
  go_wp2_with fail
  refine (rshFind sb most a n c es (e.c.a, e.c.i) _ H1.out HE.out HS.out HL.out (by omega)).mono ?_
  rintro r w1 ⟨rfl, hb1⟩
  rw [show low (e.c.a, e.c.i) es = P from HPP.out, show isIn (e.c.a, e.c.i) es = false from HIN.out]
  clear hk0 hl0
  have HP1 := Lib.hid (blk_ext hb1 HP.out)
  have H11 := Lib.hid (show BoxR w1 sb most a n c from blk_ext hb1 H1.out)
  have HE1 := Lib.hid (SAt.ext HE.out hb1)
  have HB1 := Lib.hid (ext_trans HB0.out hb1)
  have c0 := blk_cell H11.out 0
  have c1 := blk_cell H11.out 1
  simp only [List.getElem?_toArray, List.getElem?_cons_zero, List.getElem?_cons_succ] at c0 c1
  clear hb1 HP H1 HE HB0
  go_wp2_with fail
  haveI hIq : Nonempty (Of w1) := of_some _
  have hF0 := of_cell c0
  have hF1 := of_cell c1
  first | (refine wp_region_stay w1 (by kernel_rfl) (by kernel_rfl) (by go_grown) ?_) | (refine wp_region_stay_seq w1 (by go_grown) ?_)
  repeat (go_big_quiet_step (fail))
  refine wpQuiet_nil ?_
  intro w2 hb2
  clear hIq hF0 hF1

  have HB2 := Lib.hid (ext_trans HB1.out hb2)
  clear hb2 c0 c1
  go_wp2
  go_ret
  exact ⟨rfl, HB2.out⟩

set_option maxRecDepth 100000 in
set_option maxHeartbeats 2000000 in
theorem rshPutIn (sb : Nat) (most : Int) (es : List En) (e : En) (w : World) (h : RShP w sb most es) (hs : Asc es) (hn : es.length ≤ 900) (hin : isIn (enK e) es = true) :
    Calls Try.prog 45 #[.pointer (some ⟨sb, 0, none⟩), .agg #[.string e.c.a, .string e.c.i, .int .i64 e.c.s, .int .i64 e.c.o, .int .i64 e.c.l, .int .i64 e.c.t, .int .i64 e.c.k, .int .i64 e.c.n, .bool e.c.g, .int .i64 e.seen]] w fun r w' => r = .returned (.int .i64 0) ∧ RShP w' sb most (es.set (low (enK e) es) e) ∧ Rim sb w w' := by
  obtain ⟨a, c, h1, h2, h3, h4, h5⟩ := h
  have E0 : Below w.heap.size w (w.alloc (.cells #[.string e.c.a, .string e.c.i, .int .i64 e.c.s, .int .i64 e.c.o, .int .i64 e.c.l, .int .i64 e.c.t, .int .i64 e.c.k, .int .i64 e.c.n, .bool e.c.g, .int .i64 e.seen] 77)) := (Below.refl _ _).alloc (Nat.le_refl _) _
  have HP := Lib.hid (show (w.alloc (.cells #[.string e.c.a, .string e.c.i, .int .i64 e.c.s, .int .i64 e.c.o, .int .i64 e.c.l, .int .i64 e.c.t, .int .i64 e.c.k, .int .i64 e.c.n, .bool e.c.g, .int .i64 e.seen] 77)).heap[w.heap.size]? = some (.cells #[.string e.c.a, .string e.c.i, .int .i64 e.c.s, .int .i64 e.c.o, .int .i64 e.c.l, .int .i64 e.c.t, .int .i64 e.c.k, .int .i64 e.c.n, .bool e.c.g, .int .i64 e.seen] 77 (0, 0)) from blk_new _ _ _)
  have H1 := Lib.hid (show BoxR (w.alloc (.cells #[.string e.c.a, .string e.c.i, .int .i64 e.c.s, .int .i64 e.c.o, .int .i64 e.c.l, .int .i64 e.c.t, .int .i64 e.c.k, .int .i64 e.c.n, .bool e.c.g, .int .i64 e.seen] 77)) sb most a es.length c from blk_ext E0 h1)
  have HE := Lib.hid (SAt.ext h2 E0)
  have HB0 := Lib.hid E0
  have HS := Lib.hid hs
  have H5 := Lib.hid h5
  have hsb := blk_lt h1
  have hll := low_le (enK e) es
  obtain ⟨P, hP⟩ : ∃ P, low (enK e) es = P := ⟨_, rfl⟩
  have HPP := Lib.hid hP
  have HIN := Lib.hid hin
  rw [hP] at hll ⊢
  have hlt : P < es.length := by
    obtain ⟨x, hx, -⟩ := isIn_at hin
    rw [hP] at hx
    exact (List.getElem?_eq_some_iff.1 hx).1
  obtain ⟨n, hl⟩ : ∃ n, es.length = n := ⟨_, rfl⟩
  have HL := Lib.hid hl
  rw [hl] at H1 h3 hn hll hlt
  clear h1 h2 h5 hs E0 hP hl hin
  unfold maxLen at h4
  go_enter Try.func45, Try.ntmps45
  go_upto_region 1 with (fail)
  obtain ⟨p, hp⟩ : ∃ p, w.heap.size = p := ⟨_, rfl⟩
  have HPS := Lib.hid hp
  rw [hp] at HP ⊢
  clear hp
  generalize (w.alloc (.cells #[.string e.c.a, .string e.c.i, .int .i64 e.c.s, .int .i64 e.c.o, .int .i64 e.c.l, .int .i64 e.c.t, .int .i64 e.c.k, .int .i64 e.c.n, .bool e.c.g, .int .i64 e.seen] 77)) = w0 at *
  have hk0 := blk_cell HP.out
  have hl0 := blk_lt HP.out
  go_wp2_with fail
  refine (rshFind sb most a n c es (e.c.a, e.c.i) _ H1.out HE.out HS.out HL.out (by omega)).mono ?_
  rintro r w1 ⟨rfl, hb1⟩
  rw [show low (e.c.a, e.c.i) es = P from HPP.out, show isIn (e.c.a, e.c.i) es = true from HIN.out]
  clear hk0 hl0
  have HP1 := Lib.hid (blk_ext hb1 HP.out)
  have H11 := Lib.hid (show BoxR w1 sb most a n c from blk_ext hb1 H1.out)
  have HE1 := Lib.hid (SAt.ext HE.out hb1)
  have HB1 := Lib.hid (ext_trans HB0.out hb1)
  have c0 := blk_cell H11.out 0
  have c1 := blk_cell H11.out 1
  simp only [List.getElem?_toArray, List.getElem?_cons_zero, List.getElem?_cons_succ] at c0 c1
  clear hb1 HP H1 HE HB0
  obtain ⟨i0, hi, hz0, hz1, hz2⟩ := info_parts' info_re
  obtain ⟨b, o, rfl⟩ : ∃ b o, a = some ⟨b, o, none⟩ := by
    rcases HE1.out with h | ⟨b, o, e', _⟩
    · have := HL.out; rw [h] at this; simp at this; omega
    · exact ⟨b, o, e'⟩
  have hl11 := blk_lt H11.out
  have B0 : Below w1.heap.size w1 (w1.alloc (.cells #[] 77)) := (Below.refl _ _).alloc (Nat.le_refl _) _
  have O0 := (OwnR.made (enc := ec) (k := 10) (T := 77) w1.heap.size w1 (Nat.le_refl _))
  have hcells := Lib.hid (show ∀ j u, (flat ec es)[j]? = some u → (w1.alloc (.cells #[] 77)).cell? ((⟨b, o, none⟩ : Addr).add j) = some u from fun j u hj => by
    rw [add_off]
    rcases HE1.out with h | ⟨b', o', e', _, h⟩
    · rw [h] at hj; simp [flat] at hj
    · simp at e'
      obtain ⟨rfl, rfl⟩ := e'
      exact ext_cell B0 (h j u hj))
  go_wp2_with (at_builtin; refine wpList_append_own _ rfl _ _ 65 rfl (w1.heap.size) 77 i0 En.zero.v 10 96 Try.underlying65 hi hz0 hz1 hz2 rfl (by decide) (.slice (some ⟨w1.heap.size, 0, none⟩) 0 0) 0 (flat ec []) rfl O0 ⟨b, o, none⟩ n c (flat ec es) rfl ?c0 ?c1 ?c2 ?c3 ?c4 ?c5 ?_)
  case c0 => rw [flat_len ec_len, HL.out]
  case c1 => exact hcells.out
  case c2 => exact flat_one ec_one es
  case c3 => unfold maxLen; omega
  case c4 => omega
  case c5 => exact B0.size
  intro v' w5 ho hg _
  have B5 : Below w1.heap.size w1 w5 := B0.grown hg B0.size (fun q hq => own_ge O0 hq)
  have ho' : OwnRE w1.heap.size w5 v' es := by unfold OwnRE OwnR; rw [HL.out]; simpa [flat_nil] using ho
  obtain ⟨ra, rc, rfl, hrc, hrm, -, -, -⟩ := OwnR.read ec_len ho'
  rw [HL.out] at ho' hrc ⊢
  obtain ⟨g, rfl, hg0, hg1, -⟩ := OwnR.addr ho' HL.out (by omega)
  have HO5 := Lib.hid ho'
  have HP5 := Lib.hid (blk_ext B5 HP1.out)
  have H15 := Lib.hid (show BoxR w5 sb most (some ⟨b, o, none⟩) n c from blk_ext B5 H11.out)
  have HB5 := Lib.hid (ext_trans HB1.out B5)
  have hz1' := HB1.out.size
  have hne : sb ≠ g := by have := blk_lt H11.out; omega
  unfold maxLen at hrm
  clear ho hg O0 B0 hcells ho' c0 c1 HP1 H11 HE1 B5
  have hk5 := blk_cell H15.out
  have hf5 := blk_free H15.out
  have hl5 := blk_lt H15.out
  have HO6 := Lib.hid (show OwnRE w1.heap.size (w5.setCell ⟨sb, 1, none⟩ (.slice (some ⟨g, 0, none⟩) n rc)) (.slice (some ⟨g, 0, none⟩) n rc) es from own_blocks HO5.out (fun b' cur hc => Below.heap_setCell w5 _ _ b' (fun e' => by
    have e1 : b' = sb := e'
    subst e1
    have := H15.out
    unfold BoxR at this
    rw [this] at hc
    simp at hc)))
  have H16 := Lib.hid (show BoxR (w5.setCell ⟨sb, 1, none⟩ (.slice (some ⟨g, 0, none⟩) n rc)) sb most (some ⟨g, 0, none⟩) n rc from blk_set H15.out (by simp))
  have hps : p ≠ sb := by have := HPS.out; omega
  have HP6 := Lib.hid (show (w5.setCell ⟨sb, 1, none⟩ (.slice (some ⟨g, 0, none⟩) n rc)).heap[p]? = some (.cells #[.string e.c.a, .string e.c.i, .int .i64 e.c.s, .int .i64 e.c.o, .int .i64 e.c.l, .int .i64 e.c.t, .int .i64 e.c.k, .int .i64 e.c.n, .bool e.c.g, .int .i64 e.seen] 77 (0, 0)) from blk_set_other hps HP5.out)
  have HR6 := Lib.hid (show Rim sb w (w5.setCell ⟨sb, 1, none⟩ (.slice (some ⟨g, 0, none⟩) n rc)) from (Rim.of HB5.out).trans (Rim.kept ((Kept.refl sb w5).setCell _ _)))
  go_wp2_with fail
  have hkept : Kept g w5 w5 := Kept.refl _ _
  generalize (w5.setCell ⟨sb, 1, none⟩ (.slice (some ⟨g, 0, none⟩) n rc)) = w6 at *
  obtain ⟨cur6, hcur6⟩ : ∃ cur, w6.heap[g]? = some (.cells cur 77 (0, 0)) := by
    obtain ⟨-, -, -, cur, h, -⟩ := OwnR.num HO6.out
    exact ⟨cur, h⟩
  have HC6 := Lib.hid hcur6
  have d1 := blk_cell H16.out 1
  simp only [List.getElem?_toArray, List.getElem?_cons_zero, List.getElem?_cons_succ] at d1
  obtain ⟨e0, e1, e2, e3, e4, e5, e6, e7, e8, e9⟩ : w6.cell? ⟨p, 0, none⟩ = some (.string e.c.a) ∧ w6.cell? ⟨p, 1, none⟩ = some (.string e.c.i) ∧ w6.cell? ⟨p, 2, none⟩ = some (.int .i64 e.c.s) ∧ w6.cell? ⟨p, 3, none⟩ = some (.int .i64 e.c.o) ∧ w6.cell? ⟨p, 4, none⟩ = some (.int .i64 e.c.l) ∧ w6.cell? ⟨p, 5, none⟩ = some (.int .i64 e.c.t) ∧ w6.cell? ⟨p, 6, none⟩ = some (.int .i64 e.c.k) ∧ w6.cell? ⟨p, 7, none⟩ = some (.int .i64 e.c.n) ∧ w6.cell? ⟨p, 8, none⟩ = some (.bool e.c.g) ∧ w6.cell? ⟨p, 9, none⟩ = some (.int .i64 e.seen) := by
    have hk := blk_cell HP6.out
    exact ⟨by rw [hk]; rfl, by rw [hk]; rfl, by rw [hk]; rfl, by rw [hk]; rfl, by rw [hk]; rfl, by rw [hk]; rfl, by rw [hk]; rfl, by rw [hk]; rfl, by rw [hk]; rfl, by rw [hk]; rfl⟩
  have hPi : (P : Int) < (n : Int) := by omega
  clear hkept hcur6 hk5 hf5 hl5
  haveI hIq : Nonempty (Of w6) := of_some _
  have hF0 := of_cell d1
  have hF1 := of_cell e0
  have hF2 := of_cell e1
  have hF3 := of_cell e2
  have hF4 := of_cell e3
  have hF5 := of_cell e4
  have hF6 := of_cell e5
  have hF7 := of_cell e6
  have hF8 := of_cell e7
  have hF9 := of_cell e8
  have hF10 := of_cell e9
  refine wp_region_split 7 1 6 rfl rfl (by kernel_rfl) (by kernel_rfl) (by kernel_rfl) (by kernel_rfl) (by kernel_rfl) ?_
  simp only [List.take_succ_cons, List.take_zero]
  refine wpAny_stay w6 (by kernel_rfl) ((Below.refl _ _).drew) ?_
  repeat (go_big_quiet_step (fail))
  refine wpQuiet_nil ?_
  intro w7 hb7
  clear hIq hF0 hF1 hF2 hF3 hF4 hF5 hF6 hF7 hF8 hF9 hF10 e0 e1 e2 e3 e4 e5 e6 e7 e8 e9 d1
  simp only [behind]
  have HC7 := Lib.hid (blk_ext hb7 HC6.out)
  have HO7 := Lib.hid (show OwnRE w1.heap.size w7 (.slice (some ⟨g, 0, none⟩) n rc) es from OwnR.ext HO6.out hb7)
  have H17 := Lib.hid (show BoxR w7 sb most (some ⟨g, 0, none⟩) n rc from blk_ext hb7 H16.out)
  have HR7 := Lib.hid (show Rim sb w w7 from HR6.out.trans (Rim.of hb7))
  have HPUT := Lib.hid (OwnR.put ec_len HO7.out (i := P) (by have := HL.out; omega) e)
  have HKP := Lib.hid (kept_sets (ec e) (o := P * 10) (Kept.refl g w7))
  obtain ⟨y0, y1, y2, y3, y4, y5, y6, y7, y8, y9⟩ := REAt.at (show REAt w7 (some ⟨g, 0, none⟩) es from by obtain ⟨a', c', e', -, -, h, -⟩ := OwnR.read ec_len HO7.out; simp at e'; rw [e'.1]; exact h) (List.getElem?_eq_getElem (show P < es.length by have := HL.out; omega))
  simp only [Nat.zero_add] at y0 y1 y2 y3 y4 y5 y6 y7 y8 y9
  have hf7 := blk_free HC7.out
  have hl7 := blk_lt HC7.out
  clear hb7 HC6 HO6 H16 HR6
  refine wpAny_one 7 _ (by kernel_rfl) rfl ?_
  refine wpOp_do (by simp only [List.getElem?_toArray, List.getElem?_cons_succ, List.getElem?_cons_zero]; rfl) (by rfl) (fun K hK => ?_)
  go_big_op
  refine hK _ _ ?_
  clear hK K
  refine wpAny_end (by kernel_rfl) ?_
  have HRES := Lib.hid (show RShP (w7.setCells g (P * 10) (ec e)) sb most (es.set P e) from by
    refine ⟨some ⟨g, 0, none⟩, rc, ?_, ?_, by rw [List.length_set, HL.out]; exact hrc, by unfold maxLen; exact hrm, .inr ⟨g, 0, rfl⟩⟩
    · rw [List.length_set, HL.out]
      exact (HKP.out.block sb hne).trans H17.out
    · obtain ⟨a', c', e', -, -, h, -⟩ := OwnR.read ec_len HPUT.out
      simp at e'
      rw [e'.1]
      exact h)
  have HRIM := Lib.hid (show Rim sb w (w7.setCells g (P * 10) (ec e)) from ⟨HKP.out.os.trans HR7.out.os, HKP.out.tape.trans HR7.out.tape, HKP.out.output.trans HR7.out.output, by rw [HKP.out.size]; exact HR7.out.size, fun k hk hl => (HKP.out.block k (by omega)).trans (HR7.out.block k hk hl)⟩)
  clear HPUT HKP
  go_wp2
  go_ret
  exact ⟨rfl, HRES.out, HRIM.out⟩

end Go.Proofs.Ytloeabdohgdmkaa

/- The document's own shelf: Put of a new key. -/
namespace Go.Proofs.Ytloeabdohgdmkaa
open Go.RowKit
set_option linter.unusedVariables false
set_option linter.unusedSimpArgs false

theorem own_empty10 {w : World} {b base : Nat} (h : w.heap[b]? = some (.cells #[] 77 (0, 0))) (hb : base ≤ b) : w.ownsRow base 77 10 (.slice (some ⟨b, 0, none⟩) 0 0) 0 (flat ec []) :=
  ⟨rfl, .inr ⟨b, 0, #[], rfl, hb, h, Nat.le_refl _, by simp [maxLen], rfl, rfl⟩⟩
theorem blk_ne10 {w : World} {b b1 : Nat} {e : En} (h : w.heap[b]? = some (.cells #[.string e.c.a, .string e.c.i, .int .i64 e.c.s, .int .i64 e.c.o, .int .i64 e.c.l, .int .i64 e.c.t, .int .i64 e.c.k, .int .i64 e.c.n, .bool e.c.g, .int .i64 e.seen] 77 (0, 0))) (h1 : w.heap[b1]? = some (.cells #[] 77 (0, 0))) : b ≠ b1 := by
  rintro rfl
  rw [h] at h1
  simp at h1

end Go.Proofs.Ytloeabdohgdmkaa
