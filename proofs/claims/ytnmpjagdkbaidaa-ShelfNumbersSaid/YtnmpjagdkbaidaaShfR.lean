/- The document's own shelf: where an entry is; New, Live. -/
import Derived.Test.YtnmpjagdkbaidaaShfG
namespace Go.Proofs.Ytnmpjagdkbaidaa
open Go.RowKit
set_option linter.unusedVariables false
set_option linter.unusedSimpArgs false

abbrev OwnRE (base : Nat) (w : World) (v : Value) (ls : List En) : Prop := OwnR ec 10 63 base w v ls
abbrev REAt (w : World) (a : Option Addr) (ls : List En) : Prop := SAt ec 10 63 w a ls
theorem REAt.at {w : World} {b o i : Nat} {ls : List En} {x : En} (h : REAt w (some ⟨b, o, none⟩) ls) (hi : ls[i]? = some x) :
    w.cell? ⟨b, o + i * 10, none⟩ = some (.string x.c.a) ∧ w.cell? ⟨b, o + i * 10 + 1, none⟩ = some (.string x.c.i) ∧ w.cell? ⟨b, o + i * 10 + 2, none⟩ = some (.int .i64 x.c.s) ∧ w.cell? ⟨b, o + i * 10 + 3, none⟩ = some (.int .i64 x.c.o) ∧ w.cell? ⟨b, o + i * 10 + 4, none⟩ = some (.int .i64 x.c.l) ∧ w.cell? ⟨b, o + i * 10 + 5, none⟩ = some (.int .i64 x.c.t) ∧ w.cell? ⟨b, o + i * 10 + 6, none⟩ = some (.int .i64 x.c.k) ∧ w.cell? ⟨b, o + i * 10 + 7, none⟩ = some (.int .i64 x.c.n) ∧ w.cell? ⟨b, o + i * 10 + 8, none⟩ = some (.bool x.c.g) ∧ w.cell? ⟨b, o + i * 10 + 9, none⟩ = some (.int .i64 x.seen) :=
  ⟨h.get ec_len hi 0 _ rfl, h.get ec_len hi 1 _ rfl, h.get ec_len hi 2 _ rfl, h.get ec_len hi 3 _ rfl, h.get ec_len hi 4 _ rfl, h.get ec_len hi 5 _ rfl, h.get ec_len hi 6 _ rfl, h.get ec_len hi 7 _ rfl, h.get ec_len hi 8 _ rfl, h.get ec_len hi 9 _ rfl⟩

theorem info_re : (Try.prog.info? 63).map (fun i => (i.zero, i.size, i.bytes)) = some (some En.zero.v, 10, 96) := by kernel_rfl
def BoxR (w : World) (sb : Nat) (most : Int) (a : Option Addr) (n c : Nat) : Prop := w.heap[sb]? = some (.cells #[.int .i64 most, .slice a n c] 79 (0, 0))
def RShP (w : World) (sb : Nat) (most : Int) (es : List En) : Prop := ∃ a c, BoxR w sb most a es.length c ∧ REAt w a es ∧ es.length ≤ c ∧ c ≤ maxLen ∧ ((a = none ∧ c = 0) ∨ ∃ b o, a = some ⟨b, o, none⟩)
theorem RShP.ext {w w' : World} {sb : Nat} {most : Int} {es : List En} (h : RShP w sb most es) (hb : Below w.heap.size w w') : RShP w' sb most es := by
  obtain ⟨a, c, h1, h2, h3⟩ := h
  exact ⟨a, c, blk_ext hb h1, h2.ext hb, h3⟩
theorem RShP.lt {w : World} {sb : Nat} {most : Int} {es : List En} (h : RShP w sb most es) : sb < w.heap.size := by
  obtain ⟨a, c, h1, h2, h3⟩ := h
  exact blk_lt h1

set_option maxRecDepth 100000 in
set_option maxHeartbeats 1000000 in
theorem rshNew (m : Nat) (w : World) (hm : m ≤ 32) :
    Calls Try.prog 23 #[.int .i64 m] w fun r w' => r = .returned (.pointer (some ⟨w.heap.size, 0, none⟩)) ∧ RShP w' w.heap.size m [] ∧ Below w.heap.size w w' := by
  have h2 : max (m : Int) 0 = (m : Int) := by omega
  have h1 : min (m : Int) 32 = (m : Int) := by omega
  have HR := Lib.hid (show RShP (w.alloc (.cells #[.int .i64 m, .slice none 0 0] 79)) w.heap.size m [] from ⟨none, 0, blk_new _ _ _, .inl rfl, Nat.le_refl _, by unfold maxLen; omega, .inl ⟨rfl, rfl⟩⟩)
  have HB := Lib.hid (show Below w.heap.size w (w.alloc (.cells #[.int .i64 m, .slice none 0 0] 79)) from (Below.refl _ _).alloc (Nat.le_refl _) _)
  go_enter Try.func23, Try.ntmps23
  go_wp2
  go_ret
  exact ⟨rfl, HR.out, HB.out⟩

set_option maxRecDepth 100000 in
set_option maxHeartbeats 2000000 in
theorem rshFind (sb : Nat) (most : Int) (a : Option Addr) (n c : Nat) (es : List En) (k : Ky) (w : World) (h3 : BoxR w sb most a n c) (h : REAt w a es) (hs : Asc es) (hl : es.length = n) (hn : n ≤ 1000) :
    Calls Try.prog 36 #[.pointer (some ⟨sb, 0, none⟩), .agg #[.string k.1, .string k.2]] w fun r w' => r = .returned (.tuple #[.int .i64 (low k es), .bool (isIn k es)]) ∧ Below w.heap.size w w' := by
  have E0 : Below w.heap.size w (w.alloc (.cells #[.string k.1, .string k.2] 27)) := (Below.refl _ _).alloc (Nat.le_refl _) _
  have H2 := Lib.hid (show BoxK (w.alloc (.cells #[.string k.1, .string k.2] 27)) w.heap.size k from blk_new _ _ _)
  have H3 := Lib.hid (show BoxR (w.alloc (.cells #[.string k.1, .string k.2] 27)) sb most a n c from blk_ext E0 h3)
  have HE := Lib.hid (SAt.ext h E0)
  have HB0 := Lib.hid E0
  have HL := Lib.hid hl
  have HI := Lib.hid (low_iff k es hs)
  have hll := low_le k es
  rw [hl] at hll
  obtain ⟨L, hL⟩ : ∃ L, low k es = L := ⟨_, rfl⟩
  obtain ⟨R, hR⟩ : ∃ R, isIn k es = R := ⟨_, rfl⟩
  have HIN := Lib.hid (show R = match es[L]? with
    | some x => decide (x.c.a = k.1) && decide (x.c.i = k.2)
    | none => false from by rw [← hR, ← hL]; rfl)
  rw [hL] at hll HI
  rw [hL, hR]
  clear h3 h hs hl E0 hL hR
  go_enter Try.func36, Try.ntmps36
  go_upto_region 1 with (fail)
  obtain ⟨p, hp⟩ : ∃ p, w.heap.size = p := ⟨_, rfl⟩
  rw [hp] at H2 ⊢
  have HPP := Lib.hid hp
  clear hp
  generalize (w.alloc (.cells #[.string k.1, .string k.2] 27)) = w0 at *
  go_wp2_with fail
  go_loopw [6] (fun i wr => ∃ J : Nat, J ≤ L ∧ i = .int .i64 (J : Int) ∧ Below w0.heap.size w0 wr) (fun i _ => n - (intOf i).toNat)
  case atStart => exact ⟨0, by omega, rfl, Below.refl _ _⟩
  case round =>
    obtain ⟨w2, rfl⟩ : ∃ y : World, y = wr := ⟨_, rfl⟩
    obtain ⟨J, hJ, rfl, hb2⟩ := hrel
    have HB2 := Lib.hid hb2
    have c1 := blk_cell (blk_ext hb2 H3.out) 1
    have c2 := blk_cell (blk_ext hb2 H2.out) 0
    have c3 := blk_cell (blk_ext hb2 H2.out) 1
    simp only [List.getElem?_toArray, List.getElem?_cons_zero, List.getElem?_cons_succ] at c1 c2 c3
    have HE2 := Lib.hid (SAt.ext HE.out hb2)
    clear hb2
    by_cases hlt : J < n
    · obtain ⟨x, hx⟩ : ∃ x, es[J]? = some x := ⟨_, List.getElem?_eq_getElem (by have := HL.out; omega)⟩
      obtain ⟨b, o, rfl⟩ : ∃ b o, a = some ⟨b, o, none⟩ := by
        rcases HE2.out with h | ⟨b, o, e, _⟩
        · rw [h] at hx; simp at hx
        · exact ⟨b, o, e⟩
      obtain ⟨x0, x1, -⟩ := REAt.at HE2.out hx
      have hd1 : decide ((J : Int) < (n : Int)) = true := by simp; omega
      have hd2 : (J : Int) < (n : Int) := by omega
      by_cases hJL : J < L
      · have HEL := Lib.hid (show decide (kc x.c.a x.c.i k.1 k.2 < 0) = true from by have := HI.out J x hx; rw [decide_eq_true hJL] at this; exact this)
        clear hx
        go_wp2_with fail
        haveI hIq : Nonempty (Of w2) := of_some _
        have hF0 := of_cell c1
        have hF1 := of_cell c2
        have hF2 := of_cell c3
        have hF3 := of_cell x0
        have hF4 := of_cell x1
        first | (refine wp_region_stay w2 (by kernel_rfl) (by kernel_rfl) (by go_grown) ?_) | (refine wp_region_stay_seq w2 (by go_grown) ?_)
        repeat (go_big_quiet_step ((go_at_call 39; with_reducible refine stay_bool (u := true) (refBefore x.c.a x.c.i k.1 k.2 _) HEL.out)))
        refine wpQuiet_nil ?_
        intro w3 hb3
        clear hIq hF0 hF1 hF2 hF3 hF4

        have HB3 := Lib.hid (ext_trans HB2.out hb3)
        clear hb3 c1 c2 c3 x0 x1
        go_wp2
        go_roundw
        case rel => exact ⟨J + 1, by omega, by go_num, HB3.out⟩
        case measure => simp [intOf]; omega
      · obtain rfl : J = L := by omega
        have HEL := Lib.hid (show decide (kc x.c.a x.c.i k.1 k.2 < 0) = false from by have := HI.out J x hx; rw [decide_eq_false hJL] at this; exact this)
        have hin := HIN.out
        rw [hx] at hin
        have HX := Lib.hid hx
        clear hx
        go_wp2_with fail
        haveI hIq : Nonempty (Of w2) := of_some _
        have hF0 := of_cell c1
        have hF1 := of_cell c2
        have hF2 := of_cell c3
        have hF3 := of_cell x0
        have hF4 := of_cell x1
        first | (refine wp_region_stay w2 (by kernel_rfl) (by kernel_rfl) (by go_grown) ?_) | (refine wp_region_stay_seq w2 (by go_grown) ?_)
        repeat (go_big_quiet_step ((go_at_call 39; with_reducible refine stay_bool (u := false) (refBefore x.c.a x.c.i k.1 k.2 _) HEL.out)))
        refine wpQuiet_nil ?_
        intro w3 hb3
        clear hIq hF0 hF1 hF2 hF3 hF4

        have HB3 := Lib.hid (show Below w.heap.size w w3 from ext_trans HB0.out (ext_trans HB2.out hb3))
        clear c1 c2 c3 x0 x1
        have c1 := blk_cell (blk_ext (ext_trans HB2.out hb3) H3.out) 1
        have c2 := blk_cell (blk_ext (ext_trans HB2.out hb3) H2.out) 0
        have c3 := blk_cell (blk_ext (ext_trans HB2.out hb3) H2.out) 1
        simp only [List.getElem?_toArray, List.getElem?_cons_zero, List.getElem?_cons_succ] at c1 c2 c3
        obtain ⟨x0, x1, -⟩ := REAt.at (SAt.ext HE2.out hb3) HX.out
        clear hb3
        obtain ⟨k1, k2⟩ := k
        simp only at *
        by_cases e1 : x.c.a = k1
        · by_cases e2 : x.c.i = k2
          · obtain rfl : R = true := by rw [hin, e1, e2]; simp
            rw [e1] at x0
            rw [e2] at x1
            clear hin e1 e2
            go_wp2_with fail
            haveI hIq : Nonempty (Of w3) := of_some _
            have hF0 := of_cell c1
            have hF1 := of_cell c2
            have hF2 := of_cell c3
            have hF3 := of_cell x0
            have hF4 := of_cell x1
            first | (refine wp_region_stay w3 (by kernel_rfl) (by kernel_rfl) (by go_grown) ?_) | (refine wp_region_stay_seq w3 (by go_grown) ?_)
            repeat (go_big_quiet_step (fail))
            refine wpQuiet_nil ?_
            intro w5 hb5
            clear hIq hF0 hF1 hF2 hF3 hF4
            have HB5 := Lib.hid (ext_trans HB3.out hb5)
            clear hb5
            go_wp2
            exact bodyPost_ret (v := .tuple #[.int .i64 J, .bool true]) (by simp [results, Try.results36, go_sem]) rfl ⟨rfl, HB5.out⟩
          · obtain rfl : R = false := by rw [hin]; simp [e2]
            rw [e1] at x0
            have h4 : ¬ x.c.i.toList = k2.toList := fun e => e2 (str_inj e)
            clear hin e1 e2
            go_wp2_with fail
            haveI hIq : Nonempty (Of w3) := of_some _
            have hF0 := of_cell c1
            have hF1 := of_cell c2
            have hF2 := of_cell c3
            have hF3 := of_cell x0
            have hF4 := of_cell x1
            first | (refine wp_region_stay w3 (by kernel_rfl) (by kernel_rfl) (by go_grown) ?_) | (refine wp_region_stay_seq w3 (by go_grown) ?_)
            repeat (go_big_quiet_step (fail))
            refine wpQuiet_nil ?_
            intro w5 hb5
            clear hIq hF0 hF1 hF2 hF3 hF4
            have HB5 := Lib.hid (ext_trans HB3.out hb5)
            clear hb5
            go_wp2
            exact bodyPost_ret (v := .tuple #[.int .i64 J, .bool false]) (by simp [results, Try.results36, go_sem]) rfl ⟨rfl, HB5.out⟩
        · obtain rfl : R = false := by rw [hin]; simp [e1]
          have h4 : ¬ x.c.a.toList = k1.toList := fun e => e1 (str_inj e)
          clear hin e1
          go_wp2_with fail
          haveI hIq : Nonempty (Of w3) := of_some _
          have hF0 := of_cell c1
          have hF1 := of_cell c2
          have hF2 := of_cell c3
          have hF3 := of_cell x0
          have hF4 := of_cell x1
          first | (refine wp_region_stay w3 (by kernel_rfl) (by kernel_rfl) (by go_grown) ?_) | (refine wp_region_stay_seq w3 (by go_grown) ?_)
          repeat (go_big_quiet_step (fail))
          refine wpQuiet_nil ?_
          intro w5 hb5
          clear hIq hF0 hF1 hF2 hF3 hF4
          have HB5 := Lib.hid (ext_trans HB3.out hb5)
          clear hb5
          go_wp2
          exact bodyPost_ret (v := .tuple #[.int .i64 J, .bool false]) (by simp [results, Try.results36, go_sem]) rfl ⟨rfl, HB5.out⟩
    · obtain rfl : J = L := by omega
      have hin := HIN.out
      obtain rfl : R = false := by rw [hin, List.getElem?_eq_none (by have := HL.out; omega)]
      have hd1 : decide ((J : Int) < (n : Int)) = false := by simp; omega
      clear hin
      go_wp2_with fail
      haveI hIq : Nonempty (Of w2) := of_some _
      have hF0 := of_cell c1
      have hF1 := of_cell c2
      have hF2 := of_cell c3
      first | (refine wp_region_stay w2 (by kernel_rfl) (by kernel_rfl) (by go_grown) ?_) | (refine wp_region_stay_seq w2 (by go_grown) ?_)
      repeat (go_big_quiet_step (fail))
      refine wpQuiet_nil ?_
      intro w3 hb3
      clear hIq hF0 hF1 hF2

      have HB3 := Lib.hid (show Below w.heap.size w w3 from ext_trans HB0.out (ext_trans HB2.out hb3))
      clear c1 c2 c3
      have c1 := blk_cell (blk_ext (ext_trans HB2.out hb3) H3.out) 1
      have c2 := blk_cell (blk_ext (ext_trans HB2.out hb3) H2.out) 0
      have c3 := blk_cell (blk_ext (ext_trans HB2.out hb3) H2.out) 1
      simp only [List.getElem?_toArray, List.getElem?_cons_zero, List.getElem?_cons_succ] at c1 c2 c3
      clear hb3
      go_wp2_with fail
      haveI hIq : Nonempty (Of w3) := of_some _
      have hF0 := of_cell c1
      have hF1 := of_cell c2
      have hF2 := of_cell c3
      first | (refine wp_region_stay w3 (by kernel_rfl) (by kernel_rfl) (by go_grown) ?_) | (refine wp_region_stay_seq w3 (by go_grown) ?_)
      repeat (go_big_quiet_step (fail))
      refine wpQuiet_nil ?_
      intro w5 hb5
      clear hIq hF0 hF1 hF2
      have HB5 := Lib.hid (ext_trans HB3.out hb5)
      clear hb5
      go_wp2
      exact bodyPost_ret (v := .tuple #[.int .i64 J, .bool false]) (by simp [results, Try.results36, go_sem]) rfl ⟨rfl, HB5.out⟩

end Go.Proofs.Ytnmpjagdkbaidaa
