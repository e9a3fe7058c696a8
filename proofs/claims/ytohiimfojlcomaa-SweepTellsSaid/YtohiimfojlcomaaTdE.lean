/- The document's own sweep: which of two is put out first; keys compared. -/
import Derived.Test.YtohiimfojlcomaaTdN
namespace Go.Proofs.Ytohiimfojlcomaa
open Go.RowKit
set_option linter.unusedVariables false
set_option linter.unusedSimpArgs false

def td (now : Int) (e : En) : Td := ⟨e.c.a, e.c.i, late e now⟩
def elt (now : Int) (x y : En) : Bool := tlt (td now x) (td now y)
theorem elt_ne {x y : En} {now : Int} (h : ¬ late x now = late y now) : elt now x y = decide (late y now < late x now) := by
  unfold elt
  cases h1 : tlt (td now x) (td now y)
  · rcases (tlt_no _ _).1 h1 with h2 | ⟨h2, _⟩
    · simp only [td] at h2; exact (decide_eq_false (by omega)).symm
    · exact absurd h2 h
  · rcases (tlt_iff _ _).1 h1 with h2 | ⟨h2, _⟩
    · simp only [td] at h2; exact (decide_eq_true h2).symm
    · exact absurd h2 h
theorem elt_eq {x y : En} {now : Int} (h : late x now = late y now) : elt now x y = decide (kc x.c.a x.c.i y.c.a y.c.i < 0) := by
  unfold elt
  cases h1 : tlt (td now x) (td now y)
  · rcases (tlt_no _ _).1 h1 with h2 | ⟨_, h2⟩
    · simp only [td] at h2; omega
    · simp only [td] at h2; exact (decide_eq_false (by omega)).symm
  · rcases (tlt_iff _ _).1 h1 with h2 | ⟨_, h2⟩
    · simp only [td] at h2; omega
    · simp only [td] at h2; exact (decide_eq_true h2).symm
theorem RE9.cells {w : World} {b o : Nat} {cs : List En} (h : RE9 w (some ⟨b, o, none⟩) cs) (j : Nat) (u : Value) (hj : (flat ec cs)[j]? = some u) : w.cell? ⟨b, o + j, none⟩ = some u := by
  rcases h with h | ⟨b', o', e, hb, h⟩
  · rw [h] at hj; simp [flat] at hj
  · simp at e
    obtain ⟨rfl, rfl⟩ := e
    exact h j u hj

set_option maxRecDepth 100000 in
set_option maxHeartbeats 2000000 in
theorem refEarlier (x y : En) (now : Int) (w : World) :
    Calls Try.prog 31 #[x.v, y.v, .int .i64 now] w fun e w' => e = .returned (.bool (elt now x y)) ∧ Below w.heap.size w w' := by
  have hX := blk_alloc (blk_new w #[.string x.c.a, .string x.c.i, .int .i64 x.c.s, .int .i64 x.c.o, .int .i64 x.c.l, .int .i64 x.c.t, .int .i64 x.c.k, .int .i64 x.c.n, .bool x.c.g, .int .i64 x.seen] 65) (.cells #[.string y.c.a, .string y.c.i, .int .i64 y.c.s, .int .i64 y.c.o, .int .i64 y.c.l, .int .i64 y.c.t, .int .i64 y.c.k, .int .i64 y.c.n, .bool y.c.g, .int .i64 y.seen] 65)
  have hY := blk_new (w.alloc (.cells #[.string x.c.a, .string x.c.i, .int .i64 x.c.s, .int .i64 x.c.o, .int .i64 x.c.l, .int .i64 x.c.t, .int .i64 x.c.k, .int .i64 x.c.n, .bool x.c.g, .int .i64 x.seen] 65)) #[.string y.c.a, .string y.c.i, .int .i64 y.c.s, .int .i64 y.c.o, .int .i64 y.c.l, .int .i64 y.c.t, .int .i64 y.c.k, .int .i64 y.c.n, .bool y.c.g, .int .i64 y.seen] 65
  rw [show (w.alloc (.cells #[.string x.c.a, .string x.c.i, .int .i64 x.c.s, .int .i64 x.c.o, .int .i64 x.c.l, .int .i64 x.c.t, .int .i64 x.c.k, .int .i64 x.c.n, .bool x.c.g, .int .i64 x.seen] 65)).heap.size = w.heap.size + 1 from by simp] at hY
  have HXw4 := Lib.hid hX
  have HYw4 := Lib.hid hY
  have E1 : Below w.heap.size w (w.alloc (.cells #[.string x.c.a, .string x.c.i, .int .i64 x.c.s, .int .i64 x.c.o, .int .i64 x.c.l, .int .i64 x.c.t, .int .i64 x.c.k, .int .i64 x.c.n, .bool x.c.g, .int .i64 x.seen] 65)) := (Below.refl _ _).alloc (Nat.le_refl _) _
  have HBw4 := Lib.hid (show Below w.heap.size w ((w.alloc (.cells #[.string x.c.a, .string x.c.i, .int .i64 x.c.s, .int .i64 x.c.o, .int .i64 x.c.l, .int .i64 x.c.t, .int .i64 x.c.k, .int .i64 x.c.n, .bool x.c.g, .int .i64 x.seen] 65)).alloc (.cells #[.string y.c.a, .string y.c.i, .int .i64 y.c.s, .int .i64 y.c.o, .int .i64 y.c.l, .int .i64 y.c.t, .int .i64 y.c.k, .int .i64 y.c.n, .bool y.c.g, .int .i64 y.seen] 65)) from E1.alloc E1.size _)
  clear hX hY E1
  go_enter Try.func31, Try.ntmps31
  go_upto_region 1 with (fail)
  obtain ⟨r, hr⟩ : ∃ r, w.heap.size = r := ⟨_, rfl⟩
  rw [hr] at HXw4 HYw4 ⊢
  have HRR := Lib.hid hr
  clear hr
  generalize ((w.alloc (.cells #[.string x.c.a, .string x.c.i, .int .i64 x.c.s, .int .i64 x.c.o, .int .i64 x.c.l, .int .i64 x.c.t, .int .i64 x.c.k, .int .i64 x.c.n, .bool x.c.g, .int .i64 x.seen] 65)).alloc (.cells #[.string y.c.a, .string y.c.i, .int .i64 y.c.s, .int .i64 y.c.o, .int .i64 y.c.l, .int .i64 y.c.t, .int .i64 y.c.k, .int .i64 y.c.n, .bool y.c.g, .int .i64 y.seen] 65)) = w4 at *
  by_cases h : late x now = late y now
  · have HE := Lib.hid (elt_eq h)
    have he : (late x now == late y now) = true := by simpa using h
    have HH := Lib.hid h
    clear h
    haveI hIq : Nonempty (Of w4) := of_some _
    have hFx := blk_of HXw4.out
    have hFy := blk_of HYw4.out
    first | (refine wp_region_stay w4 (by kernel_rfl) (by kernel_rfl) (by go_grown) ?_) | (refine wp_region_stay_seq w4 (by go_grown) ?_)
    repeat (go_big_quiet_step ((first | (go_at_call 30; with_reducible refine stay_call (refLate x now _)) | (go_at_call 30; with_reducible refine stay_call (refLate y now _)))))
    refine wpQuiet_nil ?_
    intro w5 hb
    have HXw5 := Lib.hid (blk_ext hb HXw4.out)
    have HYw5 := Lib.hid (blk_ext hb HYw4.out)
    have HBw5 := Lib.hid (ext_trans HBw4.out hb)
    clear hIq hFx hFy hb
    have hkx := blk_cell HXw5.out
    have hky := blk_cell HYw5.out
    go_wp2_with fail
    refine (refBefore x.c.a x.c.i y.c.a y.c.i _).mono ?_
    rintro e w6 ⟨rfl, hb6⟩
    rw [← HE.out]
    have HB6 := Lib.hid (ext_trans HBw5.out hb6)
    clear hb6
    go_wp2
    go_ret
    exact ⟨rfl, HB6.out⟩
  · have HE := Lib.hid (elt_ne h)
    have he : (late x now == late y now) = false := by simpa using h
    haveI hIq : Nonempty (Of w4) := of_some _
    have hFx := blk_of HXw4.out
    have hFy := blk_of HYw4.out
    first | (refine wp_region_stay w4 (by kernel_rfl) (by kernel_rfl) (by go_grown) ?_) | (refine wp_region_stay_seq w4 (by go_grown) ?_)
    repeat (go_big_quiet_step ((first | (go_at_call 30; with_reducible refine stay_call (refLate x now _)) | (go_at_call 30; with_reducible refine stay_call (refLate y now _)))))
    refine wpQuiet_nil ?_
    intro w5 hb
    have HXw5 := Lib.hid (blk_ext hb HXw4.out)
    have HYw5 := Lib.hid (blk_ext hb HYw4.out)
    have HBw5 := Lib.hid (ext_trans HBw4.out hb)
    clear hIq hFx hFy hb
    go_wp2_with fail
    haveI hIq : Nonempty (Of w5) := of_some _
    have hFx := blk_of HXw5.out
    have hFy := blk_of HYw5.out
    first | (refine wp_region_stay w5 (by kernel_rfl) (by kernel_rfl) (by go_grown) ?_) | (refine wp_region_stay_seq w5 (by go_grown) ?_)
    repeat (go_big_quiet_step ((first | (go_at_call 30; with_reducible refine stay_call (refLate x now _)) | (go_at_call 30; with_reducible refine stay_call (refLate y now _)))))
    refine wpQuiet_nil ?_
    intro w6 hb
    have HXw6 := Lib.hid (blk_ext hb HXw5.out)
    have HYw6 := Lib.hid (blk_ext hb HYw5.out)
    have HBw6 := Lib.hid (ext_trans HBw5.out hb)
    clear hIq hFx hFy hb
    go_wp2
    go_ret
    exact ⟨by rw [HE.out]; rfl, HBw6.out⟩

set_option maxRecDepth 100000 in
set_option maxHeartbeats 2000000 in
theorem keys5 (a1 a2 : Option Addr) (n c1 c2 : Nat) (ks : List Ky) (w : World) (h1 : KyAt w a1 ks) (h2 : KyAt w a2 ks) (hl : ks.length = n) (hn : n ≤ 1000) :
    Calls Try.prog 19 #[.slice a1 n c1, .slice a2 n c2] w fun e w' => e = .returned (.bool true) ∧ Below w.heap.size w w' := by
  have H1 := Lib.hid h1
  have H2 := Lib.hid h2
  have HN := Lib.hid hl
  clear h1 h2 hl
  go_enter Try.func19, Try.ntmps19
  go_wp2_with fail
  go_loopw [13] (fun j wr => ∃ J : Nat, J ≤ n ∧ j = .int .i64 (J : Int) ∧ Below w.heap.size w wr) (fun j _ => n - (intOf j).toNat)
  case atStart => exact ⟨0, by omega, rfl, Below.refl _ _⟩
  case round =>
    obtain ⟨w2, rfl⟩ : ∃ y : World, y = wr := ⟨_, rfl⟩
    obtain ⟨J, hJ, rfl, hb2⟩ := hrel
    by_cases hlt : J < n
    · obtain ⟨x, hx⟩ : ∃ x, ks[J]? = some x := ⟨_, List.getElem?_eq_getElem (by have := HN.out; omega)⟩
      obtain ⟨b1, o1, rfl⟩ : ∃ b o, a1 = some ⟨b, o, none⟩ := by
        rcases H1.out with h | ⟨b, o, e, _⟩
        · rw [h] at hx; simp at hx
        · exact ⟨b, o, e⟩
      obtain ⟨b2, o2, rfl⟩ : ∃ b o, a2 = some ⟨b, o, none⟩ := by
        rcases H2.out with h | ⟨b, o, e, _⟩
        · rw [h] at hx; simp at hx
        · exact ⟨b, o, e⟩
      obtain ⟨y0, y1⟩ := KyAt.at (H1.out.ext hb2) hx
      obtain ⟨z0, z1⟩ := KyAt.at (H2.out.ext hb2) hx
      have HB2 := Lib.hid hb2
      clear hb2 hx
      go_wp2_with fail
      haveI hIq : Nonempty (Of w2) := of_some _
      have hF0 := of_cell y0
      have hF1 := of_cell y1
      have hF2 := of_cell z0
      have hF3 := of_cell z1
      first | (refine wp_region_stay w2 (by kernel_rfl) (by kernel_rfl) (by go_grown) ?_) | (refine wp_region_stay_seq w2 (by go_grown) ?_)
      repeat (go_big_quiet_step (fail))
      refine wpQuiet_nil ?_
      intro w6 hb6
      have HB6 := Lib.hid (ext_trans HB2.out hb6)
      clear hIq hF0 hF1 hF2 hF3 hb6
      go_wp2
      go_roundw
      case rel => exact ⟨J + 1, by omega, by go_num, HB6.out⟩
      case measure => simp [intOf]; omega
    · obtain rfl : J = n := by omega
      go_wp2
      go_ret
      exact ⟨rfl, hb2⟩

end Go.Proofs.Ytohiimfojlcomaa
