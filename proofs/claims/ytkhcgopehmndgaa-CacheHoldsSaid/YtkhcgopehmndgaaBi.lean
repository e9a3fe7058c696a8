/- Several texts as one: ShfR, ShfRG, ShfRP, ShfS. -/
import Derived.Test.YtkhcgopehmndgaaBh
import Derived.Test.YtkhcgopehmndgaaSplit
import Derived.OwnWalk
/- The document's own shelf: where an entry is; New, Live. -/
namespace Go.Proofs.Ytkhcgopehmndgaa
open Go.RowKit
set_option linter.unusedVariables false
set_option linter.unusedSimpArgs false

end Go.Proofs.Ytkhcgopehmndgaa

/- The document's own shelf: Get, Live; Cards. -/
namespace Go.Proofs.Ytkhcgopehmndgaa
open Go.RowKit
set_option linter.unusedVariables false
set_option linter.unusedSimpArgs false

end Go.Proofs.Ytkhcgopehmndgaa

/- The document's own shelf: Put of a key that is there; a shelf that is full. -/
namespace Go.Proofs.Ytkhcgopehmndgaa
open Go.RowKit
set_option linter.unusedVariables false
set_option linter.unusedSimpArgs false

theorem wpAny_stay {P : Program} {Q : Exit → Act → World → Prop} {a : Act} {w : World} {l : List Oper} (W : World) (hB : Region.lexB .any l.toArray = true) (hw : Below W.heap.size W w)
    (h : wpQuiet P l.toArray (fun w' => ∃ g : Of W, w' = g.w) (fun a' => ∀ w', Below W.heap.size W w' → Q .normal a' w') l a) : wpAny P .any l.toArray Q l.length (Array.replicate l.length false) a w := by
  simp only [Region.lexB, Bool.and_eq_true] at hB
  refine wpAny_of_quiet (C := fun w' => ∃ g : Of W, w' = g.w) (Q := fun a' => ∀ w', (∃ g : Of W, w' = g.w) → Q .normal a' w') (fun _ w' hw' h => h w' hw') _ _ _ _ ⟨⟨w, hw⟩, rfl⟩ ?_
  have e : (fun a' : Act => ∀ w' : World, (∃ g : Of W, w' = g.w) → Q .normal a' w') = fun a' => ∀ w', Below W.heap.size W w' → Q .normal a' w' := by
    funext a'
    exact propext ⟨fun h w' hb => h w' ⟨⟨w', hb⟩, rfl⟩, fun h w' ⟨g, hg⟩ => h w' (by rw [hg]; exact g.h)⟩
  rw [e]
  have := wpAnyQ_lex (C := fun w' => ∃ g : Of W, w' = g.w) (md := .any) hB.1 l 0 (Array.replicate l.length false) a (by simp) (by simpa using hB.2) h
  simpa using this

end Go.Proofs.Ytkhcgopehmndgaa

/- Package shelf: Cards. -/
namespace Go.Proofs.Ytkhcgopehmndgaa
open Go.RowKit
set_option linter.unusedVariables false
set_option linter.unusedSimpArgs false

set_option maxRecDepth 100000 in
set_option maxHeartbeats 2000000 in
theorem shCards (sb : Nat) (most : Int) (es : List En) (w : World) (h : ShP w sb most es) (hn : es.length ≤ 900) :
    Calls Try.prog 21 #[.pointer (some ⟨sb, 0, none⟩)] w fun r w' => ∃ v, r = .returned v ∧ OwnC w.heap.size w' v (es.map (·.c)) ∧ Below w.heap.size w w' := by
  obtain ⟨a, c, h1, h2, h3, h4, h5⟩ := h
  obtain ⟨i0, hi, hz0, hz1, hz2⟩ := info_parts' info_card
  have H1 := Lib.hid h1
  have H2 := Lib.hid h2
  have c1 := blk_cell h1 1
  simp only [List.getElem?_toArray, List.getElem?_cons_zero, List.getElem?_cons_succ] at c1
  obtain ⟨n, hl⟩ : ∃ n, es.length = n := ⟨_, rfl⟩
  have HL := Lib.hid hl
  rw [hl] at c1 h3 hn H1
  have R0 := Below.refl w.heap.size w
  clear h1 h2 hl h5
  unfold maxLen at h4
  go_enter Try.func21, Try.ntmps21
  go_wp2_with (at_make; refine wpList_make_own _ rfl _ _ 33 rfl w.heap.size 49 i0 Cd.zero.v 9 Try.underlying33 hi hz0 hz1 _ _ _ n rfl rfl rfl (by rw [hz2]; omega) (by unfold maxLen; omega) (Nat.le_refl _) ?_)
  intro w1 ho1 hg1
  have hb1 := R0.grown hg1 (Nat.le_refl _) (fun q hq => by cases hq)
  have HO1 := Lib.hid (show OwnC w.heap.size w1 (.slice (some ⟨w.heap.size, 0, none⟩) 0 n) [] from ho1)
  have HB1 := Lib.hid hb1
  clear c1
  have c1 := blk_cell (show BoxS w1 sb most a n c from blk_ext hb1 H1.out) 1
  simp only [List.getElem?_toArray, List.getElem?_cons_zero, List.getElem?_cons_succ] at c1
  clear ho1 hg1 hb1 R0
  go_wp2_with fail
  go_loopw [3, 17] (fun v j wr => ∃ J : Nat, J ≤ n ∧ j = .int .i64 (J : Int) ∧ OwnC w.heap.size wr v ((es.take J).map (·.c)) ∧ Below w.heap.size w wr) (fun v j _ => n - (intOf j).toNat)
  case atStart => exact ⟨0, by omega, rfl, HO1.out, HB1.out⟩
  case round =>
    obtain ⟨w2, rfl⟩ : ∃ y : World, y = wr := ⟨_, rfl⟩
    obtain ⟨J, hJ, rfl, ho2, hb2⟩ := hrel
    have hlen : ((es.take J).map (·.c)).length = J := by rw [List.length_map, List.length_take, HL.out]; omega
    obtain ⟨S, hS⟩ : ∃ S, (es.take J).map (·.c) = S := ⟨_, rfl⟩
    rw [hS] at ho2 hlen
    have HS := Lib.hid hS
    obtain ⟨ga, gc, rfl, hgn, hgm, hgf⟩ := OwnR.form ho2
    rw [hlen] at hgn ho2 ⊢
    have HLEN := Lib.hid hlen
    have HO2 := Lib.hid ho2
    have HB2 := Lib.hid hb2
    clear hS hlen ho2
    by_cases hlt : J < n
    · obtain ⟨x, hx⟩ : ∃ x, es[J]? = some x := ⟨_, List.getElem?_eq_getElem (by have := HL.out; omega)⟩
      obtain ⟨b, o, rfl⟩ : ∃ b o, a = some ⟨b, o, none⟩ := by
        rcases H2.out with h | ⟨b, o, e, _⟩
        · rw [h] at hx; simp at hx
        · exact ⟨b, o, e⟩
      obtain ⟨y0, y1, y2, y3, y4, y5, y6, y7, y8, y9⟩ := EAt.at (H2.out.ext hb2) hx
      have HST := Lib.hid (show (es.take (J + 1)).map (·.c) = S ++ [x.c] from by rw [List.take_add_one, hx, List.map_append, HS.out]; rfl)
      have D3 : Below w2.heap.size w2 (w2.alloc (.cells #[.string x.c.a, .string x.c.i, .int .i64 x.c.s, .int .i64 x.c.o, .int .i64 x.c.l, .int .i64 x.c.t, .int .i64 x.c.k, .int .i64 x.c.n, .bool x.c.g, .int .i64 x.seen] 54)) := (Below.refl _ _).alloc (Nat.le_refl _) _
      have HX3 := Lib.hid (blk_new w2 #[.string x.c.a, .string x.c.i, .int .i64 x.c.s, .int .i64 x.c.o, .int .i64 x.c.l, .int .i64 x.c.t, .int .i64 x.c.k, .int .i64 x.c.n, .bool x.c.g, .int .i64 x.seen] 54)
      have HO3 := Lib.hid (HO2.out.ext D3)
      have HB3 := Lib.hid (HB2.out.trans (D3.mono HB2.out.size))
      clear hx hb2 D3 HO2 HB2
      go_upto_region 5 with (fail)
      generalize (w2.alloc (.cells #[.string x.c.a, .string x.c.i, .int .i64 x.c.s, .int .i64 x.c.o, .int .i64 x.c.l, .int .i64 x.c.t, .int .i64 x.c.k, .int .i64 x.c.n, .bool x.c.g, .int .i64 x.seen] 54)) = w3 at *
      have hk3 := blk_cell HX3.out
      have hl3 := blk_lt HX3.out
      have E4 : Below w3.heap.size w3 (w3.alloc (.cells #[.string x.c.a, .string x.c.i, .int .i64 x.c.s, .int .i64 x.c.o, .int .i64 x.c.l, .int .i64 x.c.t, .int .i64 x.c.k, .int .i64 x.c.n, .bool x.c.g] 49)) := (Below.refl _ _).alloc (Nat.le_refl _) _
      have HO4 := Lib.hid (show (w3.alloc (.cells #[.string x.c.a, .string x.c.i, .int .i64 x.c.s, .int .i64 x.c.o, .int .i64 x.c.l, .int .i64 x.c.t, .int .i64 x.c.k, .int .i64 x.c.n, .bool x.c.g] 49)).ownsRow w.heap.size 49 9 (.slice ga J gc) J (flat cc S) from by
        have := OwnR.ext HO3.out E4
        unfold OwnR at this
        rwa [HLEN.out] at this)
      have HV4 := Lib.hid (blk_new w3 #[.string x.c.a, .string x.c.i, .int .i64 x.c.s, .int .i64 x.c.o, .int .i64 x.c.l, .int .i64 x.c.t, .int .i64 x.c.k, .int .i64 x.c.n, .bool x.c.g] 49)
      have HB4 := Lib.hid (HB3.out.trans (E4.mono HB3.out.size))
      clear E4 HO3
      go_wp2_with (at_builtin; refine wpList_append_own _ rfl _ _ 33 rfl (w.heap.size) 49 i0 Cd.zero.v 9 88 Try.underlying33 hi hz0 hz1 hz2 rfl (by decide) (.slice ga J gc) J (flat cc S) rfl HO4.out ⟨w3.heap.size, 0, none⟩ 1 1 (cc x.c) rfl rfl ?c1 ?c2 ?c3 ?c4 ?c5 ?_)
      case c1 => intro j u hj; rw [add_off, Nat.zero_add, blk_cell HV4.out]; simpa [cc] using hj
      case c2 => exact cc_one x.c
      case c3 => unfold maxLen; omega
      case c4 => omega
      case c5 => exact HB4.out.size
      intro v5 w5 ho5 hg5 _
      have HB5 := Lib.hid (show Below w.heap.size w w5 from HB4.out.grown hg5 HB4.out.size (fun q hq => own_ge HO4.out hq))
      have HO5 := Lib.hid (show OwnC w.heap.size w5 v5 (S ++ [x.c]) from by unfold OwnC OwnR; rw [flat_snoc, List.length_append, HLEN.out]; exact ho5)
      obtain ⟨a5, c5, rfl, -, -, -⟩ := OwnR.form HO5.out
      clear ho5 hg5 HO4 HV4 HB4 hk3 hl3
      go_wp2
      go_roundw
      case rel => exact ⟨J + 1, by omega, by go_num, by rw [HST.out]; exact HO5.out, HB5.out⟩
      case measure => simp [intOf]; omega
    · have hJn : J = n := by omega
      have hlt2 : decide ((J : Int) < (n : Int)) = false := by simp; omega
      have HF := Lib.hid (show OwnC w.heap.size w2 (.slice ga J gc) (es.map (·.c)) from by
        have e : es.map (·.c) = S := by rw [← HS.out, hJn, List.take_of_length_le (by have := HL.out; omega)]
        rw [e]
        exact HO2.out)
      clear hb2 hJn
      go_wp2
      go_ret
      exact ⟨_, rfl, HF.out, HB2.out⟩

end Go.Proofs.Ytkhcgopehmndgaa
