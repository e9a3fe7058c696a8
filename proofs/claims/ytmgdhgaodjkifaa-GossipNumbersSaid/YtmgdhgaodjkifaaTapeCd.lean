/- A tape gives rows of cards; rows of cards are compared. -/
import Derived.Test.YtmgdhgaodjkifaaCardSl
import Derived.Test.YtmgdhgaodjkifaaTapeCard
import Derived.Test.YtmgdhgaodjkifaaRim
namespace Go.Proofs.Ytmgdhgaodjkifaa
open Go.RowKit
set_option linter.unusedVariables false

theorem Bar.grown {b : Nat} {u w w' : World} {row : Option Nat} (h : Bar b u w) (hg : w.grownBy w' row) (hr : ∀ q, row = some q → u.heap.size ≤ q) : Bar b u w' :=
  ⟨hg.os.trans h.os, hg.tape.trans h.tape, hg.output.trans h.output, Nat.le_trans h.size hg.size, fun k hk hl => (hg.block k (Nat.lt_of_lt_of_le hl h.size) (fun e => by have := hr k e.symm; omega)).trans (h.block k hk hl)⟩
theorem TapeK.ne {a : Option Addr} {len cap : Nat} {w : World} {b : Nat} (h : TapeK a len cap w b) {k : Nat} {cur : Array Value} {T : TypeId} (hT : T ≠ 25) (hc : w.heap[k]? = some (.cells cur T (0, 0))) : k ≠ b := by
  intro e
  subst e
  obtain ⟨q, h1, -⟩ := h
  rw [hc] at h1
  simp only [Option.some.injEq, Obj.cells.injEq] at h1
  exact hT h1.2.1
theorem TapeK.own {a : Option Addr} {len cap : Nat} {w w' : World} {b base size m : Nat} {T : TypeId} {v : Value} {xs : List Value} (h : TapeK a len cap w b) (hr : Bar b w w') (hT : T ≠ 25) (ho : w.ownsRow base T size v m xs) : w'.ownsRow base T size v m xs :=
  own_blocks ho (fun k cur hc => hr.block k (h.ne hT hc) (blk_lt hc))

set_option maxRecDepth 100000 in
set_option maxHeartbeats 2000000 in
theorem tapeCards (a0 : Option Addr) (len cap : Nat) (zs : List Int) (b most : Nat) (w : World) (hT : TapeK a0 len cap w b) (hRow : RowOk a0 len cap zs w b) (hm : most ≤ 1000) :
    Calls Try.prog 8 #[.pointer (some ⟨b, 0, none⟩), .int .i64 (most : Int)] w fun e w' => ∃ v cs, e = .returned v ∧ OwnC w.heap.size w' v cs ∧ cs.length ≤ most ∧ (∀ c ∈ cs, CdOk c) ∧ TapeK a0 len cap w' b ∧ Bar b w w' := by
  obtain ⟨i0, hi, hz0, hz1, hz2⟩ := info_parts' info_card
  have HT := Lib.hid hT
  have HR := Lib.hid hRow
  clear hT hRow
  go_enter Try.func8, Try.ntmps8
  go_wp2_with fail
  refine (tapeNextK _ _ _ zs _ ((most : Int) + 1) _ HT.out HR.out (by omega) (by omega)).mono ?_
  rintro e w1 ⟨q, rfl, hq0, hq1, hT1, hb1⟩
  obtain ⟨N0, rfl⟩ : ∃ N0 : Nat, q = (N0 : Int) := ⟨q.toNat, by omega⟩
  have HT1 := Lib.hid hT1
  have HB1 := Lib.hid hb1
  have hN0 : N0 ≤ most := by omega
  clear hT1 hb1 hq0 hq1
  go_wp2_with fail
  go_loopw [5, 6] (fun o n wr => ∃ (N : Nat) (cs : List Cd), n = .int .i64 (N : Int) ∧ OwnC w.heap.size wr o cs ∧ cs.length + N ≤ most ∧ (∀ c ∈ cs, CdOk c) ∧ TapeK a0 len cap wr b ∧ Bar b w wr) (fun o n _ => (intOf n).toNat)
  case atStart => exact ⟨N0, [], rfl, OwnR.nil _ _, by simpa using hN0, by simp, HT1.out, HB1.out⟩
  case round =>
    obtain ⟨w2, rfl⟩ : ∃ y : World, y = wr := ⟨_, rfl⟩
    obtain ⟨N, cs, rfl, ho, hl, hok, hT2, hb2⟩ := hrel
    obtain ⟨a, c, rfl, hnc, hcm, -, -, -⟩ := ho.read
    have HO2 := Lib.hid ho
    have HOK := Lib.hid hok
    have HT2 := Lib.hid hT2
    have HB2 := Lib.hid hb2
    obtain ⟨n, hn⟩ : ∃ n, cs.length = n := ⟨_, rfl⟩
    have HN := Lib.hid hn
    rw [hn] at hl hnc ⊢
    unfold maxLen at hcm
    clear ho hok hT2 hb2 hn
    by_cases hlt : N = 0
    · subst hlt
      go_wp2
      go_ret
      exact ⟨_, cs, rfl, by have := HO2.out; rw [HN.out] at this; exact this, by rw [HN.out]; omega, HOK.out, HT2.out, HB2.out⟩
    · have hN : 0 < N := by omega
      have hdN : decide (0 < (N : Int)) = true := by simp; omega
      go_wp2_with fail
      refine (tapeCardK _ _ _ zs _ _ HT2.out (HR.out.bar HB2.out)).mono ?_
      rintro e w3 ⟨x, rfl, hx, hT3, hb3⟩
      have HX := Lib.hid hx
      have HO3 := Lib.hid (show OwnC w.heap.size w3 (.slice a n c) cs from by have := HT2.out.own hb3 (by decide) HO2.out; unfold OwnC OwnR; rw [HN.out] at this ⊢; exact this)
      have HT3 := Lib.hid hT3
      have HB3 := Lib.hid (HB2.out.trans hb3)
      have Z3 := HB3.out.size
      clear hx hT3 hb3 HO2 HT2
      go_wp2_with (at_builtin; refine wpList_append_own _ rfl _ _ 27 rfl (w.heap.size) 36 i0 Cd.zero.v 9 88 Try.underlying27 hi hz0 hz1 hz2 rfl (by decide) _ n (flat cc cs) rfl (by have := HO3.out.alloc (.cells #[.string x.a, .string x.i, .int .i64 x.s, .int .i64 x.o, .int .i64 x.l, .int .i64 x.t, .int .i64 x.k, .int .i64 x.n, .bool x.g] 36); rw [HN.out] at this; exact this) ⟨w3.heap.size, 0, none⟩ 1 1 (cc x) rfl rfl ?c1 ?c2 ?c3 ?c4 ?c5 ?_)
      case c1 =>
        intro j u hj
        rw [add_off, Nat.zero_add, blk_cell (blk_new w3 #[.string x.a, .string x.i, .int .i64 x.s, .int .i64 x.o, .int .i64 x.l, .int .i64 x.t, .int .i64 x.k, .int .i64 x.n, .bool x.g] 36)]
        simpa [cc] using hj
      case c2 => exact cc_one x
      case c3 => unfold maxLen; omega
      case c4 => omega
      case c5 => simp; omega
      intro v4 w4 ho4 hg4 _
      have B4 := Lib.hid ((HB3.out.trans (Bar.of ((Below.refl _ _).alloc (Nat.le_refl _) (.cells #[.string x.a, .string x.i, .int .i64 x.s, .int .i64 x.o, .int .i64 x.l, .int .i64 x.t, .int .i64 x.k, .int .i64 x.n, .bool x.g] 36)))).grown hg4 (fun q hq => own_ge HO3.out hq))
      have T4 := Lib.hid (show TapeK a0 len cap w4 b from by
        obtain ⟨q, e1, e2⟩ := HT3.out
        exact ⟨q, (hg4.block b (by have := HT3.out.lt; simp; omega) (own_ne (HO3.out.alloc (.cells #[.string x.a, .string x.i, .int .i64 x.s, .int .i64 x.o, .int .i64 x.l, .int .i64 x.t, .int .i64 x.k, .int .i64 x.n, .bool x.g] 36)) (blk_alloc e1 _) (by decide))).trans (blk_alloc e1 _), e2⟩)
      have HO4 := Lib.hid (show OwnC w.heap.size w4 v4 (cs ++ [x]) by unfold OwnC OwnR; rw [flat_snoc, List.length_append, HN.out]; exact ho4)
      have HOK4 := Lib.hid (show ∀ c ∈ cs ++ [x], CdOk c from fun c hc => by
        rcases List.mem_append.1 hc with hc | hc
        · exact HOK.out c hc
        · simp at hc; subst hc; exact HX.out)
      obtain ⟨M, rfl⟩ : ∃ M, N = M + 1 := ⟨N - 1, by omega⟩
      clear ho4 hg4 HO3 HT3 HB3 hdN
      go_wp2
      go_roundw
      case rel => exact ⟨M, cs ++ [x], by go_num, HO4.out, by rw [List.length_append, HN.out]; simp only [List.length_cons, List.length_nil]; omega, HOK4.out, T4.out, B4.out⟩
      case measure => first | (simp [intOf]; done) | (simp [intOf]; omega)

set_option maxRecDepth 100000 in
set_option maxHeartbeats 2000000 in
theorem same5 (a1 a2 : Option Addr) (n c1 c2 : Nat) (cs : List Cd) (w : World) (h1 : CAt w a1 cs) (h2 : CAt w a2 cs) (hl : cs.length = n) (hc1 : n ≤ c1) (hc2 : n ≤ c2) (hm1 : c1 ≤ maxLen) (hm2 : c2 ≤ maxLen) :
    Calls Try.prog 14 #[.slice a1 n c1, .slice a2 n c2] w fun e w' => e = .returned (.bool true) ∧ Below w.heap.size w w' := by
  have HA1 := Lib.hid h1
  have HA2 := Lib.hid h2
  have HN := Lib.hid hl
  unfold maxLen at hm1 hm2
  clear h1 h2 hl
  go_enter Try.func14, Try.ntmps14
  go_wp2_with fail
  go_loopw [13] (fun j wr => ∃ J : Nat, J ≤ n ∧ j = .int .i64 (J : Int) ∧ Below w.heap.size w wr) (fun j _ => n - (intOf j).toNat)
  case atStart => exact ⟨0, by omega, rfl, Below.refl _ _⟩
  case round =>
    obtain ⟨w2, rfl⟩ : ∃ y : World, y = wr := ⟨_, rfl⟩
    obtain ⟨J, hJ, rfl, hb2⟩ := hrel
    by_cases hlt : J < n
    · obtain ⟨x, hx⟩ : ∃ x, cs[J]? = some x := ⟨_, List.getElem?_eq_getElem (by have := HN.out; omega)⟩
      obtain ⟨b1, o1, rfl⟩ : ∃ b o, a1 = some ⟨b, o, none⟩ := by
        rcases HA1.out with h | ⟨b, o, e, _⟩
        · rw [h] at hx; simp at hx
        · exact ⟨b, o, e⟩
      obtain ⟨b2, o2, rfl⟩ : ∃ b o, a2 = some ⟨b, o, none⟩ := by
        rcases HA2.out with h | ⟨b, o, e, _⟩
        · rw [h] at hx; simp at hx
        · exact ⟨b, o, e⟩
      obtain ⟨y0, y1, y2, y3, y4, y5, y6, y7, y8⟩ := (HA1.out.ext hb2).at hx
      obtain ⟨z0, z1, z2, z3, z4, z5, z6, z7, z8⟩ := (HA2.out.ext hb2).at hx
      have HB2 := Lib.hid hb2
      clear hx hb2
      go_wp2_with fail
      haveI hIq : Nonempty (Of w2) := of_some _
      have hFq0 := of_cell (W := w2) (b := b1) (o := o1 + J * 9) (v := .string x.a) (by first | (with_reducible assumption) | (with_reducible (refine ext_cell ((Below.refl _ _).alloc (Nat.le_refl _) _) ?_; assumption)) | (go_cell; done) | (go_keep; done))
      have hFq1 := of_cell (W := w2) (b := b1) (o := o1 + J * 9 + 1) (v := .string x.i) (by first | (with_reducible assumption) | (with_reducible (refine ext_cell ((Below.refl _ _).alloc (Nat.le_refl _) _) ?_; assumption)) | (go_cell; done) | (go_keep; done))
      have hFq2 := of_cell (W := w2) (b := b1) (o := o1 + J * 9 + 2) (v := .int .i64 x.s) (by first | (with_reducible assumption) | (with_reducible (refine ext_cell ((Below.refl _ _).alloc (Nat.le_refl _) _) ?_; assumption)) | (go_cell; done) | (go_keep; done))
      have hFq3 := of_cell (W := w2) (b := b1) (o := o1 + J * 9 + 3) (v := .int .i64 x.o) (by first | (with_reducible assumption) | (with_reducible (refine ext_cell ((Below.refl _ _).alloc (Nat.le_refl _) _) ?_; assumption)) | (go_cell; done) | (go_keep; done))
      have hFq4 := of_cell (W := w2) (b := b1) (o := o1 + J * 9 + 4) (v := .int .i64 x.l) (by first | (with_reducible assumption) | (with_reducible (refine ext_cell ((Below.refl _ _).alloc (Nat.le_refl _) _) ?_; assumption)) | (go_cell; done) | (go_keep; done))
      have hFq5 := of_cell (W := w2) (b := b1) (o := o1 + J * 9 + 5) (v := .int .i64 x.t) (by first | (with_reducible assumption) | (with_reducible (refine ext_cell ((Below.refl _ _).alloc (Nat.le_refl _) _) ?_; assumption)) | (go_cell; done) | (go_keep; done))
      have hFq6 := of_cell (W := w2) (b := b1) (o := o1 + J * 9 + 6) (v := .int .i64 x.k) (by first | (with_reducible assumption) | (with_reducible (refine ext_cell ((Below.refl _ _).alloc (Nat.le_refl _) _) ?_; assumption)) | (go_cell; done) | (go_keep; done))
      have hFq7 := of_cell (W := w2) (b := b1) (o := o1 + J * 9 + 7) (v := .int .i64 x.n) (by first | (with_reducible assumption) | (with_reducible (refine ext_cell ((Below.refl _ _).alloc (Nat.le_refl _) _) ?_; assumption)) | (go_cell; done) | (go_keep; done))
      have hFq8 := of_cell (W := w2) (b := b1) (o := o1 + J * 9 + 8) (v := .bool x.g) (by first | (with_reducible assumption) | (with_reducible (refine ext_cell ((Below.refl _ _).alloc (Nat.le_refl _) _) ?_; assumption)) | (go_cell; done) | (go_keep; done))
      have hFq9 := of_cell (W := w2) (b := b2) (o := o2 + J * 9) (v := .string x.a) (by first | (with_reducible assumption) | (with_reducible (refine ext_cell ((Below.refl _ _).alloc (Nat.le_refl _) _) ?_; assumption)) | (go_cell; done) | (go_keep; done))
      have hFq10 := of_cell (W := w2) (b := b2) (o := o2 + J * 9 + 1) (v := .string x.i) (by first | (with_reducible assumption) | (with_reducible (refine ext_cell ((Below.refl _ _).alloc (Nat.le_refl _) _) ?_; assumption)) | (go_cell; done) | (go_keep; done))
      have hFq11 := of_cell (W := w2) (b := b2) (o := o2 + J * 9 + 2) (v := .int .i64 x.s) (by first | (with_reducible assumption) | (with_reducible (refine ext_cell ((Below.refl _ _).alloc (Nat.le_refl _) _) ?_; assumption)) | (go_cell; done) | (go_keep; done))
      have hFq12 := of_cell (W := w2) (b := b2) (o := o2 + J * 9 + 3) (v := .int .i64 x.o) (by first | (with_reducible assumption) | (with_reducible (refine ext_cell ((Below.refl _ _).alloc (Nat.le_refl _) _) ?_; assumption)) | (go_cell; done) | (go_keep; done))
      have hFq13 := of_cell (W := w2) (b := b2) (o := o2 + J * 9 + 4) (v := .int .i64 x.l) (by first | (with_reducible assumption) | (with_reducible (refine ext_cell ((Below.refl _ _).alloc (Nat.le_refl _) _) ?_; assumption)) | (go_cell; done) | (go_keep; done))
      have hFq14 := of_cell (W := w2) (b := b2) (o := o2 + J * 9 + 5) (v := .int .i64 x.t) (by first | (with_reducible assumption) | (with_reducible (refine ext_cell ((Below.refl _ _).alloc (Nat.le_refl _) _) ?_; assumption)) | (go_cell; done) | (go_keep; done))
      have hFq15 := of_cell (W := w2) (b := b2) (o := o2 + J * 9 + 6) (v := .int .i64 x.k) (by first | (with_reducible assumption) | (with_reducible (refine ext_cell ((Below.refl _ _).alloc (Nat.le_refl _) _) ?_; assumption)) | (go_cell; done) | (go_keep; done))
      have hFq16 := of_cell (W := w2) (b := b2) (o := o2 + J * 9 + 7) (v := .int .i64 x.n) (by first | (with_reducible assumption) | (with_reducible (refine ext_cell ((Below.refl _ _).alloc (Nat.le_refl _) _) ?_; assumption)) | (go_cell; done) | (go_keep; done))
      have hFq17 := of_cell (W := w2) (b := b2) (o := o2 + J * 9 + 8) (v := .bool x.g) (by first | (with_reducible assumption) | (with_reducible (refine ext_cell ((Below.refl _ _).alloc (Nat.le_refl _) _) ?_; assumption)) | (go_cell; done) | (go_keep; done))
      first | (refine wp_region_stay w2 (by kernel_rfl) (by kernel_rfl) (by go_grown) ?_) | (refine wp_region_stay_seq w2 (by go_grown) ?_)
      repeat (go_big_quiet_step (fail))
      refine wpQuiet_nil ?_
      intro wq hq
      clear hIq hFq0 hFq1 hFq2 hFq3 hFq4 hFq5 hFq6 hFq7 hFq8 hFq9 hFq10 hFq11 hFq12 hFq13 hFq14 hFq15 hFq16 hFq17

      have HBq := Lib.hid (ext_trans HB2.out hq)
      clear hq
      go_wp2
      go_roundw
      case rel => exact ⟨J + 1, by omega, by go_num, HBq.out⟩
      case measure => simp [intOf]; omega
    · go_wp2
      go_ret
      exact ⟨rfl, hb2⟩

end Go.Proofs.Ytmgdhgaodjkifaa
