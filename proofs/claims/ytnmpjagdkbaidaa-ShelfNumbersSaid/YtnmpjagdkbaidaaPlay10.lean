/- 'play' of layer 10: a shelf beside the document's own, ask by ask. -/
import Derived.Test.YtnmpjagdkbaidaaAsk
import Derived.Test.YtnmpjagdkbaidaaChain
namespace Go.Proofs.Ytnmpjagdkbaidaa
open Go.RowKit
set_option linter.unusedVariables false
set_option linter.unusedSimpArgs false

/-- two shelves apart, the asks beside them -/
def PL (w0 : World) (sb rb : Nat) (M : Int) (a : Option Addr) (ls : List Ak) (e1 e2 : List En) (w : World) : Prop := ShP w sb M e1 ∧ RShP w rb M e2 ∧ AkR w w0.heap.size a ls ∧ Below w0.heap.size w0 w ∧ w0.heap.size ≤ sb ∧ w0.heap.size ≤ rb ∧ sb ≠ rb
section
variable {w0 w w' : World} {sb rb : Nat} {M : Int} {a : Option Addr} {ls : List Ak} {e1 e2 e3 : List En}
theorem PL.ext (h : PL w0 sb rb M a ls e1 e2 w) (hb : Below w.heap.size w w') : PL w0 sb rb M a ls e1 e2 w' :=
  ⟨h.1.ext hb, h.2.1.ext hb, h.2.2.1.ext (hb.mono h.2.2.2.1.size), h.2.2.2.1.trans (hb.mono h.2.2.2.1.size), h.2.2.2.2⟩
theorem PL.s (h : PL w0 sb rb M a ls e1 e2 w) (hs : ShP w' sb M e3) (hr : Rim sb w w') : PL w0 sb rb M a ls e3 e2 w' := by
  obtain ⟨h1, h2, h3, h4, h5, h6, h7⟩ := h
  obtain ⟨cur, hc⟩ := h1.cur
  refine ⟨hs, h2.rim hr (fun e => h7 e.symm) (by decide) hc, h3.keep fun b hb => hr.block b (by omega) (Nat.lt_of_lt_of_le hb h4.size), h4.trans (hr.below h5 h4.size), h5, h6, h7⟩
theorem PL.r (h : PL w0 sb rb M a ls e1 e2 w) (hs : RShP w' rb M e3) (hr : Rim rb w w') : PL w0 sb rb M a ls e1 e3 w' := by
  obtain ⟨h1, h2, h3, h4, h5, h6, h7⟩ := h
  have h1' : ShP w' sb M e1 := by
    obtain ⟨a2, c2, k1, k2, k3⟩ := h1
    obtain ⟨a3, c3, j1, j2, j3⟩ := h2
    refine ⟨a2, c2, (hr.block sb h7 (blk_lt k1)).trans k1, k2.keep fun b cur' hc _ => hr.block b (fun e => ?_) (blk_lt hc), k3⟩
    subst e
    unfold BoxR at j1
    rw [j1] at hc
    simp at hc
  exact ⟨h1', hs, h3.keep fun b hb => hr.block b (by omega) (Nat.lt_of_lt_of_le hb h4.size), h4.trans (hr.below h6 h4.size), h5, h6, h7⟩
end

set_option maxRecDepth 100000 in
set_option maxHeartbeats 8000000 in
theorem law10play (m : Int) (M : Nat) (a : Option Addr) (n c : Nat) (ls : List Ak) (w : World) (hM : (M : Int) = min (max m 0) 32) (h : AkR w w.heap.size a ls) (hl : ls.length = n) (hnc : n ≤ c) (hcm : c ≤ maxLen) :
    Calls Try.prog 7 #[.int .i64 m, .slice a n c] w fun r w' => r = .returned (.bool true) ∧ Below w.heap.size w w' := by
  have HK := Lib.hid h
  have HL := Lib.hid hl
  unfold maxLen at hcm
  clear h hl
  go_enter Try.func7, Try.ntmps7
  go_wp2_with fail
  refine (shNewI m M _ hM).mono ?_
  rintro r w0 ⟨rfl, hs0, hb0⟩
  obtain ⟨sb, hsb⟩ : ∃ sb, w.heap.size = sb := ⟨_, rfl⟩
  have HS0 := Lib.hid hs0
  have HB0 := Lib.hid hb0
  clear hs0 hb0
  go_wp2_with fail
  refine (rshNewI m M _ hM).mono ?_
  rintro r w1 ⟨rfl, hr1, hb1⟩
  have HP1 := Lib.hid (show PL w sb w0.heap.size M a ls [] [] w1 from ⟨by rw [← hsb]; exact HS0.out.ext hb1, hr1, (HK.out.ext HB0.out).ext (hb1.mono HB0.out.size), HB0.out.trans (hb1.mono HB0.out.size), by omega, HB0.out.size, by have := HS0.out.lt; omega⟩)
  obtain ⟨rb, hrb⟩ : ∃ rb, w0.heap.size = rb := ⟨_, rfl⟩
  rw [hrb] at HP1 ⊢

  have hM32 : M ≤ 32 := by omega
  clear hr1 hb1 HS0 HB0 HK hM hsb hrb
  go_wp2_with fail
  go_loopw [7] (fun i wr => ∃ (J : Nat) (es : List En), J ≤ n ∧ J ≤ 80 ∧ i = .int .i64 (J : Int) ∧ PL w sb rb M a ls es es wr ∧ Asc es ∧ (es.length : Int) ≤ M) (fun i _ => 80 - (intOf i).toNat)
  case atStart => exact ⟨0, [], by omega, by omega, rfl, HP1.out, List.Pairwise.nil, by simp⟩
  case round =>
    obtain ⟨w2, rfl⟩ : ∃ y : World, y = wr := ⟨_, rfl⟩
    obtain ⟨J, es, hJ, hJ8, rfl, hp2, has, hle⟩ := hrel
    have HP2 := Lib.hid hp2
    have HAS := Lib.hid has
    have HLE := Lib.hid hle
    have HLT2 := Lib.hid (show sb < w2.heap.size ∧ rb < w2.heap.size from ⟨hp2.1.lt, hp2.2.1.lt⟩)
    clear hp2 has hle HP1
    by_cases hlt : J < n ∧ J < 80
    · obtain ⟨hlt, h80⟩ := hlt
      have hd1 : decide ((J : Int) < (n : Int)) = true := by simp; omega
      have hd2 : decide ((J : Int) < 80) = true := by simp; omega
      obtain ⟨x, hx⟩ : ∃ x, ls[J]? = some x := ⟨_, List.getElem?_eq_getElem (by have := HL.out; omega)⟩
      obtain ⟨b, o, rfl⟩ : ∃ b o, a = some ⟨b, o, none⟩ := by
        rcases HP2.out.2.2.1 with h | ⟨b, o, e, _⟩
        · rw [h] at hx; simp at hx
        · exact ⟨b, o, e⟩
      obtain ⟨x0, x1, x2, x3, x4, x5, x6, x7, x8, x9, x10⟩ := AkR.at HP2.out.2.2.1 hx
      obtain ⟨kd, ⟨ca, ci, cs, co, cl, ct, ck, cn, cg⟩, sn⟩ := x
      simp only at x0 x1 x2 x3 x4 x5 x6 x7 x8 x9 x10
      have hJn : (J : Int) < (n : Int) := by omega
      by_cases hk2 : kd = 2
      · subst hk2
        have D3 : Below w2.heap.size w2 (w2.alloc (.cells #[.int .i64 2, .string ca, .string ci, .int .i64 cs, .int .i64 co, .int .i64 cl, .int .i64 ct, .int .i64 ck, .int .i64 cn, .bool cg, .int .i64 sn] 33)) := (Below.refl _ _).alloc (Nat.le_refl _) _
        have HX3 := Lib.hid (blk_new w2 #[.int .i64 2, .string ca, .string ci, .int .i64 cs, .int .i64 co, .int .i64 cl, .int .i64 ct, .int .i64 ck, .int .i64 cn, .bool cg, .int .i64 sn] 33)
        have HP3 := Lib.hid (HP2.out.ext D3)
        clear D3 hx HP2
        go_upto_region 12 with (fail)
        obtain ⟨p, hp⟩ : ∃ p, w2.heap.size = p := ⟨_, rfl⟩
        rw [hp] at HX3 ⊢
        have HX4 := HX3
        have HP4 := HP3
        clear HX3 HP3 x0 x1 x2 x3 x4 x5 x6 x7 x8 x9 x10
        have HNE := Lib.hid (show w.heap.size ≤ sb ∧ w.heap.size ≤ rb ∧ p ≠ sb ∧ p ≠ rb from ⟨HP4.out.2.2.2.2.1, HP4.out.2.2.2.2.2.1, by rw [← hp]; exact fun e => by have := HLT2.out.1; omega, by rw [← hp]; exact fun e => by have := HLT2.out.2; omega⟩)
        clear hp
        generalize (w2.alloc (.cells #[.int .i64 2, .string ca, .string ci, .int .i64 cs, .int .i64 co, .int .i64 cl, .int .i64 ct, .int .i64 ck, .int .i64 cn, .bool cg, .int .i64 sn] 33)) = w4 at *
        cases hin : isIn (ca, ci) es
        · go_wp2_with fail
          haveI hIc : Nonempty (In (fun W : World => W.heap[p]? = some (.cells #[.int .i64 2, .string ca, .string ci, .int .i64 cs, .int .i64 co, .int .i64 cl, .int .i64 ct, .int .i64 ck, .int .i64 cn, .bool cg, .int .i64 sn] 33 (0, 0)))) := ⟨⟨_, HX4.out⟩⟩
          have hFx : ∀ g : In (fun W : World => W.heap[p]? = some (.cells #[.int .i64 2, .string ca, .string ci, .int .i64 cs, .int .i64 co, .int .i64 cl, .int .i64 ct, .int .i64 ck, .int .i64 cn, .bool cg, .int .i64 sn] 33 (0, 0))), ∀ n, g.w.cell? ⟨p, n, none⟩ = (#[.int .i64 2, .string ca, .string ci, .int .i64 cs, .int .i64 co, .int .i64 cl, .int .i64 ct, .int .i64 ck, .int .i64 cn, .bool cg, .int .i64 sn] : Array Value)[n]? := fun g n => blk_cell g.h n
          have hFl : ∀ g : In (fun W : World => W.heap[p]? = some (.cells #[.int .i64 2, .string ca, .string ci, .int .i64 cs, .int .i64 co, .int .i64 cl, .int .i64 ct, .int .i64 ck, .int .i64 cn, .bool cg, .int .i64 sn] 33 (0, 0))), p < g.w.heap.size := fun g => blk_lt g.h
          refine wp_region_chain (fun w' => ∃ g : In (fun W : World => W.heap[p]? = some (.cells #[.int .i64 2, .string ca, .string ci, .int .i64 cs, .int .i64 co, .int .i64 cl, .int .i64 ct, .int .i64 ck, .int .i64 cn, .bool cg, .int .i64 sn] 33 (0, 0))), w' = g.w) (by kernel_rfl) (by kernel_rfl) (by kernel_rfl) ?_
          refine wpG_letter (fun W => PL w sb rb M (some ⟨b, o, none⟩) ls es es W ∧ W.heap[p]? = some (.cells #[.int .i64 2, .string ca, .string ci, .int .i64 cs, .int .i64 co, .int .i64 cl, .int .i64 ct, .int .i64 ck, .int .i64 cn, .bool cg, .int .i64 sn] 33 (0, 0))) ⟨HP4.out.ext ((Below.refl _ _).drew), blk_drew HX4.out⟩ ?_
          rintro x0 ⟨hq0, hx0⟩
          repeat (refine wpG_plain (by rfl) (by rfl) (fun K hK => ?_); go_big_quiet_op; refine hK _ ?_; clear hK K)
          refine wpG_call (by rfl) (by rfl) ⟨⟨_, hx0⟩, rfl⟩ (fun K hK => ?_)
          go_big_op
          refine (shDropNo sb M es (ca, ci) _ hq0.1 HAS.out (by have := HLE.out; omega) hin).mono ?_
          rintro e x1 ⟨rfl, hbl⟩
          have hq1 := hq0.ext hbl
          have hx1 := blk_ext hbl hx0
          clear hq0 hx0 hbl
          refine hK _ _ ?_
          clear hK K
          repeat (refine wpG_plain (by rfl) (by rfl) (fun K hK => ?_); go_big_quiet_op; refine hK _ ?_; clear hK K)
          refine wpG_call (by rfl) (by rfl) ⟨⟨_, hx1⟩, rfl⟩ (fun K hK => ?_)
          go_big_op
          refine (rshDropNo rb M es (ca, ci) _ hq1.2.1 HAS.out (by have := HLE.out; omega) hin).mono ?_
          rintro e x2 ⟨rfl, hbl⟩
          have hq2 := hq1.ext hbl
          have hx2 := blk_ext hbl hx1
          clear hq1 hx1 hbl
          refine hK _ _ ?_
          clear hK K
          repeat (refine wpG_plain (by rfl) (by rfl) (fun K hK => ?_); go_big_quiet_op; refine hK _ ?_; clear hK K)
          refine wpG_nil ⟨⟨_, hx2⟩, rfl⟩ ?_
          have HP := Lib.hid hq2
          clear hq2 hx2 HP4 HX4 hin
          go_wp2_with fail
          refine (law10same sb rb M M es _ HP.out.1 HP.out.2.1 (by have := HLE.out; omega)).mono ?_
          rintro r wz ⟨rfl, hbz⟩
          have HPZ := Lib.hid (HP.out.ext hbz)
          clear hbz HP
          go_wp2
          go_roundw
          case rel => exact ⟨J + 1, es, by omega, by omega, by go_num, HPZ.out, HAS.out, HLE.out⟩
          case measure => simp [intOf]; omega
        · go_wp2_with fail
          haveI hIc : Nonempty (In (fun W : World => W.heap[p]? = some (.cells #[.int .i64 2, .string ca, .string ci, .int .i64 cs, .int .i64 co, .int .i64 cl, .int .i64 ct, .int .i64 ck, .int .i64 cn, .bool cg, .int .i64 sn] 33 (0, 0)))) := ⟨⟨_, HX4.out⟩⟩
          have hFx : ∀ g : In (fun W : World => W.heap[p]? = some (.cells #[.int .i64 2, .string ca, .string ci, .int .i64 cs, .int .i64 co, .int .i64 cl, .int .i64 ct, .int .i64 ck, .int .i64 cn, .bool cg, .int .i64 sn] 33 (0, 0))), ∀ n, g.w.cell? ⟨p, n, none⟩ = (#[.int .i64 2, .string ca, .string ci, .int .i64 cs, .int .i64 co, .int .i64 cl, .int .i64 ct, .int .i64 ck, .int .i64 cn, .bool cg, .int .i64 sn] : Array Value)[n]? := fun g n => blk_cell g.h n
          have hFl : ∀ g : In (fun W : World => W.heap[p]? = some (.cells #[.int .i64 2, .string ca, .string ci, .int .i64 cs, .int .i64 co, .int .i64 cl, .int .i64 ct, .int .i64 ck, .int .i64 cn, .bool cg, .int .i64 sn] 33 (0, 0))), p < g.w.heap.size := fun g => blk_lt g.h
          refine wp_region_chain (fun w' => ∃ g : In (fun W : World => W.heap[p]? = some (.cells #[.int .i64 2, .string ca, .string ci, .int .i64 cs, .int .i64 co, .int .i64 cl, .int .i64 ct, .int .i64 ck, .int .i64 cn, .bool cg, .int .i64 sn] 33 (0, 0))), w' = g.w) (by kernel_rfl) (by kernel_rfl) (by kernel_rfl) ?_
          refine wpG_letter (fun W => PL w sb rb M (some ⟨b, o, none⟩) ls es es W ∧ W.heap[p]? = some (.cells #[.int .i64 2, .string ca, .string ci, .int .i64 cs, .int .i64 co, .int .i64 cl, .int .i64 ct, .int .i64 ck, .int .i64 cn, .bool cg, .int .i64 sn] 33 (0, 0))) ⟨HP4.out.ext ((Below.refl _ _).drew), blk_drew HX4.out⟩ ?_
          rintro x0 ⟨hq0, hx0⟩
          repeat (refine wpG_plain (by rfl) (by rfl) (fun K hK => ?_); go_big_quiet_op; refine hK _ ?_; clear hK K)
          refine wpG_call (by rfl) (by rfl) ⟨⟨_, hx0⟩, rfl⟩ (fun K hK => ?_)
          go_big_op
          refine (shDropYes sb M es (ca, ci) _ hq0.1 HAS.out (by have := HLE.out; omega) hin).mono ?_
          rintro e x1 ⟨rfl, hsx, hrx⟩
          have hq1 := hq0.s hsx hrx
          have hx1 := (hrx.block p (by have := HNE.out; omega) (blk_lt hx0)).trans hx0
          clear hq0 hx0 hsx hrx
          refine hK _ _ ?_
          clear hK K
          repeat (refine wpG_plain (by rfl) (by rfl) (fun K hK => ?_); go_big_quiet_op; refine hK _ ?_; clear hK K)
          refine wpG_call (by rfl) (by rfl) ⟨⟨_, hx1⟩, rfl⟩ (fun K hK => ?_)
          go_big_op
          refine (rshDropYes rb M es (ca, ci) _ hq1.2.1 HAS.out (by have := HLE.out; omega) hin).mono ?_
          rintro e x2 ⟨rfl, hsx, hrx⟩
          have hq2 := hq1.r hsx hrx
          have hx2 := (hrx.block p (by have := HNE.out; omega) (blk_lt hx1)).trans hx1
          clear hq1 hx1 hsx hrx
          refine hK _ _ ?_
          clear hK K
          repeat (refine wpG_plain (by rfl) (by rfl) (fun K hK => ?_); go_big_quiet_op; refine hK _ ?_; clear hK K)
          refine wpG_nil ⟨⟨_, hx2⟩, rfl⟩ ?_
          have HP := Lib.hid hq2
          obtain ⟨ES, hES⟩ : ∃ ES, delAt es (low (ca, ci) es) = ES := ⟨_, rfl⟩
          have HAS2 := Lib.hid (show Asc ES from by rw [← hES]; exact asc_del HAS.out _)
          have HLE2 := Lib.hid (show (ES.length : Int) ≤ M from by
            obtain ⟨y, hy, -⟩ := isIn_at hin
            rw [← hES, delAt_len _ _ (List.getElem?_eq_some_iff.1 hy).1]
            have := HLE.out
            omega)
          rw [hES] at HP
          clear hES hq2 hx2 HAS HLE hin HP4 HX4
          have HAS := HAS2
          have HLE := HLE2
          clear HAS2 HLE2
          go_wp2_with fail
          refine (law10same sb rb M M ES _ HP.out.1 HP.out.2.1 (by have := HLE.out; omega)).mono ?_
          rintro r wz ⟨rfl, hbz⟩
          have HPZ := Lib.hid (HP.out.ext hbz)
          clear hbz HP
          go_wp2
          go_roundw
          case rel => exact ⟨J + 1, ES, by omega, by omega, by go_num, HPZ.out, HAS.out, HLE.out⟩
          case measure => simp [intOf]; omega
      · by_cases hk3 : kd = 3
        · subst hk3
          have D3 : Below w2.heap.size w2 (w2.alloc (.cells #[.int .i64 3, .string ca, .string ci, .int .i64 cs, .int .i64 co, .int .i64 cl, .int .i64 ct, .int .i64 ck, .int .i64 cn, .bool cg, .int .i64 sn] 33)) := (Below.refl _ _).alloc (Nat.le_refl _) _
          have HX3 := Lib.hid (blk_new w2 #[.int .i64 3, .string ca, .string ci, .int .i64 cs, .int .i64 co, .int .i64 cl, .int .i64 ct, .int .i64 ck, .int .i64 cn, .bool cg, .int .i64 sn] 33)
          have HP3 := Lib.hid (HP2.out.ext D3)
          clear D3 hx HP2
          go_upto_region 15 with (fail)
          obtain ⟨p, hp⟩ : ∃ p, w2.heap.size = p := ⟨_, rfl⟩
          rw [hp] at HX3 ⊢
          have HX4 := HX3
          have HP4 := HP3
          clear HX3 HP3 x0 x1 x2 x3 x4 x5 x6 x7 x8 x9 x10
          have HNE := Lib.hid (show w.heap.size ≤ sb ∧ w.heap.size ≤ rb ∧ p ≠ sb ∧ p ≠ rb from ⟨HP4.out.2.2.2.2.1, HP4.out.2.2.2.2.2.1, by rw [← hp]; exact fun e => by have := HLT2.out.1; omega, by rw [← hp]; exact fun e => by have := HLT2.out.2; omega⟩)
          clear hp
          generalize (w2.alloc (.cells #[.int .i64 3, .string ca, .string ci, .int .i64 cs, .int .i64 co, .int .i64 cl, .int .i64 ct, .int .i64 ck, .int .i64 cn, .bool cg, .int .i64 sn] 33)) = w4 at *
          cases hin : isIn (ca, ci) es
          · skip
            have hk4 := blk_cell HX4.out
            have hl4 := blk_lt HX4.out
            go_wp2_with fail
            refine (shGetNo sb M es (ca, ci) _ HP4.out.1 HAS.out (by have := HLE.out; omega) hin).mono ?_
            rintro r w5 ⟨rfl, hb5⟩
            have HP5 := Lib.hid (HP4.out.ext hb5)
            have HX5 := Lib.hid (blk_ext hb5 HX4.out)
            have D5 := Lib.hid (show Below w5.heap.size w5 (w5.alloc (.cells #[.string ⟨#[]⟩, .string ⟨#[]⟩, .int .i64 0, .int .i64 0, .int .i64 0, .int .i64 0, .int .i64 0, .int .i64 0, .bool false, .int .i64 0] 48)) from (Below.refl _ _).alloc (Nat.le_refl _) _)
            clear hb5 hk4 hl4 HX4 HP4
            have hk5 := blk_cell HX5.out
            have hl5 := blk_lt HX5.out
            go_wp2_with fail
            refine (rshGetNo rb M es (ca, ci) _ (HP5.out.ext D5.out).2.1 HAS.out (by have := HLE.out; omega) hin).mono ?_
            rintro r w6 ⟨rfl, hb6⟩
            have HP6 := Lib.hid ((HP5.out.ext D5.out).ext hb6)
            have HE6 := Lib.hid (blk_ext hb6 (blk_new w5 #[.string ⟨#[]⟩, .string ⟨#[]⟩, .int .i64 0, .int .i64 0, .int .i64 0, .int .i64 0, .int .i64 0, .int .i64 0, .bool false, .int .i64 0] 48))
            have hk6 := blk_cell HE6.out
            have hl6 := blk_lt HE6.out
            clear hb6 hk5 hl5 HX5 HP5 D5 hin
            have HP := Lib.hid (HP6.out.ext (show Below w6.heap.size w6 (w6.alloc (.cells #[.string ⟨#[]⟩, .string ⟨#[]⟩, .int .i64 0, .int .i64 0, .int .i64 0, .int .i64 0, .int .i64 0, .int .i64 0, .bool false, .int .i64 0] 63)) from (Below.refl _ _).alloc (Nat.le_refl _) _))
            clear HP6
            go_wp2_with fail
            refine (law10same sb rb M M es _ HP.out.1 HP.out.2.1 (by have := HLE.out; omega)).mono ?_
            rintro r wz ⟨rfl, hbz⟩
            have HPZ := Lib.hid (HP.out.ext hbz)
            clear hbz HP
            go_wp2
            go_roundw
            case rel => exact ⟨J + 1, es, by omega, by omega, by go_num, HPZ.out, HAS.out, HLE.out⟩
            case measure => simp [intOf]; omega
          · obtain ⟨y, hy, -, -⟩ := isIn_at hin
            have hk4 := blk_cell HX4.out
            have hl4 := blk_lt HX4.out
            go_wp2_with fail
            refine (shGetYes sb M es (ca, ci) _ HP4.out.1 y HAS.out (by have := HLE.out; omega) hy hin).mono ?_
            rintro r w5 ⟨rfl, hb5⟩
            have HP5 := Lib.hid (HP4.out.ext hb5)
            have HX5 := Lib.hid (blk_ext hb5 HX4.out)
            have D5 := Lib.hid (show Below w5.heap.size w5 (w5.alloc (.cells #[.string y.c.a, .string y.c.i, .int .i64 y.c.s, .int .i64 y.c.o, .int .i64 y.c.l, .int .i64 y.c.t, .int .i64 y.c.k, .int .i64 y.c.n, .bool y.c.g, .int .i64 y.seen] 48)) from (Below.refl _ _).alloc (Nat.le_refl _) _)
            clear hb5 hk4 hl4 HX4 HP4
            have hk5 := blk_cell HX5.out
            have hl5 := blk_lt HX5.out
            go_wp2_with fail
            refine (rshGetYes rb M es (ca, ci) _ (HP5.out.ext D5.out).2.1 y HAS.out (by have := HLE.out; omega) hy hin).mono ?_
            rintro r w6 ⟨rfl, hb6⟩
            have HP6 := Lib.hid ((HP5.out.ext D5.out).ext hb6)
            have HE6 := Lib.hid (blk_ext hb6 (blk_new w5 #[.string y.c.a, .string y.c.i, .int .i64 y.c.s, .int .i64 y.c.o, .int .i64 y.c.l, .int .i64 y.c.t, .int .i64 y.c.k, .int .i64 y.c.n, .bool y.c.g, .int .i64 y.seen] 48))
            have hk6 := blk_cell HE6.out
            have hl6 := blk_lt HE6.out
            clear hb6 hk5 hl5 HX5 HP5 D5 hin
            have HP := Lib.hid (HP6.out.ext (show Below w6.heap.size w6 (w6.alloc (.cells #[.string y.c.a, .string y.c.i, .int .i64 y.c.s, .int .i64 y.c.o, .int .i64 y.c.l, .int .i64 y.c.t, .int .i64 y.c.k, .int .i64 y.c.n, .bool y.c.g, .int .i64 y.seen] 63)) from (Below.refl _ _).alloc (Nat.le_refl _) _))
            clear HP6
            go_wp2_with fail
            refine (law10same sb rb M M es _ HP.out.1 HP.out.2.1 (by have := HLE.out; omega)).mono ?_
            rintro r wz ⟨rfl, hbz⟩
            have HPZ := Lib.hid (HP.out.ext hbz)
            clear hbz HP
            go_wp2
            go_roundw
            case rel => exact ⟨J + 1, es, by omega, by omega, by go_num, HPZ.out, HAS.out, HLE.out⟩
            case measure => simp [intOf]; omega
        · have hq2 : (kd == 2) = false := by simp [hk2]
          have hq3 : (kd == 3) = false := by simp [hk3]
          have D3 : Below w2.heap.size w2 (w2.alloc (.cells #[.int .i64 kd, .string ca, .string ci, .int .i64 cs, .int .i64 co, .int .i64 cl, .int .i64 ct, .int .i64 ck, .int .i64 cn, .bool cg, .int .i64 sn] 33)) := (Below.refl _ _).alloc (Nat.le_refl _) _
          have HX3 := Lib.hid (blk_new w2 #[.int .i64 kd, .string ca, .string ci, .int .i64 cs, .int .i64 co, .int .i64 cl, .int .i64 ct, .int .i64 ck, .int .i64 cn, .bool cg, .int .i64 sn] 33)
          have HP3 := Lib.hid (HP2.out.ext D3)
          clear D3 hx HP2
          go_upto_region 9 with (fail)
          obtain ⟨p, hp⟩ : ∃ p, w2.heap.size = p := ⟨_, rfl⟩
          rw [hp] at HX3 ⊢
          have HX4 := HX3
          have HP4 := HP3
          clear HX3 HP3 x0 x1 x2 x3 x4 x5 x6 x7 x8 x9 x10
          have HNE := Lib.hid (show w.heap.size ≤ sb ∧ w.heap.size ≤ rb ∧ p ≠ sb ∧ p ≠ rb from ⟨HP4.out.2.2.2.2.1, HP4.out.2.2.2.2.2.1, by rw [← hp]; exact fun e => by have := HLT2.out.1; omega, by rw [← hp]; exact fun e => by have := HLT2.out.2; omega⟩)
          clear hp
          generalize (w2.alloc (.cells #[.int .i64 kd, .string ca, .string ci, .int .i64 cs, .int .i64 co, .int .i64 cl, .int .i64 ct, .int .i64 ck, .int .i64 cn, .bool cg, .int .i64 sn] 33)) = w4 at *
          cases hin : isIn (enK (⟨⟨ca, ci, cs, co, cl, ct, ck, cn, cg⟩, sn⟩ : En)) es
          · by_cases hm : M ≤ es.length
            · have hm := (by exact_mod_cast hm : (M : Int) ≤ es.length)
              go_wp2_with fail
              haveI hIc : Nonempty (In (fun W : World => W.heap[p]? = some (.cells #[.int .i64 kd, .string ca, .string ci, .int .i64 cs, .int .i64 co, .int .i64 cl, .int .i64 ct, .int .i64 ck, .int .i64 cn, .bool cg, .int .i64 sn] 33 (0, 0)))) := ⟨⟨_, HX4.out⟩⟩
              have hFx : ∀ g : In (fun W : World => W.heap[p]? = some (.cells #[.int .i64 kd, .string ca, .string ci, .int .i64 cs, .int .i64 co, .int .i64 cl, .int .i64 ct, .int .i64 ck, .int .i64 cn, .bool cg, .int .i64 sn] 33 (0, 0))), ∀ n, g.w.cell? ⟨p, n, none⟩ = (#[.int .i64 kd, .string ca, .string ci, .int .i64 cs, .int .i64 co, .int .i64 cl, .int .i64 ct, .int .i64 ck, .int .i64 cn, .bool cg, .int .i64 sn] : Array Value)[n]? := fun g n => blk_cell g.h n
              have hFl : ∀ g : In (fun W : World => W.heap[p]? = some (.cells #[.int .i64 kd, .string ca, .string ci, .int .i64 cs, .int .i64 co, .int .i64 cl, .int .i64 ct, .int .i64 ck, .int .i64 cn, .bool cg, .int .i64 sn] 33 (0, 0))), p < g.w.heap.size := fun g => blk_lt g.h
              refine wp_region_chain (fun w' => ∃ g : In (fun W : World => W.heap[p]? = some (.cells #[.int .i64 kd, .string ca, .string ci, .int .i64 cs, .int .i64 co, .int .i64 cl, .int .i64 ct, .int .i64 ck, .int .i64 cn, .bool cg, .int .i64 sn] 33 (0, 0))), w' = g.w) (by kernel_rfl) (by kernel_rfl) (by kernel_rfl) ?_
              refine wpG_letter (fun W => PL w sb rb M (some ⟨b, o, none⟩) ls es es W ∧ W.heap[p]? = some (.cells #[.int .i64 kd, .string ca, .string ci, .int .i64 cs, .int .i64 co, .int .i64 cl, .int .i64 ct, .int .i64 ck, .int .i64 cn, .bool cg, .int .i64 sn] 33 (0, 0))) ⟨HP4.out.ext ((Below.refl _ _).drew), blk_drew HX4.out⟩ ?_
              rintro x0 ⟨hq0, hx0⟩
              repeat (refine wpG_plain (by rfl) (by rfl) (fun K hK => ?_); go_big_quiet_op; refine hK _ ?_; clear hK K)
              refine wpG_call (by rfl) (by rfl) ⟨⟨_, hx0⟩, rfl⟩ (fun K hK => ?_)
              go_big_op
              refine (shPutNo sb M es (⟨⟨ca, ci, cs, co, cl, ct, ck, cn, cg⟩, sn⟩ : En) _ hq0.1 HAS.out (by have := HLE.out; omega) hin hm).mono ?_
              rintro e x1 ⟨rfl, hbl⟩
              have hq1 := hq0.ext hbl
              have hx1 := blk_ext hbl hx0
              clear hq0 hx0 hbl
              refine hK _ _ ?_
              clear hK K
              repeat (refine wpG_plain (by rfl) (by rfl) (fun K hK => ?_); go_big_quiet_op; refine hK _ ?_; clear hK K)
              refine wpG_call (by rfl) (by rfl) ⟨⟨_, hx1⟩, rfl⟩ (fun K hK => ?_)
              go_big_op
              refine (rshPutNo rb M es (⟨⟨ca, ci, cs, co, cl, ct, ck, cn, cg⟩, sn⟩ : En) _ hq1.2.1 HAS.out (by have := HLE.out; omega) hin hm).mono ?_
              rintro e x2 ⟨rfl, hbl⟩
              have hq2 := hq1.ext hbl
              have hx2 := blk_ext hbl hx1
              clear hq1 hx1 hbl
              refine hK _ _ ?_
              clear hK K
              repeat (refine wpG_plain (by rfl) (by rfl) (fun K hK => ?_); go_big_quiet_op; refine hK _ ?_; clear hK K)
              refine wpG_nil ⟨⟨_, hx2⟩, rfl⟩ ?_
              have HP := Lib.hid hq2
              clear hq2 hx2 HP4 HX4 hin hm
              go_wp2_with fail
              refine (law10same sb rb M M es _ HP.out.1 HP.out.2.1 (by have := HLE.out; omega)).mono ?_
              rintro r wz ⟨rfl, hbz⟩
              have HPZ := Lib.hid (HP.out.ext hbz)
              clear hbz HP
              go_wp2
              go_roundw
              case rel => exact ⟨J + 1, es, by omega, by omega, by go_num, HPZ.out, HAS.out, HLE.out⟩
              case measure => simp [intOf]; omega
            · have hm := (by omega : (es.length : Int) < M)
              go_wp2_with fail
              haveI hIc : Nonempty (In (fun W : World => W.heap[p]? = some (.cells #[.int .i64 kd, .string ca, .string ci, .int .i64 cs, .int .i64 co, .int .i64 cl, .int .i64 ct, .int .i64 ck, .int .i64 cn, .bool cg, .int .i64 sn] 33 (0, 0)))) := ⟨⟨_, HX4.out⟩⟩
              have hFx : ∀ g : In (fun W : World => W.heap[p]? = some (.cells #[.int .i64 kd, .string ca, .string ci, .int .i64 cs, .int .i64 co, .int .i64 cl, .int .i64 ct, .int .i64 ck, .int .i64 cn, .bool cg, .int .i64 sn] 33 (0, 0))), ∀ n, g.w.cell? ⟨p, n, none⟩ = (#[.int .i64 kd, .string ca, .string ci, .int .i64 cs, .int .i64 co, .int .i64 cl, .int .i64 ct, .int .i64 ck, .int .i64 cn, .bool cg, .int .i64 sn] : Array Value)[n]? := fun g n => blk_cell g.h n
              have hFl : ∀ g : In (fun W : World => W.heap[p]? = some (.cells #[.int .i64 kd, .string ca, .string ci, .int .i64 cs, .int .i64 co, .int .i64 cl, .int .i64 ct, .int .i64 ck, .int .i64 cn, .bool cg, .int .i64 sn] 33 (0, 0))), p < g.w.heap.size := fun g => blk_lt g.h
              refine wp_region_chain (fun w' => ∃ g : In (fun W : World => W.heap[p]? = some (.cells #[.int .i64 kd, .string ca, .string ci, .int .i64 cs, .int .i64 co, .int .i64 cl, .int .i64 ct, .int .i64 ck, .int .i64 cn, .bool cg, .int .i64 sn] 33 (0, 0))), w' = g.w) (by kernel_rfl) (by kernel_rfl) (by kernel_rfl) ?_
              refine wpG_letter (fun W => PL w sb rb M (some ⟨b, o, none⟩) ls es es W ∧ W.heap[p]? = some (.cells #[.int .i64 kd, .string ca, .string ci, .int .i64 cs, .int .i64 co, .int .i64 cl, .int .i64 ct, .int .i64 ck, .int .i64 cn, .bool cg, .int .i64 sn] 33 (0, 0))) ⟨HP4.out.ext ((Below.refl _ _).drew), blk_drew HX4.out⟩ ?_
              rintro x0 ⟨hq0, hx0⟩
              repeat (refine wpG_plain (by rfl) (by rfl) (fun K hK => ?_); go_big_quiet_op; refine hK _ ?_; clear hK K)
              refine wpG_call (by rfl) (by rfl) ⟨⟨_, hx0⟩, rfl⟩ (fun K hK => ?_)
              go_big_op
              refine (shPutNew sb M es (⟨⟨ca, ci, cs, co, cl, ct, ck, cn, cg⟩, sn⟩ : En) _ hq0.1 HAS.out (by have := HLE.out; omega) hin hm).mono ?_
              rintro e x1 ⟨rfl, hsx, hrx⟩
              have hq1 := hq0.s hsx hrx
              have hx1 := (hrx.block p (by have := HNE.out; omega) (blk_lt hx0)).trans hx0
              clear hq0 hx0 hsx hrx
              refine hK _ _ ?_
              clear hK K
              repeat (refine wpG_plain (by rfl) (by rfl) (fun K hK => ?_); go_big_quiet_op; refine hK _ ?_; clear hK K)
              refine wpG_call (by rfl) (by rfl) ⟨⟨_, hx1⟩, rfl⟩ (fun K hK => ?_)
              go_big_op
              refine (rshPutNew rb M es (⟨⟨ca, ci, cs, co, cl, ct, ck, cn, cg⟩, sn⟩ : En) _ hq1.2.1 HAS.out (by have := HLE.out; omega) hin hm).mono ?_
              rintro e x2 ⟨rfl, hsx, hrx⟩
              have hq2 := hq1.r hsx hrx
              have hx2 := (hrx.block p (by have := HNE.out; omega) (blk_lt hx1)).trans hx1
              clear hq1 hx1 hsx hrx
              refine hK _ _ ?_
              clear hK K
              repeat (refine wpG_plain (by rfl) (by rfl) (fun K hK => ?_); go_big_quiet_op; refine hK _ ?_; clear hK K)
              refine wpG_nil ⟨⟨_, hx2⟩, rfl⟩ ?_
              have HP := Lib.hid hq2
              obtain ⟨ES, hES⟩ : ∃ ES, insAt es (low (enK (⟨⟨ca, ci, cs, co, cl, ct, ck, cn, cg⟩, sn⟩ : En)) es) (⟨⟨ca, ci, cs, co, cl, ct, ck, cn, cg⟩, sn⟩ : En) = ES := ⟨_, rfl⟩
              have HAS2 := Lib.hid (show Asc ES from by rw [← hES]; exact asc_ins HAS.out hin)
              have HLE2 := Lib.hid (show (ES.length : Int) ≤ M from by rw [← hES, insAt_len]; omega)
              rw [hES] at HP
              clear hES hq2 hx2 HAS HLE hin HP4 HX4 hm
              have HAS := HAS2
              have HLE := HLE2
              clear HAS2 HLE2
              go_wp2_with fail
              refine (law10same sb rb M M ES _ HP.out.1 HP.out.2.1 (by have := HLE.out; omega)).mono ?_
              rintro r wz ⟨rfl, hbz⟩
              have HPZ := Lib.hid (HP.out.ext hbz)
              clear hbz HP
              go_wp2
              go_roundw
              case rel => exact ⟨J + 1, ES, by omega, by omega, by go_num, HPZ.out, HAS.out, HLE.out⟩
              case measure => simp [intOf]; omega
          · go_wp2_with fail
            haveI hIc : Nonempty (In (fun W : World => W.heap[p]? = some (.cells #[.int .i64 kd, .string ca, .string ci, .int .i64 cs, .int .i64 co, .int .i64 cl, .int .i64 ct, .int .i64 ck, .int .i64 cn, .bool cg, .int .i64 sn] 33 (0, 0)))) := ⟨⟨_, HX4.out⟩⟩
            have hFx : ∀ g : In (fun W : World => W.heap[p]? = some (.cells #[.int .i64 kd, .string ca, .string ci, .int .i64 cs, .int .i64 co, .int .i64 cl, .int .i64 ct, .int .i64 ck, .int .i64 cn, .bool cg, .int .i64 sn] 33 (0, 0))), ∀ n, g.w.cell? ⟨p, n, none⟩ = (#[.int .i64 kd, .string ca, .string ci, .int .i64 cs, .int .i64 co, .int .i64 cl, .int .i64 ct, .int .i64 ck, .int .i64 cn, .bool cg, .int .i64 sn] : Array Value)[n]? := fun g n => blk_cell g.h n
            have hFl : ∀ g : In (fun W : World => W.heap[p]? = some (.cells #[.int .i64 kd, .string ca, .string ci, .int .i64 cs, .int .i64 co, .int .i64 cl, .int .i64 ct, .int .i64 ck, .int .i64 cn, .bool cg, .int .i64 sn] 33 (0, 0))), p < g.w.heap.size := fun g => blk_lt g.h
            refine wp_region_chain (fun w' => ∃ g : In (fun W : World => W.heap[p]? = some (.cells #[.int .i64 kd, .string ca, .string ci, .int .i64 cs, .int .i64 co, .int .i64 cl, .int .i64 ct, .int .i64 ck, .int .i64 cn, .bool cg, .int .i64 sn] 33 (0, 0))), w' = g.w) (by kernel_rfl) (by kernel_rfl) (by kernel_rfl) ?_
            refine wpG_letter (fun W => PL w sb rb M (some ⟨b, o, none⟩) ls es es W ∧ W.heap[p]? = some (.cells #[.int .i64 kd, .string ca, .string ci, .int .i64 cs, .int .i64 co, .int .i64 cl, .int .i64 ct, .int .i64 ck, .int .i64 cn, .bool cg, .int .i64 sn] 33 (0, 0))) ⟨HP4.out.ext ((Below.refl _ _).drew), blk_drew HX4.out⟩ ?_
            rintro x0 ⟨hq0, hx0⟩
            repeat (refine wpG_plain (by rfl) (by rfl) (fun K hK => ?_); go_big_quiet_op; refine hK _ ?_; clear hK K)
            refine wpG_call (by rfl) (by rfl) ⟨⟨_, hx0⟩, rfl⟩ (fun K hK => ?_)
            go_big_op
            refine (shPutIn sb M es (⟨⟨ca, ci, cs, co, cl, ct, ck, cn, cg⟩, sn⟩ : En) _ hq0.1 HAS.out (by have := HLE.out; omega) hin).mono ?_
            rintro e x1 ⟨rfl, hsx, hrx⟩
            have hq1 := hq0.s hsx hrx
            have hx1 := (hrx.block p (by have := HNE.out; omega) (blk_lt hx0)).trans hx0
            clear hq0 hx0 hsx hrx
            refine hK _ _ ?_
            clear hK K
            repeat (refine wpG_plain (by rfl) (by rfl) (fun K hK => ?_); go_big_quiet_op; refine hK _ ?_; clear hK K)
            refine wpG_call (by rfl) (by rfl) ⟨⟨_, hx1⟩, rfl⟩ (fun K hK => ?_)
            go_big_op
            refine (rshPutIn rb M es (⟨⟨ca, ci, cs, co, cl, ct, ck, cn, cg⟩, sn⟩ : En) _ hq1.2.1 HAS.out (by have := HLE.out; omega) hin).mono ?_
            rintro e x2 ⟨rfl, hsx, hrx⟩
            have hq2 := hq1.r hsx hrx
            have hx2 := (hrx.block p (by have := HNE.out; omega) (blk_lt hx1)).trans hx1
            clear hq1 hx1 hsx hrx
            refine hK _ _ ?_
            clear hK K
            repeat (refine wpG_plain (by rfl) (by rfl) (fun K hK => ?_); go_big_quiet_op; refine hK _ ?_; clear hK K)
            refine wpG_nil ⟨⟨_, hx2⟩, rfl⟩ ?_
            have HP := Lib.hid hq2
            obtain ⟨ES, hES⟩ : ∃ ES, es.set (low (enK (⟨⟨ca, ci, cs, co, cl, ct, ck, cn, cg⟩, sn⟩ : En)) es) (⟨⟨ca, ci, cs, co, cl, ct, ck, cn, cg⟩, sn⟩ : En) = ES := ⟨_, rfl⟩
            have HAS2 := Lib.hid (show Asc ES from by rw [← hES]; exact asc_put HAS.out hin)
            have HLE2 := Lib.hid (show (ES.length : Int) ≤ M from by rw [← hES, List.length_set]; exact HLE.out)
            rw [hES] at HP
            clear hES hq2 hx2 HAS HLE hin HP4 HX4 
            have HAS := HAS2
            have HLE := HLE2
            clear HAS2 HLE2
            go_wp2_with fail
            refine (law10same sb rb M M ES _ HP.out.1 HP.out.2.1 (by have := HLE.out; omega)).mono ?_
            rintro r wz ⟨rfl, hbz⟩
            have HPZ := Lib.hid (HP.out.ext hbz)
            clear hbz HP
            go_wp2
            go_roundw
            case rel => exact ⟨J + 1, ES, by omega, by omega, by go_num, HPZ.out, HAS.out, HLE.out⟩
            case measure => simp [intOf]; omega
    · have HEND : (¬ J < n ∧ decide ((J : Int) < (n : Int)) = false) ∨ (J < n ∧ decide ((J : Int) < (n : Int)) = true ∧ ¬ J < 80 ∧ decide ((J : Int) < 80) = false) := by
        by_cases h : J < n
        · exact .inr ⟨h, by simp; omega, by omega, by simp; omega⟩
        · exact .inl ⟨h, by simp; omega⟩
      rcases HEND with ⟨e1, e2⟩ | ⟨e1, e2, e3, e4⟩
      all_goals
        clear hlt
        go_wp2_with fail
        refine (law10same sb rb M M es _ HP2.out.1 HP2.out.2.1 (by have := HLE.out; omega)).mono ?_
        rintro r wz ⟨rfl, hbz⟩
        have HPZ := Lib.hid (HP2.out.ext hbz)
        clear hbz HP2
        go_wp2
        go_ret
        exact ⟨rfl, HPZ.out.2.2.2.1⟩

end Go.Proofs.Ytnmpjagdkbaidaa
