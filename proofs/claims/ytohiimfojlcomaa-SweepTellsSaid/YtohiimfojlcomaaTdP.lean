/- Package sweep: who is put out. -/
import Derived.Test.YtohiimfojlcomaaTdD
namespace Go.Proofs.Ytohiimfojlcomaa
open Go.RowKit
set_option linter.unusedVariables false
set_option linter.unusedSimpArgs false

theorem lateg (x : En) (b : Bool) (h : x.c.g = b) : (⟨{ x.c with g := b }, x.seen⟩ : En) = x := by
  obtain ⟨⟨x1, x2, x3, x4, x5, x6, x7, x8, x9⟩, x10⟩ := x
  simp only at h
  subst h
  rfl
theorem tars_yes {l : List En} {now m : Int} {x : En} (h : m < late x now) : tars (l ++ [x]) now m = tars l now m ++ [⟨x.c.a, x.c.i, late x now⟩] := by unfold tars; simp [h]
theorem tars_no {l : List En} {now m : Int} {x : En} (h : ¬ m < late x now) : tars (l ++ [x]) now m = tars l now m := by unfold tars; simp [h]
theorem lives_yes {l : List En} {x : En} (h : x.c.g = false) : lives (l ++ [x]) = lives l + 1 := by unfold lives; rw [filter_yes _ _ _ (by simp [h]), List.length_append]; rfl
theorem lives_no {l : List En} {x : En} (h : x.c.g = true) : lives (l ++ [x]) = lives l := by unfold lives; rw [filter_not _ _ _ (by simp [h])]
theorem OwnR.sat {α : Type} {enc : α → List Value} {k : Nat} {T : TypeId} (hk : ∀ x, (enc x).length = k) {base : Nat} {w : World} {a : Option Addr} {n c : Nat} {ls : List α} (h : OwnR enc k T base w (.slice a n c) ls) : SAt enc k T w a ls := by
  obtain ⟨a', c', e, -, -, h4, -, -⟩ := h.read hk
  simp only [Value.slice.injEq] at e
  rw [e.1]; exact h4
theorem mostN_le {n : Nat} (h : n ≤ 40) : mostN n ≤ 10 := by unfold mostN; omega
theorem map_snoc {α β : Type} (f : α → β) (l : List α) (x : α) : (l ++ [x]).map f = l.map f ++ [f x] := by simp

set_option maxRecDepth 100000 in
set_option maxHeartbeats 4000000 in
theorem sweepPick0 (a : Option Addr) (n c : Nat) (l : List En) (now lt : Int) (w : World) (h : EAt w a l) (hl : l.length = n) (hn : n ≤ 40) (hnc : n ≤ c) (h0 : 0 ≤ lt) :
    Calls Try.prog 14 #[.slice a n c, .int .i64 now, .int .i64 lt] w fun e w' => ∃ v', e = .returned v' ∧ OwnK w.heap.size w' v' (pickL l now lt) ∧ Below w.heap.size w w' := by
  obtain ⟨i0, hi, hz0, hz1, hz2⟩ := info_parts' info_td
  obtain ⟨j0, gi, gz0, gz1, gz2⟩ := info_parts' info_ky
  have HA := Lib.hid h
  have HN := Lib.hid hl
  clear h hl
  go_enter Try.func14, Try.ntmps14
  go_wp2_with fail
  go_loopw [7, 8, 17] (fun lv g j wr => ∃ J : Nat, J ≤ n ∧ j = .int .i64 (J : Int) ∧ lv = .int .i64 ((lives (l.take J) : Nat) : Int) ∧ OwnT w.heap.size wr g (tars (l.take J) now lt) ∧ Below w.heap.size w wr) (fun lv g j _ => n - (intOf j).toNat)
  case atStart => exact ⟨0, by omega, rfl, rfl, OwnR.nil _ _, Below.refl _ _⟩
  case round =>
    obtain ⟨w2, rfl⟩ : ∃ y : World, y = wr := ⟨_, rfl⟩
    obtain ⟨J, hJ, rfl, rfl, ho2, hb2⟩ := hrel
    obtain ⟨LV, hLV⟩ : ∃ q, lives (l.take J) = q := ⟨_, rfl⟩
    have hlv : LV ≤ 40 := by rw [← hLV]; have := lives_len (l.take J); rw [List.length_take] at this; omega
    rw [hLV]
    by_cases hlt : J < n
    · obtain ⟨x, hx⟩ : ∃ x, l[J]? = some x := ⟨_, List.getElem?_eq_getElem (by have := HN.out; omega)⟩
      obtain ⟨S, hS⟩ : ∃ S, tars (l.take J) now lt = S := ⟨_, rfl⟩
      have HST := Lib.hid (take_snoc hx)
      have HT := Lib.hid hS
      have HLV := Lib.hid hLV
      rw [hS] at ho2
      obtain ⟨q, hm⟩ : ∃ m, S.length = m := ⟨_, rfl⟩
      have hm1 : q ≤ 1000 := by have := tars_len (l.take J) now lt; rw [hS, List.length_take, hm] at this; omega
      obtain ⟨tb, tof, rfl⟩ : ∃ b o, a = some ⟨b, o, none⟩ := by
        rcases HA.out with h | ⟨b, o, e, _⟩
        · rw [h] at hx; simp at hx
        · exact ⟨b, o, e⟩
      obtain ⟨x0, x1, x2, x3, x4, x5, x6, x7, x8, x9⟩ := EAt.at (HA.out.ext hb2) hx
      obtain ⟨ga, gc, hgv, hgc, hgm, -, -, -⟩ := ho2.read tc_len
      rw [hm] at hgc hgv
      subst hgv
      have D0 : Below w2.heap.size w2 (w2.alloc (.cells #[.string x.c.a, .string x.c.i, .int .i64 x.c.s, .int .i64 x.c.o, .int .i64 x.c.l, .int .i64 x.c.t, .int .i64 x.c.k, .int .i64 x.c.n, .bool x.c.g, .int .i64 x.seen] 36)) := (Below.refl _ _).alloc (Nat.le_refl _) _
      have HX := Lib.hid (blk_new w2 #[.string x.c.a, .string x.c.i, .int .i64 x.c.s, .int .i64 x.c.o, .int .i64 x.c.l, .int .i64 x.c.t, .int .i64 x.c.k, .int .i64 x.c.n, .bool x.c.g, .int .i64 x.seen] 36)
      have HO3 := Lib.hid (ho2.ext D0)
      have HB3 := Lib.hid (ext_trans hb2 D0)
      have HM := Lib.hid hm
      unfold maxLen at hgm
      clear ho2 hb2 hx hS hm D0 hLV
      go_upto_region 6 with (fail)
      obtain ⟨r, hr⟩ : ∃ r, w2.heap.size = r := ⟨_, rfl⟩
      rw [hr] at HX ⊢
      clear hr
      generalize (w2.alloc (.cells #[.string x.c.a, .string x.c.i, .int .i64 x.c.s, .int .i64 x.c.o, .int .i64 x.c.l, .int .i64 x.c.t, .int .i64 x.c.k, .int .i64 x.c.n, .bool x.c.g, .int .i64 x.seen] 36)) = w4 at *
      clear x0 x1 x2 x3 x4 x5 x6 x7 x8 x9
      cases hg : x.c.g
      · have HLV1 := Lib.hid (show lives (l.take (J + 1)) = LV + 1 from by rw [HST.out, lives_yes hg, HLV.out])
        have HXg := Lib.hid (show w4.heap[r]? = some (.cells #[.string x.c.a, .string x.c.i, .int .i64 x.c.s, .int .i64 x.c.o, .int .i64 x.c.l, .int .i64 x.c.t, .int .i64 x.c.k, .int .i64 x.c.n, .bool false, .int .i64 x.seen] 36 (0, 0)) from by have := HX.out; rw [hg] at this; exact this)
        have hk4 := blk_cell HXg.out
        have HG := Lib.hid hg
        clear hg HX
        go_wp2_with fail
        refine (leaseLate ⟨{ x.c with g := false }, x.seen⟩ now _).mono ?_
        rintro e w5 ⟨rfl, hb5⟩
        rw [lateg x _ HG.out]
        obtain ⟨Lx, hL⟩ : ∃ q, late x now = q := ⟨_, rfl⟩
        have HLL := Lib.hid hL
        rw [hL]
        have HO5 := Lib.hid (HO3.out.ext hb5)
        have HX5 := Lib.hid (blk_ext hb5 HXg.out)
        have HB5 := Lib.hid (ext_trans HB3.out hb5)
        have Z5 := HB5.out.size
        have hk5 := blk_cell HX5.out
        have hl5 := blk_lt HX5.out
        clear hb5 HO3 HXg HB3 hk4 hL
        by_cases h4 : lt < Lx
        · have HTN := Lib.hid (show tars (l.take (J + 1)) now lt = S ++ [⟨x.c.a, x.c.i, Lx⟩] from by rw [HST.out, tars_yes (by rw [HLL.out]; exact h4), HT.out, HLL.out])
          have hd4 : decide (lt < Lx) = true := decide_eq_true h4
          have HO5' := Lib.hid (show w5.ownsRow w.heap.size 59 3 (.slice ga q gc) q (flat tc S) from by have := HO5.out; unfold OwnR at this; rw [HM.out] at this; exact this)
          go_wp2_with (at_builtin; refine wpList_append_own _ rfl _ _ 56 rfl (w.heap.size) 59 i0 (.agg #[.string ⟨#[]⟩, .string ⟨#[]⟩, .int .i64 0]) 3 40 Try.underlying56 hi hz0 hz1 hz2 rfl (by decide) _ q (flat tc S) rfl (HO5'.out.alloc (.cells #[.string x.c.a, .string x.c.i, .int .i64 Lx] 59)) ⟨w5.heap.size, 0, none⟩ 1 1 (tc ⟨x.c.a, x.c.i, Lx⟩) rfl rfl ?c1 ?c2 ?c3 ?c4 ?c5 ?_)
          case c1 =>
            intro j u hj
            rw [add_off, Nat.zero_add, blk_cell (blk_new w5 #[.string x.c.a, .string x.c.i, .int .i64 Lx] 59)]
            simpa [tc] using hj
          case c2 => exact tc_one _
          case c3 => unfold maxLen; omega
          case c4 => omega
          case c5 => simp; omega
          intro v7 w7 ho7 hg7 _
          have HB7 := Lib.hid ((HB5.out.alloc Z5 (.cells #[.string x.c.a, .string x.c.i, .int .i64 Lx] 59)).grown hg7 (by simp; omega) (fun q hq => own_ge HO5'.out hq))
          have HO7 := Lib.hid (show OwnT w.heap.size w7 v7 (S ++ [⟨x.c.a, x.c.i, Lx⟩]) by unfold OwnT OwnR; rw [flat_snoc, List.length_append, HM.out]; exact ho7)
          clear ho7 hg7 HO5 HO5' HX5 HB5 hk5 hl5
          go_wp2
          go_roundw
          case rel => exact ⟨J + 1, by omega, by go_num, by rw [HLV1.out]; go_num, by rw [HTN.out]; exact HO7.out, HB7.out⟩
          case measure => simp [intOf]; omega
        · have HTN := Lib.hid (show tars (l.take (J + 1)) now lt = S from by rw [HST.out, tars_no (by rw [HLL.out]; exact h4), HT.out])
          have hd4 : decide (lt < Lx) = false := decide_eq_false h4
          go_wp2
          go_roundw
          case rel => exact ⟨J + 1, by omega, by go_num, by rw [HLV1.out]; go_num, by rw [HTN.out]; exact HO5.out, HB5.out⟩
          case measure => simp [intOf]; omega
      · have HLV1 := Lib.hid (show lives (l.take (J + 1)) = LV from by rw [HST.out, lives_no hg, HLV.out])
        have HXg := Lib.hid (show w4.heap[r]? = some (.cells #[.string x.c.a, .string x.c.i, .int .i64 x.c.s, .int .i64 x.c.o, .int .i64 x.c.l, .int .i64 x.c.t, .int .i64 x.c.k, .int .i64 x.c.n, .bool true, .int .i64 x.seen] 36 (0, 0)) from by have := HX.out; rw [hg] at this; exact this)
        have hk4 := blk_cell HXg.out
        have HG := Lib.hid hg
        clear hg HX
        go_wp2_with fail
        refine (leaseLate ⟨{ x.c with g := true }, x.seen⟩ now _).mono ?_
        rintro e w5 ⟨rfl, hb5⟩
        rw [lateg x _ HG.out]
        obtain ⟨Lx, hL⟩ : ∃ q, late x now = q := ⟨_, rfl⟩
        have HLL := Lib.hid hL
        rw [hL]
        have HO5 := Lib.hid (HO3.out.ext hb5)
        have HX5 := Lib.hid (blk_ext hb5 HXg.out)
        have HB5 := Lib.hid (ext_trans HB3.out hb5)
        have Z5 := HB5.out.size
        have hk5 := blk_cell HX5.out
        have hl5 := blk_lt HX5.out
        clear hb5 HO3 HXg HB3 hk4 hL
        by_cases h4 : lt < Lx
        · have HTN := Lib.hid (show tars (l.take (J + 1)) now lt = S ++ [⟨x.c.a, x.c.i, Lx⟩] from by rw [HST.out, tars_yes (by rw [HLL.out]; exact h4), HT.out, HLL.out])
          have hd4 : decide (lt < Lx) = true := decide_eq_true h4
          have HO5' := Lib.hid (show w5.ownsRow w.heap.size 59 3 (.slice ga q gc) q (flat tc S) from by have := HO5.out; unfold OwnR at this; rw [HM.out] at this; exact this)
          go_wp2_with (at_builtin; refine wpList_append_own _ rfl _ _ 56 rfl (w.heap.size) 59 i0 (.agg #[.string ⟨#[]⟩, .string ⟨#[]⟩, .int .i64 0]) 3 40 Try.underlying56 hi hz0 hz1 hz2 rfl (by decide) _ q (flat tc S) rfl (HO5'.out.alloc (.cells #[.string x.c.a, .string x.c.i, .int .i64 Lx] 59)) ⟨w5.heap.size, 0, none⟩ 1 1 (tc ⟨x.c.a, x.c.i, Lx⟩) rfl rfl ?c1 ?c2 ?c3 ?c4 ?c5 ?_)
          case c1 =>
            intro j u hj
            rw [add_off, Nat.zero_add, blk_cell (blk_new w5 #[.string x.c.a, .string x.c.i, .int .i64 Lx] 59)]
            simpa [tc] using hj
          case c2 => exact tc_one _
          case c3 => unfold maxLen; omega
          case c4 => omega
          case c5 => simp; omega
          intro v7 w7 ho7 hg7 _
          have HB7 := Lib.hid ((HB5.out.alloc Z5 (.cells #[.string x.c.a, .string x.c.i, .int .i64 Lx] 59)).grown hg7 (by simp; omega) (fun q hq => own_ge HO5'.out hq))
          have HO7 := Lib.hid (show OwnT w.heap.size w7 v7 (S ++ [⟨x.c.a, x.c.i, Lx⟩]) by unfold OwnT OwnR; rw [flat_snoc, List.length_append, HM.out]; exact ho7)
          clear ho7 hg7 HO5 HO5' HX5 HB5 hk5 hl5
          go_wp2
          go_roundw
          case rel => exact ⟨J + 1, by omega, by go_num, by rw [HLV1.out], by rw [HTN.out]; exact HO7.out, HB7.out⟩
          case measure => simp [intOf]; omega
        · have HTN := Lib.hid (show tars (l.take (J + 1)) now lt = S from by rw [HST.out, tars_no (by rw [HLL.out]; exact h4), HT.out])
          have hd4 : decide (lt < Lx) = false := decide_eq_false h4
          go_wp2
          go_roundw
          case rel => exact ⟨J + 1, by omega, by go_num, by rw [HLV1.out], by rw [HTN.out]; exact HO5.out, HB5.out⟩
          case measure => simp [intOf]; omega
    · obtain rfl : J = n := by omega
      have htk : l.take J = l := List.take_of_length_le (by have := HN.out; omega)
      rw [htk] at hLV ho2
      obtain ⟨T, hT⟩ : ∃ T, tars l now lt = T := ⟨_, rfl⟩
      have HT := Lib.hid hT
      have HLV := Lib.hid hLV
      rw [hT] at ho2
      obtain ⟨q, hq⟩ : ∃ q, T.length = q := ⟨_, rfl⟩
      have hq19 : q ≤ 40 := by rw [← hq, ← hT]; have := tars_len l now lt; have := HN.out; omega
      obtain ⟨M, hM⟩ : ∃ M, mostN LV = M := ⟨_, rfl⟩
      have HMM := Lib.hid hM
      have hM3 : M ≤ 10 := by rw [← hM]; exact mostN_le hlv
      obtain ⟨a1, c1, hgv, h1c, h1m, -, hge, hf1⟩ := ho2.read tc_len
      rw [hq] at hgv h1c
      unfold maxLen at h1m
      subst hgv
      have HQ := Lib.hid hq
      clear hT hLV htk hM hq
      rcases hf1 with ⟨rfl, rfl, hnil⟩ | ⟨g, rfl⟩
      · obtain rfl : q = 0 := by rw [← HQ.out, hnil]; rfl
        have HB2 := Lib.hid hb2
        have HFIN := Lib.hid (show pickL l now lt = [] from by unfold pickL; rw [HT.out, hnil]; simp [srt])
        clear hb2 ho2 hge hnil
        go_wp2_with fail
        refine (ssfNil _).mono ?_
        rintro e w3 ⟨rfl, hb3⟩
        have HB3 := Lib.hid (ext_trans HB2.out hb3)
        clear hb3
        go_wp2_with fail
        refine (sweepMost LV _ (by omega)).mono ?_
        rintro e w3' ⟨rfl, rfl⟩
        rw [HMM.out]
        have hmn : ¬ ((M : Int) < 0) := by omega
        go_wp2_with fail
        go_loopw [12, 53] (fun g j wr => g = .slice none 0 0 ∧ j = .int .i64 0 ∧ wr = w3) (fun g j _ => 0)
        case atStart => exact ⟨rfl, rfl, rfl⟩
        case round =>
          obtain ⟨rfl, rfl, rfl⟩ := hrel
          go_wp2
          go_ret
          exact ⟨_, rfl, by rw [HFIN.out]; exact OwnR.nil _ _, HB3.out⟩
      · have hgw : w.heap.size ≤ g := (hge g 0 rfl).1
        have HB2 := Lib.hid hb2
        have HO2 := Lib.hid ho2
        clear hb2 ho2 hge
        go_wp2_with fail
        refine (ssfSome w.heap.size g q c1 T _ HO2.out HQ.out (by omega)).mono ?_
        rintro e w3 ⟨rfl, ho3, hr3⟩
        have HB30 := Lib.hid (HB2.out.trans (hr3.below hgw HB2.out.size))
        have HZ3 := Lib.hid HB30.out.size
        obtain ⟨U, hUU⟩ : ∃ U, srt tlt T = U := ⟨_, rfl⟩
        have HUU := Lib.hid hUU
        have HU := Lib.hid (show U.length = q from by rw [← hUU, srt_len, HQ.out])
        rw [hUU] at ho3
        have HUA := Lib.hid (OwnR.sat tc_len ho3)
        clear ho3 hr3 hUU HO2 HB2
        go_wp2_with fail
        refine (sweepMost LV _ (by omega)).mono ?_
        rintro e w3' ⟨rfl, rfl⟩
        rw [HMM.out]
        by_cases hmin : M < q
        · have hmn : ¬ ((q : Int) < (M : Int)) := by omega
          have HFIN := Lib.hid (show pickL l now lt = (U.take M).map (fun t => (t.a, t.i)) from by unfold pickL; rw [HT.out, HLV.out, HMM.out, HUU.out])
          go_wp2_with fail
          go_loopw [12, 53] (fun g j wr => ∃ J : Nat, J ≤ M ∧ j = .int .i64 (J : Int) ∧ OwnK w3.heap.size wr g ((U.take J).map (fun t => (t.a, t.i))) ∧ Below w3.heap.size w3 wr) (fun g j _ => M - (intOf j).toNat)
          case atStart => exact ⟨0, by omega, rfl, OwnR.nil _ _, Below.refl _ _⟩
          case round =>
            obtain ⟨w4, rfl⟩ : ∃ z : World, z = wr := ⟨_, rfl⟩
            obtain ⟨J, hJ, rfl, ho4, hb4⟩ := hrel
            obtain ⟨S, hS⟩ : ∃ S, (U.take J).map (fun t => (t.a, t.i)) = S := ⟨_, rfl⟩
            rw [hS] at ho4
            obtain ⟨m, hm⟩ : ∃ m, S.length = m := ⟨_, rfl⟩
            have hm1 : m ≤ 1000 := by rw [← hm, ← hS, List.length_map, List.length_take]; omega
            by_cases hlt : J < M
            · obtain ⟨y, hy⟩ : ∃ y, U[J]? = some y := ⟨_, List.getElem?_eq_getElem (by have := HU.out; omega)⟩
              have HSN := Lib.hid (show (U.take (J + 1)).map (fun t => (t.a, t.i)) = S ++ [(y.a, y.i)] from by rw [take_snoc hy, map_snoc, hS])
              obtain ⟨y0, y1, y2⟩ := TAt.at (HUA.out.ext hb4) hy
              simp only [Nat.zero_add] at y0 y1 y2
              obtain ⟨ga, gc, hgv, hgc, hgm, -, -, -⟩ := ho4.read ky_len
              rw [hm] at hgc hgv
              subst hgv
              have D0 : Below w4.heap.size w4 (w4.alloc (.cells #[.string y.a, .string y.i, .int .i64 y.by_] 59)) := (Below.refl _ _).alloc (Nat.le_refl _) _
              have HX5 := Lib.hid (blk_new w4 #[.string y.a, .string y.i, .int .i64 y.by_] 59)
              have HO5 := Lib.hid (ho4.ext D0)
              have HB5 := Lib.hid (ext_trans hb4 D0)
              have HM := Lib.hid hm
              unfold maxLen at hgm
              clear ho4 hb4 hS hm D0 hy
              go_upto_region 17 with (fail)
              obtain ⟨r, hr⟩ : ∃ r, w4.heap.size = r := ⟨_, rfl⟩
              rw [hr] at HX5 ⊢
              clear hr
              generalize (w4.alloc (.cells #[.string y.a, .string y.i, .int .i64 y.by_] 59)) = w5 at *
              clear y0 y1 y2
              have hk5 := blk_cell HX5.out
              have hl5 := blk_lt HX5.out
              have Z5 := HB5.out.size
              have HO5' := Lib.hid (show w5.ownsRow w3.heap.size 30 2 (.slice ga m gc) m (flat ky S) from by have := HO5.out; unfold OwnR at this; rw [HM.out] at this; exact this)
              go_wp2_with (at_builtin; refine wpList_append_own _ rfl _ _ 39 rfl (w3.heap.size) 30 j0 (.agg #[.string ⟨#[]⟩, .string ⟨#[]⟩]) 2 32 Try.underlying39 gi gz0 gz1 gz2 rfl (by decide) _ m (flat ky S) rfl (HO5'.out.alloc (.cells #[.string y.a, .string y.i] 30)) ⟨w5.heap.size, 0, none⟩ 1 1 (ky (y.a, y.i)) rfl rfl ?c1 ?c2 ?c3 ?c4 ?c5 ?_)
              case c1 =>
                intro j u hj
                rw [add_off, Nat.zero_add, blk_cell (blk_new w5 #[.string y.a, .string y.i] 30)]
                simpa [ky] using hj
              case c2 => exact ky_one _
              case c3 => unfold maxLen; omega
              case c4 => omega
              case c5 => simp; omega
              intro v7 w7 ho7 hg7 _
              have HB7 := Lib.hid ((HB5.out.alloc Z5 (.cells #[.string y.a, .string y.i] 30)).grown hg7 (by simp; omega) (fun q hq => own_ge HO5'.out hq))
              have HO7 := Lib.hid (show OwnK w3.heap.size w7 v7 (S ++ [(y.a, y.i)]) by unfold OwnK OwnR; rw [flat_snoc, List.length_append, HM.out]; exact ho7)
              clear ho7 hg7 HO5 HO5' HX5 HB5 hk5 hl5
              go_wp2
              go_roundw
              case rel => exact ⟨J + 1, by omega, by go_num, by rw [HSN.out]; exact HO7.out, HB7.out⟩
              case measure => simp [intOf]; omega
            · obtain rfl : J = M := by omega
              go_wp2
              go_ret
              exact ⟨_, rfl, by rw [HFIN.out, hS]; exact ho4.base HZ3.out, ext_trans HB30.out hb4⟩
        · have hmn : ¬ ((M : Int) < (q : Int)) := by omega
          have HFIN := Lib.hid (show pickL l now lt = (U.take q).map (fun t => (t.a, t.i)) from by unfold pickL; rw [HT.out, HLV.out, HMM.out, HUU.out, List.take_of_length_le (by have := HU.out; omega), List.take_of_length_le (by have := HU.out; omega)])
          go_wp2_with fail
          go_loopw [12, 53] (fun g j wr => ∃ J : Nat, J ≤ q ∧ j = .int .i64 (J : Int) ∧ OwnK w3.heap.size wr g ((U.take J).map (fun t => (t.a, t.i))) ∧ Below w3.heap.size w3 wr) (fun g j _ => q - (intOf j).toNat)
          case atStart => exact ⟨0, by omega, rfl, OwnR.nil _ _, Below.refl _ _⟩
          case round =>
            obtain ⟨w4, rfl⟩ : ∃ z : World, z = wr := ⟨_, rfl⟩
            obtain ⟨J, hJ, rfl, ho4, hb4⟩ := hrel
            obtain ⟨S, hS⟩ : ∃ S, (U.take J).map (fun t => (t.a, t.i)) = S := ⟨_, rfl⟩
            rw [hS] at ho4
            obtain ⟨m, hm⟩ : ∃ m, S.length = m := ⟨_, rfl⟩
            have hm1 : m ≤ 1000 := by rw [← hm, ← hS, List.length_map, List.length_take]; omega
            by_cases hlt : J < q
            · obtain ⟨y, hy⟩ : ∃ y, U[J]? = some y := ⟨_, List.getElem?_eq_getElem (by have := HU.out; omega)⟩
              have HSN := Lib.hid (show (U.take (J + 1)).map (fun t => (t.a, t.i)) = S ++ [(y.a, y.i)] from by rw [take_snoc hy, map_snoc, hS])
              obtain ⟨y0, y1, y2⟩ := TAt.at (HUA.out.ext hb4) hy
              simp only [Nat.zero_add] at y0 y1 y2
              obtain ⟨ga, gc, hgv, hgc, hgm, -, -, -⟩ := ho4.read ky_len
              rw [hm] at hgc hgv
              subst hgv
              have D0 : Below w4.heap.size w4 (w4.alloc (.cells #[.string y.a, .string y.i, .int .i64 y.by_] 59)) := (Below.refl _ _).alloc (Nat.le_refl _) _
              have HX5 := Lib.hid (blk_new w4 #[.string y.a, .string y.i, .int .i64 y.by_] 59)
              have HO5 := Lib.hid (ho4.ext D0)
              have HB5 := Lib.hid (ext_trans hb4 D0)
              have HM := Lib.hid hm
              unfold maxLen at hgm
              clear ho4 hb4 hS hm D0 hy
              go_upto_region 17 with (fail)
              obtain ⟨r, hr⟩ : ∃ r, w4.heap.size = r := ⟨_, rfl⟩
              rw [hr] at HX5 ⊢
              clear hr
              generalize (w4.alloc (.cells #[.string y.a, .string y.i, .int .i64 y.by_] 59)) = w5 at *
              clear y0 y1 y2
              have hk5 := blk_cell HX5.out
              have hl5 := blk_lt HX5.out
              have Z5 := HB5.out.size
              have HO5' := Lib.hid (show w5.ownsRow w3.heap.size 30 2 (.slice ga m gc) m (flat ky S) from by have := HO5.out; unfold OwnR at this; rw [HM.out] at this; exact this)
              go_wp2_with (at_builtin; refine wpList_append_own _ rfl _ _ 39 rfl (w3.heap.size) 30 j0 (.agg #[.string ⟨#[]⟩, .string ⟨#[]⟩]) 2 32 Try.underlying39 gi gz0 gz1 gz2 rfl (by decide) _ m (flat ky S) rfl (HO5'.out.alloc (.cells #[.string y.a, .string y.i] 30)) ⟨w5.heap.size, 0, none⟩ 1 1 (ky (y.a, y.i)) rfl rfl ?c1 ?c2 ?c3 ?c4 ?c5 ?_)
              case c1 =>
                intro j u hj
                rw [add_off, Nat.zero_add, blk_cell (blk_new w5 #[.string y.a, .string y.i] 30)]
                simpa [ky] using hj
              case c2 => exact ky_one _
              case c3 => unfold maxLen; omega
              case c4 => omega
              case c5 => simp; omega
              intro v7 w7 ho7 hg7 _
              have HB7 := Lib.hid ((HB5.out.alloc Z5 (.cells #[.string y.a, .string y.i] 30)).grown hg7 (by simp; omega) (fun q hq => own_ge HO5'.out hq))
              have HO7 := Lib.hid (show OwnK w3.heap.size w7 v7 (S ++ [(y.a, y.i)]) by unfold OwnK OwnR; rw [flat_snoc, List.length_append, HM.out]; exact ho7)
              clear ho7 hg7 HO5 HO5' HX5 HB5 hk5 hl5
              go_wp2
              go_roundw
              case rel => exact ⟨J + 1, by omega, by go_num, by rw [HSN.out]; exact HO7.out, HB7.out⟩
              case measure => simp [intOf]; omega
            · obtain rfl : J = q := by omega
              go_wp2
              go_ret
              exact ⟨_, rfl, by rw [HFIN.out, hS]; exact ho4.base HZ3.out, ext_trans HB30.out hb4⟩

end Go.Proofs.Ytohiimfojlcomaa
