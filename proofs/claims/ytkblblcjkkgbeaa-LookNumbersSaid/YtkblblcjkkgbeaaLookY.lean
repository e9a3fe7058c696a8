/- Package look: the program beside the document's own answer. -/
import Derived.Test.YtkblblcjkkgbeaaLookM
namespace Go.Proofs.Ytkblblcjkkgbeaa
open Go.RowKit
set_option linter.unusedVariables false
set_option linter.unusedSimpArgs false

set_option maxRecDepth 100000 in
set_option maxHeartbeats 4000000 in
theorem law23sameYes (a : Option Addr) (n c m : Nat) (ls : List Cd) (app : ByteArray) (turn : Int) (w : World) (h : CAt w a ls) (hl : ls.length = n) (hn : n ≤ 19) (hnc : n ≤ c) (hm : (fnd app ls).length = m) (h0 : 0 < m) :
    Calls Try.prog 7 #[.slice a n c, .string app, .int .i64 turn] w fun e w' => e = .returned (.bool true) ∧ Below w.heap.size w w' := by
  obtain ⟨i1, gi, gz0, gz1, gz2⟩ := info_parts' info_str
  have HA := Lib.hid h
  have HN := Lib.hid hl
  clear h hl
  go_enter Try.func7, Try.ntmps7
  go_wp2_with fail
  refine (refFind24 a n c ls app _ HA.out HN.out hn hnc).mono ?_
  rintro e w1 ⟨v1, rfl, ho1, hb1⟩
  obtain ⟨F, hF⟩ : ∃ F, fnd app ls = F := ⟨_, rfl⟩
  have HF := Lib.hid hF
  rw [hF] at ho1 hm
  obtain ⟨fa, fc, rfl, hfc, hfm, hfat, -, -⟩ := ho1.read
  have HM := Lib.hid hm
  rw [hm] at hfc ⊢
  have hm19 : m ≤ 19 := by have h1 := fnd_len app ls; rw [hF, HN.out] at h1; omega
  have HFA := Lib.hid hfat
  have HB1 := Lib.hid hb1
  unfold maxLen at hfm
  clear ho1 hb1 hfat hF hm
  go_wp2_with fail
  refine (lookPickYes a n c m ls app turn _ (HA.out.ext HB1.out) HN.out hn hnc (by rw [HF.out, HM.out]) h0).mono ?_
  rintro e w2 ⟨x, hx, rfl, hb2⟩
  rw [HF.out] at hx
  have HXX := Lib.hid hx
  have D2 : Below w2.heap.size w2 (w2.alloc (.cells #[.string x.a, .string x.i, .int .i64 x.s, .int .i64 x.o, .int .i64 x.l, .int .i64 x.t, .int .i64 x.k, .int .i64 x.n, .bool x.g] 40)) := (Below.refl _ _).alloc (Nat.le_refl _) _
  have HX3 := Lib.hid (blk_new w2 #[.string x.a, .string x.i, .int .i64 x.s, .int .i64 x.o, .int .i64 x.l, .int .i64 x.t, .int .i64 x.k, .int .i64 x.n, .bool x.g] 40)
  clear hx
  have HB3 := Lib.hid (ext_trans HB1.out (ext_trans hb2 D2))
  have HFA3 := Lib.hid (HFA.out.ext (ext_trans hb2 D2))
  clear hb2 D2
  go_wp2_with fail
  obtain ⟨r0, hr0⟩ : ∃ r, w2.heap.size = r := ⟨_, rfl⟩
  rw [hr0] at HX3 ⊢
  clear hr0
  generalize (w2.alloc (.cells #[.string x.a, .string x.i, .int .i64 x.s, .int .i64 x.o, .int .i64 x.l, .int .i64 x.t, .int .i64 x.k, .int .i64 x.n, .bool x.g] 40)) = w3 at *
  refine (lookFind a n c ls app _ (HA.out.ext HB3.out) HN.out hn hnc).mono ?_
  rintro e w4 ⟨v4, rfl, ho4, hb4⟩
  rw [HF.out] at ho4
  obtain ⟨ga, gc, rfl, hgc, hgm, hgat, -, -⟩ := ho4.read
  rw [HM.out] at hgc ⊢
  have HGA := Lib.hid hgat
  have HX4 := Lib.hid (blk_ext hb4 HX3.out)
  have HFA4 := Lib.hid (HFA3.out.ext hb4)
  have HB4 := Lib.hid (ext_trans HB3.out hb4)
  unfold maxLen at hgm
  clear ho4 hb4 hgat HX3 HFA3 HB3 HFA HB1
  go_wp2_with fail
  refine (same5 ga fa m gc fc F _ HGA.out HFA4.out HM.out hgc hfc (by unfold maxLen; omega) (by unfold maxLen; omega)).mono ?_
  rintro e w5 ⟨rfl, hb5⟩
  have HX5 := Lib.hid (blk_ext hb5 HX4.out)
  have HFA5 := Lib.hid (HFA4.out.ext hb5)
  have HB5 := Lib.hid (ext_trans HB4.out hb5)
  clear hb5 HX4 HFA4 HB4 HGA
  have hdm : decide ((0 : Int) < (m : Int)) = true := by simp; omega
  have hdn : ((m : Int) == 0) = false := by simp; omega
  have hA := tmod_bd turn m h0
  have hB := trn_bd turn m h0
  obtain ⟨k, hk⟩ : ∃ k : Nat, trn turn m = (k : Int) := ⟨(trn turn m).toNat, by omega⟩
  have hkm : k < m := by omega
  have hx : F[k]? = some x := by have := HXX.out; rw [hk] at this; simpa using this
  obtain ⟨b, o, rfl⟩ : ∃ b o, fa = some ⟨b, o, none⟩ := by
    rcases HFA5.out with e | ⟨b, o, e, _⟩
    · rw [e] at hx; simp at hx
    · exact ⟨b, o, e⟩
  obtain ⟨y0, y1, y2, y3, y4, y5, y6, y7, y8⟩ := HFA5.out.at hx
  unfold trn at hk
  obtain ⟨A, hAA⟩ : ∃ A, turn.tmod (m : Int) = A := ⟨_, rfl⟩
  rw [hAA] at hA hk
  have hw1 : IntKind.i64.wrap A = A := IntWalk.i64_in _ (by omega)
  have hw2 : IntKind.i64.wrap (A + (m : Int)) = A + (m : Int) := IntWalk.i64_in _ (by omega)
  have hw3 : IntKind.i64.wrap (k : Int) = (k : Int) := IntWalk.i64_in _ (by omega)
  have z0 : w5.cell? ⟨r0, 0, none⟩ = some (.string x.a) := by rw [blk_cell HX5.out]; rfl
  have z1 : w5.cell? ⟨r0, 1, none⟩ = some (.string x.i) := by rw [blk_cell HX5.out]; rfl
  have z2 : w5.cell? ⟨r0, 2, none⟩ = some (.int .i64 x.s) := by rw [blk_cell HX5.out]; rfl
  have z3 : w5.cell? ⟨r0, 3, none⟩ = some (.int .i64 x.o) := by rw [blk_cell HX5.out]; rfl
  have z4 : w5.cell? ⟨r0, 4, none⟩ = some (.int .i64 x.l) := by rw [blk_cell HX5.out]; rfl
  have z5 : w5.cell? ⟨r0, 5, none⟩ = some (.int .i64 x.t) := by rw [blk_cell HX5.out]; rfl
  have z6 : w5.cell? ⟨r0, 6, none⟩ = some (.int .i64 x.k) := by rw [blk_cell HX5.out]; rfl
  have z7 : w5.cell? ⟨r0, 7, none⟩ = some (.int .i64 x.n) := by rw [blk_cell HX5.out]; rfl
  have z8 : w5.cell? ⟨r0, 8, none⟩ = some (.bool x.g) := by rw [blk_cell HX5.out]; rfl
  have lr0 := blk_lt HX5.out
  clear hx hB
  go_wp2_with fail
  haveI hIq : Nonempty (Of w5) := of_some _
  have hF0 := of_cell y0
  have hF1 := of_cell y1
  have hF2 := of_cell y2
  have hF3 := of_cell y3
  have hF4 := of_cell y4
  have hF5 := of_cell y5
  have hF6 := of_cell y6
  have hF7 := of_cell y7
  have hF8 := of_cell y8
  have hF9 := of_cell z0
  have hF10 := of_cell z1
  have hF11 := of_cell z2
  have hF12 := of_cell z3
  have hF13 := of_cell z4
  have hF14 := of_cell z5
  have hF15 := of_cell z6
  have hF16 := of_cell z7
  have hF17 := of_cell z8
  first | (refine wp_region_stay w5 (by kernel_rfl) (by kernel_rfl) (by go_grown) ?_) | (refine wp_region_stay_seq w5 (by go_grown) ?_)
  repeat (go_big_quiet_step (fail))
  refine wpQuiet_nil ?_
  intro w6 hb6
  clear hIq hF0 hF1 hF2 hF3 hF4 hF5 hF6 hF7 hF8 hF9 hF10 hF11 hF12 hF13 hF14 hF15 hF16 hF17
  
  have HB6 := Lib.hid (ext_trans HB5.out hb6)
  clear hb6 hk hA hAA hw1 hw2 hw3 hdm hdn y0 y1 y2 y3 y4 y5 y6 y7 y8 z0 z1 z2 z3 z4 z5 z6 z7 z8 lr0 HX5 HFA5 HXX HB5
  go_upto_region 12 with (fail)
  have D7 : Below w6.heap.size w6 (w6.alloc (.cells #[.int .i64 0, .int .i64 0, .int .i64 0, .int .i64 0] 45)) := (Below.refl _ _).alloc (Nat.le_refl _) _
  have HC0 := Lib.hid (blk_new w6 #[.int .i64 0, .int .i64 0, .int .i64 0, .int .i64 0] 45)
  have HB7 := Lib.hid (ext_trans HB6.out D7)
  have HR0 := Lib.hid (HB6.out.size)
  clear D7 
  obtain ⟨r, hr⟩ : ∃ r, w6.heap.size = r := ⟨_, rfl⟩
  have HR := Lib.hid (show w.heap.size ≤ r by rw [← hr]; exact HR0.out)
  rw [hr] at HC0 ⊢
  clear hr HR0
  generalize (w6.alloc (.cells #[.int .i64 0, .int .i64 0, .int .i64 0, .int .i64 0] 45)) = w7 at *
  go_wp2_with fail
  go_loopw [64] (fun j wr => ∃ J : Nat, J ≤ n ∧ j = .int .i64 (J : Int) ∧ wr.heap[r]? = some (.cells (cnt4 (ls.take J)) 45 (0, 0)) ∧ Below w.heap.size w wr) (fun j _ => n - (intOf j).toNat)
  case atStart => exact ⟨0, by omega, rfl, HC0.out, HB7.out⟩
  case round =>
    obtain ⟨w2, rfl⟩ : ∃ y : World, y = wr := ⟨_, rfl⟩
    obtain ⟨J, hJ, rfl, hc2, hb2⟩ := hrel
    have HA2 := Lib.hid (HA.out.ext hb2)
    by_cases hlt : J < n
    · obtain ⟨x, hx⟩ : ∃ x, ls[J]? = some x := ⟨_, List.getElem?_eq_getElem (by have := HN.out; omega)⟩
      obtain ⟨Z, hZ⟩ : ∃ Z, shw x = Z := ⟨_, rfl⟩
      obtain ⟨c0, h0⟩ : ∃ v, cntI (ls.take J) 0 = v := ⟨_, rfl⟩
      obtain ⟨c1, h1⟩ : ∃ v, cntI (ls.take J) 1 = v := ⟨_, rfl⟩
      obtain ⟨c2, h2⟩ : ∃ v, cntI (ls.take J) 2 = v := ⟨_, rfl⟩
      obtain ⟨c3, h3⟩ : ∃ v, cntI (ls.take J) 3 = v := ⟨_, rfl⟩
      have HST := Lib.hid ((show cnt4 (ls.take (J + 1)) = cnt4 (ls.take J ++ [x]) from by rw [List.take_add_one, hx]; rfl).trans (cnt4_snoc (ls.take J) x hZ h0 h1 h2 h3))
      have hlen : (ls.take J).length ≤ J := by rw [List.length_take]; omega
      have b0 := cnt_bd (ls.take J) 0
      have b1 := cnt_bd (ls.take J) 1
      have b2 := cnt_bd (ls.take J) 2
      have b3 := cnt_bd (ls.take J) 3
      rw [h0] at b0
      rw [h1] at b1
      rw [h2] at b2
      rw [h3] at b3
      have HC := Lib.hid (show w2.heap[r]? = some (.cells #[.int .i64 c0, .int .i64 c1, .int .i64 c2, .int .i64 c3] 45 (0, 0)) from by rw [hc2]; unfold cnt4; simp only [h0, h1, h2, h3])
      obtain ⟨b, o, rfl⟩ : ∃ b o, a = some ⟨b, o, none⟩ := by
        rcases HA.out with h | ⟨b, o, e, _⟩
        · rw [h] at hx; simp at hx
        · exact ⟨b, o, e⟩
      obtain ⟨x0, x1, x2, x3, x4, x5, x6, x7, x8⟩ := (HA2.out).at hx
      have D0 : Below w2.heap.size w2 (w2.alloc (.cells #[.string x.a, .string x.i, .int .i64 x.s, .int .i64 x.o, .int .i64 x.l, .int .i64 x.t, .int .i64 x.k, .int .i64 x.n, .bool x.g] 40)) := (Below.refl _ _).alloc (Nat.le_refl _) _
      have HX := Lib.hid (blk_new w2 #[.string x.a, .string x.i, .int .i64 x.s, .int .i64 x.o, .int .i64 x.l, .int .i64 x.t, .int .i64 x.k, .int .i64 x.n, .bool x.g] 40)
      have HC3 := Lib.hid (blk_ext D0 HC.out)
      have HB3 := Lib.hid (ext_trans hb2 D0)
      have HZ := Lib.hid hZ
      clear hb2 hx hZ h0 h1 h2 h3 hc2 HC D0
      go_upto_region 15 with (fail)
      obtain ⟨q0, hq0⟩ : ∃ r, w2.heap.size = r := ⟨_, rfl⟩
      rw [hq0] at HX ⊢
      clear hq0
      generalize (w2.alloc (.cells #[.string x.a, .string x.i, .int .i64 x.s, .int .i64 x.o, .int .i64 x.l, .int .i64 x.t, .int .i64 x.k, .int .i64 x.n, .bool x.g] 40)) = w4 at *
      clear x0 x1 x2 x3 x4 x5 x6 x7 x8
      have hk4 := blk_cell HX.out
      have hl4 := blk_lt HX.out
      go_wp2_with fail
      refine (refShows x _).mono ?_
      rintro e w5 ⟨rfl, hb5⟩
      rw [HZ.out]
      have HC5 := Lib.hid (blk_ext hb5 HC3.out)
      have HB5 := Lib.hid (ext_trans HB3.out hb5)
      clear hb5 HC3 HB3 HX hk4 hl4
      have hk5 := blk_cell HC5.out
      have hl5 := blk_lt HC5.out
      have hf5 := blk_free HC5.out
      by_cases hz : 0 ≤ Z ∧ Z ≤ 3
      · have hz4 : Z = 0 ∨ Z = 1 ∨ Z = 2 ∨ Z = 3 := by omega
        clear hz
        rcases hz4 with rfl | rfl | rfl | rfl
        all_goals
          go_wp2
          go_roundw
          case rel => exact ⟨J + 1, by omega, by go_num, by rw [HST.out]; exact blk_set HC5.out (by simp), HB5.out.setCell (show w.heap.size ≤ r from HR.out) _⟩
          case measure => simp [intOf]; omega
      · have HST' := Lib.hid (show cnt4 (ls.take (J + 1)) = #[.int .i64 c0, .int .i64 c1, .int .i64 c2, .int .i64 c3] from HST.out.trans (by rw [if_neg (by omega), if_neg (by omega), if_neg (by omega), if_neg (by omega), Int.add_zero, Int.add_zero, Int.add_zero, Int.add_zero]))
        clear HST
        by_cases hz0 : 0 ≤ Z
        · have hz3 : ¬ Z ≤ 3 := by omega
          clear hz
          go_wp2
          go_roundw
          case rel => exact ⟨J + 1, by omega, by go_num, by rw [HST'.out]; exact HC5.out, HB5.out⟩
          case measure => simp [intOf]; omega
        · clear hz
          go_wp2
          go_roundw
          case rel => exact ⟨J + 1, by omega, by go_num, by rw [HST'.out]; exact HC5.out, HB5.out⟩
          case measure => simp [intOf]; omega
    · obtain rfl : n = J := by omega
      have HTL := Lib.hid (show ls.take n = ls from List.take_of_length_le (by have := HN.out; omega))
      have HC := Lib.hid (show w2.heap[r]? = some (.cells (cnt4 ls) 45 (0, 0)) from by rw [hc2, HTL.out])
      have HBB := Lib.hid hb2
      clear hc2 hb2 HC0 HB7
      go_wp2_with fail
      refine (refSeen9 a n c ls _ (HA.out.ext HBB.out) HN.out (by omega) hnc).mono ?_
      rintro e w8 ⟨vs, rfl, hos, hbs⟩
      obtain ⟨T, hT⟩ : ∃ T, seenL ls = T := ⟨_, rfl⟩
      rw [hT] at hos
      obtain ⟨ta, tc, rfl, htc, htm, htat, -, -⟩ := hos.read
      obtain ⟨t, hTt⟩ : ∃ t, T.length = t := ⟨_, rfl⟩
      have ht19 : t ≤ 19 := by rw [← hTt, ← hT]; have := seenL_len ls; rw [HN.out] at this; omega
      rw [hTt] at htc ⊢
      have HTT := Lib.hid hT
      have HTN := Lib.hid hTt
      have HTA := Lib.hid htat
      have HB8 := Lib.hid (ext_trans HBB.out hbs)
      have HC8 := Lib.hid (blk_ext hbs HC.out)
      unfold maxLen at htm
      clear hos hbs hT hTt htat HBB HC
      go_wp2_with fail
      go_loopw [15, 85] (fun o j wr => ∃ J : Nat, J ≤ t ∧ j = .int .i64 (J : Int) ∧ OwnS w8.heap.size wr o (cps ((T.take J).map (fun c => c.a.data.toList))) ∧ Below w8.heap.size w8 wr) (fun o j _ => t - (intOf j).toNat)
      case atStart => exact ⟨0, by omega, rfl, OwnR.nil _ _, Below.refl _ _⟩
      case round =>
        obtain ⟨w2, rfl⟩ : ∃ y : World, y = wr := ⟨_, rfl⟩
        obtain ⟨J, hJ, rfl, ho2, hb2⟩ := hrel
        obtain ⟨ga, gc, rfl, hgc, hgm, hgat, hgb, hgf⟩ := OwnR.read es_len ho2
        obtain ⟨S, hS⟩ : ∃ S, cps ((T.take J).map (fun c => c.a.data.toList)) = S := ⟨_, rfl⟩
        rw [hS] at ho2 hgc hgat hgf ⊢
        obtain ⟨m1, hm1⟩ : ∃ m, S.length = m := ⟨_, rfl⟩
        have hm19 : m1 ≤ 19 := by rw [← hm1, ← hS]; have := cps_len ((T.take J).map (fun c => c.a.data.toList)); rw [List.length_map, List.length_take] at this; omega
        have HM1 := Lib.hid hm1
        rw [hm1] at hgc ⊢
        by_cases hlt : J < t
        · obtain ⟨x, hx⟩ : ∃ x, T[J]? = some x := ⟨_, List.getElem?_eq_getElem (by have := HTN.out; omega)⟩
          have HST0 := Lib.hid (show cps ((T.take (J + 1)).map (fun c => c.a.data.toList)) = apS S x.a.data.toList from by rw [List.take_add_one, hx, List.map_append]; show cps (_ ++ [x.a.data.toList]) = _; rw [cps_snoc, hS])
          obtain ⟨b, o, rfl⟩ : ∃ b o, ta = some ⟨b, o, none⟩ := by
            rcases HTA.out with h | ⟨b, o, e, _⟩
            · rw [h] at hx; simp at hx
            · exact ⟨b, o, e⟩
          obtain ⟨x0, x1, x2, x3, x4, x5, x6, x7, x8⟩ := (HTA.out.ext hb2).at hx
          have D0 : Below w2.heap.size w2 (w2.alloc (.cells #[.string x.a, .string x.i, .int .i64 x.s, .int .i64 x.o, .int .i64 x.l, .int .i64 x.t, .int .i64 x.k, .int .i64 x.n, .bool x.g] 40)) := (Below.refl _ _).alloc (Nat.le_refl _) _
          have HX4 := Lib.hid (blk_new w2 #[.string x.a, .string x.i, .int .i64 x.s, .int .i64 x.o, .int .i64 x.l, .int .i64 x.t, .int .i64 x.k, .int .i64 x.n, .bool x.g] 40)
          have HO4 := Lib.hid (show OwnS w8.heap.size (w2.alloc (.cells #[.string x.a, .string x.i, .int .i64 x.s, .int .i64 x.o, .int .i64 x.l, .int .i64 x.t, .int .i64 x.k, .int .i64 x.n, .bool x.g] 40)) (.slice ga m1 gc) S from by have := OwnR.ext ho2 D0; rw [hm1] at this; exact this)
          have HB4 := Lib.hid (ext_trans hb2 D0)
          have HG4 := Lib.hid (SAt.ext hgat D0)
          unfold maxLen at hgm
          clear ho2 hb2 hx hS hm1 D0 hgat hgb
          go_upto_region 23 with (fail)
          obtain ⟨q0, hq0⟩ : ∃ r, w2.heap.size = r := ⟨_, rfl⟩
          rw [hq0] at HX4 ⊢
          clear hq0
          generalize (w2.alloc (.cells #[.string x.a, .string x.i, .int .i64 x.s, .int .i64 x.o, .int .i64 x.l, .int .i64 x.t, .int .i64 x.k, .int .i64 x.n, .bool x.g] 40)) = w4 at *
          clear x0 x1 x2 x3 x4 x5 x6 x7 x8
          have k2 : w4.cell? ⟨q0, 0, none⟩ = some (.string x.a) := by rw [blk_cell HX4.out]; rfl
          by_cases hm0 : m1 = 0
          · subst hm0
            have HST := Lib.hid (show cps ((T.take (J + 1)).map (fun c => c.a.data.toList)) = S ++ [x.a.data.toList] from by rw [HST0.out, List.eq_nil_of_length_eq_zero HM1.out]; rfl)
            clear HST0 k2
            go_wp2_with fail
            haveI hIq : Nonempty (Of w4) := of_some _
            first | (refine wp_region_stay w4 (by kernel_rfl) (by kernel_rfl) (by go_grown) ?_) | (refine wp_region_stay_seq w4 (by go_grown) ?_)
            repeat (go_big_quiet_step (fail))
            refine wpQuiet_nil ?_
            intro w5 hb5
            clear hIq
            have HO5 := Lib.hid (HO4.out.ext hb5)
            have HX5 := Lib.hid (blk_ext hb5 HX4.out)
            have HB5 := Lib.hid (ext_trans HB4.out hb5)
            have Z5 := HB5.out.size
            have hk5 := blk_cell HX5.out
            have hl5 := blk_lt HX5.out
            have HO5' := Lib.hid (show w5.ownsRow w8.heap.size 9 1 (.slice ga 0 gc) 0 (flat es S) from by have := HO5.out; unfold OwnS OwnR at this; rw [HM1.out] at this; exact this)
            clear hb5 HO4 HX4 HB4
            go_wp2_with (at_builtin; refine wpList_append_own _ rfl _ _ 28 rfl (w8.heap.size) 9 i1 (.string ⟨#[]⟩) 1 16 Try.underlying28 gi gz0 gz1 gz2 rfl (by decide) _ 0 (flat es S) rfl (HO5'.out.alloc (.cells #[.string x.a] 9)) ⟨w5.heap.size, 0, none⟩ 1 1 (es x.a.data.toList) rfl rfl ?c1 ?c2 ?c3 ?c4 ?c5 ?_)
            case c1 =>
              intro j u hj
              rw [es_of] at hj
              first | exact hj | (rw [add_off, Nat.zero_add, blk_cell (blk_new w5 #[.string x.a] 9)]; simpa using hj)
            case c2 => exact es_one _
            case c3 => unfold maxLen; omega
            case c4 => omega
            case c5 => first | (simp; omega) | omega
            intro v7 w7 ho7 hg7 _
            have HB7 := Lib.hid ((HB5.out.alloc Z5 (.cells #[.string x.a] 9)).grown hg7 (by simp; omega) (fun q hq => own_ge HO5'.out hq))
            have HO7 := Lib.hid (show OwnS w8.heap.size w7 v7 (S ++ [x.a.data.toList]) by unfold OwnS OwnR; rw [flat_snoc, List.length_append, HM1.out]; exact ho7)
            clear ho7 hg7 HO5' HO5 HX5 HB5 hk5 hl5
            go_wp2
            go_roundw
            case rel => exact ⟨J + 1, by omega, by go_num, by rw [HST.out]; exact HO7.out, HB7.out⟩
            case measure => simp [intOf]; omega
          · obtain ⟨P, rfl⟩ : ∃ P, m1 = P + 1 := ⟨m1 - 1, by omega⟩
            obtain ⟨y, hy⟩ : ∃ y : ByteArray, S[P]? = some y.data.toList := ⟨⟨⟨S[P]'(by have := HM1.out; omega)⟩⟩, List.getElem?_eq_getElem (by have := HM1.out; omega)⟩
            obtain ⟨g, rfl⟩ : ∃ g, ga = some ⟨g, 0, none⟩ := by
              rcases hgf with ⟨_, _, e⟩ | ⟨g, e⟩
              · rw [e] at hy; simp at hy
              · exact ⟨g, e⟩
            have HSY := Lib.hid (show S = S.take P ++ [y.data.toList] from by
              have h1 : S = S.take (P + 1) := by rw [List.take_of_length_le (by have := HM1.out; omega)]
              conv => lhs; rw [h1, List.take_add_one, hy]
              rfl)
            have k0 := StAt.at HG4.out hy
            rw [Nat.zero_add] at k0
            have hd : ((P : Int) + 1 == 0) = false := by simp; omega
            clear hy hgf hm0
            by_cases h1 : y = x.a
            · have HST := Lib.hid (show cps ((T.take (J + 1)).map (fun c => c.a.data.toList)) = S from by rw [HST0.out]; (conv => lhs; rw [HSY.out, h1]); rw [apS_same, ← h1]; exact HSY.out.symm)
              rw [h1] at k0
              clear h1 HST0
              go_wp2_with fail
              haveI hIq : Nonempty (Of w4) := of_some _
              have hF0 := of_cell k0
              have hF1 := of_cell k2
              first | (refine wp_region_stay w4 (by kernel_rfl) (by kernel_rfl) (by go_grown) ?_) | (refine wp_region_stay_seq w4 (by go_grown) ?_)
              repeat (go_big_quiet_step (fail))
              refine wpQuiet_nil ?_
              intro w5 hb5
              clear hIq hF0 hF1
              have HO5 := Lib.hid (HO4.out.ext hb5)
              have HX5 := Lib.hid (blk_ext hb5 HX4.out)
              have HB5 := Lib.hid (ext_trans HB4.out hb5)
              have Z5 := HB5.out.size
              have hk5 := blk_cell HX5.out
              have hl5 := blk_lt HX5.out
              
              clear hb5
              go_wp2
              go_roundw
              case rel => exact ⟨J + 1, by omega, by go_num, by rw [HST.out]; exact HO5.out, HB5.out⟩
              case measure => simp [intOf]; omega
            · have HST := Lib.hid (show cps ((T.take (J + 1)).map (fun c => c.a.data.toList)) = S ++ [x.a.data.toList] from by rw [HST0.out]; (conv => lhs; rw [HSY.out]); rw [apS_other _ _ _ (fun e => h1 (ba_eq e)), ← HSY.out])
              have h3 : ¬ y.toList = x.a.toList := fun e => h1 (str_inj e)
              have h3b : (y.toList == x.a.toList) = false := by simpa using h3
              clear h1 HST0
              go_wp2_with fail
              haveI hIq : Nonempty (Of w4) := of_some _
              have hF0 := of_cell k0
              have hF1 := of_cell k2
              first | (refine wp_region_stay w4 (by kernel_rfl) (by kernel_rfl) (by go_grown) ?_) | (refine wp_region_stay_seq w4 (by go_grown) ?_)
              repeat (go_big_quiet_step (fail))
              refine wpQuiet_nil ?_
              intro w5 hb5
              clear hIq hF0 hF1
              have HO5 := Lib.hid (HO4.out.ext hb5)
              have HX5 := Lib.hid (blk_ext hb5 HX4.out)
              have HB5 := Lib.hid (ext_trans HB4.out hb5)
              have Z5 := HB5.out.size
              have hk5 := blk_cell HX5.out
              have hl5 := blk_lt HX5.out
              have HO5' := Lib.hid (show w5.ownsRow w8.heap.size 9 1 (.slice (some ⟨g, 0, none⟩) (P + 1) gc) (P + 1) (flat es S) from by have := HO5.out; unfold OwnS OwnR at this; rw [HM1.out] at this; exact this)
              clear hb5 HO4 HX4 HB4
              go_wp2_with (at_builtin; refine wpList_append_own _ rfl _ _ 28 rfl (w8.heap.size) 9 i1 (.string ⟨#[]⟩) 1 16 Try.underlying28 gi gz0 gz1 gz2 rfl (by decide) _ (P + 1) (flat es S) rfl (HO5'.out.alloc (.cells #[.string x.a] 9)) ⟨w5.heap.size, 0, none⟩ 1 1 (es x.a.data.toList) rfl rfl ?c1 ?c2 ?c3 ?c4 ?c5 ?_)
              case c1 =>
                intro j u hj
                rw [es_of] at hj
                first | exact hj | (rw [add_off, Nat.zero_add, blk_cell (blk_new w5 #[.string x.a] 9)]; simpa using hj)
              case c2 => exact es_one _
              case c3 => unfold maxLen; omega
              case c4 => omega
              case c5 => first | (simp; omega) | omega
              intro v7 w7 ho7 hg7 _
              have HB7 := Lib.hid ((HB5.out.alloc Z5 (.cells #[.string x.a] 9)).grown hg7 (by simp; omega) (fun q hq => own_ge HO5'.out hq))
              have HO7 := Lib.hid (show OwnS w8.heap.size w7 v7 (S ++ [x.a.data.toList]) by unfold OwnS OwnR; rw [flat_snoc, List.length_append, HM1.out]; exact ho7)
              clear ho7 hg7 HO5' HO5 HX5 HB5 hk5 hl5
              go_wp2
              go_roundw
              case rel => exact ⟨J + 1, by omega, by go_num, by rw [HST.out]; exact HO7.out, HB7.out⟩
              case measure => simp [intOf]; omega
        · obtain rfl : J = t := by omega
          have HSQ := Lib.hid (show S = appsL ls from by rw [← hS, List.take_of_length_le (by have := HTN.out; omega), ← HTT.out]; exact apps_seen ls)
          obtain ⟨Q, hQ⟩ : ∃ Q, appsL ls = Q := ⟨_, rfl⟩
          obtain rfl : S = Q := HSQ.out.trans hQ
          have HSA := Lib.hid hgat
          have HBB := Lib.hid (ext_trans HB8.out hb2)
          have HC9 := Lib.hid (blk_ext hb2 HC8.out)
          have HQ := Lib.hid hQ
          clear ho2 hb2 hgat hgb hgf hS hm1 hQ HSQ
          unfold maxLen at hgm
          go_wp2_with fail
          refine (lookApps a n c ls _ (HA.out.ext HBB.out) HN.out (by omega) hnc).mono ?_
          rintro e w10 ⟨v10, rfl, ho10, hb10⟩
          rw [HQ.out] at ho10
          obtain ⟨pa, pc, rfl, hpc, hpm, hpat, -, -⟩ := OwnR.read es_len ho10
          rw [HM1.out] at hpc ⊢
          obtain ⟨c0, h0⟩ : ∃ v, cntI ls 0 = v := ⟨_, rfl⟩
          obtain ⟨c1, h1⟩ : ∃ v, cntI ls 1 = v := ⟨_, rfl⟩
          obtain ⟨c2, h2⟩ : ∃ v, cntI ls 2 = v := ⟨_, rfl⟩
          obtain ⟨c3, h3⟩ : ∃ v, cntI ls 3 = v := ⟨_, rfl⟩
          have HC4 := Lib.hid (show cnt4 ls = #[.int .i64 c0, .int .i64 c1, .int .i64 c2, .int .i64 c3] from by unfold cnt4; simp only [h0, h1, h2, h3])
          have HCX := Lib.hid (show w10.heap[r]? = some (.cells #[.int .i64 c0, .int .i64 c1, .int .i64 c2, .int .i64 c3] 45 (0, 0)) from by have := blk_ext hb10 HC9.out; rw [HC4.out] at this; exact this)
          have HPA := Lib.hid hpat
          have HSA2 := Lib.hid (SAt.ext HSA.out hb10)
          have HB10 := Lib.hid (ext_trans HBB.out hb10)
          have HA10 := Lib.hid (HA.out.ext HB10.out)
          have heq := fun w => eq4 c0 c1 c2 c3 w
          have z0 : w10.cell? ⟨r, 0, none⟩ = some (.int .i64 c0) := by rw [blk_cell HCX.out]; rfl
          have z1 : w10.cell? ⟨r, 1, none⟩ = some (.int .i64 c1) := by rw [blk_cell HCX.out]; rfl
          have z2 : w10.cell? ⟨r, 2, none⟩ = some (.int .i64 c2) := by rw [blk_cell HCX.out]; rfl
          have z3 : w10.cell? ⟨r, 3, none⟩ = some (.int .i64 c3) := by rw [blk_cell HCX.out]; rfl
          have lz := blk_lt HCX.out
          clear ho10 hb10 hpat h0 h1 h2 h3 HSA HBB
          unfold maxLen at hpm
          go_wp2_with fail
          haveI hIq : Nonempty (Of w10) := of_some _
          have hF0 := of_cell z0
          have hF1 := of_cell z1
          have hF2 := of_cell z2
          have hF3 := of_cell z3
          first | (refine wp_region_stay w10 (by kernel_rfl) (by kernel_rfl) (by go_grown) ?_) | (refine wp_region_stay_seq w10 (by go_grown) ?_)
          repeat (go_big_quiet_step ((go_at_call 13; with_reducible refine stay_as (lookCount a n c ls _ (HA10.out.ext (In.h _)) HN.out (by omega) hnc) (congrArg Value.agg HC4.out))))
          refine wpQuiet_nil ?_
          intro w11 hb11
          clear hIq hF0 hF1 hF2 hF3
          
          have HB11 := Lib.hid (ext_trans HB10.out hb11)
          have HP11 := Lib.hid (SAt.ext HPA.out hb11)
          have HS11 := Lib.hid (SAt.ext HSA2.out hb11)
          clear hb11 z0 z1 z2 z3 lz heq
          go_wp2_with fail
          go_loopw [126] (fun i wr => ∃ I : Nat, I ≤ m1 ∧ i = .int .i64 (I : Int) ∧ Below w11.heap.size w11 wr) (fun i _ => m1 - (intOf i).toNat)
          case atStart => exact ⟨0, by omega, rfl, Below.refl _ _⟩
          case round =>
            obtain ⟨w12, rfl⟩ : ∃ y : World, y = wr := ⟨_, rfl⟩
            obtain ⟨I, hI, rfl, hb12⟩ := hrel
            by_cases hlI : I < m1
            · obtain ⟨y, hy⟩ : ∃ y : ByteArray, S[I]? = some y.data.toList := ⟨⟨⟨S[I]'(by have := HM1.out; omega)⟩⟩, List.getElem?_eq_getElem (by have := HM1.out; omega)⟩
              obtain ⟨b1, o1, rfl⟩ : ∃ b o, pa = some ⟨b, o, none⟩ := by
                rcases HP11.out with h | ⟨b, o, e, _⟩
                · rw [h] at hy; simp at hy
                · exact ⟨b, o, e⟩
              obtain ⟨b2, o2, rfl⟩ : ∃ b o, ga = some ⟨b, o, none⟩ := by
                rcases HS11.out with h | ⟨b, o, e, _⟩
                · rw [h] at hy; simp at hy
                · exact ⟨b, o, e⟩
              have k0 := StAt.at (SAt.ext HP11.out hb12) hy
              have k1 := StAt.at (SAt.ext HS11.out hb12) hy
              have HB12 := Lib.hid hb12
              clear hy hb12
              go_wp2_with fail
              haveI hIq : Nonempty (Of w12) := of_some _
              have hF0 := of_cell k0
              have hF1 := of_cell k1
              first | (refine wp_region_stay w12 (by kernel_rfl) (by kernel_rfl) (by go_grown) ?_) | (refine wp_region_stay_seq w12 (by go_grown) ?_)
              repeat (go_big_quiet_step (fail))
              refine wpQuiet_nil ?_
              intro w13 hb13
              clear hIq hF0 hF1
              
              have HB13 := Lib.hid (ext_trans HB12.out hb13)
              clear hb13 k0 k1
              go_wp2
              go_roundw
              case rel => exact ⟨I + 1, by omega, by go_num, HB13.out⟩
              case measure => simp [intOf]; omega
            · have HB13 := Lib.hid (ext_trans HB11.out hb12)
              clear hb12
              go_wp2
              go_ret
              exact ⟨rfl, HB13.out⟩


set_option maxRecDepth 100000 in
set_option maxHeartbeats 1000000 in
theorem law23same (a : Option Addr) (n c : Nat) (ls : List Cd) (app : ByteArray) (turn : Int) (w : World) (h : CAt w a ls) (hl : ls.length = n) (hn : n ≤ 19) (hnc : n ≤ c) :
    Calls Try.prog 7 #[.slice a n c, .string app, .int .i64 turn] w fun e w' => e = .returned (.bool true) ∧ Below w.heap.size w w' := by
  by_cases h0 : (fnd app ls).length = 0
  · exact law23sameNo a n c ls app turn w h hl hn hnc h0
  · exact law23sameYes a n c _ ls app turn w h hl hn hnc rfl (by omega)


end Go.Proofs.Ytkblblcjkkgbeaa
