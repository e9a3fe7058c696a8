/- Layer 8's law: both nets show the same. -/
import Derived.Test.YtkkmnodhmmdllaaN8H
namespace Go.Proofs.Ytkkmnodhmmdllaa
open Go.RowKit
set_option linter.unusedVariables false
set_option linter.unusedSimpArgs false

theorem Fit.grownL {w w' : World} {ms : List Lt} {bl : List ML} {base n : Nat} {v : Value} {xs : List Value} (h : Fit w ms bl) (ho : w.ownsRow base 34 3 v n xs) (hg : w.grownBy w' v.ownBlock) : Fit w' ms bl :=
  h.types fun b cur hc => hg.block b (blk_lt hc) (fun e => by
    rcases ho.2 with ⟨e1, _⟩ | ⟨g, cap', cur', e1, hg', hh, _⟩
    · rw [e1] at e; simp [Value.ownBlock] at e
    · rw [e1] at e
      simp [Value.ownBlock] at e
      subst e
      rw [hh] at hc
      simp at hc)
set_option maxRecDepth 100000 in
set_option maxHeartbeats 2000000 in
theorem pnAll (nb nodes : Nat) (bl : List ML) (p : List Bool) (w : World) (h : PN w nb nodes bl p) :
    Calls Try.prog 33 #[.pointer (some ⟨nb, 0, none⟩)] w fun r w' => ∃ a c ms, r = .returned (.slice a bl.length c) ∧ OwnL w.heap.size w' (.slice a bl.length c) ms ∧ Fit w' ms bl ∧ Below w.heap.size w w' := by
  obtain ⟨ls, h1, h2⟩ := h
  obtain ⟨a0, c0, hB, hO⟩ := h1.open
  obtain ⟨n, hl⟩ : ∃ n, ls.length = n := ⟨_, rfl⟩
  have hn64 : n ≤ 64 := by rw [← hl]; exact h1.2.2.1
  have HL := Lib.hid hl
  have HLB := Lib.hid (show bl.length = n from by rw [← h2.1, hl])
  have HF := Lib.hid h2
  rw [hl] at hB hO
  rw [HLB.out]
  have HB := Lib.hid hB
  have HO := Lib.hid hO
  have k1 := hB.c1
  have l1 := hB.lt
  obtain ⟨i0, hi, hz0, hz1, hz2⟩ := info_parts info_letter
  obtain ⟨X, hX, hmk⟩ : ∃ X : Array Value, X.size = n * 3 ∧ ∀ w : World, (Instr.makeSlice 57 (.int .i64 0) (.int .i64 (n : Int))).run Try.prog w = .ok (.slice (some ⟨w.heap.size, 0, none⟩) 0 n) (w.alloc (.cells X 34)) :=
    ⟨madeCells (Value.agg #[.int .i64 0, .int .i64 0, .slice none 0 0]).cells (n * 3), by rw [size_madeCells], fun w => by
      have := run_make (P := Try.prog) w 57 34 i0 (.agg #[.int .i64 0, .int .i64 0, .slice none 0 0]) Try.underlying57 hi hz0 .i64 .i64 0 n (by omega) (by omega) (by rw [hz2]; omega) (by omega)
      rw [hz1] at this
      exact this⟩
  have HX := Lib.hid hX
  have O1 := Lib.hid (show (w.alloc (.cells X 34)).ownsRow w.heap.size 34 3 (.slice (some ⟨w.heap.size, 0, none⟩) 0 n) 0 (lf []) from World.ownsRow_made w X n (Nat.le_refl _) (by unfold maxLen; omega) (by rw [HX.out]))
  have B1 := Lib.hid (show Below w.heap.size w (w.alloc (.cells X 34)) from (Below.refl _ _).alloc (Nat.le_refl _) _)
  clear h1 h2 hB hO hl hX
  go_enter Try.func33, Try.ntmps33
  go_wp2_with fail
  clear hmk
  go_loopw [3, 17] (fun v j wr => ∃ (J : Nat) (a : Option Addr) (c : Nat) (ms : List Lt), J ≤ n ∧ j = .int .i64 (J : Int) ∧ v = .slice a J c ∧ ms.length = J ∧ OwnL w.heap.size wr v ms ∧ Fit wr ms (bl.take J) ∧ Below w.heap.size w wr) (fun v j _ => n - (intOf j).toNat)
  case atStart => exact ⟨0, _, _, [], by omega, rfl, rfl, rfl, O1.out, Fit.nil _, B1.out⟩
  case round =>
    obtain ⟨wr, rfl⟩ : ∃ y : World, y = wr := ⟨_, rfl⟩
    obtain ⟨J, a, c, ms, hJ, rfl, rfl, hml, hom, hfm, hbm⟩ := hrel
    have HM := Lib.hid hom
    have HFM := Lib.hid hfm
    have HBM := Lib.hid hbm
    have HML := Lib.hid hml
    clear hom hfm hbm hml O1 B1 k1 l1
    by_cases hlt : J < n
    · have hlti : (J : Int) < (n : Int) := by omega
      obtain ⟨m, hm⟩ : ∃ m, bl[J]? = some m := ⟨_, List.getElem?_eq_getElem (by rw [HLB.out]; exact hlt)⟩
      obtain ⟨x, hx, e1, e2, e3, e4⟩ := (HF.out.ext (w' := wr) (HBM.out)).at hm
      have HTK := Lib.hid (show bl.take (J + 1) = bl.take J ++ [m] from by rw [List.take_add_one, hm]; rfl)
      obtain ⟨g, rfl, -, hgl, hnc, hcm⟩ := (OwnL.ext HO.out HBM.out).some HL.out (by omega)
      obtain ⟨x0, x1, x2⟩ := (OwnL.ext HO.out HBM.out).at hx
      have E4 := Lib.hid (show Below wr.heap.size wr (wr.alloc (.cells #[.int .i64 x.f, .int .i64 x.t, .slice x.a x.n x.c] 34)) from (Below.refl _ _).alloc (Nat.le_refl _) _)
      have HK4 := Lib.hid (blk_new wr #[.int .i64 x.f, .int .i64 x.t, .slice x.a x.n x.c] 34)
      have HE := Lib.hid (And.intro e1 (And.intro e2 e4))
      have HOB := Lib.hid (e3.ext E4.out)
      have HM4 := Lib.hid (OwnL.ext HM.out E4.out)
      have HFM4 := Lib.hid (HFM.out.ext E4.out)
      have HBM4 := Lib.hid (ext_trans HBM.out E4.out)
      unfold maxLen at hcm
      clear hm hx e1 e2 e3 e4 HM HFM HBM
      go_upto_region 5 with (fail)
      obtain ⟨p4, hp4⟩ : ∃ r, wr.heap.size = r := ⟨_, rfl⟩
      rw [hp4] at HK4
      try rw [hp4]
      clear hp4 E4 x0 x1 x2 hgl
      generalize (wr.alloc (.cells #[.int .i64 x.f, .int .i64 x.t, .slice x.a x.n x.c] 34)) = w4 at *
      have hk := blk_cell HK4.out
      have hkl := blk_lt HK4.out
      go_wp2_with fail
      refine (copied x m.xs _ HOB.out.read.1 HOB.out.read.2 (by have := HE.out.2.2; have := HOB.out.read.2; omega)).mono ?_
      rintro e w5 ⟨y, rfl, hyf, hyt, hyo, hb5⟩
      have HY := Lib.hid (And.intro hyf hyt)
      have HYO := Lib.hid (show OwnB 0 w5 y m.xs from ownsRow_base hyo (Nat.zero_le _))
      have HM5 := Lib.hid (OwnL.ext HM4.out hb5)
      have HFM5 := Lib.hid (HFM4.out.ext hb5)
      have HBM5 := Lib.hid (ext_trans HBM4.out hb5)
      have E5 := Lib.hid (show Below w5.heap.size w5 (w5.alloc (.cells #[.int .i64 y.f, .int .i64 y.t, .slice y.a y.n y.c] 34)) from (Below.refl _ _).alloc (Nat.le_refl _) _)
      clear hyf hyt hyo hb5 HM4 HFM4 HBM4 hk hkl HK4 HOB
      go_wp2_with (at_builtin; refine wpList_append_own _ rfl _ _ 57 rfl (w.heap.size) 34 i0 (.agg #[.int .i64 0, .int .i64 0, .slice none 0 0]) 3 40 Try.underlying57 hi hz0 hz1 hz2 rfl (by decide) (.slice a J c) J (lf ms) rfl (by have := OwnL.ext HM5.out E5.out; unfold OwnL at this; rwa [HML.out] at this) ⟨w5.heap.size, 0, none⟩ 1 1 (lc y) rfl rfl ?c1 ?c2 ?c3 ?c4 ?c5 ?_)
      case c1 =>
        intro j u hj
        rw [add_off, Nat.zero_add, blk_cell (blk_new w5 #[.int .i64 y.f, .int .i64 y.t, .slice y.a y.n y.c] 34)]
        simpa [lc] using hj
      case c2 =>
        intro u hu
        simp [lc] at hu
        rcases hu with rfl | rfl | rfl <;> rfl
      case c3 => unfold maxLen; omega
      case c4 => omega
      case c5 => have := HBM5.out.size; simp; omega
      intro vz wz hoz hgz _
      have HMZ := Lib.hid (show (ms ++ [y]).length = J + 1 from by rw [List.length_append, HML.out]; rfl)
      have HOZ := Lib.hid (show OwnL w.heap.size wz vz (ms ++ [y]) from by unfold OwnL; rw [HMZ.out, lf_app]; simpa [lf, lc] using hoz)
      have HW5 := Lib.hid (show ((w5.alloc (.cells #[.int .i64 y.f, .int .i64 y.t, .slice y.a y.n y.c] 34))).ownsRow w.heap.size 34 3 (.slice a J c) J (lf ms) from by have := OwnL.ext HM5.out E5.out; unfold OwnL at this; rwa [HML.out] at this)
      have HFZ := Lib.hid (Fit.grownL ((HFM5.out.snoc (HY.out.1.trans HE.out.1) (HY.out.2.trans HE.out.2.1) HYO.out HE.out.2.2).ext E5.out) HW5.out hgz)
      have HBZ := Lib.hid (Below.grown (ext_trans HBM5.out E5.out) hgz (Nat.le_trans HBM5.out.size E5.out.size) (fun q hq => own_ge HW5.out hq))
      obtain ⟨az, cz, ez, -, -, -⟩ := HOZ.out.form
      rw [HMZ.out] at ez
      subst ez
      clear hoz hgz E5 HM5 HFM5 HBM5 HW5 HYO
      go_wp2
      go_roundw
      case rel => exact ⟨J + 1, az, cz, ms ++ [y], by omega, by go_num, rfl, HMZ.out, HOZ.out, by rw [HTK.out]; exact HFZ.out, HBZ.out⟩
      case measure => simp [intOf]; omega
    · obtain rfl : J = n := by omega
      have hltd : decide ((J : Int) < (J : Int)) = false := by simp
      go_wp2
      go_ret
      exact ⟨a, c, ms, rfl, HM.out, by have := HFM.out; rwa [List.take_of_length_le (by rw [HLB.out]; exact Nat.le_refl _)] at this, HBM.out⟩

theorem pnPartedP (nb nodes : Nat) (bl : List ML) (p : List Bool) (a b : Int) (y : Bool) (w : World) (h : PN w nb nodes bl p) (hy : prB nodes p a b = y) :
    Calls Try.prog 14 #[.pointer (some ⟨nb, 0, none⟩), .int .i64 a, .int .i64 b] w fun e w' => e = .returned (.bool y) ∧ w = w' := by
  subst hy
  obtain ⟨ls, h1, h2⟩ := h
  exact nsParted nb nodes ls p a b w h1
theorem nsLenP (nb nodes : Nat) (bl : List ML) (p : List Bool) (w : World) (n : Nat) (h : PN w nb nodes bl p) (hn : bl.length = n) :
    Calls Try.prog 11 #[.pointer (some ⟨nb, 0, none⟩)] w fun e w' => e = .returned (.int .i64 (n : Int)) ∧ w = w' := by
  obtain ⟨ls, h1, h2⟩ := h
  refine (nsLen nb nodes ls p w h1).mono ?_
  rintro e w' ⟨rfl, hw⟩
  exact ⟨by rw [h2.1, hn], hw⟩
set_option maxRecDepth 100000 in
set_option maxHeartbeats 2000000 in
theorem law8same (nb rb nodes : Nat) (bl : List ML) (p : List Bool) (w : World) (h : PN w nb nodes bl p) (hr : RN w rb nodes bl p) :
    Calls Try.prog 23 #[.pointer (some ⟨nb, 0, none⟩), .pointer (some ⟨rb, 0, none⟩)] w fun r w' => r = .returned (.bool true) ∧ Below w.heap.size w w' := by
  have HN := Lib.hid h
  obtain ⟨n, hl⟩ : ∃ n, bl.length = n := ⟨_, rfl⟩
  have HL := Lib.hid hl
  have HRR := Lib.hid hr
  obtain ⟨g1, g2, g3, ra, rc, g4, g5, g6, g7, g8⟩ := hr
  rw [hl] at g4 g5 g3
  have HRB := Lib.hid g4
  have HRS := Lib.hid g7
  have HP := Lib.hid g2
  have hn64 : n ≤ 64 := g3
  unfold maxLen at g6
  clear h g4 g7 hl g2 g3 g8
  go_enter Try.func23, Try.ntmps23
  go_wp2_with fail
  refine (pnAll nb nodes bl p _ HN.out).mono ?_
  rw [HL.out]
  rintro e w1 ⟨aa, ac, ms, rfl, hom, hfm, hb1⟩
  have HM := Lib.hid hom
  have HFM := Lib.hid hfm
  have HN1 := Lib.hid (HN.out.ext hb1)
  have HRB1 := Lib.hid (HRB.out.ext hb1)
  have HRS1 := Lib.hid (SAt.ext HRS.out hb1)
  have HRR1 := Lib.hid (HRR.out.ext hb1)
  have HD1 := Lib.hid hb1
  clear hom hfm hb1 HN HRB HRS HRR
  have k1 := HRB1.out.c1
  have l1 := HRB1.out.lt
  have hee : ∀ z : Int, (z != z) = false := fun z => by simp
  go_upto_region 2 with (fail)
  haveI hIq : Nonempty (Of w1) := of_some _
  have hF0 := of_cell k1
  first | (refine wp_region_stay w1 (by kernel_rfl) (by kernel_rfl) (by go_grown) ?_) | (refine wp_region_stay_seq w1 (by go_grown) ?_)
  repeat (go_big_quiet_step ((go_at_call 11; with_reducible refine stay_same (nsLenP nb nodes bl p _ n (HN1.out.ext (In.h _)) HL.out))))
  refine wpQuiet_nil ?_
  intro w2 hb2
  clear hIq hF0
  have HM2 := Lib.hid (OwnL.ext HM.out hb2)
  have HFM2 := Lib.hid (HFM.out.ext hb2)
  have HN2 := Lib.hid (HN1.out.ext hb2)
  have HRB2 := Lib.hid (HRB1.out.ext hb2)
  have HRS2 := Lib.hid (SAt.ext HRS1.out hb2)
  have HRR2 := Lib.hid (HRR1.out.ext hb2)
  have HD2 := Lib.hid (ext_trans HD1.out hb2)
  clear hb2 k1 l1 HM HFM HN1 HRB1 HRS1 HRR1 HD1
  go_wp2_with fail
  go_loopw [31] (fun j wr => ∃ J : Nat, J ≤ n ∧ j = .int .i64 (J : Int) ∧ Below w2.heap.size w2 wr) (fun j _ => n - (intOf j).toNat)
  case atStart => exact ⟨0, by omega, rfl, Below.refl _ _⟩
  case round =>
    obtain ⟨w3, rfl⟩ : ∃ y : World, y = wr := ⟨_, rfl⟩
    obtain ⟨J, hJ, rfl, hb3⟩ := hrel
    have HB3 := Lib.hid hb3
    clear hb3
    by_cases hlt : J < n
    · have hlti : (J : Int) < (n : Int) := by omega
      obtain ⟨m, hm⟩ : ∃ m, bl[J]? = some m := ⟨_, List.getElem?_eq_getElem (by rw [HL.out]; exact hlt)⟩
      obtain ⟨x, hx, e1, e2, e3, e4⟩ := (HFM2.out.ext HB3.out).at hm
      have hmsl : ms.length = n := by rw [HFM2.out.1, HL.out]
      obtain ⟨g, rfl, -, hgl, hnc, hcm⟩ := (OwnL.ext HM2.out HB3.out).some hmsl (by omega)
      obtain ⟨x0, x1, x2⟩ := (OwnL.ext HM2.out HB3.out).at hx
      obtain ⟨b, o, rfl⟩ : ∃ b o, ra = some ⟨b, o, none⟩ := by
        rcases HRS2.out with h | ⟨b, o, e, _⟩
        · have := HL.out; rw [h] at this; simp at this; omega
        · exact ⟨b, o, e⟩
      have y0 := (SAt.ext HRS2.out HB3.out).get rlc_len hm 0 _ rfl
      have y1 := (SAt.ext HRS2.out HB3.out).get rlc_len hm 1 _ rfl
      have y2 := (SAt.ext HRS2.out HB3.out).get rlc_len hm 2 _ rfl
      simp only [Nat.add_zero] at y0
      have hybl := cell_lt y0
      have k1 := (HRB2.out.ext HB3.out).c1
      have l1 := (HRB2.out.ext HB3.out).lt
      rw [e1] at x0
      rw [e2] at x1
      obtain ⟨SS, hSS⟩ : ∃ SS, strOfNums m.xs = SS := ⟨_, rfl⟩
      have hcv := (show ∀ g : Of w3, (convert 23 9 (.slice x.a x.n x.c)).run Try.prog g.w = .ok (.string SS) g.w from fun g => by rw [← hSS]; exact run_text g.w 23 5 Try.underlying23 Try.underlying5 9 Try.underlying9 x.a x.n x.c m.xs e3.read.2 (e3.ext g.h).read.1)
      rw [hSS] at y2
      unfold maxLen at hcm
      clear hm hx e1 e2 e3 e4 hmsl hSS
      go_upto_region 7 with (fail)
      haveI hIq : Nonempty (Of w3) := of_some _
      have hF0 := of_cell k1
      have hF1 := of_cell x0
      have hF2 := of_cell x1
      have hF3 := of_cell x2
      have hF4 := of_cell y0
      have hF5 := of_cell y1
      have hF6 := of_cell y2
      first | (refine wp_region_stay w3 (by kernel_rfl) (by kernel_rfl) (by go_grown) ?_) | (refine wp_region_stay_seq w3 (by go_grown) ?_)
      repeat (go_big_quiet_step (fail))
      refine wpQuiet_nil ?_
      intro w4 hb4
      clear hIq hF0 hF1 hF2 hF3 hF4 hF5 hF6
      have HB4 := Lib.hid (ext_trans HB3.out hb4)
      clear hb4 k1 l1 x0 x1 x2 y0 y1 y2 hybl hgl hcv HB3
      go_wp2
      go_roundw
      case rel => exact ⟨J + 1, by omega, by go_num, HB4.out⟩
      case measure => simp [intOf]; omega
    · obtain rfl : J = n := by omega
      have hltd : decide ((J : Int) < (J : Int)) = false := by simp
      have HN4 := Lib.hid (HN2.out.ext HB3.out)
      have HRR4 := Lib.hid (HRR2.out.ext HB3.out)
      have HRB4 := Lib.hid (HRB2.out.ext HB3.out)
      have HD4 := Lib.hid (ext_trans HD2.out HB3.out)
      clear HN2 HRR2 HRB2 HD2 HB3 HM2 HFM2 HRS2
      have k0 := HRB4.out.c0
      have l0 := HRB4.out.lt
      go_wp2_with fail
      go_loopw [7] (fun j wr => ∃ A : Int, -1 ≤ A ∧ A ≤ (nodes : Int) + 1 ∧ j = .int .i64 A ∧ wr = w3) (fun j _ => ((nodes : Int) + 1 - intOf j).toNat)
      case atStart => exact ⟨-1, by omega, by omega, rfl, rfl⟩
      case round =>
        obtain ⟨A, hA1, hA2, rfl, rfl⟩ := hrel
        by_cases hlt : A ≤ (nodes : Int)
        · have hltd2 : decide (A ≤ (nodes : Int)) = true := decide_eq_true hlt
          go_wp2_with fail
          go_loopw [8] (fun j wr2 => ∃ B : Int, -1 ≤ B ∧ B ≤ (nodes : Int) + 1 ∧ j = .int .i64 B ∧ wr2 = wr) (fun j _ => ((nodes : Int) + 1 - intOf j).toNat)
          case atStart => exact ⟨-1, by omega, by omega, rfl, rfl⟩
          case round =>
            obtain ⟨B, hB1, hB2, rfl, rfl⟩ := hrel
            by_cases hltb : B ≤ (nodes : Int)
            · have hltd3 : decide (B ≤ (nodes : Int)) = true := decide_eq_true hltb
              obtain ⟨y, hy⟩ : ∃ y, prB nodes p A B = y := ⟨_, rfl⟩
              have HY := Lib.hid hy
              clear hy
              go_wp2_with fail
              refine (pnPartedP nb nodes bl p A B y _ HN4.out HY.out).mono ?_
              rintro e wx ⟨rfl, rfl⟩
              go_wp2_with fail
              refine (rnPartedP rb nodes _ p A B y _ HRB4.out g1 HP.out HY.out).mono ?_
              rintro e wx ⟨rfl, rfl⟩
              rcases y with _ | _
              · go_wp2
                go_roundw
                case rel => exact ⟨B + 1, by omega, by omega, by go_num, by first | rfl | trivial⟩
                case measure => simp [intOf]; omega
              · go_wp2
                go_roundw
                case rel => exact ⟨B + 1, by omega, by omega, by go_num, by first | rfl | trivial⟩
                case measure => simp [intOf]; omega
            · have hltd3 : decide (B ≤ (nodes : Int)) = false := decide_eq_false hltb
              go_wp2
              go_roundw
              case rel => exact ⟨A + 1, by omega, by omega, by go_num, by first | rfl | trivial⟩
              case measure => simp [intOf]; omega
        · have hltd2 : decide (A ≤ (nodes : Int)) = false := decide_eq_false hlt
          go_wp2
          go_ret
          exact ⟨rfl, HD4.out⟩

end Go.Proofs.Ytkkmnodhmmdllaa
