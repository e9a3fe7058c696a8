/- Layer 3's laws, walked: FrameStops. -/
import Derived.Test.YtiblnonmlekjgaaFrameB
import Derived.Test.YtiblnonmlekjgaaFrameP
namespace Go.Proofs.Ytiblnonmlekjgaa
open Go.RowKit
set_option linter.unusedVariables false

/-- whether the stream has refused, behind p frames of which number k is wrong -/
def wy (k p : Nat) : Int := if p ≤ k then 0 else 13
theorem wy_lt {k p : Nat} (h : p ≤ k) : wy k p = 0 := if_pos h
theorem wy_ge {k p : Nat} (h : ¬ p ≤ k) : wy k p = 13 := if_neg h

set_option maxRecDepth 100000 in
set_option maxHeartbeats 4000000 in
theorem frameStops_walk (a0 : Option Addr) (len cap : Nat) (ro : Nat → Option Addr) (rl rc : Nat → Nat) (rx : Nat → List Int) (t1 : Int) (am : Option Addr) (nm cm : Nat) (ms : List Int) (w : World) (h0 : IsRows w a0 len cap ro rl rc rx) (ht1 : (Lit.int .i64 t1).wf = true) (hm0 : IsRow .u8 w am nm cm ms) (hnm : nm ≤ 1048576) :
    Calls Try.prog 6 #[.slice a0 len cap, .int .i64 t1, .slice am nm cm] w fun e w' => e = .returned (.bool true) ∧ Below w.heap.size w w' := by
  have H0 := Lib.hid h0
  have hcap := h0.1
  have hmx := h0.2.1
  have hb1 := bounds_i64 ht1
  obtain ⟨hMA, hML, hMc, hMm, hMW⟩ := bat_row hm0
  have HMA := Lib.hid hMA
  have HML := Lib.hid hML
  have HMW := Lib.hid hMW
  unfold maxLen at hmx hMm
  obtain ⟨n, hn, hn1, hn2⟩ : ∃ n : Nat, min (len : Int) 6 = (n : Int) ∧ n ≤ len ∧ n ≤ 6 := ⟨min len 6, by omega, by omega, by omega⟩
  clear h0 ht1 hm0 hMA hML hMW
  go_enter Try.func6, Try.ntmps6
  go_wp2_with fail
  refine (frameNew w).mono ?_
  rintro e w0 ⟨rfl, hst0, hB0⟩
  have HS0 := Lib.hid hst0
  obtain ⟨sb, hsb⟩ : ∃ sb, w.heap.size = sb := ⟨_, rfl⟩
  have hsbe : w.heap.size ≤ sb := by omega
  rw [hsb]
  have HS0' := Lib.hid (show StV w.heap.size w0 sb (.slice none 0 0) [] 0 from ⟨by have := HS0.out.1; rw [hsb] at this; exact this, World.ownsRow_nil _ _ _ _, Wb.nil⟩)
  clear hst0 hsb HS0
  go_wp2_with fail
  refine (within_any t1 0 (n : Int) _ (by omega) (by omega) (by omega) (by omega) (by omega)).mono ?_
  rintro e w1' ⟨rfl, rfl⟩
  have hy1 := win_lo t1 0 (n : Int) (by omega)
  have hy2 := win_hi t1 0 (n : Int) (by omega)
  generalize win t1 0 (n : Int) = z at *
  obtain ⟨kk, rfl⟩ := Int.eq_ofNat_of_zero_le hy1
  have hkn : kk ≤ n := by omega
  clear hy1 hy2 hn hb1
  go_wp2_with fail
  go_loopw [10] (fun i wr => ∃ (p : Nat) (v : Value), p ≤ n ∧ i = .int .i64 (p : Int) ∧ StV w.heap.size wr sb v [] (wy kk p) ∧ (∀ g, v.ownBlock = some g → g ≠ sb) ∧ Below w.heap.size w wr) (fun i _ => n - (intOf i).toNat)
  case atStart => exact ⟨0, .slice none 0 0, by omega, rfl, by rw [wy_lt (by omega)]; exact HS0'.out, fun g e => by simp [Value.ownBlock] at e, hB0⟩
  case round =>
    obtain ⟨w1, rfl⟩ : ∃ y : World, y = wr := ⟨_, rfl⟩
    obtain ⟨p, v, hp, rfl, hst, hsv, B1⟩ := hrel
    have HS := Lib.hid hst
    clear hst hB0 HS0'
    by_cases hg1 : p < n
    · obtain ⟨nb, no, rfl, hz⟩ := H0.out.2.2.2.resolve_left (by omega)
      have hcell := ext_cell B1 (hz p (by omega))
      obtain ⟨hbA, hbL, hbC, hbM, hbW⟩ := H0.out.2.2.1 p (by omega)
      generalize ro p = ra at *
      generalize rc p = rcap at *
      generalize rl p = m0 at *
      generalize rx p = xs0 at *
      unfold maxLen at hbM
      clear hz
      by_cases h50 : 30 < m0
      · obtain ⟨xs, hxs⟩ : ∃ xs, xs0.take 30 = xs := ⟨_, rfl⟩
        have HW := Lib.hid (show Wb xs by rw [← hxs]; exact hbW.take 30)
        have HOLD := Lib.hid (show BAt w ra xs by rw [← hxs]; exact hbA.take 30)
        have h_old : ∀ u, Below w.heap.size w u → BAt u ra xs := fun u hu => HOLD.out.ext hu
        have hxl : xs.length = 30 := by rw [← hxs, List.length_take]; omega
        clear hxs
        go_upto_region 12 with (fail)
        obtain ⟨m, hm⟩ : ∃ m, 30 = m := ⟨_, rfl⟩
        rw [hm]
        have hm50 : m ≤ 30 := by omega
        have HM := Lib.hid (hxl.trans hm)
        clear hm hxl
        rcases (by omega : p < kk ∨ p = kk ∨ kk < p) with hpk | hpk | hpk
        · have HA1 := Lib.hid (h_old _ B1)
          have hd2 : decide ((p : Int) < kk) = true := by simp; omega
          have hd2n : decide (p < kk) = true := by simp; omega
          have hd4n : decide (kk ≤ p) = false := by simp; omega
          have hd3 : ((p : Int) == (kk : Int)) = false := by simp; omega
          have hd4 : decide ((kk : Int) ≤ p) = false := by simp; omega
          go_wp2_with fail
          refine (frameBytes ra m rcap xs _ HA1.out HM.out (by omega) HW.out).mono ?_
          rintro e w2 ⟨v2, rfl, ho, hb⟩
          have B2 := ext_trans B1 hb
          have S2 := Lib.hid (HS.out.ext hb)
          obtain ⟨y, hy⟩ : ∃ y, y = fr xs := ⟨_, rfl⟩
          have hyl : y.length = m + 8 := by rw [hy, fr_len, HM.out]
          have HYW := Lib.hid (show Wb y by rw [hy]; exact fr_wb xs HW.out)
          rw [← hy] at ho
          obtain ⟨af, cf, rfl, -, hcf, hmf, hAf, hownf, -⟩ := own_read ho
          have HUf := Lib.hid (own_uat ho)
          obtain ⟨gf, of, rfl⟩ : ∃ gf of, af = some ⟨gf, of, none⟩ := by
            rcases hAf with h | ⟨b, o, e, _⟩
            · rw [h] at hyl; simp at hyl
            · exact ⟨b, o, e⟩
          obtain ⟨-, hgf1, hgf2, hof0⟩ := hownf gf of rfl
          subst hof0
          rw [hyl] at hcf ⊢
          have HY := Lib.hid hy
          have HYL := Lib.hid hyl
          have HAf := Lib.hid hAf
          have hw1s := B1.size
          have hgfs : sb < gf := by have := HS.out.lt; omega
          have HNv := Lib.hid (show ∀ g, v.ownBlock = some g → g ≠ gf from fun g e => by have := (HS.out.2.1.lt g e).2; omega)
          unfold maxLen at hmf
          clear ho hb hAf hownf hy hyl HS HA1
          have S2' := Lib.hid (by have h := S2.out; rw [wy_lt (by omega)] at h; exact h : StV w.heap.size w2 sb v [] 0)
          go_wp2_with fail
          refine (frameFeed w.heap.size sb v [] (some ⟨gf, 0, none⟩) (m + 8) cf y _ S2'.out (by omega) hsv HAf.out HYL.out HYW.out (by simp; omega)).mono ?_
          rintro e w4 ⟨fv, v4, fsx, l', why', vals, rfl, hr, hst, hof, hva, hfw, hown⟩
          rw [List.nil_append] at hr
          have B4 := B2.trans (hfw.below (by omega) (fun g e => (S2'.out.2.1.lt g e).1) B2.size)
          have hrr : Runs y [] ([xs], [], 0) := by
            have h2 := runs_fr (xs := xs) (ys := []) (acc := []) (by rw [HM.out]; omega) (runs_nil [xs])
            rw [List.append_nil] at h2
            rw [HY.out]
            exact h2
          have h1 := hr.one hrr
          simp only [Prod.mk.injEq] at h1
          obtain ⟨rfl, rfl, rfl⟩ := h1
          have HV4 := Lib.hid (show ∀ g, v4.ownBlock = some g → g ≠ sb from fun g e => by
            rcases hown g e with h | h
            · exact hsv g h
            · have := S2'.out.lt; omega)
          obtain ⟨ax, cx, hvx, hax, -, -, -, -⟩ := hva.2 0 xs rfl
          obtain ⟨af2, cf2, rfl⟩ := own_form hof
          obtain ⟨gx, hcx0, rfl⟩ := own_cell hof hvx
          have hcap1 := own_cap hof
          simp only [List.length_cons, List.length_nil, Nat.zero_add] at hcap1
          have HS4 := Lib.hid hst
          rw [HM.out] at hcx0
          have HC0 := Lib.hid hcx0
          have hcv1 := Lib.hid (show ∀ g : Of w4, (convert 22 9 (.slice ax m cx)).run Try.prog g.w = .ok (.string (strOfNums xs)) g.w from fun g => run_text g.w 22 5 Try.underlying22 Try.underlying5 9 Try.underlying9 ax m cx xs HM.out (hax.ext g.h))
          have hcv2 := Lib.hid (show ∀ g : Of w4, (convert 22 9 (.slice ra m rcap)).run Try.prog g.w = .ok (.string (strOfNums xs)) g.w from fun g => run_text g.w 22 5 Try.underlying22 Try.underlying5 9 Try.underlying9 ra m rcap xs HM.out ((h_old _ B4).ext g.h))
          clear hr hst hof hva hax hrr hvx hcx0 hfw hown S2 S2'
          go_wp2_with fail
          haveI hIq : Nonempty (Of w4) := of_some _
          have hF0 := of_cell HC0.out
          have hF1 := hcv1.out
          have hF2 := hcv2.out
          refine wp_region_stay w4 (by kernel_rfl) (by kernel_rfl) (by go_grown) ?_
          repeat (go_big_quiet_step (fail))
          refine wpQuiet_nil ?_
          intro w5 hb
          clear hIq hF0 hF1 hF2
          have B5 := ext_trans B4 hb
          have HS5 := Lib.hid (HS4.out.ext hb)
          clear hb
          go_wp2
          go_roundw
          case rel => exact ⟨p + 1, v4, by omega, by go_num, by rw [wy_lt (by omega)]; exact HS5.out, HV4.out, B5⟩
          case measure => simp [intOf]; omega
        · have hpk1 : p ≤ kk := by omega
          have hpk2 : kk ≤ p := by omega
          clear hpk
          have HA1 := Lib.hid (h_old _ B1)
          have hd2 : decide ((p : Int) < kk) = false := by simp; omega
          have hd2n : decide (p < kk) = false := by simp; omega
          have hd4n : decide (kk ≤ p) = true := by simp; omega
          have hd3 : ((p : Int) == (kk : Int)) = true := by simp; omega
          have hd4 : decide ((kk : Int) ≤ p) = true := by simp; omega
          go_wp2_with fail
          refine (frameBytes ra m rcap xs _ HA1.out HM.out (by omega) HW.out).mono ?_
          rintro e w2 ⟨v2, rfl, ho, hb⟩
          have B2 := ext_trans B1 hb
          have S2 := Lib.hid (HS.out.ext hb)
          obtain ⟨y, hy⟩ : ∃ y, y = fr xs := ⟨_, rfl⟩
          have hyl : y.length = m + 8 := by rw [hy, fr_len, HM.out]
          have HYW := Lib.hid (show Wb y by rw [hy]; exact fr_wb xs HW.out)
          rw [← hy] at ho
          obtain ⟨af, cf, rfl, -, hcf, hmf, hAf, hownf, -⟩ := own_read ho
          have HUf := Lib.hid (own_uat ho)
          obtain ⟨gf, of, rfl⟩ : ∃ gf of, af = some ⟨gf, of, none⟩ := by
            rcases hAf with h | ⟨b, o, e, _⟩
            · rw [h] at hyl; simp at hyl
            · exact ⟨b, o, e⟩
          obtain ⟨-, hgf1, hgf2, hof0⟩ := hownf gf of rfl
          subst hof0
          rw [hyl] at hcf ⊢
          have HY := Lib.hid hy
          have HYL := Lib.hid hyl
          have HAf := Lib.hid hAf
          have hw1s := B1.size
          have hgfs : sb < gf := by have := HS.out.lt; omega
          have HNv := Lib.hid (show ∀ g, v.ownBlock = some g → g ≠ gf from fun g e => by have := (HS.out.2.1.lt g e).2; omega)
          unfold maxLen at hmf
          clear ho hb hAf hownf hy hyl HS HA1
          have S2' := Lib.hid (by have h := S2.out; rw [wy_lt (by omega)] at h; exact h : StV w.heap.size w2 sb v [] 0)
          obtain ⟨u, hu⟩ : ∃ u, y[m + 7]? = some u := ⟨_, List.getElem?_eq_getElem (by rw [HYL.out]; omega)⟩
          have hub := HYW.out u (List.mem_of_getElem? hu)
          have hcellf : w2.cell? ⟨gf, m + 7, none⟩ = some (.int .u8 u) := by
            rcases HAf.out with h | ⟨b, o, e, h⟩
            · rw [h] at hu; simp at hu
            · simp at e
              obtain ⟨rfl, rfl⟩ := e
              have := h (m + 7) u hu
              rwa [Nat.zero_add] at this
          obtain ⟨cur, hcur⟩ := HUf.out gf 0 rfl
          have hfrz := blk_free hcur
          have hgl := blk_lt hcur
          have HCUR := Lib.hid hcur
          have hxr := xor_ne u 4 hub.1 hub.2 (by omega) (by omega)
          obtain ⟨t3, ht3⟩ : ∃ t3, bits .xor .u8 u 4 = t3 := ⟨_, rfl⟩
          rw [ht3] at hxr
          have HXR := Lib.hid hxr
          have HU := Lib.hid hu
          clear hxr hu hub hcur
          have hkp : Kept gf w2 (w2.setCell ⟨gf, m + 7, none⟩ (.int .u8 t3)) := (Kept.refl _ _).setCell _ _
          have A5 := Lib.hid (show BAt (w2.setCell ⟨gf, m + 7, none⟩ (.int .u8 t3)) (some ⟨gf, 0, none⟩) (y.set (m + 7) t3) by have := HAf.out.set_ HCUR.out (m + 7) t3; rwa [Nat.zero_add] at this)
          have S5 := Lib.hid (S2'.out.kept hkp (by omega) (fun e => HNv.out gf e rfl))
          have D5 := B2.trans (hkp.below (by omega))
          have hj4 : ((m : Int) + 8 - 1).toNat = m + 7 := by omega
          have HSET := Lib.hid (show (y.set (m + 7) t3).length = m + 8 by rw [List.length_set]; exact HYL.out)
          have hturn : fs (y.set (m + 7) t3) = (0, 13) := by
            rw [HY.out]
            refine (turned_fs xs (m + 7) t3 HW.out (by rw [HM.out]; omega) (by omega) (by rw [HM.out]; omega) HXR.out.2.1 HXR.out.2.2 ?_).1
            have hu := HU.out
            rw [HY.out] at hu
            simp only [List.getD, hu, Option.getD_some]
            exact fun e => HXR.out.1 e.symm
          have HTU := Lib.hid hturn
          have HWS := Lib.hid (show Wb (y.set (m + 7) t3) from fun n hn => by
            rcases List.mem_or_eq_of_mem_set hn with h | h
            · exact HYW.out n h
            · subst h; exact HXR.out.2)
          clear hkp hturn S2 S2'
          go_wp2_with fail
          refine (frameFeed w.heap.size sb v [] (some ⟨gf, 0, none⟩) (m + 8) cf (y.set (m + 7) t3) _ S5.out (by omega) hsv A5.out HSET.out HWS.out (by simp; omega)).mono ?_
          rintro e w4 ⟨fv, v4, fsx, l', why', vals, rfl, hr, hst, hof, hva, hfw, hown⟩
          rw [List.nil_append] at hr
          have B4 := D5.trans (hfw.below (by omega) (fun g e => (S5.out.2.1.lt g e).1) D5.size)
          have hrb := Runs.bad (row := y.set (m + 7) t3) (acc := []) (by rw [HTU.out]; simp)
          rw [HTU.out] at hrb
          have h1 := hr.one hrb
          simp only [Prod.mk.injEq] at h1
          obtain ⟨rfl, rfl, rfl⟩ := h1
          have HV4 := Lib.hid (show ∀ g, v4.ownBlock = some g → g ≠ sb from fun g e => by
            rcases hown g e with h | h
            · exact hsv g h
            · have := S5.out.lt; simp at h; omega)
          obtain ⟨af2, cf2, rfl⟩ := own_form hof
          have HS4 := Lib.hid hst
          clear hr hst hof hva hfw hown hrb
          go_wp2_with fail
          haveI hIq : Nonempty (Of w4) := of_some _
          refine wp_region_stay w4 (by kernel_rfl) (by kernel_rfl) (by go_grown) ?_
          repeat (go_big_quiet_step (fail))
          refine wpQuiet_nil ?_
          intro w5 hb
          clear hIq
          have B5 := ext_trans B4 hb
          have HS5 := Lib.hid (HS4.out.ext hb)
          clear hb
          go_wp2
          go_roundw
          case rel => exact ⟨p + 1, v4, by omega, by go_num, by rw [wy_ge (by omega)]; exact HS5.out, HV4.out, B5⟩
          case measure => simp [intOf]; omega
        · have HA1 := Lib.hid (h_old _ B1)
          have hd2 : decide ((p : Int) < kk) = false := by simp; omega
          have hd2n : decide (p < kk) = false := by simp; omega
          have hd4n : decide (kk ≤ p) = true := by simp; omega
          have hd3 : ((p : Int) == (kk : Int)) = false := by simp; omega
          have hd4 : decide ((kk : Int) ≤ p) = true := by simp; omega
          go_wp2_with fail
          refine (frameBytes ra m rcap xs _ HA1.out HM.out (by omega) HW.out).mono ?_
          rintro e w2 ⟨v2, rfl, ho, hb⟩
          have B2 := ext_trans B1 hb
          have S2 := Lib.hid (HS.out.ext hb)
          obtain ⟨y, hy⟩ : ∃ y, y = fr xs := ⟨_, rfl⟩
          have hyl : y.length = m + 8 := by rw [hy, fr_len, HM.out]
          have HYW := Lib.hid (show Wb y by rw [hy]; exact fr_wb xs HW.out)
          rw [← hy] at ho
          obtain ⟨af, cf, rfl, -, hcf, hmf, hAf, hownf, -⟩ := own_read ho
          have HUf := Lib.hid (own_uat ho)
          obtain ⟨gf, of, rfl⟩ : ∃ gf of, af = some ⟨gf, of, none⟩ := by
            rcases hAf with h | ⟨b, o, e, _⟩
            · rw [h] at hyl; simp at hyl
            · exact ⟨b, o, e⟩
          obtain ⟨-, hgf1, hgf2, hof0⟩ := hownf gf of rfl
          subst hof0
          rw [hyl] at hcf ⊢
          have HY := Lib.hid hy
          have HYL := Lib.hid hyl
          have HAf := Lib.hid hAf
          have hw1s := B1.size
          have hgfs : sb < gf := by have := HS.out.lt; omega
          have HNv := Lib.hid (show ∀ g, v.ownBlock = some g → g ≠ gf from fun g e => by have := (HS.out.2.1.lt g e).2; omega)
          unfold maxLen at hmf
          clear ho hb hAf hownf hy hyl HS HA1
          have S2' := Lib.hid (by have h := S2.out; rw [wy_ge (by omega)] at h; exact h : StV w.heap.size w2 sb v [] 13)
          go_wp2_with fail
          refine (frameFeed_no w.heap.size sb v [] 13 (some ⟨gf, 0, none⟩) (m + 8) cf _ S2'.out (by omega)).mono ?_
          rintro e w4 ⟨rfl, hb⟩
          have B4 := ext_trans B2 hb
          have HS4 := Lib.hid (S2'.out.ext hb)
          clear hb S2 S2'
          go_wp2_with fail
          haveI hIq : Nonempty (Of w4) := of_some _
          refine wp_region_stay w4 (by kernel_rfl) (by kernel_rfl) (by go_grown) ?_
          repeat (go_big_quiet_step (fail))
          refine wpQuiet_nil ?_
          intro w5 hb
          clear hIq
          have B5 := ext_trans B4 hb
          have HS5 := Lib.hid (HS4.out.ext hb)
          clear hb
          go_wp2
          go_roundw
          case rel => exact ⟨p + 1, v, by omega, by go_num, by rw [wy_ge (by omega)]; exact HS5.out, hsv, B5⟩
          case measure => simp [intOf]; omega
      · generalize xs0 = xs at *
        generalize m0 = m at *
        have hm50 : m ≤ 30 := by omega
        have HM := Lib.hid hbL
        have HW := Lib.hid hbW
        have HOLD := Lib.hid hbA
        have h_old : ∀ u, Below w.heap.size w u → BAt u ra xs := fun u hu => HOLD.out.ext hu
        clear hbL hbW hbA
        go_upto_region 12 with (fail)
        rcases (by omega : p < kk ∨ p = kk ∨ kk < p) with hpk | hpk | hpk
        · have HA1 := Lib.hid (h_old _ B1)
          have hd2 : decide ((p : Int) < kk) = true := by simp; omega
          have hd2n : decide (p < kk) = true := by simp; omega
          have hd4n : decide (kk ≤ p) = false := by simp; omega
          have hd3 : ((p : Int) == (kk : Int)) = false := by simp; omega
          have hd4 : decide ((kk : Int) ≤ p) = false := by simp; omega
          go_wp2_with fail
          refine (frameBytes ra m rcap xs _ HA1.out HM.out (by omega) HW.out).mono ?_
          rintro e w2 ⟨v2, rfl, ho, hb⟩
          have B2 := ext_trans B1 hb
          have S2 := Lib.hid (HS.out.ext hb)
          obtain ⟨y, hy⟩ : ∃ y, y = fr xs := ⟨_, rfl⟩
          have hyl : y.length = m + 8 := by rw [hy, fr_len, HM.out]
          have HYW := Lib.hid (show Wb y by rw [hy]; exact fr_wb xs HW.out)
          rw [← hy] at ho
          obtain ⟨af, cf, rfl, -, hcf, hmf, hAf, hownf, -⟩ := own_read ho
          have HUf := Lib.hid (own_uat ho)
          obtain ⟨gf, of, rfl⟩ : ∃ gf of, af = some ⟨gf, of, none⟩ := by
            rcases hAf with h | ⟨b, o, e, _⟩
            · rw [h] at hyl; simp at hyl
            · exact ⟨b, o, e⟩
          obtain ⟨-, hgf1, hgf2, hof0⟩ := hownf gf of rfl
          subst hof0
          rw [hyl] at hcf ⊢
          have HY := Lib.hid hy
          have HYL := Lib.hid hyl
          have HAf := Lib.hid hAf
          have hw1s := B1.size
          have hgfs : sb < gf := by have := HS.out.lt; omega
          have HNv := Lib.hid (show ∀ g, v.ownBlock = some g → g ≠ gf from fun g e => by have := (HS.out.2.1.lt g e).2; omega)
          unfold maxLen at hmf
          clear ho hb hAf hownf hy hyl HS HA1
          have S2' := Lib.hid (by have h := S2.out; rw [wy_lt (by omega)] at h; exact h : StV w.heap.size w2 sb v [] 0)
          go_wp2_with fail
          refine (frameFeed w.heap.size sb v [] (some ⟨gf, 0, none⟩) (m + 8) cf y _ S2'.out (by omega) hsv HAf.out HYL.out HYW.out (by simp; omega)).mono ?_
          rintro e w4 ⟨fv, v4, fsx, l', why', vals, rfl, hr, hst, hof, hva, hfw, hown⟩
          rw [List.nil_append] at hr
          have B4 := B2.trans (hfw.below (by omega) (fun g e => (S2'.out.2.1.lt g e).1) B2.size)
          have hrr : Runs y [] ([xs], [], 0) := by
            have h2 := runs_fr (xs := xs) (ys := []) (acc := []) (by rw [HM.out]; omega) (runs_nil [xs])
            rw [List.append_nil] at h2
            rw [HY.out]
            exact h2
          have h1 := hr.one hrr
          simp only [Prod.mk.injEq] at h1
          obtain ⟨rfl, rfl, rfl⟩ := h1
          have HV4 := Lib.hid (show ∀ g, v4.ownBlock = some g → g ≠ sb from fun g e => by
            rcases hown g e with h | h
            · exact hsv g h
            · have := S2'.out.lt; omega)
          obtain ⟨ax, cx, hvx, hax, -, -, -, -⟩ := hva.2 0 xs rfl
          obtain ⟨af2, cf2, rfl⟩ := own_form hof
          obtain ⟨gx, hcx0, rfl⟩ := own_cell hof hvx
          have hcap1 := own_cap hof
          simp only [List.length_cons, List.length_nil, Nat.zero_add] at hcap1
          have HS4 := Lib.hid hst
          rw [HM.out] at hcx0
          have HC0 := Lib.hid hcx0
          have hcv1 := Lib.hid (show ∀ g : Of w4, (convert 22 9 (.slice ax m cx)).run Try.prog g.w = .ok (.string (strOfNums xs)) g.w from fun g => run_text g.w 22 5 Try.underlying22 Try.underlying5 9 Try.underlying9 ax m cx xs HM.out (hax.ext g.h))
          have hcv2 := Lib.hid (show ∀ g : Of w4, (convert 22 9 (.slice ra m rcap)).run Try.prog g.w = .ok (.string (strOfNums xs)) g.w from fun g => run_text g.w 22 5 Try.underlying22 Try.underlying5 9 Try.underlying9 ra m rcap xs HM.out ((h_old _ B4).ext g.h))
          clear hr hst hof hva hax hrr hvx hcx0 hfw hown S2 S2'
          go_wp2_with fail
          haveI hIq : Nonempty (Of w4) := of_some _
          have hF0 := of_cell HC0.out
          have hF1 := hcv1.out
          have hF2 := hcv2.out
          refine wp_region_stay w4 (by kernel_rfl) (by kernel_rfl) (by go_grown) ?_
          repeat (go_big_quiet_step (fail))
          refine wpQuiet_nil ?_
          intro w5 hb
          clear hIq hF0 hF1 hF2
          have B5 := ext_trans B4 hb
          have HS5 := Lib.hid (HS4.out.ext hb)
          clear hb
          go_wp2
          go_roundw
          case rel => exact ⟨p + 1, v4, by omega, by go_num, by rw [wy_lt (by omega)]; exact HS5.out, HV4.out, B5⟩
          case measure => simp [intOf]; omega
        · have hpk1 : p ≤ kk := by omega
          have hpk2 : kk ≤ p := by omega
          clear hpk
          have HA1 := Lib.hid (h_old _ B1)
          have hd2 : decide ((p : Int) < kk) = false := by simp; omega
          have hd2n : decide (p < kk) = false := by simp; omega
          have hd4n : decide (kk ≤ p) = true := by simp; omega
          have hd3 : ((p : Int) == (kk : Int)) = true := by simp; omega
          have hd4 : decide ((kk : Int) ≤ p) = true := by simp; omega
          go_wp2_with fail
          refine (frameBytes ra m rcap xs _ HA1.out HM.out (by omega) HW.out).mono ?_
          rintro e w2 ⟨v2, rfl, ho, hb⟩
          have B2 := ext_trans B1 hb
          have S2 := Lib.hid (HS.out.ext hb)
          obtain ⟨y, hy⟩ : ∃ y, y = fr xs := ⟨_, rfl⟩
          have hyl : y.length = m + 8 := by rw [hy, fr_len, HM.out]
          have HYW := Lib.hid (show Wb y by rw [hy]; exact fr_wb xs HW.out)
          rw [← hy] at ho
          obtain ⟨af, cf, rfl, -, hcf, hmf, hAf, hownf, -⟩ := own_read ho
          have HUf := Lib.hid (own_uat ho)
          obtain ⟨gf, of, rfl⟩ : ∃ gf of, af = some ⟨gf, of, none⟩ := by
            rcases hAf with h | ⟨b, o, e, _⟩
            · rw [h] at hyl; simp at hyl
            · exact ⟨b, o, e⟩
          obtain ⟨-, hgf1, hgf2, hof0⟩ := hownf gf of rfl
          subst hof0
          rw [hyl] at hcf ⊢
          have HY := Lib.hid hy
          have HYL := Lib.hid hyl
          have HAf := Lib.hid hAf
          have hw1s := B1.size
          have hgfs : sb < gf := by have := HS.out.lt; omega
          have HNv := Lib.hid (show ∀ g, v.ownBlock = some g → g ≠ gf from fun g e => by have := (HS.out.2.1.lt g e).2; omega)
          unfold maxLen at hmf
          clear ho hb hAf hownf hy hyl HS HA1
          have S2' := Lib.hid (by have h := S2.out; rw [wy_lt (by omega)] at h; exact h : StV w.heap.size w2 sb v [] 0)
          obtain ⟨u, hu⟩ : ∃ u, y[m + 7]? = some u := ⟨_, List.getElem?_eq_getElem (by rw [HYL.out]; omega)⟩
          have hub := HYW.out u (List.mem_of_getElem? hu)
          have hcellf : w2.cell? ⟨gf, m + 7, none⟩ = some (.int .u8 u) := by
            rcases HAf.out with h | ⟨b, o, e, h⟩
            · rw [h] at hu; simp at hu
            · simp at e
              obtain ⟨rfl, rfl⟩ := e
              have := h (m + 7) u hu
              rwa [Nat.zero_add] at this
          obtain ⟨cur, hcur⟩ := HUf.out gf 0 rfl
          have hfrz := blk_free hcur
          have hgl := blk_lt hcur
          have HCUR := Lib.hid hcur
          have hxr := xor_ne u 4 hub.1 hub.2 (by omega) (by omega)
          obtain ⟨t3, ht3⟩ : ∃ t3, bits .xor .u8 u 4 = t3 := ⟨_, rfl⟩
          rw [ht3] at hxr
          have HXR := Lib.hid hxr
          have HU := Lib.hid hu
          clear hxr hu hub hcur
          have hkp : Kept gf w2 (w2.setCell ⟨gf, m + 7, none⟩ (.int .u8 t3)) := (Kept.refl _ _).setCell _ _
          have A5 := Lib.hid (show BAt (w2.setCell ⟨gf, m + 7, none⟩ (.int .u8 t3)) (some ⟨gf, 0, none⟩) (y.set (m + 7) t3) by have := HAf.out.set_ HCUR.out (m + 7) t3; rwa [Nat.zero_add] at this)
          have S5 := Lib.hid (S2'.out.kept hkp (by omega) (fun e => HNv.out gf e rfl))
          have D5 := B2.trans (hkp.below (by omega))
          have hj4 : ((m : Int) + 8 - 1).toNat = m + 7 := by omega
          have HSET := Lib.hid (show (y.set (m + 7) t3).length = m + 8 by rw [List.length_set]; exact HYL.out)
          have hturn : fs (y.set (m + 7) t3) = (0, 13) := by
            rw [HY.out]
            refine (turned_fs xs (m + 7) t3 HW.out (by rw [HM.out]; omega) (by omega) (by rw [HM.out]; omega) HXR.out.2.1 HXR.out.2.2 ?_).1
            have hu := HU.out
            rw [HY.out] at hu
            simp only [List.getD, hu, Option.getD_some]
            exact fun e => HXR.out.1 e.symm
          have HTU := Lib.hid hturn
          have HWS := Lib.hid (show Wb (y.set (m + 7) t3) from fun n hn => by
            rcases List.mem_or_eq_of_mem_set hn with h | h
            · exact HYW.out n h
            · subst h; exact HXR.out.2)
          clear hkp hturn S2 S2'
          go_wp2_with fail
          refine (frameFeed w.heap.size sb v [] (some ⟨gf, 0, none⟩) (m + 8) cf (y.set (m + 7) t3) _ S5.out (by omega) hsv A5.out HSET.out HWS.out (by simp; omega)).mono ?_
          rintro e w4 ⟨fv, v4, fsx, l', why', vals, rfl, hr, hst, hof, hva, hfw, hown⟩
          rw [List.nil_append] at hr
          have B4 := D5.trans (hfw.below (by omega) (fun g e => (S5.out.2.1.lt g e).1) D5.size)
          have hrb := Runs.bad (row := y.set (m + 7) t3) (acc := []) (by rw [HTU.out]; simp)
          rw [HTU.out] at hrb
          have h1 := hr.one hrb
          simp only [Prod.mk.injEq] at h1
          obtain ⟨rfl, rfl, rfl⟩ := h1
          have HV4 := Lib.hid (show ∀ g, v4.ownBlock = some g → g ≠ sb from fun g e => by
            rcases hown g e with h | h
            · exact hsv g h
            · have := S5.out.lt; simp at h; omega)
          obtain ⟨af2, cf2, rfl⟩ := own_form hof
          have HS4 := Lib.hid hst
          clear hr hst hof hva hfw hown hrb
          go_wp2_with fail
          haveI hIq : Nonempty (Of w4) := of_some _
          refine wp_region_stay w4 (by kernel_rfl) (by kernel_rfl) (by go_grown) ?_
          repeat (go_big_quiet_step (fail))
          refine wpQuiet_nil ?_
          intro w5 hb
          clear hIq
          have B5 := ext_trans B4 hb
          have HS5 := Lib.hid (HS4.out.ext hb)
          clear hb
          go_wp2
          go_roundw
          case rel => exact ⟨p + 1, v4, by omega, by go_num, by rw [wy_ge (by omega)]; exact HS5.out, HV4.out, B5⟩
          case measure => simp [intOf]; omega
        · have HA1 := Lib.hid (h_old _ B1)
          have hd2 : decide ((p : Int) < kk) = false := by simp; omega
          have hd2n : decide (p < kk) = false := by simp; omega
          have hd4n : decide (kk ≤ p) = true := by simp; omega
          have hd3 : ((p : Int) == (kk : Int)) = false := by simp; omega
          have hd4 : decide ((kk : Int) ≤ p) = true := by simp; omega
          go_wp2_with fail
          refine (frameBytes ra m rcap xs _ HA1.out HM.out (by omega) HW.out).mono ?_
          rintro e w2 ⟨v2, rfl, ho, hb⟩
          have B2 := ext_trans B1 hb
          have S2 := Lib.hid (HS.out.ext hb)
          obtain ⟨y, hy⟩ : ∃ y, y = fr xs := ⟨_, rfl⟩
          have hyl : y.length = m + 8 := by rw [hy, fr_len, HM.out]
          have HYW := Lib.hid (show Wb y by rw [hy]; exact fr_wb xs HW.out)
          rw [← hy] at ho
          obtain ⟨af, cf, rfl, -, hcf, hmf, hAf, hownf, -⟩ := own_read ho
          have HUf := Lib.hid (own_uat ho)
          obtain ⟨gf, of, rfl⟩ : ∃ gf of, af = some ⟨gf, of, none⟩ := by
            rcases hAf with h | ⟨b, o, e, _⟩
            · rw [h] at hyl; simp at hyl
            · exact ⟨b, o, e⟩
          obtain ⟨-, hgf1, hgf2, hof0⟩ := hownf gf of rfl
          subst hof0
          rw [hyl] at hcf ⊢
          have HY := Lib.hid hy
          have HYL := Lib.hid hyl
          have HAf := Lib.hid hAf
          have hw1s := B1.size
          have hgfs : sb < gf := by have := HS.out.lt; omega
          have HNv := Lib.hid (show ∀ g, v.ownBlock = some g → g ≠ gf from fun g e => by have := (HS.out.2.1.lt g e).2; omega)
          unfold maxLen at hmf
          clear ho hb hAf hownf hy hyl HS HA1
          have S2' := Lib.hid (by have h := S2.out; rw [wy_ge (by omega)] at h; exact h : StV w.heap.size w2 sb v [] 13)
          go_wp2_with fail
          refine (frameFeed_no w.heap.size sb v [] 13 (some ⟨gf, 0, none⟩) (m + 8) cf _ S2'.out (by omega)).mono ?_
          rintro e w4 ⟨rfl, hb⟩
          have B4 := ext_trans B2 hb
          have HS4 := Lib.hid (S2'.out.ext hb)
          clear hb S2 S2'
          go_wp2_with fail
          haveI hIq : Nonempty (Of w4) := of_some _
          refine wp_region_stay w4 (by kernel_rfl) (by kernel_rfl) (by go_grown) ?_
          repeat (go_big_quiet_step (fail))
          refine wpQuiet_nil ?_
          intro w5 hb
          clear hIq
          have B5 := ext_trans B4 hb
          have HS5 := Lib.hid (HS4.out.ext hb)
          clear hb
          go_wp2
          go_roundw
          case rel => exact ⟨p + 1, v, by omega, by go_num, by rw [wy_ge (by omega)]; exact HS5.out, hsv, B5⟩
          case measure => simp [intOf]; omega
    · obtain rfl : p = n := by omega
      have HMA1 := Lib.hid (HMA.out.ext B1)
      rcases (by omega : kk = p ∨ kk < p) with hkp | hkp
      · have hd : ((kk : Int) == (p : Int)) = true := by simp; omega
        have HS' := Lib.hid (by have h := HS.out; rw [wy_lt (by omega)] at h; exact h : StV w.heap.size w1 sb v [] 0)
        clear hkp
        go_wp2_with fail
        refine (frameFeed w.heap.size sb v [] am nm cm ms _ HS'.out (by omega) hsv HMA1.out HML.out HMW.out (by simp; omega)).mono ?_
        rintro e w4 ⟨fv, v4, fsx, l', why', vals, rfl, hr, hst, hof, hva, hfw, hown⟩
        have B4 := B1.trans (hfw.below (by omega) (fun g e => (HS'.out.2.1.lt g e).1) B1.size)
        clear hr hst hof hva hfw hown
        go_wp2_with fail
        refine (law3known _).mono ?_
        rintro e w5 ⟨rfl, hb⟩
        have D5 := ext_trans B4 hb
        go_wp2
        go_ret
        exact ⟨rfl, D5⟩
      · have hd : ((kk : Int) == (p : Int)) = false := by simp; omega
        have HS' := Lib.hid (by have h := HS.out; rw [wy_ge (by omega)] at h; exact h : StV w.heap.size w1 sb v [] 13)
        go_wp2_with fail
        refine (frameFeed_no w.heap.size sb v [] 13 am nm cm _ HS'.out (by omega)).mono ?_
        rintro e w4 ⟨rfl, hb⟩
        have B4 := ext_trans B1 hb
        have HS4 := Lib.hid (HS'.out.ext hb)
        clear hb
        go_wp2_with fail
        refine (frameLeft _ sb v [] 13 _ HS4.out).mono ?_
        rintro e w5 ⟨rfl, rfl⟩
        go_wp2_with fail
        refine (law3known _).mono ?_
        rintro e w5 ⟨rfl, hb⟩
        have D5 := ext_trans B4 hb
        go_wp2
        go_ret
        exact ⟨rfl, D5⟩

end Go.Proofs.Ytiblnonmlekjgaa
