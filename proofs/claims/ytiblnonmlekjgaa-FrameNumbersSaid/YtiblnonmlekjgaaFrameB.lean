/- Layer 3's laws, walked: FrameBack. -/
import Derived.Test.YtiblnonmlekjgaaFrameY
import Derived.Test.YtiblnonmlekjgaaRowsB
import Derived.Lib.MinMax
import Derived.Deep.DeepCutAuto
namespace Go.Proofs.Ytiblnonmlekjgaa
open Go.RowKit
set_option linter.unusedVariables false

/-- behind k bytes of a frame: what waits, and how many frames came -/
def lf (y : List Int) (m k : Nat) : List Int := if k < m + 8 then y.take k else []
def nf (p m k : Nat) : Nat := if k < m + 8 then p else p + 1
theorem lf_lt {y : List Int} {m k : Nat} (h : k < m + 8) : lf y m k = y.take k := if_pos h
theorem lf_ge {y : List Int} {m k : Nat} (h : ¬ k < m + 8) : lf y m k = [] := if_neg h
theorem nf_lt {p m k : Nat} (h : k < m + 8) : nf p m k = p := if_pos h
theorem nf_ge {p m k : Nat} (h : ¬ k < m + 8) : nf p m k = p + 1 := if_neg h

theorem BAt.set_ {w : World} {b o : Nat} {cur : Array Value} {xs : List Int} (h : BAt w (some ⟨b, o, none⟩) xs) (hb : w.heap[b]? = some (.cells cur 5 (0, 0))) (k : Nat) (n : Int) : BAt (w.setCell ⟨b, o + k, none⟩ (.int .u8 n)) (some ⟨b, o, none⟩) (xs.set k n) := by
  rcases h with h | ⟨b', o', e, h⟩
  · left; simp [h]
  · simp at e
    obtain ⟨rfl, rfl⟩ := e
    refine .inr ⟨_, _, rfl, fun i m hi => ?_⟩
    have h2 := blk_set (n := o + k) (u := .int .u8 n) hb rfl
    rw [blk_cell h2]
    by_cases hik : i = k
    · subst hik
      have hlt : i < xs.length := by
        rcases Nat.lt_or_ge i xs.length with h' | h'
        · exact h'
        · rw [List.getElem?_eq_none (by simpa using h')] at hi; cases hi
      have h3 := h i _ (List.getElem?_eq_getElem hlt)
      rw [blk_cell hb] at h3
      have h4 : o + i < cur.size := by
        rcases Nat.lt_or_ge (o + i) cur.size with h' | h'
        · exact h'
        · rw [Array.getElem?_eq_none h'] at h3; cases h3
      rw [List.getElem?_set_self hlt] at hi
      cases hi
      simp [h4]
    · rw [List.getElem?_set_ne (Ne.symm hik)] at hi
      have h3 := h i m hi
      rw [blk_cell hb] at h3
      rw [Array.getElem?_setIfInBounds_ne (by omega)]
      exact h3
theorem StV.kept {base : Nat} {w w' : World} {sb b : Nat} {v : Value} {l : List Int} {why : Int} (h : StV base w sb v l why) (hk : Kept b w w') (h1 : sb ≠ b) (h2 : v.ownBlock ≠ some b) : StV base w' sb v l why :=
  ⟨(hk.block sb h1).trans h.1, ownsRow_keep h.2.1 hk (Ne.symm h2), h.2.2⟩

set_option maxRecDepth 100000 in
set_option maxHeartbeats 8000000 in
theorem frameBack_walk (a0 : Option Addr) (len cap : Nat) (ro : Nat → Option Addr) (rl rc : Nat → Nat) (rx : Nat → List Int) (t1 tb : Int) (w : World) (h0 : IsRows w a0 len cap ro rl rc rx) (ht1 : (Lit.int .i64 t1).wf = true) (htb : (Lit.int .u8 tb).wf = true) :
    Calls Try.prog 5 #[.slice a0 len cap, .int .i64 t1, .int .u8 tb] w fun e w' => e = .returned (.bool true) ∧ Below w.heap.size w w' := by
  have H0 := Lib.hid h0
  have hcap := h0.1
  have hmx := h0.2.1
  have hb1 := bounds_i64 ht1
  have hbt := bounds_u8 htb
  have htb0 : 0 ≤ tb := hbt.1
  have htb1 : tb < 256 := by omega
  unfold maxLen at hmx
  clear h0 ht1 htb hbt
  go_enter Try.func5, Try.ntmps5
  go_wp2_with fail
  refine (frameNew w).mono ?_
  rintro e w0 ⟨rfl, hst0, hB0⟩
  have HS0 := Lib.hid hst0
  have hsbl := hst0.lt
  obtain ⟨sb, hsb⟩ : ∃ sb, w.heap.size = sb := ⟨_, rfl⟩
  have hsbe : w.heap.size ≤ sb := by omega
  rw [hsb]
  have HSB := Lib.hid hsb
  have HS0' := Lib.hid (show StV w.heap.size w0 sb (.slice none 0 0) [] 0 by rw [← hsb]; rw [hsb]; have := HS0.out; rw [hsb] at this; exact this)
  clear hst0 hsbl hsb HS0
  go_wp2_with fail
  go_loopw [8, 9] (fun nv i wr => ∃ (p : Nat) (v : Value), p ≤ len ∧ p ≤ 5 ∧ i = .int .i64 (p : Int) ∧ nv = .int .i64 (p : Int) ∧ StV w.heap.size wr sb v [] 0 ∧ (∀ g, v.ownBlock = some g → g ≠ sb) ∧ Below w.heap.size w wr) (fun _ i _ => 5 - (intOf i).toNat)
  case atStart => exact ⟨0, .slice none 0 0, by omega, by omega, rfl, rfl, HS0'.out, fun g e => by simp [Value.ownBlock] at e, hB0⟩
  case round =>
    obtain ⟨w1, rfl⟩ : ∃ y : World, y = wr := ⟨_, rfl⟩
    obtain ⟨p, v, hp, hp5, rfl, rfl, hst, hsv, B1⟩ := hrel
    have HS := Lib.hid hst
    clear hst hB0 HS0'
    by_cases hgo : p < len ∧ p < 5
    · obtain ⟨hg1, hg2⟩ := hgo
      obtain ⟨nb, no, rfl, hz⟩ := H0.out.2.2.2.resolve_left (by omega)
      have hcell := ext_cell B1 (hz p hg1)
      obtain ⟨hbA, hbL, hbC, hbM, hbW⟩ := H0.out.2.2.1 p hg1
      generalize ro p = ra at *
      generalize rc p = rcap at *
      generalize rl p = m0 at *
      generalize rx p = xs0 at *
      unfold maxLen at hbM
      have hd1 : decide ((p : Int) < len) = true := by simp; omega
      clear hz
      by_cases h50 : 50 < m0
      · obtain ⟨xs, hxs⟩ : ∃ xs, xs0.take 50 = xs := ⟨_, rfl⟩
        have HW := Lib.hid (show Wb xs by rw [← hxs]; exact hbW.take 50)
        have HOLD := Lib.hid (show BAt w ra xs by rw [← hxs]; exact hbA.take 50)
        have h_old : ∀ u, Below w.heap.size w u → BAt u ra xs := fun u hu => HOLD.out.ext hu
        have hxl : xs.length = 50 := by rw [← hxs, List.length_take]; omega
        clear hxs
        go_upto_region 11 with (fail)
        obtain ⟨m, hm⟩ : ∃ m, 50 = m := ⟨_, rfl⟩
        rw [hm]
        have hm50 : m ≤ 50 := by omega
        have HM := Lib.hid (hxl.trans hm)
        clear hm hxl
        have HA1 := Lib.hid (h_old _ B1)
        go_wp2_with fail
        refine (frameBytes ra m rcap xs _ HA1.out HM.out (by omega) HW.out).mono ?_
        rintro e w2 ⟨v2, rfl, ho, hb⟩
        have B2 := ext_trans B1 hb
        have S2 := Lib.hid (HS.out.ext hb)
        obtain ⟨y, hy⟩ : ∃ y, y = fr xs := ⟨_, rfl⟩
        have hyl : y.length = m + 8 := by rw [hy, fr_len, HM.out]
        rw [← hy] at ho
        obtain ⟨af, cf, rfl, -, hcf, hmf, hAf, hownf, -⟩ := own_read ho
        have HUf := Lib.hid (own_uat ho)
        obtain ⟨gf, of, rfl⟩ : ∃ gf of, af = some ⟨gf, of, none⟩ := by
          rcases hAf with h | ⟨b, o, e, _⟩
          · rw [h] at hyl; simp at hyl
          · exact ⟨b, o, e⟩
        obtain ⟨-, hgf1, hgf2, hof0⟩ := hownf gf of rfl
        subst hof0
        rw [hyl] at hcf ⊢
        have HY := Lib.hid hy
        have HYL := Lib.hid hyl
        have HAf := Lib.hid hAf
        have hw1s := B1.size
        have hgfs : sb < gf := by have := HS.out.lt; omega
        have HNv := Lib.hid (show ∀ g, v.ownBlock = some g → g ≠ gf from fun g e => by have := (HS.out.2.1.lt g e).2; omega)
        have HYW := Lib.hid (show Wb y by rw [hy]; exact fr_wb xs HW.out)
        unfold maxLen at hmf
        clear ho hb hAf hownf hy hyl HS HA1
        go_wp2_with fail
        go_loopw [8, 58] (fun nv i wr => ∃ (k : Nat) (v : Value), k ≤ m + 8 ∧ i = .int .i64 (k : Int) ∧ nv = .int .i64 (nf p m k : Int) ∧ StV w.heap.size wr sb v (lf y m k) 0 ∧ (∀ g, v.ownBlock = some g → g ≠ sb ∧ g ≠ gf) ∧ BAt wr (some ⟨gf, 0, none⟩) y ∧ UAt wr (some ⟨gf, 0, none⟩) ∧ Below w.heap.size w wr) (fun _ i _ => m + 8 - (intOf i).toNat)
        case atStart => exact ⟨0, v, by omega, rfl, by rw [nf_lt (by omega)], by rw [lf_lt (by omega)]; exact S2.out, fun g e => ⟨hsv g e, HNv.out g e⟩, HAf.out, HUf.out, B2⟩
        case round =>
          obtain ⟨w3, rfl⟩ : ∃ y : World, y = wr := ⟨_, rfl⟩
          obtain ⟨k, v3, hk, rfl, rfl, hst, hv3, hbat, huat, B3⟩ := hrel
          have HS3 := Lib.hid hst
          have HV3 := Lib.hid hv3
          have HF3 := Lib.hid hbat
          have HU3 := Lib.hid huat
          have HX3 := Lib.hid (h_old _ B3)
          clear hst hv3 hbat huat
          by_cases hlt : k < m + 8
          · obtain ⟨x, hx⟩ : ∃ x, y[k]? = some x := ⟨_, List.getElem?_eq_getElem (by rw [HYL.out]; exact hlt)⟩
            have hne : ¬ cf = k := by omega
            have hone : BAt w3 (some ⟨gf, k, none⟩) [x] := by
              have h1 := (HF3.out.drop k).take 1
              rw [Nat.zero_add] at h1
              have h2 : (y.drop k).take 1 = [x] := by
                obtain ⟨hk', rfl⟩ := List.getElem?_eq_some_iff.1 hx
                rw [List.drop_eq_getElem_cons hk']; rfl
              rwa [h2] at h1
            have HO := Lib.hid hone
            have HTS := Lib.hid (take_snoc' y k x hx)
            have HXB := Lib.hid (Wb.one (HYW.out x (List.mem_of_getElem? hx)).1 (HYW.out x (List.mem_of_getElem? hx)).2)
            have hlfl : (lf y m k).length ≤ 200 := by rw [lf_lt hlt, List.length_take]; omega
            obtain ⟨N, hN⟩ : ∃ N, nf p m k = N := ⟨_, rfl⟩
            have hNp : N = p := by rw [← hN, nf_lt hlt]
            have hN5 : N ≤ 5 := by omega
            have HN := Lib.hid hNp
            rw [hN]
            clear hone hx hN hNp
            go_wp2_with fail
            refine (frameFeed w.heap.size sb v3 (lf y m k) (some ⟨gf, k, none⟩) 1 (cf - k) [x] _ HS3.out (by omega) (fun g e => (HV3.out g e).1) HO.out rfl HXB.out (by omega)).mono ?_
            rintro e w4 ⟨fv, v4, fsx, l', why', vals, rfl, hr, hst, hof, hva, hfw, hown⟩
            rw [lf_lt hlt, ← HTS.out] at hr
            have B4 := B3.trans (hfw.below (by omega) (fun g e => (HS3.out.2.1.lt g e).1) B3.size)
            have HF4 := Lib.hid (hfw.bat HF3.out (fun b o e => by simp at e; obtain ⟨rfl, rfl⟩ := e; exact ⟨by omega, fun e' => (HV3.out _ e'.symm).2 rfl⟩))
            have HU4 := Lib.hid (show UAt w4 (some ⟨gf, 0, none⟩) from fun b o e => by
              obtain ⟨cur, hc⟩ := HU3.out b o e
              simp at e
              obtain ⟨rfl, rfl⟩ := e
              exact ⟨cur, (hfw.block gf (blk_lt hc) (by omega) (fun e' => (HV3.out _ e'.symm).2 rfl)).trans hc⟩)
            have HV4 := Lib.hid (show ∀ g, v4.ownBlock = some g → g ≠ sb ∧ g ≠ gf from fun g e => by
              rcases hown g e with h | h
              · exact HV3.out g h
              · have h1 := HS3.out.lt
                have h2 : gf < w3.heap.size := by obtain ⟨cur, hc⟩ := HU3.out gf 0 rfl; exact blk_lt hc
                omega)
            clear hown hfw HS3 HV3 HF3 HU3
            by_cases hlast : k + 1 < m + 8
            · have h1 := hr.one (Runs.stop (acc := []) (by rw [HY.out]; exact fr_part xs (k + 1) (by rw [HM.out]; omega) (by rw [HM.out]; exact hlast)))
              simp only [Prod.mk.injEq] at h1
              obtain ⟨rfl, rfl, rfl⟩ := h1
              obtain ⟨av, cv, rfl⟩ := own_form hof
              have HS4 := Lib.hid hst
              have hd1 : ((k : Int) == (m : Int) + 8 - 1) = false := by simp; omega
              clear hr hst hof hva
              go_wp2_with fail
              haveI hIq : Nonempty (Of w4) := of_some _
              refine wp_region_stay w4 (by kernel_rfl) (by kernel_rfl) (by go_grown) ?_
              repeat (go_big_quiet_step (fail))
              refine wpQuiet_nil ?_
              intro w5 hb
              clear hIq
              have B5 := ext_trans B4 hb
              have HS5 := Lib.hid (HS4.out.ext hb)
              have HF5 := Lib.hid (HF4.out.ext hb)
              have HU5 := Lib.hid (HU4.out.ext hb)
              clear hb
              go_wp2
              go_roundw
              case rel => exact ⟨k + 1, v4, by omega, by go_num, by rw [nf_lt hlast, ← HN.out], by rw [lf_lt hlast]; exact HS5.out, HV4.out, HF5.out, HU5.out, B5⟩
              case measure => simp [intOf]; omega
            · have hk8 : k + 1 = m + 8 := by omega
              have hrr : Runs (y.take (k + 1)) [] ([xs], [], 0) := by
                have h2 := runs_fr (xs := xs) (ys := []) (acc := []) (by rw [HM.out]; omega) (runs_nil [xs])
                rw [List.append_nil] at h2
                rw [List.take_of_length_le (by rw [HYL.out]; omega), HY.out]
                exact h2
              have h1 := hr.one hrr
              simp only [Prod.mk.injEq] at h1
              obtain ⟨rfl, rfl, rfl⟩ := h1
              obtain ⟨ax, cx, hvx, hax, -, -, -, -⟩ := hva.2 0 xs rfl
              obtain ⟨gx, cvx, hcx0, rfl⟩ : ∃ gx cvx, w4.cell? ⟨gx, 0, none⟩ = some (.slice ax xs.length cx) ∧ fv = .slice (some ⟨gx, 0, none⟩) 1 cvx := by
                obtain ⟨h3, h4⟩ := hof
                rcases h4 with ⟨_, h5⟩ | ⟨g, cap', cur, rfl, _, hh, _, _, _, ht⟩
                · simp at h5
                · refine ⟨g, cap', ?_, rfl⟩
                  rw [← ht] at hvx
                  simp only [World.cell?, hh]
                  rw [List.getElem?_take_of_lt (by simp)] at hvx
                  simpa using hvx
              have HS4 := Lib.hid hst
              have hd1 : ((k : Int) == (m : Int) + 8 - 1) = true := by simp; omega
              rw [HM.out] at hcx0
              have HC0 := Lib.hid hcx0
              have hcv1 := Lib.hid (show ∀ g : Of w4, (convert 22 9 (.slice ax m cx)).run Try.prog g.w = .ok (.string (strOfNums xs)) g.w from fun g => run_text g.w 22 5 Try.underlying22 Try.underlying5 9 Try.underlying9 ax m cx xs HM.out (hax.ext g.h))
              have hcv2 := Lib.hid (show ∀ g : Of w4, (convert 22 9 (.slice ra m rcap)).run Try.prog g.w = .ok (.string (strOfNums xs)) g.w from fun g => run_text g.w 22 5 Try.underlying22 Try.underlying5 9 Try.underlying9 ra m rcap xs HM.out ((h_old _ B4).ext g.h))
              clear hr hst hof hva hax hrr hvx hcx0
              go_wp2_with fail
              haveI hIq : Nonempty (Of w4) := of_some _
              have hF0 := of_cell HC0.out
              have hF1 := hcv1.out
              have hF2 := hcv2.out
              refine wp_region_stay w4 (by kernel_rfl) (by kernel_rfl) (by go_grown) ?_
              repeat (go_big_quiet_step (fail))
              refine wpQuiet_nil ?_
              intro w5 hb
              clear hIq hF0 hF1 hF2
              have B5 := ext_trans B4 hb
              have HS5 := Lib.hid (HS4.out.ext hb)
              have HF5 := Lib.hid (HF4.out.ext hb)
              have HU5 := Lib.hid (HU4.out.ext hb)
              clear hb
              go_wp2
              go_roundw
              case rel => exact ⟨k + 1, v4, by omega, by go_num, by rw [nf_ge (by omega), ← HN.out]; go_num, by rw [lf_ge (by omega)]; exact HS5.out, HV4.out, HF5.out, HU5.out, B5⟩
              case measure => simp [intOf]; omega
          · obtain rfl : k = m + 8 := by omega
            rw [nf_ge (by omega)]
            have hS := HS3.out
            rw [lf_ge (by omega)] at hS
            have HS4 := Lib.hid hS
            clear hS HS3
            go_wp2_with fail
            refine (within_any t1 0 ((m : Int) + 8 - 5) _ (by omega) (by omega) (by omega) (by omega) (by omega)).mono ?_
            rintro e w4 ⟨rfl, rfl⟩
            have hy1 := win_lo t1 0 ((m : Int) + 8 - 5) (by omega)
            have hy2 := win_hi t1 0 ((m : Int) + 8 - 5) (by omega)
            generalize win t1 0 ((m : Int) + 8 - 5) = z at *
            obtain ⟨j, rfl⟩ := Int.eq_ofNat_of_zero_le hy1
            obtain ⟨u, hu⟩ : ∃ u, y[4 + j]? = some u := ⟨_, List.getElem?_eq_getElem (by rw [HYL.out]; omega)⟩
            have hub := HYW.out u (List.mem_of_getElem? hu)
            have hcell : w3.cell? ⟨gf, 4 + j, none⟩ = some (.int .u8 u) := by
              rcases HF3.out with h | ⟨b, o, e, h⟩
              · rw [h] at hu; simp at hu
              · simp at e
                obtain ⟨rfl, rfl⟩ := e
                have := h (4 + j) u hu
                rwa [Nat.zero_add] at this
            obtain ⟨cur, hcur⟩ := HU3.out gf 0 rfl
            have hfrz := blk_free hcur
            have hgl := blk_lt hcur
            have HCUR := Lib.hid hcur
            have hor := or1_pos tb htb0 htb1
            have hxr := xor_ne u (bits .or .u8 tb 1) hub.1 hub.2 hor.1 hor.2
            obtain ⟨t2, ht2⟩ : ∃ t2, bits .or .u8 tb 1 = t2 := ⟨_, rfl⟩
            obtain ⟨t3, ht3⟩ : ∃ t3, bits .xor .u8 u t2 = t3 := ⟨_, rfl⟩
            rw [ht2, ht3] at hxr
            have HXR := Lib.hid hxr
            have HU := Lib.hid hu
            have HUB := Lib.hid hub
            clear hxr hor hu hub hcur
            have hkp : Kept gf w3 (w3.setCell ⟨gf, 4 + j, none⟩ (.int .u8 t3)) := (Kept.refl _ _).setCell _ _
            have A5 := Lib.hid (show BAt (w3.setCell ⟨gf, 4 + j, none⟩ (.int .u8 t3)) (some ⟨gf, 0, none⟩) (y.set (4 + j) t3) by have := HF3.out.set_ HCUR.out (4 + j) t3; rwa [Nat.zero_add] at this)
            have S5 := Lib.hid (HS4.out.kept hkp (by omega) (fun e => (HV3.out gf e).2 rfl))
            have D5 := B3.trans (hkp.below (by omega))
            have hj4 : (4 + (j : Int)).toNat = 4 + j := by omega
            have HSET := Lib.hid (show (y.set (4 + j) t3).length = m + 8 by rw [List.length_set]; exact HYL.out)
            have hturn : fs (y.set (4 + j) t3) = (0, 13) ∧ r4 (y.set (4 + j) t3) = xs.length := by
              rw [HY.out]
              refine turned_fs xs (4 + j) t3 HW.out (by rw [HM.out]; omega) (by omega) (by rw [HM.out]; omega) HXR.out.2.1 HXR.out.2.2 ?_
              have hu := HU.out
              rw [HY.out] at hu
              simp only [List.getD, hu, Option.getD_some]
              exact fun e => HXR.out.1 e.symm
            have HTU := Lib.hid hturn
            have HWS := Lib.hid (show Wb (y.set (4 + j) t3) from fun n hn => by
              rcases List.mem_or_eq_of_mem_set hn with h | h
              · exact HYW.out n h
              · subst h; exact HXR.out.2)
            clear hkp hturn
            go_wp2_with fail
            refine (frameOne_sum (some ⟨gf, 0, none⟩) m cf (y.set (4 + j) t3) _ A5.out HSET.out (by omega) (by unfold maxLen; omega) HWS.out HTU.out.1 (by rw [HTU.out.2, HM.out]) (by omega)).mono ?_
            rintro e w5 ⟨rfl, hb⟩
            have D6 := ext_trans D5 hb
            have S6 := Lib.hid (S5.out.ext hb)
            clear hb
            go_wp2
            go_roundw
            case rel => exact ⟨p + 1, v3, by omega, by omega, by go_num, by go_num, S6.out, fun g e => (HV3.out g e).1, D6⟩
            case measure => simp [intOf]; omega
      · generalize xs0 = xs at *
        generalize m0 = m at *
        have hm50 : m ≤ 50 := by omega
        have HM := Lib.hid hbL
        have HW := Lib.hid hbW
        have HOLD := Lib.hid hbA
        have h_old : ∀ u, Below w.heap.size w u → BAt u ra xs := fun u hu => HOLD.out.ext hu
        clear hbL hbW hbA
        go_upto_region 11 with (fail)
        have HA1 := Lib.hid (h_old _ B1)
        go_wp2_with fail
        refine (frameBytes ra m rcap xs _ HA1.out HM.out (by omega) HW.out).mono ?_
        rintro e w2 ⟨v2, rfl, ho, hb⟩
        have B2 := ext_trans B1 hb
        have S2 := Lib.hid (HS.out.ext hb)
        obtain ⟨y, hy⟩ : ∃ y, y = fr xs := ⟨_, rfl⟩
        have hyl : y.length = m + 8 := by rw [hy, fr_len, HM.out]
        rw [← hy] at ho
        obtain ⟨af, cf, rfl, -, hcf, hmf, hAf, hownf, -⟩ := own_read ho
        have HUf := Lib.hid (own_uat ho)
        obtain ⟨gf, of, rfl⟩ : ∃ gf of, af = some ⟨gf, of, none⟩ := by
          rcases hAf with h | ⟨b, o, e, _⟩
          · rw [h] at hyl; simp at hyl
          · exact ⟨b, o, e⟩
        obtain ⟨-, hgf1, hgf2, hof0⟩ := hownf gf of rfl
        subst hof0
        rw [hyl] at hcf ⊢
        have HY := Lib.hid hy
        have HYL := Lib.hid hyl
        have HAf := Lib.hid hAf
        have hw1s := B1.size
        have hgfs : sb < gf := by have := HS.out.lt; omega
        have HNv := Lib.hid (show ∀ g, v.ownBlock = some g → g ≠ gf from fun g e => by have := (HS.out.2.1.lt g e).2; omega)
        have HYW := Lib.hid (show Wb y by rw [hy]; exact fr_wb xs HW.out)
        unfold maxLen at hmf
        clear ho hb hAf hownf hy hyl HS HA1
        go_wp2_with fail
        go_loopw [8, 58] (fun nv i wr => ∃ (k : Nat) (v : Value), k ≤ m + 8 ∧ i = .int .i64 (k : Int) ∧ nv = .int .i64 (nf p m k : Int) ∧ StV w.heap.size wr sb v (lf y m k) 0 ∧ (∀ g, v.ownBlock = some g → g ≠ sb ∧ g ≠ gf) ∧ BAt wr (some ⟨gf, 0, none⟩) y ∧ UAt wr (some ⟨gf, 0, none⟩) ∧ Below w.heap.size w wr) (fun _ i _ => m + 8 - (intOf i).toNat)
        case atStart => exact ⟨0, v, by omega, rfl, by rw [nf_lt (by omega)], by rw [lf_lt (by omega)]; exact S2.out, fun g e => ⟨hsv g e, HNv.out g e⟩, HAf.out, HUf.out, B2⟩
        case round =>
          obtain ⟨w3, rfl⟩ : ∃ y : World, y = wr := ⟨_, rfl⟩
          obtain ⟨k, v3, hk, rfl, rfl, hst, hv3, hbat, huat, B3⟩ := hrel
          have HS3 := Lib.hid hst
          have HV3 := Lib.hid hv3
          have HF3 := Lib.hid hbat
          have HU3 := Lib.hid huat
          have HX3 := Lib.hid (h_old _ B3)
          clear hst hv3 hbat huat
          by_cases hlt : k < m + 8
          · obtain ⟨x, hx⟩ : ∃ x, y[k]? = some x := ⟨_, List.getElem?_eq_getElem (by rw [HYL.out]; exact hlt)⟩
            have hne : ¬ cf = k := by omega
            have hone : BAt w3 (some ⟨gf, k, none⟩) [x] := by
              have h1 := (HF3.out.drop k).take 1
              rw [Nat.zero_add] at h1
              have h2 : (y.drop k).take 1 = [x] := by
                obtain ⟨hk', rfl⟩ := List.getElem?_eq_some_iff.1 hx
                rw [List.drop_eq_getElem_cons hk']; rfl
              rwa [h2] at h1
            have HO := Lib.hid hone
            have HTS := Lib.hid (take_snoc' y k x hx)
            have HXB := Lib.hid (Wb.one (HYW.out x (List.mem_of_getElem? hx)).1 (HYW.out x (List.mem_of_getElem? hx)).2)
            have hlfl : (lf y m k).length ≤ 200 := by rw [lf_lt hlt, List.length_take]; omega
            obtain ⟨N, hN⟩ : ∃ N, nf p m k = N := ⟨_, rfl⟩
            have hNp : N = p := by rw [← hN, nf_lt hlt]
            have hN5 : N ≤ 5 := by omega
            have HN := Lib.hid hNp
            rw [hN]
            clear hone hx hN hNp
            go_wp2_with fail
            refine (frameFeed w.heap.size sb v3 (lf y m k) (some ⟨gf, k, none⟩) 1 (cf - k) [x] _ HS3.out (by omega) (fun g e => (HV3.out g e).1) HO.out rfl HXB.out (by omega)).mono ?_
            rintro e w4 ⟨fv, v4, fsx, l', why', vals, rfl, hr, hst, hof, hva, hfw, hown⟩
            rw [lf_lt hlt, ← HTS.out] at hr
            have B4 := B3.trans (hfw.below (by omega) (fun g e => (HS3.out.2.1.lt g e).1) B3.size)
            have HF4 := Lib.hid (hfw.bat HF3.out (fun b o e => by simp at e; obtain ⟨rfl, rfl⟩ := e; exact ⟨by omega, fun e' => (HV3.out _ e'.symm).2 rfl⟩))
            have HU4 := Lib.hid (show UAt w4 (some ⟨gf, 0, none⟩) from fun b o e => by
              obtain ⟨cur, hc⟩ := HU3.out b o e
              simp at e
              obtain ⟨rfl, rfl⟩ := e
              exact ⟨cur, (hfw.block gf (blk_lt hc) (by omega) (fun e' => (HV3.out _ e'.symm).2 rfl)).trans hc⟩)
            have HV4 := Lib.hid (show ∀ g, v4.ownBlock = some g → g ≠ sb ∧ g ≠ gf from fun g e => by
              rcases hown g e with h | h
              · exact HV3.out g h
              · have h1 := HS3.out.lt
                have h2 : gf < w3.heap.size := by obtain ⟨cur, hc⟩ := HU3.out gf 0 rfl; exact blk_lt hc
                omega)
            clear hown hfw HS3 HV3 HF3 HU3
            by_cases hlast : k + 1 < m + 8
            · have h1 := hr.one (Runs.stop (acc := []) (by rw [HY.out]; exact fr_part xs (k + 1) (by rw [HM.out]; omega) (by rw [HM.out]; exact hlast)))
              simp only [Prod.mk.injEq] at h1
              obtain ⟨rfl, rfl, rfl⟩ := h1
              obtain ⟨av, cv, rfl⟩ := own_form hof
              have HS4 := Lib.hid hst
              have hd1 : ((k : Int) == (m : Int) + 8 - 1) = false := by simp; omega
              clear hr hst hof hva
              go_wp2_with fail
              haveI hIq : Nonempty (Of w4) := of_some _
              refine wp_region_stay w4 (by kernel_rfl) (by kernel_rfl) (by go_grown) ?_
              repeat (go_big_quiet_step (fail))
              refine wpQuiet_nil ?_
              intro w5 hb
              clear hIq
              have B5 := ext_trans B4 hb
              have HS5 := Lib.hid (HS4.out.ext hb)
              have HF5 := Lib.hid (HF4.out.ext hb)
              have HU5 := Lib.hid (HU4.out.ext hb)
              clear hb
              go_wp2
              go_roundw
              case rel => exact ⟨k + 1, v4, by omega, by go_num, by rw [nf_lt hlast, ← HN.out], by rw [lf_lt hlast]; exact HS5.out, HV4.out, HF5.out, HU5.out, B5⟩
              case measure => simp [intOf]; omega
            · have hk8 : k + 1 = m + 8 := by omega
              have hrr : Runs (y.take (k + 1)) [] ([xs], [], 0) := by
                have h2 := runs_fr (xs := xs) (ys := []) (acc := []) (by rw [HM.out]; omega) (runs_nil [xs])
                rw [List.append_nil] at h2
                rw [List.take_of_length_le (by rw [HYL.out]; omega), HY.out]
                exact h2
              have h1 := hr.one hrr
              simp only [Prod.mk.injEq] at h1
              obtain ⟨rfl, rfl, rfl⟩ := h1
              obtain ⟨ax, cx, hvx, hax, -, -, -, -⟩ := hva.2 0 xs rfl
              obtain ⟨gx, cvx, hcx0, rfl⟩ : ∃ gx cvx, w4.cell? ⟨gx, 0, none⟩ = some (.slice ax xs.length cx) ∧ fv = .slice (some ⟨gx, 0, none⟩) 1 cvx := by
                obtain ⟨h3, h4⟩ := hof
                rcases h4 with ⟨_, h5⟩ | ⟨g, cap', cur, rfl, _, hh, _, _, _, ht⟩
                · simp at h5
                · refine ⟨g, cap', ?_, rfl⟩
                  rw [← ht] at hvx
                  simp only [World.cell?, hh]
                  rw [List.getElem?_take_of_lt (by simp)] at hvx
                  simpa using hvx
              have HS4 := Lib.hid hst
              have hd1 : ((k : Int) == (m : Int) + 8 - 1) = true := by simp; omega
              rw [HM.out] at hcx0
              have HC0 := Lib.hid hcx0
              have hcv1 := Lib.hid (show ∀ g : Of w4, (convert 22 9 (.slice ax m cx)).run Try.prog g.w = .ok (.string (strOfNums xs)) g.w from fun g => run_text g.w 22 5 Try.underlying22 Try.underlying5 9 Try.underlying9 ax m cx xs HM.out (hax.ext g.h))
              have hcv2 := Lib.hid (show ∀ g : Of w4, (convert 22 9 (.slice ra m rcap)).run Try.prog g.w = .ok (.string (strOfNums xs)) g.w from fun g => run_text g.w 22 5 Try.underlying22 Try.underlying5 9 Try.underlying9 ra m rcap xs HM.out ((h_old _ B4).ext g.h))
              clear hr hst hof hva hax hrr hvx hcx0
              go_wp2_with fail
              haveI hIq : Nonempty (Of w4) := of_some _
              have hF0 := of_cell HC0.out
              have hF1 := hcv1.out
              have hF2 := hcv2.out
              refine wp_region_stay w4 (by kernel_rfl) (by kernel_rfl) (by go_grown) ?_
              repeat (go_big_quiet_step (fail))
              refine wpQuiet_nil ?_
              intro w5 hb
              clear hIq hF0 hF1 hF2
              have B5 := ext_trans B4 hb
              have HS5 := Lib.hid (HS4.out.ext hb)
              have HF5 := Lib.hid (HF4.out.ext hb)
              have HU5 := Lib.hid (HU4.out.ext hb)
              clear hb
              go_wp2
              go_roundw
              case rel => exact ⟨k + 1, v4, by omega, by go_num, by rw [nf_ge (by omega), ← HN.out]; go_num, by rw [lf_ge (by omega)]; exact HS5.out, HV4.out, HF5.out, HU5.out, B5⟩
              case measure => simp [intOf]; omega
          · obtain rfl : k = m + 8 := by omega
            rw [nf_ge (by omega)]
            have hS := HS3.out
            rw [lf_ge (by omega)] at hS
            have HS4 := Lib.hid hS
            clear hS HS3
            go_wp2_with fail
            refine (within_any t1 0 ((m : Int) + 8 - 5) _ (by omega) (by omega) (by omega) (by omega) (by omega)).mono ?_
            rintro e w4 ⟨rfl, rfl⟩
            have hy1 := win_lo t1 0 ((m : Int) + 8 - 5) (by omega)
            have hy2 := win_hi t1 0 ((m : Int) + 8 - 5) (by omega)
            generalize win t1 0 ((m : Int) + 8 - 5) = z at *
            obtain ⟨j, rfl⟩ := Int.eq_ofNat_of_zero_le hy1
            obtain ⟨u, hu⟩ : ∃ u, y[4 + j]? = some u := ⟨_, List.getElem?_eq_getElem (by rw [HYL.out]; omega)⟩
            have hub := HYW.out u (List.mem_of_getElem? hu)
            have hcell : w3.cell? ⟨gf, 4 + j, none⟩ = some (.int .u8 u) := by
              rcases HF3.out with h | ⟨b, o, e, h⟩
              · rw [h] at hu; simp at hu
              · simp at e
                obtain ⟨rfl, rfl⟩ := e
                have := h (4 + j) u hu
                rwa [Nat.zero_add] at this
            obtain ⟨cur, hcur⟩ := HU3.out gf 0 rfl
            have hfrz := blk_free hcur
            have hgl := blk_lt hcur
            have HCUR := Lib.hid hcur
            have hor := or1_pos tb htb0 htb1
            have hxr := xor_ne u (bits .or .u8 tb 1) hub.1 hub.2 hor.1 hor.2
            obtain ⟨t2, ht2⟩ : ∃ t2, bits .or .u8 tb 1 = t2 := ⟨_, rfl⟩
            obtain ⟨t3, ht3⟩ : ∃ t3, bits .xor .u8 u t2 = t3 := ⟨_, rfl⟩
            rw [ht2, ht3] at hxr
            have HXR := Lib.hid hxr
            have HU := Lib.hid hu
            have HUB := Lib.hid hub
            clear hxr hor hu hub hcur
            have hkp : Kept gf w3 (w3.setCell ⟨gf, 4 + j, none⟩ (.int .u8 t3)) := (Kept.refl _ _).setCell _ _
            have A5 := Lib.hid (show BAt (w3.setCell ⟨gf, 4 + j, none⟩ (.int .u8 t3)) (some ⟨gf, 0, none⟩) (y.set (4 + j) t3) by have := HF3.out.set_ HCUR.out (4 + j) t3; rwa [Nat.zero_add] at this)
            have S5 := Lib.hid (HS4.out.kept hkp (by omega) (fun e => (HV3.out gf e).2 rfl))
            have D5 := B3.trans (hkp.below (by omega))
            have hj4 : (4 + (j : Int)).toNat = 4 + j := by omega
            have HSET := Lib.hid (show (y.set (4 + j) t3).length = m + 8 by rw [List.length_set]; exact HYL.out)
            have hturn : fs (y.set (4 + j) t3) = (0, 13) ∧ r4 (y.set (4 + j) t3) = xs.length := by
              rw [HY.out]
              refine turned_fs xs (4 + j) t3 HW.out (by rw [HM.out]; omega) (by omega) (by rw [HM.out]; omega) HXR.out.2.1 HXR.out.2.2 ?_
              have hu := HU.out
              rw [HY.out] at hu
              simp only [List.getD, hu, Option.getD_some]
              exact fun e => HXR.out.1 e.symm
            have HTU := Lib.hid hturn
            have HWS := Lib.hid (show Wb (y.set (4 + j) t3) from fun n hn => by
              rcases List.mem_or_eq_of_mem_set hn with h | h
              · exact HYW.out n h
              · subst h; exact HXR.out.2)
            clear hkp hturn
            go_wp2_with fail
            refine (frameOne_sum (some ⟨gf, 0, none⟩) m cf (y.set (4 + j) t3) _ A5.out HSET.out (by omega) (by unfold maxLen; omega) HWS.out HTU.out.1 (by rw [HTU.out.2, HM.out]) (by omega)).mono ?_
            rintro e w5 ⟨rfl, hb⟩
            have D6 := ext_trans D5 hb
            have S6 := Lib.hid (S5.out.ext hb)
            clear hb
            go_wp2
            go_roundw
            case rel => exact ⟨p + 1, v3, by omega, by omega, by go_num, by go_num, S6.out, fun g e => (HV3.out g e).1, D6⟩
            case measure => simp [intOf]; omega
    · have hmin : ((p : Int) == min (len : Int) 5) = true := by simp; omega
      have hcases : (decide ((p : Int) < len) = false ∧ ¬ p < len) ∨ (decide ((p : Int) < len) = true ∧ p < len ∧ decide ((p : Int) < 5) = false ∧ ¬ p < 5) := by simp; omega
      clear hgo
      rcases hcases with ⟨hd1, hd1'⟩ | ⟨hd1, hd1', hd2, hd2'⟩
      all_goals
        go_wp2_with fail
        refine (frameLeft _ sb v [] 0 _ HS.out).mono ?_
        rintro e w3 ⟨rfl, rfl⟩
        go_wp2_with fail
        refine (law3known _).mono ?_
        rintro e w4 ⟨rfl, hb⟩
        have D4 := ext_trans B1 hb
        go_wp2
        go_ret
        exact ⟨rfl, D4⟩

end Go.Proofs.Ytiblnonmlekjgaa
