/- Layer 3's laws, walked: play. -/
import Derived.Test.YtiblnonmlekjgaaFrameH
import Derived.Test.YtiblnonmlekjgaaFrameP
import Derived.Test.YtiblnonmlekjgaaWithin
import Derived.Deep.DeepCutAuto
namespace Go.Proofs.Ytiblnonmlekjgaa
open Go.RowKit
set_option linter.unusedVariables false

theorem own_blocks {w w' : World} {base size n : Nat} {e : TypeId} {v : Value} {vs : List Value} (h : w.ownsRow base e size v n vs) (hk : ∀ (b : Nat) (cur : Array Value), w.heap[b]? = some (.cells cur e (0, 0)) → w'.heap[b]? = w.heap[b]?) : w'.ownsRow base e size v n vs := by
  obtain ⟨h1, h2⟩ := h
  refine ⟨h1, ?_⟩
  rcases h2 with h2 | ⟨g, cap', cur, hv, hg, hh, r⟩
  · exact .inl h2
  · exact .inr ⟨g, cap', cur, hv, hg, (hk g cur hh).trans hh, r⟩
theorem own_max {w : World} {base n c : Nat} {e : TypeId} {a : Option Addr} {vs : List Value} (h : w.ownsRow base e 1 (.slice a n c) n vs) : c ≤ 9223372036854775807 := by
  rcases h.2 with ⟨e1, e2⟩ | ⟨g, cap', cur, e1, _, hh, hle, hcm, _⟩
  · simp at e1; omega
  · simp at e1; unfold maxLen at hcm; omega
theorem StV.rim {base : Nat} {w w' : World} {sb : Nat} {v : Value} {l : List Int} {why : Int} (h : StV base w sb v l why) (hk : ∀ (b : Nat) (cur : Array Value) (T : TypeId), T ≠ 47 → w.heap[b]? = some (.cells cur T (0, 0)) → w'.heap[b]? = w.heap[b]?) : StV base w' sb v l why :=
  ⟨(hk sb _ _ (by decide) h.1).trans h.1, own_blocks h.2.1 (fun b cur hc => hk b cur _ (by decide) hc), h.2.2⟩
/-- the program's feed leaves the document's stream as it was -/
theorem RefAt.fed {w w' : World} {sb wb : Nat} {l : List Int} {why : Int} {g g' : Option Nat} {x y : Value} (h : RefAt w wb l why g) (hf : Fedw sb g w w') (hne : wb ≠ sb) (hg : some wb ≠ g) (hs : w.heap[sb]? = some (.cells #[x, y] 52 (0, 0))) (hown : ∀ q, g' = some q → g = some q ∨ w.heap.size ≤ q) : RefAt w' wb l why g' := by
  obtain ⟨a, c, h1, h2, h3, h4, h5, h6, h7, h8⟩ := h
  have hk : ∀ b o, a = some ⟨b, o, none⟩ → b < w.heap.size ∧ w'.heap[b]? = w.heap[b]? := fun b o e => by
    obtain ⟨cur, hc⟩ := h5 b o e
    refine ⟨blk_lt hc, hf.block b (blk_lt hc) (fun e' => ?_) (h8 b o e)⟩
    subst e'
    rw [hc] at hs
    simp at hs
  refine ⟨a, c, (hf.block wb (blk_lt h1) hne hg).trans h1, h2, h3, h4.keep (fun b o e p v hc => (World.cell?_of_block (w := w) (hk b o e).2).trans hc), fun b o e => ?_, h6, h7, fun b o e e' => ?_⟩
  · obtain ⟨cur, hc⟩ := h5 b o e
    exact ⟨cur, (hk b o e).2.trans hc⟩
  · rcases hown b e'.symm with h9 | h9
    · exact h8 b o e h9.symm
    · have := (hk b o e).1; omega

set_option maxRecDepth 100000 in
set_option maxHeartbeats 3000000 in
theorem law3play (a : Option Addr) (n cap : Nat) (xs : List Int) (ka : Option Addr) (kl kc : Nat) (kz : List Int) (w : World) (h : BAt w a xs) (hl : xs.length = n) (hc : n ≤ cap) (hm : cap ≤ maxLen) (hw : Wb xs) (hs : n ≤ 1099511627776) (hk : IsRow .i64 w ka kl kc kz) :
    Calls Try.prog 9 #[.slice a n cap, .slice ka kl kc] w fun e w' => e = .returned (.bool true) ∧ Below w.heap.size w w' := by
  have HA := Lib.hid h
  have HW := Lib.hid hw
  have HK := Lib.hid hk
  have hk1 := hk.1
  have hk2 := hk.2.1
  have HFM := Lib.hid (show xs = [] ∨ ∃ b o, a = some ⟨b, o, none⟩ from by
    rcases h with h | ⟨b, o, e, _⟩
    · exact .inl h
    · exact .inr ⟨b, o, e⟩)
  have HL := Lib.hid hl
  unfold maxLen at hk2 hm
  clear h hw hk hl
  go_enter Try.func9, Try.ntmps9
  go_wp2_with fail
  refine (frameNew _).mono ?_
  rintro e wA ⟨rfl, hstA, hbA⟩
  have HSA := Lib.hid (show StV w.heap.size wA w.heap.size (.slice none 0 0) [] 0 from ⟨hstA.1, World.ownsRow_nil _ _ _ _, Wb.nil⟩)
  have hs1a : w.heap.size < wA.heap.size := HSA.out.lt
  have HbA := Lib.hid hbA
  clear hstA hbA
  go_wp2_with fail
  obtain ⟨wb, hwb⟩ : ∃ s, wA.heap.size = s := ⟨_, rfl⟩
  have hsw : w.heap.size < wb := by omega
  have HBW : Below wA.heap.size wA (wA.alloc (.cells #[.slice none 0 0, .int .i64 0] 47)) := (Below.refl _ _).alloc (Nat.le_refl _) _
  have HRA := Lib.hid (show RefAt (wA.alloc (.cells #[.slice none 0 0, .int .i64 0] 47)) wb [] 0 none from ⟨none, 0, by rw [← hwb]; exact blk_new _ _ _, Nat.le_refl _, Nat.zero_le _, .inl rfl, (fun b o e => by cases e), Wb.nil, .inl ⟨rfl, rfl⟩, (fun b o e => by cases e)⟩)
  have HSB := Lib.hid (HSA.out.ext HBW)
  have BB := ext_trans HbA.out HBW
  obtain ⟨T, hT⟩ : ∃ T, min (kl + 1) 30 = T := ⟨_, rfl⟩
  have hT1 : T ≤ kl + 1 := by omega
  have hT2 : T ≤ 30 := by omega
  have HT3 := Lib.hid (show T = kl + 1 ∨ T = 30 by omega)
  have hT4 : 1 ≤ T := by omega
  rw [hwb]
  clear hT HSA hwb HBW
  go_loopw [0, 7] (fun bv i wr => ∃ (p : Nat) (rest l2 : List Int) (v2 : Value) (why : Int) (ab : Option Addr) (cb : Nat), p ≤ T ∧ i = .int .i64 (p : Int) ∧ bv = .slice ab rest.length cb ∧ rest.length ≤ cb ∧ cb ≤ 9223372036854775807 ∧ l2.length + rest.length ≤ n ∧ BAt w ab rest ∧ (rest = [] ∨ ∃ b o, ab = some ⟨b, o, none⟩) ∧ Wb rest ∧ StV w.heap.size wr w.heap.size v2 l2 why ∧ (∀ g, v2.ownBlock = some g → g ≠ w.heap.size ∧ g ≠ wb) ∧ RefAt wr wb l2 why v2.ownBlock ∧ Below w.heap.size w wr) (fun _ i _ => 40 - (intOf i).toNat)
  case atStart => exact ⟨0, xs, [], .slice none 0 0, 0, a, cap, by omega, rfl, by rw [HL.out], by rw [HL.out]; exact hc, by omega, by simp [HL.out], HA.out, HFM.out, HW.out, HSB.out, fun g e => by simp [Value.ownBlock] at e, HRA.out, BB⟩
  case round =>
    obtain ⟨w2, rfl⟩ : ∃ y : World, y = wr := ⟨_, rfl⟩
    obtain ⟨p, rest, l2, v2, why, ab, cb, hp, rfl, rfl, hrc, hcm, hll0, hb1, hfm, hb5, hst2, hv2, hr2, B2⟩ := hrel
    have HBE := Lib.hid hb1
    have HB2 := Lib.hid (hb1.ext B2)
    have HWR := Lib.hid hb5
    have HS2 := Lib.hid hst2
    have HV2 := Lib.hid hv2
    have HR2 := Lib.hid hr2
    clear hb1 hb5 hst2 hv2 hr2 HRA HSB BB HFM HA HW HbA
    by_cases hpT : p < T
    · have hpk : p ≤ kl := by omega
      have hd1 : decide ((p : Int) ≤ kl) = true := by simp; omega
      have hd2 : decide ((p : Int) < 30) = true := by simp; omega
      by_cases hcut : p < kl
      · have hd3 : decide ((p : Int) < kl) = true := by simp; omega
        obtain ⟨kb, ko, rfl, hz⟩ := HK.out.2.2.2.2.resolve_left (by omega)
        have hx := ext_cell B2 (hz p hcut)
        have hwx := bounds_i64 (getD_wf (j := p) HK.out.2.2.2.1)
        generalize kz.getD p 0 = x at hx hwx
        clear hz
        go_wp2_with fail
        refine (within_any x 0 (rest.length : Int) _ (by omega) (by omega) (by omega) (by omega) (by omega)).mono ?_
        rintro e w3 ⟨rfl, rfl⟩
        have hy1 := win_lo x 0 (rest.length : Int) (by omega)
        have hy2 := win_hi x 0 (rest.length : Int) (by omega)
        generalize win x 0 (rest.length : Int) = yk at *
        obtain ⟨K, rfl⟩ := Int.eq_ofNat_of_zero_le hy1
        have hKr : K ≤ rest.length := by omega
        have HKL := Lib.hid (show (rest.take K).length = K by rw [List.length_take]; omega)
        clear hx hwx hy1 hy2
        rcases hfm with hre | ⟨b, o, rfl⟩
        · subst hre
          obtain rfl : K = 0 := by simpa using hKr
          rcases ab with _ | ⟨b, o, s⟩
          · go_wp2_with fail
            refine (frameFeedAny w.heap.size w.heap.size v2 l2 why none 0 cb ([]) _ HS2.out (by omega) (fun g e => (HV2.out g e).1) (BAt.nil _ _) rfl Wb.nil (by omega)).mono ?_
            rintro e w3 ⟨fv, v3, fsx, l3, why3, vals3, rfl, hr, hst, hof, hva, hfw, hown⟩
            have B3 := B2.trans (hfw.below (by omega) (fun g e => (HS2.out.2.1.lt g e).1) B2.size)
            have Z3 := hfw.size
            have HV3 := Lib.hid (show ∀ g, v3.ownBlock = some g → g ≠ w.heap.size ∧ g ≠ wb from fun g e => by
              rcases hown g e with h | h
              · exact HV2.out g h
              · have h1 := HS2.out.lt; have h2 := HR2.out.lt; omega)
            have HR3 := Lib.hid (HR2.out.fed hfw (by omega) (fun e => (HV2.out wb e.symm).2 rfl) HS2.out.1 hown)
            have hg3 := Lib.hid (show ∀ k, v3.ownBlock = some k → k < w3.heap.size from fun k e => (hst.2.1.lt k e).2)
            have HB3 := Lib.hid (BAt.nil w3 none)
            obtain ⟨az, cz, rfl⟩ := own_form hof
            have HOF := Lib.hid hof
            have HVA := Lib.hid hva
            have HS3 := Lib.hid hst
            have HFS := Lib.hid hr
            clear hr hst hof hva hfw hown HS2 HV2 HR2 HB2
            go_wp2_with fail
            refine (refFeedAny wb v3.ownBlock l2 why none 0 cb ([]) _ HR3.out hg3.out HB3.out rfl Wb.nil (by omega)).mono ?_
            rintro e w4 ⟨gv, gsx, m3, whz, gals, rfl, hr, hra, hog, hvg, hri⟩
            have h1 := hr.one HFS.out
            simp only [Prod.mk.injEq] at h1
            obtain ⟨rfl, rfl, rfl⟩ := h1
            have hll := hr.left
            simp only [List.length_nil] at hll
            have B4 := B3.trans (hri.below (by omega) B3.size)
            have Z4 := hri.size
            have hwb : ∀ (b : Nat) (cur : Array Value) (T : TypeId), T ≠ 47 → w3.heap[b]? = some (.cells cur T (0, 0)) → w4.heap[b]? = w3.heap[b]? := fun b cur T hT hc => hri.block b (fun e => by
              subst e
              obtain ⟨a9, c9, h9, _⟩ := HR3.out
              rw [hc] at h9
              simp only [Option.some.injEq, Obj.cells.injEq] at h9
              exact hT h9.2.1) (blk_lt hc)
            have HS4 := Lib.hid (show StV w.heap.size w4 w.heap.size v3 m3 whz from HS3.out.rim hwb)
            have HVA4 := Lib.hid (HVA.out.keep (w' := w4) (g' := none) (fun b cur hc _ _ => hwb b cur _ (by decide) hc) (fun b _ _ _ => by simp) (Nat.le_refl _))
            have HOF4 := Lib.hid (show w4.ownsRow w2.heap.size 22 1 (.slice az gsx.length cz) gsx.length vals3 from own_blocks HOF.out (fun b cur hc => hwb b cur _ (by decide) hc))
            obtain ⟨ag, cg, rfl⟩ := own_form hog
            have HOG := Lib.hid hog
            have HVG := Lib.hid hvg
            have HR4 := Lib.hid hra
            obtain ⟨n4, hn4⟩ : ∃ n, gsx.length = n := ⟨_, rfl⟩
            have HN := Lib.hid hn4
            rw [hn4] at HOF4 HOG
            rw [hn4]
            clear hr hra hog hvg hri hwb HR3 hg3 HB3 HOF HVA HS3 HFS hn4
            go_wp2_with fail
            haveI hIq : Nonempty (Of w4) := of_some _
            obtain ⟨aw, cw, hRB, -⟩ := HR4.out
            have hF0 := blk_of hRB
            refine wp_region_stay w4 (by kernel_rfl) (by kernel_rfl) (by go_grown) ?_
            repeat (go_big_quiet_step ((go_at_call 20; refine stay_same (frameLeft w.heap.size w.heap.size v3 m3 whz _ (HS4.out.ext (In.h _))))))
            refine wpQuiet_nil ?_
            intro w5 hb
            clear hIq hF0 hRB
            have B5 := ext_trans B4 hb
            have HS5 := Lib.hid (HS4.out.ext hb)
            have HR5 := Lib.hid (HR4.out.ext hb)
            have HVA5 := Lib.hid (HVA4.out.ext hb)
            have HVG5 := Lib.hid (HVG.out.ext hb)
            have HOF5 := Lib.hid (ownsRow_ext HOF4.out hb)
            have HOG5 := Lib.hid (ownsRow_ext HOG.out hb)
            clear hb HS4 HR4 HVA4 HVG HOF4 HOG B4
            go_wp2_with fail
            go_loopw [83] (fun i wr => ∃ j : Nat, j ≤ n4 ∧ i = .int .i64 (j : Int) ∧ Below w5.heap.size w5 wr) (fun i _ => n4 - (intOf i).toNat)
            case atStart => exact ⟨0, by omega, rfl, Below.refl _ _⟩
            case round =>
              obtain ⟨w6, rfl⟩ : ∃ y : World, y = wr := ⟨_, rfl⟩
              obtain ⟨i, hi', rfl, D6⟩ := hrel
              by_cases hin : i < n4
              · obtain ⟨f, hf⟩ : ∃ f, gsx[i]? = some f := ⟨_, List.getElem?_eq_getElem (by have := HN.out; omega)⟩
                obtain ⟨xa, xc, hxv, hxb, -⟩ := HVA5.out.2 i f hf
                obtain ⟨ya, yc, hyv, hyb, -⟩ := HVG5.out.2 i f hf
                obtain ⟨gx, hgx, rfl⟩ := own_cell HOF5.out hxv
                obtain ⟨gy, hgy, rfl⟩ := own_cell HOG5.out hyv
                have HCX := Lib.hid (ext_cell D6 hgx)
                have HCY := Lib.hid (ext_cell D6 hgy)
                obtain ⟨m, hm⟩ : ∃ m, f.length = m := ⟨_, rfl⟩
                rw [hm] at HCX HCY
                have hcvx := Lib.hid (show ∀ g : Of w6, (convert 22 9 (.slice xa m xc)).run Try.prog g.w = .ok (.string (strOfNums f)) g.w from fun g => run_text g.w 22 5 Try.underlying22 Try.underlying5 9 Try.underlying9 xa m xc f hm ((hxb.ext D6).ext g.h))
                have hcvy := Lib.hid (show ∀ g : Of w6, (convert 22 9 (.slice ya m yc)).run Try.prog g.w = .ok (.string (strOfNums f)) g.w from fun g => run_text g.w 22 5 Try.underlying22 Try.underlying5 9 Try.underlying9 ya m yc f hm ((hyb.ext D6).ext g.h))
                have hcx2 := own_cap HOF5.out
                have hcx3 := own_max HOF5.out
                have hcy3 := own_max HOG5.out
                have hcy2 := own_cap HOG5.out
                clear hf hxv hyv hxb hyb hgx hgy hm
                go_wp2_with fail
                haveI hIq : Nonempty (Of w6) := of_some _
                have hF0 := of_cell HCX.out
                have hF1 := of_cell HCY.out
                have hF2 := hcvx.out
                have hF3 := hcvy.out
                refine wp_region_stay w6 (by kernel_rfl) (by kernel_rfl) (by go_grown) ?_
                repeat (go_big_quiet_step (fail))
                refine wpQuiet_nil ?_
                intro w7 hb
                have D7 := ext_trans D6 hb
                clear hIq hF0 hF1 hF2 hF3 hb
                go_wp2
                go_roundw
                case rel => exact ⟨i + 1, by omega, by go_num, D7⟩
                case measure => simp [intOf]; omega
              · obtain rfl : i = n4 := by omega
                have HS6 := Lib.hid (HS5.out.ext D6)
                have HR6 := Lib.hid (HR5.out.ext D6)
                have B6 := ext_trans B5 D6
                go_wp2
                go_roundw
                case rel => exact ⟨p + 1, [], m3, v3, whz, none, cb, by omega, by go_num, rfl, Nat.zero_le _, by omega, by simp; omega, .inl rfl, .inl rfl, Wb.nil, HS6.out, HV3.out, HR6.out, B6⟩
                case measure => simp [intOf]; omega
          · go_wp2_with fail
            refine (frameFeedAny w.heap.size w.heap.size v2 l2 why (some ⟨b, o, s⟩) 0 cb ([]) _ HS2.out (by omega) (fun g e => (HV2.out g e).1) (BAt.nil _ _) rfl Wb.nil (by omega)).mono ?_
            rintro e w3 ⟨fv, v3, fsx, l3, why3, vals3, rfl, hr, hst, hof, hva, hfw, hown⟩
            have B3 := B2.trans (hfw.below (by omega) (fun g e => (HS2.out.2.1.lt g e).1) B2.size)
            have Z3 := hfw.size
            have HV3 := Lib.hid (show ∀ g, v3.ownBlock = some g → g ≠ w.heap.size ∧ g ≠ wb from fun g e => by
              rcases hown g e with h | h
              · exact HV2.out g h
              · have h1 := HS2.out.lt; have h2 := HR2.out.lt; omega)
            have HR3 := Lib.hid (HR2.out.fed hfw (by omega) (fun e => (HV2.out wb e.symm).2 rfl) HS2.out.1 hown)
            have hg3 := Lib.hid (show ∀ k, v3.ownBlock = some k → k < w3.heap.size from fun k e => (hst.2.1.lt k e).2)
            have HB3 := Lib.hid (BAt.nil w3 (some ⟨b, o, s⟩))
            obtain ⟨az, cz, rfl⟩ := own_form hof
            have HOF := Lib.hid hof
            have HVA := Lib.hid hva
            have HS3 := Lib.hid hst
            have HFS := Lib.hid hr
            clear hr hst hof hva hfw hown HS2 HV2 HR2 HB2
            go_wp2_with fail
            refine (refFeedAny wb v3.ownBlock l2 why (some ⟨b, o, s⟩) 0 cb ([]) _ HR3.out hg3.out HB3.out rfl Wb.nil (by omega)).mono ?_
            rintro e w4 ⟨gv, gsx, m3, whz, gals, rfl, hr, hra, hog, hvg, hri⟩
            have h1 := hr.one HFS.out
            simp only [Prod.mk.injEq] at h1
            obtain ⟨rfl, rfl, rfl⟩ := h1
            have hll := hr.left
            simp only [List.length_nil] at hll
            have B4 := B3.trans (hri.below (by omega) B3.size)
            have Z4 := hri.size
            have hwb : ∀ (b : Nat) (cur : Array Value) (T : TypeId), T ≠ 47 → w3.heap[b]? = some (.cells cur T (0, 0)) → w4.heap[b]? = w3.heap[b]? := fun b cur T hT hc => hri.block b (fun e => by
              subst e
              obtain ⟨a9, c9, h9, _⟩ := HR3.out
              rw [hc] at h9
              simp only [Option.some.injEq, Obj.cells.injEq] at h9
              exact hT h9.2.1) (blk_lt hc)
            have HS4 := Lib.hid (show StV w.heap.size w4 w.heap.size v3 m3 whz from HS3.out.rim hwb)
            have HVA4 := Lib.hid (HVA.out.keep (w' := w4) (g' := none) (fun b cur hc _ _ => hwb b cur _ (by decide) hc) (fun b _ _ _ => by simp) (Nat.le_refl _))
            have HOF4 := Lib.hid (show w4.ownsRow w2.heap.size 22 1 (.slice az gsx.length cz) gsx.length vals3 from own_blocks HOF.out (fun b cur hc => hwb b cur _ (by decide) hc))
            obtain ⟨ag, cg, rfl⟩ := own_form hog
            have HOG := Lib.hid hog
            have HVG := Lib.hid hvg
            have HR4 := Lib.hid hra
            obtain ⟨n4, hn4⟩ : ∃ n, gsx.length = n := ⟨_, rfl⟩
            have HN := Lib.hid hn4
            rw [hn4] at HOF4 HOG
            rw [hn4]
            clear hr hra hog hvg hri hwb HR3 hg3 HB3 HOF HVA HS3 HFS hn4
            go_wp2_with fail
            haveI hIq : Nonempty (Of w4) := of_some _
            obtain ⟨aw, cw, hRB, -⟩ := HR4.out
            have hF0 := blk_of hRB
            refine wp_region_stay w4 (by kernel_rfl) (by kernel_rfl) (by go_grown) ?_
            repeat (go_big_quiet_step ((go_at_call 20; refine stay_same (frameLeft w.heap.size w.heap.size v3 m3 whz _ (HS4.out.ext (In.h _))))))
            refine wpQuiet_nil ?_
            intro w5 hb
            clear hIq hF0 hRB
            have B5 := ext_trans B4 hb
            have HS5 := Lib.hid (HS4.out.ext hb)
            have HR5 := Lib.hid (HR4.out.ext hb)
            have HVA5 := Lib.hid (HVA4.out.ext hb)
            have HVG5 := Lib.hid (HVG.out.ext hb)
            have HOF5 := Lib.hid (ownsRow_ext HOF4.out hb)
            have HOG5 := Lib.hid (ownsRow_ext HOG.out hb)
            clear hb HS4 HR4 HVA4 HVG HOF4 HOG B4
            go_wp2_with fail
            go_loopw [83] (fun i wr => ∃ j : Nat, j ≤ n4 ∧ i = .int .i64 (j : Int) ∧ Below w5.heap.size w5 wr) (fun i _ => n4 - (intOf i).toNat)
            case atStart => exact ⟨0, by omega, rfl, Below.refl _ _⟩
            case round =>
              obtain ⟨w6, rfl⟩ : ∃ y : World, y = wr := ⟨_, rfl⟩
              obtain ⟨i, hi', rfl, D6⟩ := hrel
              by_cases hin : i < n4
              · obtain ⟨f, hf⟩ : ∃ f, gsx[i]? = some f := ⟨_, List.getElem?_eq_getElem (by have := HN.out; omega)⟩
                obtain ⟨xa, xc, hxv, hxb, -⟩ := HVA5.out.2 i f hf
                obtain ⟨ya, yc, hyv, hyb, -⟩ := HVG5.out.2 i f hf
                obtain ⟨gx, hgx, rfl⟩ := own_cell HOF5.out hxv
                obtain ⟨gy, hgy, rfl⟩ := own_cell HOG5.out hyv
                have HCX := Lib.hid (ext_cell D6 hgx)
                have HCY := Lib.hid (ext_cell D6 hgy)
                obtain ⟨m, hm⟩ : ∃ m, f.length = m := ⟨_, rfl⟩
                rw [hm] at HCX HCY
                have hcvx := Lib.hid (show ∀ g : Of w6, (convert 22 9 (.slice xa m xc)).run Try.prog g.w = .ok (.string (strOfNums f)) g.w from fun g => run_text g.w 22 5 Try.underlying22 Try.underlying5 9 Try.underlying9 xa m xc f hm ((hxb.ext D6).ext g.h))
                have hcvy := Lib.hid (show ∀ g : Of w6, (convert 22 9 (.slice ya m yc)).run Try.prog g.w = .ok (.string (strOfNums f)) g.w from fun g => run_text g.w 22 5 Try.underlying22 Try.underlying5 9 Try.underlying9 ya m yc f hm ((hyb.ext D6).ext g.h))
                have hcx2 := own_cap HOF5.out
                have hcx3 := own_max HOF5.out
                have hcy3 := own_max HOG5.out
                have hcy2 := own_cap HOG5.out
                clear hf hxv hyv hxb hyb hgx hgy hm
                go_wp2_with fail
                haveI hIq : Nonempty (Of w6) := of_some _
                have hF0 := of_cell HCX.out
                have hF1 := of_cell HCY.out
                have hF2 := hcvx.out
                have hF3 := hcvy.out
                refine wp_region_stay w6 (by kernel_rfl) (by kernel_rfl) (by go_grown) ?_
                repeat (go_big_quiet_step (fail))
                refine wpQuiet_nil ?_
                intro w7 hb
                have D7 := ext_trans D6 hb
                clear hIq hF0 hF1 hF2 hF3 hb
                go_wp2
                go_roundw
                case rel => exact ⟨i + 1, by omega, by go_num, D7⟩
                case measure => simp [intOf]; omega
              · obtain rfl : i = n4 := by omega
                have HS6 := Lib.hid (HS5.out.ext D6)
                have HR6 := Lib.hid (HR5.out.ext D6)
                have B6 := ext_trans B5 D6
                go_wp2
                go_roundw
                case rel => exact ⟨p + 1, [], m3, v3, whz, some ⟨b, o, s⟩, cb, by omega, by go_num, rfl, Nat.zero_le _, by omega, by simp; omega, .inl rfl, .inl rfl, Wb.nil, HS6.out, HV3.out, HR6.out, B6⟩
                case measure => simp [intOf]; omega
        · go_wp2_with fail
          refine (frameFeedAny w.heap.size w.heap.size v2 l2 why (some ⟨b, o, none⟩) K cb (rest.take K) _ HS2.out (by omega) (fun g e => (HV2.out g e).1) (HB2.out.take K) HKL.out (HWR.out.take K) (by omega)).mono ?_
          rintro e w3 ⟨fv, v3, fsx, l3, why3, vals3, rfl, hr, hst, hof, hva, hfw, hown⟩
          have B3 := B2.trans (hfw.below (by omega) (fun g e => (HS2.out.2.1.lt g e).1) B2.size)
          have Z3 := hfw.size
          have HV3 := Lib.hid (show ∀ g, v3.ownBlock = some g → g ≠ w.heap.size ∧ g ≠ wb from fun g e => by
            rcases hown g e with h | h
            · exact HV2.out g h
            · have h1 := HS2.out.lt; have h2 := HR2.out.lt; omega)
          have HR3 := Lib.hid (HR2.out.fed hfw (by omega) (fun e => (HV2.out wb e.symm).2 rfl) HS2.out.1 hown)
          have hg3 := Lib.hid (show ∀ k, v3.ownBlock = some k → k < w3.heap.size from fun k e => (hst.2.1.lt k e).2)
          have HB3 := Lib.hid ((HBE.out.ext B3).take K)
          obtain ⟨az, cz, rfl⟩ := own_form hof
          have HOF := Lib.hid hof
          have HVA := Lib.hid hva
          have HS3 := Lib.hid hst
          have HFS := Lib.hid hr
          clear hr hst hof hva hfw hown HS2 HV2 HR2 HB2
          go_wp2_with fail
          refine (refFeedAny wb v3.ownBlock l2 why (some ⟨b, o, none⟩) K cb (rest.take K) _ HR3.out hg3.out HB3.out HKL.out (HWR.out.take K) (by omega)).mono ?_
          rintro e w4 ⟨gv, gsx, m3, whz, gals, rfl, hr, hra, hog, hvg, hri⟩
          have h1 := hr.one HFS.out
          simp only [Prod.mk.injEq] at h1
          obtain ⟨rfl, rfl, rfl⟩ := h1
          have hll := hr.left
          simp only [List.length_take] at hll
          have B4 := B3.trans (hri.below (by omega) B3.size)
          have Z4 := hri.size
          have hwb : ∀ (b : Nat) (cur : Array Value) (T : TypeId), T ≠ 47 → w3.heap[b]? = some (.cells cur T (0, 0)) → w4.heap[b]? = w3.heap[b]? := fun b cur T hT hc => hri.block b (fun e => by
            subst e
            obtain ⟨a9, c9, h9, _⟩ := HR3.out
            rw [hc] at h9
            simp only [Option.some.injEq, Obj.cells.injEq] at h9
            exact hT h9.2.1) (blk_lt hc)
          have HS4 := Lib.hid (show StV w.heap.size w4 w.heap.size v3 m3 whz from HS3.out.rim hwb)
          have HVA4 := Lib.hid (HVA.out.keep (w' := w4) (g' := none) (fun b cur hc _ _ => hwb b cur _ (by decide) hc) (fun b _ _ _ => by simp) (Nat.le_refl _))
          have HOF4 := Lib.hid (show w4.ownsRow w2.heap.size 22 1 (.slice az gsx.length cz) gsx.length vals3 from own_blocks HOF.out (fun b cur hc => hwb b cur _ (by decide) hc))
          obtain ⟨ag, cg, rfl⟩ := own_form hog
          have HOG := Lib.hid hog
          have HVG := Lib.hid hvg
          have HR4 := Lib.hid hra
          obtain ⟨n4, hn4⟩ : ∃ n, gsx.length = n := ⟨_, rfl⟩
          have HN := Lib.hid hn4
          rw [hn4] at HOF4 HOG
          rw [hn4]
          clear hr hra hog hvg hri hwb HR3 hg3 HB3 HOF HVA HS3 HFS hn4
          rcases Classical.propComplete (cb = K) with hce | hce
          · go_wp2_with fail
            haveI hIq : Nonempty (Of w4) := of_some _
            obtain ⟨aw, cw, hRB, -⟩ := HR4.out
            have hF0 := blk_of hRB
            refine wp_region_stay w4 (by kernel_rfl) (by kernel_rfl) (by go_grown) ?_
            repeat (go_big_quiet_step ((go_at_call 20; refine stay_same (frameLeft w.heap.size w.heap.size v3 m3 whz _ (HS4.out.ext (In.h _))))))
            refine wpQuiet_nil ?_
            intro w5 hb
            clear hIq hF0 hRB
            have B5 := ext_trans B4 hb
            have HS5 := Lib.hid (HS4.out.ext hb)
            have HR5 := Lib.hid (HR4.out.ext hb)
            have HVA5 := Lib.hid (HVA4.out.ext hb)
            have HVG5 := Lib.hid (HVG.out.ext hb)
            have HOF5 := Lib.hid (ownsRow_ext HOF4.out hb)
            have HOG5 := Lib.hid (ownsRow_ext HOG.out hb)
            clear hb HS4 HR4 HVA4 HVG HOF4 HOG B4
            go_wp2_with fail
            go_loopw [83] (fun i wr => ∃ j : Nat, j ≤ n4 ∧ i = .int .i64 (j : Int) ∧ Below w5.heap.size w5 wr) (fun i _ => n4 - (intOf i).toNat)
            case atStart => exact ⟨0, by omega, rfl, Below.refl _ _⟩
            case round =>
              obtain ⟨w6, rfl⟩ : ∃ y : World, y = wr := ⟨_, rfl⟩
              obtain ⟨i, hi', rfl, D6⟩ := hrel
              by_cases hin : i < n4
              · obtain ⟨f, hf⟩ : ∃ f, gsx[i]? = some f := ⟨_, List.getElem?_eq_getElem (by have := HN.out; omega)⟩
                obtain ⟨xa, xc, hxv, hxb, -⟩ := HVA5.out.2 i f hf
                obtain ⟨ya, yc, hyv, hyb, -⟩ := HVG5.out.2 i f hf
                obtain ⟨gx, hgx, rfl⟩ := own_cell HOF5.out hxv
                obtain ⟨gy, hgy, rfl⟩ := own_cell HOG5.out hyv
                have HCX := Lib.hid (ext_cell D6 hgx)
                have HCY := Lib.hid (ext_cell D6 hgy)
                obtain ⟨m, hm⟩ : ∃ m, f.length = m := ⟨_, rfl⟩
                rw [hm] at HCX HCY
                have hcvx := Lib.hid (show ∀ g : Of w6, (convert 22 9 (.slice xa m xc)).run Try.prog g.w = .ok (.string (strOfNums f)) g.w from fun g => run_text g.w 22 5 Try.underlying22 Try.underlying5 9 Try.underlying9 xa m xc f hm ((hxb.ext D6).ext g.h))
                have hcvy := Lib.hid (show ∀ g : Of w6, (convert 22 9 (.slice ya m yc)).run Try.prog g.w = .ok (.string (strOfNums f)) g.w from fun g => run_text g.w 22 5 Try.underlying22 Try.underlying5 9 Try.underlying9 ya m yc f hm ((hyb.ext D6).ext g.h))
                have hcx2 := own_cap HOF5.out
                have hcx3 := own_max HOF5.out
                have hcy3 := own_max HOG5.out
                have hcy2 := own_cap HOG5.out
                clear hf hxv hyv hxb hyb hgx hgy hm
                go_wp2_with fail
                haveI hIq : Nonempty (Of w6) := of_some _
                have hF0 := of_cell HCX.out
                have hF1 := of_cell HCY.out
                have hF2 := hcvx.out
                have hF3 := hcvy.out
                refine wp_region_stay w6 (by kernel_rfl) (by kernel_rfl) (by go_grown) ?_
                repeat (go_big_quiet_step (fail))
                refine wpQuiet_nil ?_
                intro w7 hb
                have D7 := ext_trans D6 hb
                clear hIq hF0 hF1 hF2 hF3 hb
                go_wp2
                go_roundw
                case rel => exact ⟨i + 1, by omega, by go_num, D7⟩
                case measure => simp [intOf]; omega
              · obtain rfl : i = n4 := by omega
                have HS6 := Lib.hid (HS5.out.ext D6)
                have HR6 := Lib.hid (HR5.out.ext D6)
                have B6 := ext_trans B5 D6
                go_wp2
                go_roundw
                case rel => exact ⟨p + 1, rest.drop K, m3, v3, whz, some ⟨b, o, none⟩, cb - K, by omega, by go_num, by rw [List.length_drop], by rw [List.length_drop]; omega, by omega, by rw [List.length_drop]; omega, .inl (List.drop_eq_nil_of_le (by have := of_eq_true hce; omega)), .inr ⟨b, o, rfl⟩, HWR.out.drop K, HS6.out, HV3.out, HR6.out, B6⟩
                case measure => simp [intOf]; omega
          · go_wp2_with fail
            haveI hIq : Nonempty (Of w4) := of_some _
            obtain ⟨aw, cw, hRB, -⟩ := HR4.out
            have hF0 := blk_of hRB
            refine wp_region_stay w4 (by kernel_rfl) (by kernel_rfl) (by go_grown) ?_
            repeat (go_big_quiet_step ((go_at_call 20; refine stay_same (frameLeft w.heap.size w.heap.size v3 m3 whz _ (HS4.out.ext (In.h _))))))
            refine wpQuiet_nil ?_
            intro w5 hb
            clear hIq hF0 hRB
            have B5 := ext_trans B4 hb
            have HS5 := Lib.hid (HS4.out.ext hb)
            have HR5 := Lib.hid (HR4.out.ext hb)
            have HVA5 := Lib.hid (HVA4.out.ext hb)
            have HVG5 := Lib.hid (HVG.out.ext hb)
            have HOF5 := Lib.hid (ownsRow_ext HOF4.out hb)
            have HOG5 := Lib.hid (ownsRow_ext HOG.out hb)
            clear hb HS4 HR4 HVA4 HVG HOF4 HOG B4
            go_wp2_with fail
            go_loopw [83] (fun i wr => ∃ j : Nat, j ≤ n4 ∧ i = .int .i64 (j : Int) ∧ Below w5.heap.size w5 wr) (fun i _ => n4 - (intOf i).toNat)
            case atStart => exact ⟨0, by omega, rfl, Below.refl _ _⟩
            case round =>
              obtain ⟨w6, rfl⟩ : ∃ y : World, y = wr := ⟨_, rfl⟩
              obtain ⟨i, hi', rfl, D6⟩ := hrel
              by_cases hin : i < n4
              · obtain ⟨f, hf⟩ : ∃ f, gsx[i]? = some f := ⟨_, List.getElem?_eq_getElem (by have := HN.out; omega)⟩
                obtain ⟨xa, xc, hxv, hxb, -⟩ := HVA5.out.2 i f hf
                obtain ⟨ya, yc, hyv, hyb, -⟩ := HVG5.out.2 i f hf
                obtain ⟨gx, hgx, rfl⟩ := own_cell HOF5.out hxv
                obtain ⟨gy, hgy, rfl⟩ := own_cell HOG5.out hyv
                have HCX := Lib.hid (ext_cell D6 hgx)
                have HCY := Lib.hid (ext_cell D6 hgy)
                obtain ⟨m, hm⟩ : ∃ m, f.length = m := ⟨_, rfl⟩
                rw [hm] at HCX HCY
                have hcvx := Lib.hid (show ∀ g : Of w6, (convert 22 9 (.slice xa m xc)).run Try.prog g.w = .ok (.string (strOfNums f)) g.w from fun g => run_text g.w 22 5 Try.underlying22 Try.underlying5 9 Try.underlying9 xa m xc f hm ((hxb.ext D6).ext g.h))
                have hcvy := Lib.hid (show ∀ g : Of w6, (convert 22 9 (.slice ya m yc)).run Try.prog g.w = .ok (.string (strOfNums f)) g.w from fun g => run_text g.w 22 5 Try.underlying22 Try.underlying5 9 Try.underlying9 ya m yc f hm ((hyb.ext D6).ext g.h))
                have hcx2 := own_cap HOF5.out
                have hcx3 := own_max HOF5.out
                have hcy3 := own_max HOG5.out
                have hcy2 := own_cap HOG5.out
                clear hf hxv hyv hxb hyb hgx hgy hm
                go_wp2_with fail
                haveI hIq : Nonempty (Of w6) := of_some _
                have hF0 := of_cell HCX.out
                have hF1 := of_cell HCY.out
                have hF2 := hcvx.out
                have hF3 := hcvy.out
                refine wp_region_stay w6 (by kernel_rfl) (by kernel_rfl) (by go_grown) ?_
                repeat (go_big_quiet_step (fail))
                refine wpQuiet_nil ?_
                intro w7 hb
                have D7 := ext_trans D6 hb
                clear hIq hF0 hF1 hF2 hF3 hb
                go_wp2
                go_roundw
                case rel => exact ⟨i + 1, by omega, by go_num, D7⟩
                case measure => simp [intOf]; omega
              · obtain rfl : i = n4 := by omega
                have HS6 := Lib.hid (HS5.out.ext D6)
                have HR6 := Lib.hid (HR5.out.ext D6)
                have B6 := ext_trans B5 D6
                go_wp2
                go_roundw
                case rel => exact ⟨p + 1, rest.drop K, m3, v3, whz, some ⟨b, o + K, none⟩, cb - K, by omega, by go_num, by rw [List.length_drop], by rw [List.length_drop]; omega, by omega, by rw [List.length_drop]; omega, HBE.out.drop K, .inr ⟨b, o + K, rfl⟩, HWR.out.drop K, HS6.out, HV3.out, HR6.out, B6⟩
                case measure => simp [intOf]; omega
      · have hd3 : decide ((p : Int) < kl) = false := by simp; omega
        rcases hfm with hre | ⟨b, o, rfl⟩
        · subst hre
          rcases ab with _ | ⟨b, o, s⟩
          · go_wp2_with fail
            refine (frameFeedAny w.heap.size w.heap.size v2 l2 why none 0 cb ([]) _ HS2.out (by omega) (fun g e => (HV2.out g e).1) (BAt.nil _ _) rfl Wb.nil (by omega)).mono ?_
            rintro e w3 ⟨fv, v3, fsx, l3, why3, vals3, rfl, hr, hst, hof, hva, hfw, hown⟩
            have B3 := B2.trans (hfw.below (by omega) (fun g e => (HS2.out.2.1.lt g e).1) B2.size)
            have Z3 := hfw.size
            have HV3 := Lib.hid (show ∀ g, v3.ownBlock = some g → g ≠ w.heap.size ∧ g ≠ wb from fun g e => by
              rcases hown g e with h | h
              · exact HV2.out g h
              · have h1 := HS2.out.lt; have h2 := HR2.out.lt; omega)
            have HR3 := Lib.hid (HR2.out.fed hfw (by omega) (fun e => (HV2.out wb e.symm).2 rfl) HS2.out.1 hown)
            have hg3 := Lib.hid (show ∀ k, v3.ownBlock = some k → k < w3.heap.size from fun k e => (hst.2.1.lt k e).2)
            have HB3 := Lib.hid (BAt.nil w3 none)
            obtain ⟨az, cz, rfl⟩ := own_form hof
            have HOF := Lib.hid hof
            have HVA := Lib.hid hva
            have HS3 := Lib.hid hst
            have HFS := Lib.hid hr
            clear hr hst hof hva hfw hown HS2 HV2 HR2 HB2
            go_wp2_with fail
            refine (refFeedAny wb v3.ownBlock l2 why none 0 cb ([]) _ HR3.out hg3.out HB3.out rfl Wb.nil (by omega)).mono ?_
            rintro e w4 ⟨gv, gsx, m3, whz, gals, rfl, hr, hra, hog, hvg, hri⟩
            have h1 := hr.one HFS.out
            simp only [Prod.mk.injEq] at h1
            obtain ⟨rfl, rfl, rfl⟩ := h1
            have hll := hr.left
            simp only [List.length_nil] at hll
            have B4 := B3.trans (hri.below (by omega) B3.size)
            have Z4 := hri.size
            have hwb : ∀ (b : Nat) (cur : Array Value) (T : TypeId), T ≠ 47 → w3.heap[b]? = some (.cells cur T (0, 0)) → w4.heap[b]? = w3.heap[b]? := fun b cur T hT hc => hri.block b (fun e => by
              subst e
              obtain ⟨a9, c9, h9, _⟩ := HR3.out
              rw [hc] at h9
              simp only [Option.some.injEq, Obj.cells.injEq] at h9
              exact hT h9.2.1) (blk_lt hc)
            have HS4 := Lib.hid (show StV w.heap.size w4 w.heap.size v3 m3 whz from HS3.out.rim hwb)
            have HVA4 := Lib.hid (HVA.out.keep (w' := w4) (g' := none) (fun b cur hc _ _ => hwb b cur _ (by decide) hc) (fun b _ _ _ => by simp) (Nat.le_refl _))
            have HOF4 := Lib.hid (show w4.ownsRow w2.heap.size 22 1 (.slice az gsx.length cz) gsx.length vals3 from own_blocks HOF.out (fun b cur hc => hwb b cur _ (by decide) hc))
            obtain ⟨ag, cg, rfl⟩ := own_form hog
            have HOG := Lib.hid hog
            have HVG := Lib.hid hvg
            have HR4 := Lib.hid hra
            obtain ⟨n4, hn4⟩ : ∃ n, gsx.length = n := ⟨_, rfl⟩
            have HN := Lib.hid hn4
            rw [hn4] at HOF4 HOG
            rw [hn4]
            clear hr hra hog hvg hri hwb HR3 hg3 HB3 HOF HVA HS3 HFS hn4
            go_wp2_with fail
            haveI hIq : Nonempty (Of w4) := of_some _
            obtain ⟨aw, cw, hRB, -⟩ := HR4.out
            have hF0 := blk_of hRB
            refine wp_region_stay w4 (by kernel_rfl) (by kernel_rfl) (by go_grown) ?_
            repeat (go_big_quiet_step ((go_at_call 20; refine stay_same (frameLeft w.heap.size w.heap.size v3 m3 whz _ (HS4.out.ext (In.h _))))))
            refine wpQuiet_nil ?_
            intro w5 hb
            clear hIq hF0 hRB
            have B5 := ext_trans B4 hb
            have HS5 := Lib.hid (HS4.out.ext hb)
            have HR5 := Lib.hid (HR4.out.ext hb)
            have HVA5 := Lib.hid (HVA4.out.ext hb)
            have HVG5 := Lib.hid (HVG.out.ext hb)
            have HOF5 := Lib.hid (ownsRow_ext HOF4.out hb)
            have HOG5 := Lib.hid (ownsRow_ext HOG.out hb)
            clear hb HS4 HR4 HVA4 HVG HOF4 HOG B4
            go_wp2_with fail
            go_loopw [83] (fun i wr => ∃ j : Nat, j ≤ n4 ∧ i = .int .i64 (j : Int) ∧ Below w5.heap.size w5 wr) (fun i _ => n4 - (intOf i).toNat)
            case atStart => exact ⟨0, by omega, rfl, Below.refl _ _⟩
            case round =>
              obtain ⟨w6, rfl⟩ : ∃ y : World, y = wr := ⟨_, rfl⟩
              obtain ⟨i, hi', rfl, D6⟩ := hrel
              by_cases hin : i < n4
              · obtain ⟨f, hf⟩ : ∃ f, gsx[i]? = some f := ⟨_, List.getElem?_eq_getElem (by have := HN.out; omega)⟩
                obtain ⟨xa, xc, hxv, hxb, -⟩ := HVA5.out.2 i f hf
                obtain ⟨ya, yc, hyv, hyb, -⟩ := HVG5.out.2 i f hf
                obtain ⟨gx, hgx, rfl⟩ := own_cell HOF5.out hxv
                obtain ⟨gy, hgy, rfl⟩ := own_cell HOG5.out hyv
                have HCX := Lib.hid (ext_cell D6 hgx)
                have HCY := Lib.hid (ext_cell D6 hgy)
                obtain ⟨m, hm⟩ : ∃ m, f.length = m := ⟨_, rfl⟩
                rw [hm] at HCX HCY
                have hcvx := Lib.hid (show ∀ g : Of w6, (convert 22 9 (.slice xa m xc)).run Try.prog g.w = .ok (.string (strOfNums f)) g.w from fun g => run_text g.w 22 5 Try.underlying22 Try.underlying5 9 Try.underlying9 xa m xc f hm ((hxb.ext D6).ext g.h))
                have hcvy := Lib.hid (show ∀ g : Of w6, (convert 22 9 (.slice ya m yc)).run Try.prog g.w = .ok (.string (strOfNums f)) g.w from fun g => run_text g.w 22 5 Try.underlying22 Try.underlying5 9 Try.underlying9 ya m yc f hm ((hyb.ext D6).ext g.h))
                have hcx2 := own_cap HOF5.out
                have hcx3 := own_max HOF5.out
                have hcy3 := own_max HOG5.out
                have hcy2 := own_cap HOG5.out
                clear hf hxv hyv hxb hyb hgx hgy hm
                go_wp2_with fail
                haveI hIq : Nonempty (Of w6) := of_some _
                have hF0 := of_cell HCX.out
                have hF1 := of_cell HCY.out
                have hF2 := hcvx.out
                have hF3 := hcvy.out
                refine wp_region_stay w6 (by kernel_rfl) (by kernel_rfl) (by go_grown) ?_
                repeat (go_big_quiet_step (fail))
                refine wpQuiet_nil ?_
                intro w7 hb
                have D7 := ext_trans D6 hb
                clear hIq hF0 hF1 hF2 hF3 hb
                go_wp2
                go_roundw
                case rel => exact ⟨i + 1, by omega, by go_num, D7⟩
                case measure => simp [intOf]; omega
              · obtain rfl : i = n4 := by omega
                have HS6 := Lib.hid (HS5.out.ext D6)
                have HR6 := Lib.hid (HR5.out.ext D6)
                have B6 := ext_trans B5 D6
                go_wp2
                go_roundw
                case rel => exact ⟨p + 1, [], m3, v3, whz, none, cb, by omega, by go_num, rfl, Nat.zero_le _, by omega, by simp; omega, .inl rfl, .inl rfl, Wb.nil, HS6.out, HV3.out, HR6.out, B6⟩
                case measure => simp [intOf]; omega
          · go_wp2_with fail
            refine (frameFeedAny w.heap.size w.heap.size v2 l2 why (some ⟨b, o, s⟩) 0 cb ([]) _ HS2.out (by omega) (fun g e => (HV2.out g e).1) (BAt.nil _ _) rfl Wb.nil (by omega)).mono ?_
            rintro e w3 ⟨fv, v3, fsx, l3, why3, vals3, rfl, hr, hst, hof, hva, hfw, hown⟩
            have B3 := B2.trans (hfw.below (by omega) (fun g e => (HS2.out.2.1.lt g e).1) B2.size)
            have Z3 := hfw.size
            have HV3 := Lib.hid (show ∀ g, v3.ownBlock = some g → g ≠ w.heap.size ∧ g ≠ wb from fun g e => by
              rcases hown g e with h | h
              · exact HV2.out g h
              · have h1 := HS2.out.lt; have h2 := HR2.out.lt; omega)
            have HR3 := Lib.hid (HR2.out.fed hfw (by omega) (fun e => (HV2.out wb e.symm).2 rfl) HS2.out.1 hown)
            have hg3 := Lib.hid (show ∀ k, v3.ownBlock = some k → k < w3.heap.size from fun k e => (hst.2.1.lt k e).2)
            have HB3 := Lib.hid (BAt.nil w3 (some ⟨b, o, s⟩))
            obtain ⟨az, cz, rfl⟩ := own_form hof
            have HOF := Lib.hid hof
            have HVA := Lib.hid hva
            have HS3 := Lib.hid hst
            have HFS := Lib.hid hr
            clear hr hst hof hva hfw hown HS2 HV2 HR2 HB2
            go_wp2_with fail
            refine (refFeedAny wb v3.ownBlock l2 why (some ⟨b, o, s⟩) 0 cb ([]) _ HR3.out hg3.out HB3.out rfl Wb.nil (by omega)).mono ?_
            rintro e w4 ⟨gv, gsx, m3, whz, gals, rfl, hr, hra, hog, hvg, hri⟩
            have h1 := hr.one HFS.out
            simp only [Prod.mk.injEq] at h1
            obtain ⟨rfl, rfl, rfl⟩ := h1
            have hll := hr.left
            simp only [List.length_nil] at hll
            have B4 := B3.trans (hri.below (by omega) B3.size)
            have Z4 := hri.size
            have hwb : ∀ (b : Nat) (cur : Array Value) (T : TypeId), T ≠ 47 → w3.heap[b]? = some (.cells cur T (0, 0)) → w4.heap[b]? = w3.heap[b]? := fun b cur T hT hc => hri.block b (fun e => by
              subst e
              obtain ⟨a9, c9, h9, _⟩ := HR3.out
              rw [hc] at h9
              simp only [Option.some.injEq, Obj.cells.injEq] at h9
              exact hT h9.2.1) (blk_lt hc)
            have HS4 := Lib.hid (show StV w.heap.size w4 w.heap.size v3 m3 whz from HS3.out.rim hwb)
            have HVA4 := Lib.hid (HVA.out.keep (w' := w4) (g' := none) (fun b cur hc _ _ => hwb b cur _ (by decide) hc) (fun b _ _ _ => by simp) (Nat.le_refl _))
            have HOF4 := Lib.hid (show w4.ownsRow w2.heap.size 22 1 (.slice az gsx.length cz) gsx.length vals3 from own_blocks HOF.out (fun b cur hc => hwb b cur _ (by decide) hc))
            obtain ⟨ag, cg, rfl⟩ := own_form hog
            have HOG := Lib.hid hog
            have HVG := Lib.hid hvg
            have HR4 := Lib.hid hra
            obtain ⟨n4, hn4⟩ : ∃ n, gsx.length = n := ⟨_, rfl⟩
            have HN := Lib.hid hn4
            rw [hn4] at HOF4 HOG
            rw [hn4]
            clear hr hra hog hvg hri hwb HR3 hg3 HB3 HOF HVA HS3 HFS hn4
            go_wp2_with fail
            haveI hIq : Nonempty (Of w4) := of_some _
            obtain ⟨aw, cw, hRB, -⟩ := HR4.out
            have hF0 := blk_of hRB
            refine wp_region_stay w4 (by kernel_rfl) (by kernel_rfl) (by go_grown) ?_
            repeat (go_big_quiet_step ((go_at_call 20; refine stay_same (frameLeft w.heap.size w.heap.size v3 m3 whz _ (HS4.out.ext (In.h _))))))
            refine wpQuiet_nil ?_
            intro w5 hb
            clear hIq hF0 hRB
            have B5 := ext_trans B4 hb
            have HS5 := Lib.hid (HS4.out.ext hb)
            have HR5 := Lib.hid (HR4.out.ext hb)
            have HVA5 := Lib.hid (HVA4.out.ext hb)
            have HVG5 := Lib.hid (HVG.out.ext hb)
            have HOF5 := Lib.hid (ownsRow_ext HOF4.out hb)
            have HOG5 := Lib.hid (ownsRow_ext HOG.out hb)
            clear hb HS4 HR4 HVA4 HVG HOF4 HOG B4
            go_wp2_with fail
            go_loopw [83] (fun i wr => ∃ j : Nat, j ≤ n4 ∧ i = .int .i64 (j : Int) ∧ Below w5.heap.size w5 wr) (fun i _ => n4 - (intOf i).toNat)
            case atStart => exact ⟨0, by omega, rfl, Below.refl _ _⟩
            case round =>
              obtain ⟨w6, rfl⟩ : ∃ y : World, y = wr := ⟨_, rfl⟩
              obtain ⟨i, hi', rfl, D6⟩ := hrel
              by_cases hin : i < n4
              · obtain ⟨f, hf⟩ : ∃ f, gsx[i]? = some f := ⟨_, List.getElem?_eq_getElem (by have := HN.out; omega)⟩
                obtain ⟨xa, xc, hxv, hxb, -⟩ := HVA5.out.2 i f hf
                obtain ⟨ya, yc, hyv, hyb, -⟩ := HVG5.out.2 i f hf
                obtain ⟨gx, hgx, rfl⟩ := own_cell HOF5.out hxv
                obtain ⟨gy, hgy, rfl⟩ := own_cell HOG5.out hyv
                have HCX := Lib.hid (ext_cell D6 hgx)
                have HCY := Lib.hid (ext_cell D6 hgy)
                obtain ⟨m, hm⟩ : ∃ m, f.length = m := ⟨_, rfl⟩
                rw [hm] at HCX HCY
                have hcvx := Lib.hid (show ∀ g : Of w6, (convert 22 9 (.slice xa m xc)).run Try.prog g.w = .ok (.string (strOfNums f)) g.w from fun g => run_text g.w 22 5 Try.underlying22 Try.underlying5 9 Try.underlying9 xa m xc f hm ((hxb.ext D6).ext g.h))
                have hcvy := Lib.hid (show ∀ g : Of w6, (convert 22 9 (.slice ya m yc)).run Try.prog g.w = .ok (.string (strOfNums f)) g.w from fun g => run_text g.w 22 5 Try.underlying22 Try.underlying5 9 Try.underlying9 ya m yc f hm ((hyb.ext D6).ext g.h))
                have hcx2 := own_cap HOF5.out
                have hcx3 := own_max HOF5.out
                have hcy3 := own_max HOG5.out
                have hcy2 := own_cap HOG5.out
                clear hf hxv hyv hxb hyb hgx hgy hm
                go_wp2_with fail
                haveI hIq : Nonempty (Of w6) := of_some _
                have hF0 := of_cell HCX.out
                have hF1 := of_cell HCY.out
                have hF2 := hcvx.out
                have hF3 := hcvy.out
                refine wp_region_stay w6 (by kernel_rfl) (by kernel_rfl) (by go_grown) ?_
                repeat (go_big_quiet_step (fail))
                refine wpQuiet_nil ?_
                intro w7 hb
                have D7 := ext_trans D6 hb
                clear hIq hF0 hF1 hF2 hF3 hb
                go_wp2
                go_roundw
                case rel => exact ⟨i + 1, by omega, by go_num, D7⟩
                case measure => simp [intOf]; omega
              · obtain rfl : i = n4 := by omega
                have HS6 := Lib.hid (HS5.out.ext D6)
                have HR6 := Lib.hid (HR5.out.ext D6)
                have B6 := ext_trans B5 D6
                go_wp2
                go_roundw
                case rel => exact ⟨p + 1, [], m3, v3, whz, some ⟨b, o, s⟩, cb, by omega, by go_num, rfl, Nat.zero_le _, by omega, by simp; omega, .inl rfl, .inl rfl, Wb.nil, HS6.out, HV3.out, HR6.out, B6⟩
                case measure => simp [intOf]; omega
        · go_wp2_with fail
          refine (frameFeedAny w.heap.size w.heap.size v2 l2 why (some ⟨b, o, none⟩) rest.length cb (rest.take rest.length) _ HS2.out (by omega) (fun g e => (HV2.out g e).1) (HB2.out.take rest.length) (List.length_take.trans (Nat.min_self _)) (HWR.out.take rest.length) (by omega)).mono ?_
          rintro e w3 ⟨fv, v3, fsx, l3, why3, vals3, rfl, hr, hst, hof, hva, hfw, hown⟩
          have B3 := B2.trans (hfw.below (by omega) (fun g e => (HS2.out.2.1.lt g e).1) B2.size)
          have Z3 := hfw.size
          have HV3 := Lib.hid (show ∀ g, v3.ownBlock = some g → g ≠ w.heap.size ∧ g ≠ wb from fun g e => by
            rcases hown g e with h | h
            · exact HV2.out g h
            · have h1 := HS2.out.lt; have h2 := HR2.out.lt; omega)
          have HR3 := Lib.hid (HR2.out.fed hfw (by omega) (fun e => (HV2.out wb e.symm).2 rfl) HS2.out.1 hown)
          have hg3 := Lib.hid (show ∀ k, v3.ownBlock = some k → k < w3.heap.size from fun k e => (hst.2.1.lt k e).2)
          have HB3 := Lib.hid ((HBE.out.ext B3).take rest.length)
          obtain ⟨az, cz, rfl⟩ := own_form hof
          have HOF := Lib.hid hof
          have HVA := Lib.hid hva
          have HS3 := Lib.hid hst
          have HFS := Lib.hid hr
          clear hr hst hof hva hfw hown HS2 HV2 HR2 HB2
          go_wp2_with fail
          refine (refFeedAny wb v3.ownBlock l2 why (some ⟨b, o, none⟩) rest.length cb (rest.take rest.length) _ HR3.out hg3.out HB3.out (List.length_take.trans (Nat.min_self _)) (HWR.out.take rest.length) (by omega)).mono ?_
          rintro e w4 ⟨gv, gsx, m3, whz, gals, rfl, hr, hra, hog, hvg, hri⟩
          have h1 := hr.one HFS.out
          simp only [Prod.mk.injEq] at h1
          obtain ⟨rfl, rfl, rfl⟩ := h1
          have hll := hr.left
          simp only [List.length_take] at hll
          have B4 := B3.trans (hri.below (by omega) B3.size)
          have Z4 := hri.size
          have hwb : ∀ (b : Nat) (cur : Array Value) (T : TypeId), T ≠ 47 → w3.heap[b]? = some (.cells cur T (0, 0)) → w4.heap[b]? = w3.heap[b]? := fun b cur T hT hc => hri.block b (fun e => by
            subst e
            obtain ⟨a9, c9, h9, _⟩ := HR3.out
            rw [hc] at h9
            simp only [Option.some.injEq, Obj.cells.injEq] at h9
            exact hT h9.2.1) (blk_lt hc)
          have HS4 := Lib.hid (show StV w.heap.size w4 w.heap.size v3 m3 whz from HS3.out.rim hwb)
          have HVA4 := Lib.hid (HVA.out.keep (w' := w4) (g' := none) (fun b cur hc _ _ => hwb b cur _ (by decide) hc) (fun b _ _ _ => by simp) (Nat.le_refl _))
          have HOF4 := Lib.hid (show w4.ownsRow w2.heap.size 22 1 (.slice az gsx.length cz) gsx.length vals3 from own_blocks HOF.out (fun b cur hc => hwb b cur _ (by decide) hc))
          obtain ⟨ag, cg, rfl⟩ := own_form hog
          have HOG := Lib.hid hog
          have HVG := Lib.hid hvg
          have HR4 := Lib.hid hra
          obtain ⟨n4, hn4⟩ : ∃ n, gsx.length = n := ⟨_, rfl⟩
          have HN := Lib.hid hn4
          rw [hn4] at HOF4 HOG
          rw [hn4]
          clear hr hra hog hvg hri hwb HR3 hg3 HB3 HOF HVA HS3 HFS hn4
          rcases Classical.propComplete (cb = rest.length) with hce | hce
          · go_wp2_with fail
            haveI hIq : Nonempty (Of w4) := of_some _
            obtain ⟨aw, cw, hRB, -⟩ := HR4.out
            have hF0 := blk_of hRB
            refine wp_region_stay w4 (by kernel_rfl) (by kernel_rfl) (by go_grown) ?_
            repeat (go_big_quiet_step ((go_at_call 20; refine stay_same (frameLeft w.heap.size w.heap.size v3 m3 whz _ (HS4.out.ext (In.h _))))))
            refine wpQuiet_nil ?_
            intro w5 hb
            clear hIq hF0 hRB
            have B5 := ext_trans B4 hb
            have HS5 := Lib.hid (HS4.out.ext hb)
            have HR5 := Lib.hid (HR4.out.ext hb)
            have HVA5 := Lib.hid (HVA4.out.ext hb)
            have HVG5 := Lib.hid (HVG.out.ext hb)
            have HOF5 := Lib.hid (ownsRow_ext HOF4.out hb)
            have HOG5 := Lib.hid (ownsRow_ext HOG.out hb)
            clear hb HS4 HR4 HVA4 HVG HOF4 HOG B4
            go_wp2_with fail
            go_loopw [83] (fun i wr => ∃ j : Nat, j ≤ n4 ∧ i = .int .i64 (j : Int) ∧ Below w5.heap.size w5 wr) (fun i _ => n4 - (intOf i).toNat)
            case atStart => exact ⟨0, by omega, rfl, Below.refl _ _⟩
            case round =>
              obtain ⟨w6, rfl⟩ : ∃ y : World, y = wr := ⟨_, rfl⟩
              obtain ⟨i, hi', rfl, D6⟩ := hrel
              by_cases hin : i < n4
              · obtain ⟨f, hf⟩ : ∃ f, gsx[i]? = some f := ⟨_, List.getElem?_eq_getElem (by have := HN.out; omega)⟩
                obtain ⟨xa, xc, hxv, hxb, -⟩ := HVA5.out.2 i f hf
                obtain ⟨ya, yc, hyv, hyb, -⟩ := HVG5.out.2 i f hf
                obtain ⟨gx, hgx, rfl⟩ := own_cell HOF5.out hxv
                obtain ⟨gy, hgy, rfl⟩ := own_cell HOG5.out hyv
                have HCX := Lib.hid (ext_cell D6 hgx)
                have HCY := Lib.hid (ext_cell D6 hgy)
                obtain ⟨m, hm⟩ : ∃ m, f.length = m := ⟨_, rfl⟩
                rw [hm] at HCX HCY
                have hcvx := Lib.hid (show ∀ g : Of w6, (convert 22 9 (.slice xa m xc)).run Try.prog g.w = .ok (.string (strOfNums f)) g.w from fun g => run_text g.w 22 5 Try.underlying22 Try.underlying5 9 Try.underlying9 xa m xc f hm ((hxb.ext D6).ext g.h))
                have hcvy := Lib.hid (show ∀ g : Of w6, (convert 22 9 (.slice ya m yc)).run Try.prog g.w = .ok (.string (strOfNums f)) g.w from fun g => run_text g.w 22 5 Try.underlying22 Try.underlying5 9 Try.underlying9 ya m yc f hm ((hyb.ext D6).ext g.h))
                have hcx2 := own_cap HOF5.out
                have hcx3 := own_max HOF5.out
                have hcy3 := own_max HOG5.out
                have hcy2 := own_cap HOG5.out
                clear hf hxv hyv hxb hyb hgx hgy hm
                go_wp2_with fail
                haveI hIq : Nonempty (Of w6) := of_some _
                have hF0 := of_cell HCX.out
                have hF1 := of_cell HCY.out
                have hF2 := hcvx.out
                have hF3 := hcvy.out
                refine wp_region_stay w6 (by kernel_rfl) (by kernel_rfl) (by go_grown) ?_
                repeat (go_big_quiet_step (fail))
                refine wpQuiet_nil ?_
                intro w7 hb
                have D7 := ext_trans D6 hb
                clear hIq hF0 hF1 hF2 hF3 hb
                go_wp2
                go_roundw
                case rel => exact ⟨i + 1, by omega, by go_num, D7⟩
                case measure => simp [intOf]; omega
              · obtain rfl : i = n4 := by omega
                have HS6 := Lib.hid (HS5.out.ext D6)
                have HR6 := Lib.hid (HR5.out.ext D6)
                have B6 := ext_trans B5 D6
                go_wp2
                go_roundw
                case rel => exact ⟨p + 1, rest.drop rest.length, m3, v3, whz, some ⟨b, o, none⟩, cb - rest.length, by omega, by go_num, by rw [List.length_drop, Nat.sub_self], by rw [List.length_drop]; omega, by omega, by rw [List.length_drop]; omega, .inl (List.drop_eq_nil_of_le (by have := of_eq_true hce; omega)), .inr ⟨b, o, rfl⟩, HWR.out.drop rest.length, HS6.out, HV3.out, HR6.out, B6⟩
                case measure => simp [intOf]; omega
          · go_wp2_with fail
            haveI hIq : Nonempty (Of w4) := of_some _
            obtain ⟨aw, cw, hRB, -⟩ := HR4.out
            have hF0 := blk_of hRB
            refine wp_region_stay w4 (by kernel_rfl) (by kernel_rfl) (by go_grown) ?_
            repeat (go_big_quiet_step ((go_at_call 20; refine stay_same (frameLeft w.heap.size w.heap.size v3 m3 whz _ (HS4.out.ext (In.h _))))))
            refine wpQuiet_nil ?_
            intro w5 hb
            clear hIq hF0 hRB
            have B5 := ext_trans B4 hb
            have HS5 := Lib.hid (HS4.out.ext hb)
            have HR5 := Lib.hid (HR4.out.ext hb)
            have HVA5 := Lib.hid (HVA4.out.ext hb)
            have HVG5 := Lib.hid (HVG.out.ext hb)
            have HOF5 := Lib.hid (ownsRow_ext HOF4.out hb)
            have HOG5 := Lib.hid (ownsRow_ext HOG.out hb)
            clear hb HS4 HR4 HVA4 HVG HOF4 HOG B4
            go_wp2_with fail
            go_loopw [83] (fun i wr => ∃ j : Nat, j ≤ n4 ∧ i = .int .i64 (j : Int) ∧ Below w5.heap.size w5 wr) (fun i _ => n4 - (intOf i).toNat)
            case atStart => exact ⟨0, by omega, rfl, Below.refl _ _⟩
            case round =>
              obtain ⟨w6, rfl⟩ : ∃ y : World, y = wr := ⟨_, rfl⟩
              obtain ⟨i, hi', rfl, D6⟩ := hrel
              by_cases hin : i < n4
              · obtain ⟨f, hf⟩ : ∃ f, gsx[i]? = some f := ⟨_, List.getElem?_eq_getElem (by have := HN.out; omega)⟩
                obtain ⟨xa, xc, hxv, hxb, -⟩ := HVA5.out.2 i f hf
                obtain ⟨ya, yc, hyv, hyb, -⟩ := HVG5.out.2 i f hf
                obtain ⟨gx, hgx, rfl⟩ := own_cell HOF5.out hxv
                obtain ⟨gy, hgy, rfl⟩ := own_cell HOG5.out hyv
                have HCX := Lib.hid (ext_cell D6 hgx)
                have HCY := Lib.hid (ext_cell D6 hgy)
                obtain ⟨m, hm⟩ : ∃ m, f.length = m := ⟨_, rfl⟩
                rw [hm] at HCX HCY
                have hcvx := Lib.hid (show ∀ g : Of w6, (convert 22 9 (.slice xa m xc)).run Try.prog g.w = .ok (.string (strOfNums f)) g.w from fun g => run_text g.w 22 5 Try.underlying22 Try.underlying5 9 Try.underlying9 xa m xc f hm ((hxb.ext D6).ext g.h))
                have hcvy := Lib.hid (show ∀ g : Of w6, (convert 22 9 (.slice ya m yc)).run Try.prog g.w = .ok (.string (strOfNums f)) g.w from fun g => run_text g.w 22 5 Try.underlying22 Try.underlying5 9 Try.underlying9 ya m yc f hm ((hyb.ext D6).ext g.h))
                have hcx2 := own_cap HOF5.out
                have hcx3 := own_max HOF5.out
                have hcy3 := own_max HOG5.out
                have hcy2 := own_cap HOG5.out
                clear hf hxv hyv hxb hyb hgx hgy hm
                go_wp2_with fail
                haveI hIq : Nonempty (Of w6) := of_some _
                have hF0 := of_cell HCX.out
                have hF1 := of_cell HCY.out
                have hF2 := hcvx.out
                have hF3 := hcvy.out
                refine wp_region_stay w6 (by kernel_rfl) (by kernel_rfl) (by go_grown) ?_
                repeat (go_big_quiet_step (fail))
                refine wpQuiet_nil ?_
                intro w7 hb
                have D7 := ext_trans D6 hb
                clear hIq hF0 hF1 hF2 hF3 hb
                go_wp2
                go_roundw
                case rel => exact ⟨i + 1, by omega, by go_num, D7⟩
                case measure => simp [intOf]; omega
              · obtain rfl : i = n4 := by omega
                have HS6 := Lib.hid (HS5.out.ext D6)
                have HR6 := Lib.hid (HR5.out.ext D6)
                have B6 := ext_trans B5 D6
                go_wp2
                go_roundw
                case rel => exact ⟨p + 1, rest.drop rest.length, m3, v3, whz, some ⟨b, o + rest.length, none⟩, cb - rest.length, by omega, by go_num, by rw [List.length_drop, Nat.sub_self], by rw [List.length_drop]; omega, by omega, by rw [List.length_drop]; omega, HBE.out.drop rest.length, .inr ⟨b, o + rest.length, rfl⟩, HWR.out.drop rest.length, HS6.out, HV3.out, HR6.out, B6⟩
                case measure => simp [intOf]; omega
    · have hcs : (decide ((p : Int) ≤ kl) = false ∧ ¬ p ≤ kl) ∨ (decide ((p : Int) ≤ kl) = true ∧ p ≤ kl ∧ decide ((p : Int) < 30) = false ∧ ¬ p < 30) := by have := HT3.out; simp; omega
      rcases hcs with ⟨hd3, hd4⟩ | ⟨hd3, hd4, hd5, hd6⟩
      all_goals
        go_wp2
        go_ret
        exact ⟨rfl, B2⟩

end Go.Proofs.Ytiblnonmlekjgaa
