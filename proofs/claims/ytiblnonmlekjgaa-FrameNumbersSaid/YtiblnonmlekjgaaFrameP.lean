/- Layer 3's laws, walked: FramePieces. -/
import Derived.Test.YtiblnonmlekjgaaFrameR
import Derived.Test.YtiblnonmlekjgaaFrameQ
import Derived.Test.YtiblnonmlekjgaaWithin
namespace Go.Proofs.Ytiblnonmlekjgaa
open Go.RowKit
set_option linter.unusedVariables false

theorem own_cell {w : World} {base n c i : Nat} {e : TypeId} {a : Option Addr} {vs : List Value} {u : Value} (h : w.ownsRow base e 1 (.slice a n c) n vs) (hi : vs[i]? = some u) : ∃ g, w.cell? ⟨g, i, none⟩ = some u ∧ a = some ⟨g, 0, none⟩ := by
  obtain ⟨h1, h2⟩ := h
  have hlt : i < vs.length := by
    rcases Nat.lt_or_ge i vs.length with h | h
    · exact h
    · rw [List.getElem?_eq_none h] at hi; cases hi
  rcases h2 with ⟨e1, e2⟩ | ⟨g, cap', cur, e1, _, hh, _, _, _, ht⟩
  · omega
  · simp at e1
    refine ⟨g, ?_, e1.1⟩
    rw [← ht, List.getElem?_take_of_lt (by omega)] at hi
    simp only [World.cell?, hh]
    simpa using hi
theorem own_cap {w : World} {base n c : Nat} {e : TypeId} {a : Option Addr} {vs : List Value} (h : w.ownsRow base e 1 (.slice a n c) n vs) : n ≤ c := by
  rcases h.2 with ⟨e1, e2⟩ | ⟨g, cap', cur, e1, _, hh, hle, _⟩
  · simp at e1; omega
  · simp at e1; omega
theorem piece_end {l3 d : List Int} {acc all : List (List Int)} (h : Runs (l3 ++ d) acc (all, [], 0)) (hs : fs l3 = (0, 0)) (hd : d = []) : d = [] ∧ l3 = [] ∧ acc = all := by
  subst hd
  rw [List.append_nil] at h
  have h1 := h.one (Runs.stop (acc := acc) hs)
  simp only [Prod.mk.injEq] at h1
  exact ⟨rfl, h1.2.1.symm, h1.1.symm⟩
set_option maxHeartbeats 400000 in
theorem frameLeft0 (sb : Nat) (a : Option Addr) (n c : Nat) (why : Int) (w : World) (h : w.heap[sb]? = some (.cells #[.slice a n c, .int .i64 why] 52 (0, 0))) :
    Calls Try.prog 20 #[.pointer (some ⟨sb, 0, none⟩)] w fun e w' => e = .returned (.int .i64 (n : Int)) ∧ w = w' := by
  have hc := blk_cell h
  have hl := blk_lt h
  clear h
  go_enter Try.func20, Try.ntmps20
  go_wp2
  go_ret
  exact ⟨rfl, rfl⟩

set_option maxRecDepth 100000 in
set_option maxHeartbeats 3000000 in
theorem framePieces_walk (a0 : Option Addr) (len cap : Nat) (ro : Nat → Option Addr) (rl rc : Nat → Nat) (rx : Nat → List Int) (ka : Option Addr) (kl kc : Nat) (kz : List Int) (w : World) (h0 : IsRows w a0 len cap ro rl rc rx) (hk : IsRow .i64 w ka kl kc kz) :
    Calls Try.prog 7 #[.slice a0 len cap, .slice ka kl kc] w fun e w' => e = .returned (.bool true) ∧ Below w.heap.size w w' := by
  have H0 := Lib.hid h0
  have HK := Lib.hid hk
  have hk1 := hk.1
  have hk2 := hk.2.1
  unfold maxLen at hk2
  obtain ⟨j0, hj, hjz, hj1, hj2⟩ := info_parts info_bs
  clear h0 hk
  go_enter Try.func7, Try.ntmps7
  go_wp2_with fail
  refine (law3row a0 len cap ro rl rc rx _ H0.out).mono ?_
  rintro e w1 ⟨vb, rfl, hob, B1⟩
  obtain ⟨q, hq⟩ : ∃ q, min len 5 = q := ⟨_, rfl⟩
  have hq5 : q ≤ 5 := by omega
  have hql : q ≤ len := by omega
  rw [hq] at hob
  obtain ⟨y0, hy0⟩ : ∃ y, y = rowF rx q := ⟨_, rfl⟩
  obtain ⟨all, hall⟩ : ∃ a, a = rowC rx q := ⟨_, rfl⟩
  have hyl : y0.length ≤ 340 := by rw [hy0]; have := rowF_len rx q; omega
  have hal5 : all.length ≤ 5 := by rw [hall, rowC_len]; exact hq5
  have HYW := Lib.hid (show Wb y0 by rw [hy0]; exact rowF_wb rx q (fun i hi => (H0.out.2.2.1 i (by omega)).2.2.2.2))
  have HALL := Lib.hid (show Runs y0 [] (all, [], 0) by rw [hy0, hall]; have := runs_frames (rowC rx q) [] (rowC_le rx q); rwa [List.nil_append] at this)
  rw [← hy0] at hob
  obtain ⟨a1, c1, rfl, -, hc1, hm1, hA1, hown1, hn1⟩ := own_read hob
  have HU1 := Lib.hid (own_uat hob)
  have HFM := Lib.hid (show (a1 = none ∧ c1 = 0) ∨ ∃ b o, a1 = some ⟨b, o, none⟩ from by
    rcases hob.2 with ⟨e, _⟩ | ⟨g, cp, cur, e, _⟩
    · simp at e; exact .inl ⟨e.1, e.2.2⟩
    · simp at e; exact .inr ⟨g, 0, e.1⟩)
  have HA1 := Lib.hid hA1
  unfold maxLen at hm1
  clear hq hob hy0 hall hA1 hown1 hn1
  go_wp2_with fail
  refine (frameNew _).mono ?_
  rintro e wA ⟨rfl, hstA, hbA⟩
  obtain ⟨sb1, hsb1⟩ : ∃ s, w1.heap.size = s := ⟨_, rfl⟩
  rw [hsb1] at hstA ⊢
  have hs1 : w.heap.size ≤ sb1 := by have := B1.size; omega
  have BA := ext_trans B1 hbA
  have HSA := Lib.hid (show StV w.heap.size wA sb1 (.slice none 0 0) [] 0 from ⟨hstA.1, World.ownsRow_nil _ _ _ _, Wb.nil⟩)
  have hs1a : sb1 < wA.heap.size := hstA.lt
  have HAA := Lib.hid (HA1.out.ext hbA)
  have HUA := Lib.hid (HU1.out.ext hbA)
  have HNA := Lib.hid (show ∀ b o, a1 = some ⟨b, o, none⟩ → b < sb1 from fun b o e => by
    obtain ⟨cur, hc⟩ := HU1.out b o e
    have := blk_lt hc
    omega)
  clear hstA hbA hsb1
  go_wp2_with fail
  refine (frameNew _).mono ?_
  rintro e wB ⟨rfl, hstB, hbB⟩
  obtain ⟨sb2, hsb2⟩ : ∃ s, wA.heap.size = s := ⟨_, rfl⟩
  rw [hsb2] at hstB ⊢
  have hs12 : sb1 < sb2 := by omega
  have BB := ext_trans BA hbB
  have HSB := Lib.hid (show StV w.heap.size wB sb2 (.slice none 0 0) [] 0 from ⟨hstB.1, World.ownsRow_nil _ _ _ _, Wb.nil⟩)
  have HSA2 := Lib.hid (HSA.out.ext hbB)
  have HAB := Lib.hid (HAA.out.ext hbB)
  have HUB := Lib.hid (HUA.out.ext hbB)
  clear hstB hbB hsb2
  go_wp2_with fail
  refine (frameFeed w.heap.size sb1 (.slice none 0 0) [] a1 _ c1 y0 _ HSA2.out hs1 (fun g e => by simp [Value.ownBlock] at e) HAB.out rfl HYW.out (by simp; omega)).mono ?_
  rintro e wC ⟨xv, v1, fsx, l', why', xvals, rfl, hr, hst, hof, hva, hfw, hown⟩
  rw [List.nil_append] at hr
  have h1 := hr.one HALL.out
  simp only [Prod.mk.injEq] at h1
  obtain ⟨e1, rfl, rfl⟩ := h1
  have e2 := e1.symm
  clear e1
  subst e2
  have BC := BB.trans (hfw.below hs1 (fun g e => by simp [Value.ownBlock] at e) BB.size)
  have hnn : ∀ k : Nat, some k ≠ (Value.slice none 0 0).ownBlock := fun k => by simp [Value.ownBlock]
  have HSC := Lib.hid (show StV w.heap.size wC sb2 (.slice none 0 0) [] 0 from ⟨(hfw.block sb2 HSB.out.lt (by omega) (hnn _)).trans HSB.out.1, World.ownsRow_nil _ _ _ _, Wb.nil⟩)
  obtain ⟨ao, co, rfl⟩ := own_form hst.2.1
  have HS1C := Lib.hid hst.1
  have HXC := Lib.hid (show VAt 0 (Value.slice none 0 0).ownBlock wC xvals all from hva.keep (fun _ _ _ _ _ => rfl) (fun b _ _ _ => hnn b) (Nat.zero_le _))
  have HAC := Lib.hid (hfw.bat HAB.out (fun b o e => ⟨by have := HNA.out b o e; omega, hnn b⟩))
  have HUC := Lib.hid (show UAt wC a1 from fun b o e => by
    obtain ⟨cur, hc⟩ := HUB.out b o e
    exact ⟨cur, (hfw.block b (blk_lt hc) (by have := HNA.out b o e; omega) (hnn b)).trans hc⟩)
  obtain ⟨bx, hbx⟩ : ∃ bx, wB.heap.size = bx := ⟨_, rfl⟩
  rw [hbx] at hof
  have HXRC := Lib.hid hof
  obtain ⟨T, hT⟩ : ∃ T, min (kl + 1) 40 = T := ⟨_, rfl⟩
  have hT1 : T ≤ kl + 1 := by omega
  have hT2 : T ≤ 40 := by omega
  have hT3 : T = kl + 1 ∨ T = 40 := by omega
  have HT3 := Lib.hid hT3
  have hT4 : 1 ≤ T := by omega
  clear hr hst hof hva hfw hown hnn hbx hT hT3 HSA HSA2 HSB HAA HAB HUA HUB HU1 HA1
  go_wp2_with fail
  go_loopw [5, 10, 11] (fun bv yv i wr => ∃ (p : Nat) (rest l2 : List Int) (acc : List (List Int)) (v2 : Value) (ab : Option Addr) (cb : Nat) (yvals : List Value), p ≤ T ∧ i = .int .i64 (p : Int) ∧ bv = .slice ab rest.length cb ∧ rest.length ≤ cb ∧ cb ≤ 9223372036854775807 ∧ l2.length + rest.length ≤ 340 ∧ BAt wr ab rest ∧ UAt wr ab ∧ (∀ b' o', ab = some ⟨b', o', none⟩ → some b' ≠ v2.ownBlock) ∧ ((ab = none ∧ cb = 0) ∨ ∃ b o, ab = some ⟨b, o, none⟩) ∧ Wb rest ∧ StV w.heap.size wr sb2 v2 l2 0 ∧ (∀ g, v2.ownBlock = some g → g ≠ sb2 ∧ g ≠ sb1) ∧ Runs (l2 ++ rest) acc (all, [], 0) ∧ VAt 0 v2.ownBlock wr xvals all ∧ wr.ownsRow bx 22 1 xv all.length xvals ∧ VAt 0 v2.ownBlock wr yvals acc ∧ wr.ownsRow w.heap.size 22 1 yv acc.length yvals ∧ (∀ g, xv.ownBlock = some g → yv.ownBlock ≠ some g) ∧ wr.heap[sb1]? = some (.cells #[.slice ao 0 co, .int .i64 0] 52 (0, 0)) ∧ Below w.heap.size w wr ∧ (p = T → rest = [] ∧ l2 = [] ∧ acc = all)) (fun _ _ i _ => 40 - (intOf i).toNat)
  case atStart => exact ⟨0, y0, [], [], .slice none 0 0, a1, c1, [], by omega, rfl, rfl, hc1, by omega, by simp; omega, HAC.out, HUC.out, fun b o e => by simp [Value.ownBlock], HFM.out, HYW.out, HSC.out, fun g e => by simp [Value.ownBlock] at e, by rw [List.nil_append]; exact HALL.out, HXC.out, HXRC.out, VAt.nil _ _ _, World.ownsRow_nil _ _ _ _, fun g _ e => by simp [Value.ownBlock] at e, HS1C.out, BC, fun h => by omega⟩
  case round =>
    obtain ⟨w2, rfl⟩ : ∃ y : World, y = wr := ⟨_, rfl⟩
    obtain ⟨p, rest, l2, acc, v2, ab, cb, yvals, hp, rfl, rfl, hrc, hcm, hll0, hb1, hb2, hb3, hb4, hb5, hst2, hv2, hri, hx1, hx2, hyv, hy2, hyx, hs15, B2, hend⟩ := hrel
    have HB2 := Lib.hid hb1
    have HBU := Lib.hid hb2
    have HBN := Lib.hid hb3
    have HWR := Lib.hid hb5
    have HS2 := Lib.hid hst2
    have HV2 := Lib.hid hv2
    have HRI := Lib.hid hri
    have HX2 := Lib.hid hx1
    have HXR := Lib.hid hx2
    have HY2 := Lib.hid hyv
    have HYR := Lib.hid hy2
    have HYX := Lib.hid hyx
    have HS1 := Lib.hid hs15
    have HEND := Lib.hid hend
    have hfm := hb4
    clear hb1 hb2 hb3 hb4 hb5 hst2 hv2 hri hx1 hx2 hyv hy2 hyx hs15 hend HSC HXC HXRC HS1C HAC HUC HFM
    by_cases hpT : p < T
    · have hpk : p ≤ kl := by omega
      have hd1 : decide ((p : Int) ≤ kl) = true := by simp; omega
      have hd2 : decide ((p : Int) < 40) = true := by simp; omega
      by_cases hcut : p < kl ∧ p < 39
      · obtain ⟨hcu1, hcu2⟩ := hcut
        have hd3 : decide ((p : Int) < kl) = true := by simp; omega
        obtain ⟨kb, ko, rfl, hz⟩ := HK.out.2.2.2.2.resolve_left (by omega)
        have hx := ext_cell B2 (hz p hcu1)
        have hwx := bounds_i64 (getD_wf (j := p) HK.out.2.2.2.1)
        generalize kz.getD p 0 = x at hx hwx
        clear hz
        go_wp2_with fail
        refine (within_any x 0 (rest.length : Int) _ (by omega) (by omega) (by omega) (by omega) (by omega)).mono ?_
        rintro e w3 ⟨rfl, rfl⟩
        have hy1 := win_lo x 0 (rest.length : Int) (by omega)
        have hy2 := win_hi x 0 (rest.length : Int) (by omega)
        generalize win x 0 (rest.length : Int) = yk at *
        obtain ⟨K, rfl⟩ := Int.eq_ofNat_of_zero_le hy1
        have hKr : K ≤ rest.length := by omega
        have HKL := Lib.hid (show (rest.take K).length = K by rw [List.length_take]; omega)
        have hpe : p + 1 < T := by have := HT3.out; omega
        clear hx hwx hy1 hy2
        rcases hfm with ⟨rfl, rfl⟩ | ⟨b, o, rfl⟩
        · obtain rfl : rest = [] := List.eq_nil_of_length_eq_zero (by omega)
          obtain rfl : K = 0 := by simpa using hKr
          go_wp2_with fail
          refine (frameFeed w.heap.size sb2 v2 l2 none 0 0 (([] : List Int).take 0) _ HS2.out (by omega) (fun g e => (HV2.out g e).1) (HB2.out.take 0) rfl (HWR.out.take 0) (by omega)).mono ?_
          rintro e w3 ⟨fv, v3, fsx, l3, why3, vals3, rfl, hr, hst, hof, hva, hfw, hown⟩
          obtain ⟨rfl, hRI3, hstop3⟩ := piece_ok HRI.out hr
          have B3 := B2.trans (hfw.below (by omega) (fun g e => (HS2.out.2.1.lt g e).1) B2.size)
          have Z3 := hfw.size
          have HV3 := Lib.hid (show ∀ g, v3.ownBlock = some g → g ≠ sb2 ∧ g ≠ sb1 from fun g e => by
            rcases hown g e with h | h
            · exact HV2.out g h
            · have h1 := HS2.out.lt; omega)
          have hkb : ∀ (b : Nat) (cur : Array Value), w2.heap[b]? = some (.cells cur 5 (0, 0)) → some b ≠ v2.ownBlock → w3.heap[b]? = w2.heap[b]? := fun b cur hc hn => hfw.block b (blk_lt hc) (fun e => by
            subst e
            have h1 := HS2.out.1
            rw [hc] at h1
            simp at h1) hn
          have hgn : ∀ b, b < w2.heap.size → some b ≠ v2.ownBlock → some b ≠ v3.ownBlock := fun b hb hn e => by
            rcases hown b e.symm with h | h
            · exact hn h.symm
            · omega
          have HX3 := Lib.hid (HX2.out.keep (w' := w3) (g' := v3.ownBlock) (fun b cur hc _ hn => hkb b cur hc hn) (fun b hb _ hn => hgn b hb hn) (Nat.le_refl _))
          have HY3 := Lib.hid (HY2.out.keep (w' := w3) (g' := v3.ownBlock) (fun b cur hc _ hn => hkb b cur hc hn) (fun b hb _ hn => hgn b hb hn) (Nat.le_refl _))
          have HB3 := Lib.hid (HB2.out.keep (w' := w3) (fun b o e p v hc => by
            obtain ⟨cur, hcur⟩ := HBU.out b o e
            exact (World.cell?_of_block (w := w2) (hkb b cur hcur (HBN.out b o e))).trans hc))
          have HBU3 := Lib.hid (show UAt w3 none from fun b o e => by
            obtain ⟨cur, hcur⟩ := HBU.out b o e
            exact ⟨cur, (hkb b cur hcur (HBN.out b o e)).trans hcur⟩)
          have HBN3 := Lib.hid (show ∀ b' o', (none : Option Addr) = some ⟨b', o', none⟩ → some b' ≠ v3.ownBlock from fun b' o' e => by
            obtain ⟨cur, hcur⟩ := HBU.out b' o' e
            exact hgn b' (blk_lt hcur) (HBN.out b' o' e))
          have hrow : ∀ (base : Nat) (v : Value) (n : Nat) (vs : List Value), w2.ownsRow base 22 1 v n vs → w3.ownsRow base 22 1 v n vs := fun base v n vs h => by
            obtain ⟨h1, h2⟩ := h
            refine ⟨h1, ?_⟩
            rcases h2 with h2 | ⟨g, cap', cur, hv, hg, hh, r⟩
            · exact .inl h2
            · refine .inr ⟨g, cap', cur, hv, hg, (hfw.block g (blk_lt hh) (fun e => ?_) (own_ne HS2.out.2.1 hh (by decide))).trans hh, r⟩
              subst e
              have h1 := HS2.out.1
              rw [hh] at h1
              simp at h1
          have HXR3 := Lib.hid (hrow _ _ _ _ HXR.out)
          have O3 := hrow _ _ _ _ HYR.out
          have HS1' := Lib.hid ((hfw.block sb1 (blk_lt HS1.out) (by omega) (fun e => (HV2.out sb1 e.symm).2 rfl)).trans HS1.out)
          have hal := hRI3.le
          obtain ⟨az, cz, rfl⟩ := own_form hof
          have HOF := Lib.hid hof
          have HVA := Lib.hid hva
          have HS3 := Lib.hid hst
          have HRI3 := Lib.hid hRI3
          have HSTOP := Lib.hid hstop3
          have hlz : acc.length + fsx.length ≤ 5 := by simp only [List.length_append] at hal; omega
          have hll := hr.left
          simp only [List.length_append, List.length_take] at hll
          clear hal hr hst hof hva hfw hown hkb hgn hrow hRI3 hstop3 HS2 HV2 HX2 HY2 HB2 HBU HBN HXR HYR HS1
          go_wp2_with (at_builtin; refine wpList_append_rows _ rfl _ _ 24 rfl (w.heap.size) 22 j0 (.slice none 0 0) 24 Try.underlying24 hj hjz hj1 hj2 rfl _ _ _ rfl O3 w2.heap.size az _ cz vals3 rfl HOF.out ?c1 ?c3 ?c4 ?c5 ?_)
          case c1 => exact HVA.out.one
          case c3 => unfold maxLen; omega
          case c4 => omega
          case c5 => exact B3.size
          intro v5 w5 ho5 hg5 hat5
          have B5 := B3.grown hg5 B3.size (fun q hq => own_ge O3 hq)
          have hkb : ∀ (b : Nat) (cur : Array Value), w3.heap[b]? = some (.cells cur 5 (0, 0)) → w5.heap[b]? = w3.heap[b]? := fun b cur hc => hg5.block b (blk_lt hc) (own_ne (e' := 5) (cur := cur) O3 hc (by decide))
          have HS5 := Lib.hid (show StV w.heap.size w5 sb2 v3 l3 0 from by
            refine ⟨(hg5.block sb2 HS3.out.lt (own_ne O3 HS3.out.1 (by decide))).trans HS3.out.1, ?_, HS3.out.2.2⟩
            obtain ⟨h1, h2⟩ := HS3.out.2.1
            refine ⟨h1, ?_⟩
            rcases h2 with h2 | ⟨g, cap', cur, hv, hg, hh, r⟩
            · exact .inl h2
            · exact .inr ⟨g, cap', cur, hv, hg, (hkb g cur hh).trans hh, r⟩)
          have HS15 := Lib.hid ((hg5.block sb1 (blk_lt HS1'.out) (own_ne O3 HS1'.out (by decide))).trans HS1'.out)
          have HX5 := Lib.hid (HX3.out.keep (w' := w5) (g' := v3.ownBlock) (fun b cur hc _ _ => hkb b cur hc) (fun b _ _ h => h) (Nat.le_refl _))
          have HYn := Lib.hid ((HY3.out.app (HVA.out.lo (Nat.zero_le _))).keep (w' := w5) (g' := v3.ownBlock) (fun b cur hc _ _ => hkb b cur hc) (fun b _ _ h => h) (Nat.le_refl _))
          have HB5 := Lib.hid (HB3.out.keep (w' := w5) (fun b o e p v hc => by
            obtain ⟨cur, hcur⟩ := HBU3.out b o e
            exact (World.cell?_of_block (w := w3) (hkb b cur hcur)).trans hc))
          have HBU5 := Lib.hid (show UAt w5 none from fun b o e => by
            obtain ⟨cur, hcur⟩ := HBU3.out b o e
            exact ⟨cur, (hkb b cur hcur).trans hcur⟩)
          have HXR5 := Lib.hid (show w5.ownsRow bx 22 1 xv all.length xvals from by
            obtain ⟨h1, h2⟩ := HXR3.out
            refine ⟨h1, ?_⟩
            rcases h2 with h2 | ⟨g, cap', cur, hv, hg, hh, r⟩
            · exact .inl h2
            · refine .inr ⟨g, cap', cur, hv, hg, (hg5.block g (blk_lt hh) (fun e => ?_)).trans hh, r⟩
              exact HYX.out g (by rw [hv]; rfl) e.symm)
          have HYX5 := Lib.hid (show ∀ g, xv.ownBlock = some g → v5.ownBlock ≠ some g from fun g e1 e2 => by
            have hlt := (HXR3.out.lt g e1).2
            rcases hat5 with h | h
            · rw [h] at e2; exact HYX.out g e1 e2
            · rw [h] at e2; simp at e2; omega)
          have HYR5 := Lib.hid (show w5.ownsRow w.heap.size 22 1 v5 (acc ++ fsx).length (yvals ++ vals3) from by rw [List.length_append]; exact ho5)
          clear ho5 hg5 hkb O3 hat5
          go_wp2
          go_roundw
          case rel => exact ⟨p + 1, ([] : List Int).drop 0, l3, acc ++ fsx, v3, none, 0, yvals ++ vals3, by omega, by go_num, rfl, by simp, by omega, by simp at *; omega, .inl rfl, (fun b o e => by cases e), (fun b o e => by cases e), .inl ⟨rfl, rfl⟩, HWR.out.drop 0, HS5.out, HV3.out, HRI3.out, HX5.out, HXR5.out, HYn.out, HYR5.out, HYX5.out, HS15.out, B5, fun h => by omega⟩
          case measure => simp [intOf]; omega
        · go_wp2_with fail
          refine (frameFeed w.heap.size sb2 v2 l2 (some ⟨b, o, none⟩) K cb (rest.take K) _ HS2.out (by omega) (fun g e => (HV2.out g e).1) (HB2.out.take K) HKL.out (HWR.out.take K) (by omega)).mono ?_
          rintro e w3 ⟨fv, v3, fsx, l3, why3, vals3, rfl, hr, hst, hof, hva, hfw, hown⟩
          obtain ⟨rfl, hRI3, hstop3⟩ := piece_ok HRI.out hr
          have B3 := B2.trans (hfw.below (by omega) (fun g e => (HS2.out.2.1.lt g e).1) B2.size)
          have Z3 := hfw.size
          have HV3 := Lib.hid (show ∀ g, v3.ownBlock = some g → g ≠ sb2 ∧ g ≠ sb1 from fun g e => by
            rcases hown g e with h | h
            · exact HV2.out g h
            · have h1 := HS2.out.lt; omega)
          have hkb : ∀ (b : Nat) (cur : Array Value), w2.heap[b]? = some (.cells cur 5 (0, 0)) → some b ≠ v2.ownBlock → w3.heap[b]? = w2.heap[b]? := fun b cur hc hn => hfw.block b (blk_lt hc) (fun e => by
            subst e
            have h1 := HS2.out.1
            rw [hc] at h1
            simp at h1) hn
          have hgn : ∀ b, b < w2.heap.size → some b ≠ v2.ownBlock → some b ≠ v3.ownBlock := fun b hb hn e => by
            rcases hown b e.symm with h | h
            · exact hn h.symm
            · omega
          have HX3 := Lib.hid (HX2.out.keep (w' := w3) (g' := v3.ownBlock) (fun b cur hc _ hn => hkb b cur hc hn) (fun b hb _ hn => hgn b hb hn) (Nat.le_refl _))
          have HY3 := Lib.hid (HY2.out.keep (w' := w3) (g' := v3.ownBlock) (fun b cur hc _ hn => hkb b cur hc hn) (fun b hb _ hn => hgn b hb hn) (Nat.le_refl _))
          have HB3 := Lib.hid (HB2.out.keep (w' := w3) (fun b o e p v hc => by
            obtain ⟨cur, hcur⟩ := HBU.out b o e
            exact (World.cell?_of_block (w := w2) (hkb b cur hcur (HBN.out b o e))).trans hc))
          have HBU3 := Lib.hid (show UAt w3 (some ⟨b, o, none⟩) from fun b o e => by
            obtain ⟨cur, hcur⟩ := HBU.out b o e
            exact ⟨cur, (hkb b cur hcur (HBN.out b o e)).trans hcur⟩)
          have HBN3 := Lib.hid (show ∀ b' o', (some ⟨b, o, none⟩ : Option Addr) = some ⟨b', o', none⟩ → some b' ≠ v3.ownBlock from fun b' o' e => by
            obtain ⟨cur, hcur⟩ := HBU.out b' o' e
            exact hgn b' (blk_lt hcur) (HBN.out b' o' e))
          have hrow : ∀ (base : Nat) (v : Value) (n : Nat) (vs : List Value), w2.ownsRow base 22 1 v n vs → w3.ownsRow base 22 1 v n vs := fun base v n vs h => by
            obtain ⟨h1, h2⟩ := h
            refine ⟨h1, ?_⟩
            rcases h2 with h2 | ⟨g, cap', cur, hv, hg, hh, r⟩
            · exact .inl h2
            · refine .inr ⟨g, cap', cur, hv, hg, (hfw.block g (blk_lt hh) (fun e => ?_) (own_ne HS2.out.2.1 hh (by decide))).trans hh, r⟩
              subst e
              have h1 := HS2.out.1
              rw [hh] at h1
              simp at h1
          have HXR3 := Lib.hid (hrow _ _ _ _ HXR.out)
          have O3 := hrow _ _ _ _ HYR.out
          have HS1' := Lib.hid ((hfw.block sb1 (blk_lt HS1.out) (by omega) (fun e => (HV2.out sb1 e.symm).2 rfl)).trans HS1.out)
          have hal := hRI3.le
          obtain ⟨az, cz, rfl⟩ := own_form hof
          have HOF := Lib.hid hof
          have HVA := Lib.hid hva
          have HS3 := Lib.hid hst
          have HRI3 := Lib.hid hRI3
          have HSTOP := Lib.hid hstop3
          have hlz : acc.length + fsx.length ≤ 5 := by simp only [List.length_append] at hal; omega
          have hll := hr.left
          simp only [List.length_append, List.length_take] at hll
          clear hal hr hst hof hva hfw hown hkb hgn hrow hRI3 hstop3 HS2 HV2 HX2 HY2 HB2 HBU HBN HXR HYR HS1
          rcases Classical.propComplete (cb = K) with hce | hce
          · go_wp2_with (at_builtin; refine wpList_append_rows _ rfl _ _ 24 rfl (w.heap.size) 22 j0 (.slice none 0 0) 24 Try.underlying24 hj hjz hj1 hj2 rfl _ _ _ rfl O3 w2.heap.size az _ cz vals3 rfl HOF.out ?c1 ?c3 ?c4 ?c5 ?_)
            case c1 => exact HVA.out.one
            case c3 => unfold maxLen; omega
            case c4 => omega
            case c5 => exact B3.size
            intro v5 w5 ho5 hg5 hat5
            have B5 := B3.grown hg5 B3.size (fun q hq => own_ge O3 hq)
            have hkb : ∀ (b : Nat) (cur : Array Value), w3.heap[b]? = some (.cells cur 5 (0, 0)) → w5.heap[b]? = w3.heap[b]? := fun b cur hc => hg5.block b (blk_lt hc) (own_ne (e' := 5) (cur := cur) O3 hc (by decide))
            have HS5 := Lib.hid (show StV w.heap.size w5 sb2 v3 l3 0 from by
              refine ⟨(hg5.block sb2 HS3.out.lt (own_ne O3 HS3.out.1 (by decide))).trans HS3.out.1, ?_, HS3.out.2.2⟩
              obtain ⟨h1, h2⟩ := HS3.out.2.1
              refine ⟨h1, ?_⟩
              rcases h2 with h2 | ⟨g, cap', cur, hv, hg, hh, r⟩
              · exact .inl h2
              · exact .inr ⟨g, cap', cur, hv, hg, (hkb g cur hh).trans hh, r⟩)
            have HS15 := Lib.hid ((hg5.block sb1 (blk_lt HS1'.out) (own_ne O3 HS1'.out (by decide))).trans HS1'.out)
            have HX5 := Lib.hid (HX3.out.keep (w' := w5) (g' := v3.ownBlock) (fun b cur hc _ _ => hkb b cur hc) (fun b _ _ h => h) (Nat.le_refl _))
            have HYn := Lib.hid ((HY3.out.app (HVA.out.lo (Nat.zero_le _))).keep (w' := w5) (g' := v3.ownBlock) (fun b cur hc _ _ => hkb b cur hc) (fun b _ _ h => h) (Nat.le_refl _))
            have HB5 := Lib.hid (HB3.out.keep (w' := w5) (fun b o e p v hc => by
              obtain ⟨cur, hcur⟩ := HBU3.out b o e
              exact (World.cell?_of_block (w := w3) (hkb b cur hcur)).trans hc))
            have HBU5 := Lib.hid (show UAt w5 (some ⟨b, o, none⟩) from fun b o e => by
              obtain ⟨cur, hcur⟩ := HBU3.out b o e
              exact ⟨cur, (hkb b cur hcur).trans hcur⟩)
            have HXR5 := Lib.hid (show w5.ownsRow bx 22 1 xv all.length xvals from by
              obtain ⟨h1, h2⟩ := HXR3.out
              refine ⟨h1, ?_⟩
              rcases h2 with h2 | ⟨g, cap', cur, hv, hg, hh, r⟩
              · exact .inl h2
              · refine .inr ⟨g, cap', cur, hv, hg, (hg5.block g (blk_lt hh) (fun e => ?_)).trans hh, r⟩
                exact HYX.out g (by rw [hv]; rfl) e.symm)
            have HYX5 := Lib.hid (show ∀ g, xv.ownBlock = some g → v5.ownBlock ≠ some g from fun g e1 e2 => by
              have hlt := (HXR3.out.lt g e1).2
              rcases hat5 with h | h
              · rw [h] at e2; exact HYX.out g e1 e2
              · rw [h] at e2; simp at e2; omega)
            have HYR5 := Lib.hid (show w5.ownsRow w.heap.size 22 1 v5 (acc ++ fsx).length (yvals ++ vals3) from by rw [List.length_append]; exact ho5)
            clear ho5 hg5 hkb O3 hat5
            go_wp2
            go_roundw
            case rel => exact ⟨p + 1, rest.drop K, l3, acc ++ fsx, v3, some ⟨b, o, none⟩, cb - K, yvals ++ vals3, by omega, by go_num, by rw [List.length_drop], by rw [List.length_drop]; omega, by omega, by rw [List.length_drop]; omega, .inl (List.drop_eq_nil_of_le (by have := of_eq_true hce; omega)), HBU5.out, HBN3.out, .inr ⟨b, o, rfl⟩, HWR.out.drop K, HS5.out, HV3.out, HRI3.out, HX5.out, HXR5.out, HYn.out, HYR5.out, HYX5.out, HS15.out, B5, fun h => by omega⟩
            case measure => simp [intOf]; omega
          · go_wp2_with (at_builtin; refine wpList_append_rows _ rfl _ _ 24 rfl (w.heap.size) 22 j0 (.slice none 0 0) 24 Try.underlying24 hj hjz hj1 hj2 rfl _ _ _ rfl O3 w2.heap.size az _ cz vals3 rfl HOF.out ?c1 ?c3 ?c4 ?c5 ?_)
            case c1 => exact HVA.out.one
            case c3 => unfold maxLen; omega
            case c4 => omega
            case c5 => exact B3.size
            intro v5 w5 ho5 hg5 hat5
            have B5 := B3.grown hg5 B3.size (fun q hq => own_ge O3 hq)
            have hkb : ∀ (b : Nat) (cur : Array Value), w3.heap[b]? = some (.cells cur 5 (0, 0)) → w5.heap[b]? = w3.heap[b]? := fun b cur hc => hg5.block b (blk_lt hc) (own_ne (e' := 5) (cur := cur) O3 hc (by decide))
            have HS5 := Lib.hid (show StV w.heap.size w5 sb2 v3 l3 0 from by
              refine ⟨(hg5.block sb2 HS3.out.lt (own_ne O3 HS3.out.1 (by decide))).trans HS3.out.1, ?_, HS3.out.2.2⟩
              obtain ⟨h1, h2⟩ := HS3.out.2.1
              refine ⟨h1, ?_⟩
              rcases h2 with h2 | ⟨g, cap', cur, hv, hg, hh, r⟩
              · exact .inl h2
              · exact .inr ⟨g, cap', cur, hv, hg, (hkb g cur hh).trans hh, r⟩)
            have HS15 := Lib.hid ((hg5.block sb1 (blk_lt HS1'.out) (own_ne O3 HS1'.out (by decide))).trans HS1'.out)
            have HX5 := Lib.hid (HX3.out.keep (w' := w5) (g' := v3.ownBlock) (fun b cur hc _ _ => hkb b cur hc) (fun b _ _ h => h) (Nat.le_refl _))
            have HYn := Lib.hid ((HY3.out.app (HVA.out.lo (Nat.zero_le _))).keep (w' := w5) (g' := v3.ownBlock) (fun b cur hc _ _ => hkb b cur hc) (fun b _ _ h => h) (Nat.le_refl _))
            have HB5 := Lib.hid (HB3.out.keep (w' := w5) (fun b o e p v hc => by
              obtain ⟨cur, hcur⟩ := HBU3.out b o e
              exact (World.cell?_of_block (w := w3) (hkb b cur hcur)).trans hc))
            have HBU5 := Lib.hid (show UAt w5 (some ⟨b, o, none⟩) from fun b o e => by
              obtain ⟨cur, hcur⟩ := HBU3.out b o e
              exact ⟨cur, (hkb b cur hcur).trans hcur⟩)
            have HXR5 := Lib.hid (show w5.ownsRow bx 22 1 xv all.length xvals from by
              obtain ⟨h1, h2⟩ := HXR3.out
              refine ⟨h1, ?_⟩
              rcases h2 with h2 | ⟨g, cap', cur, hv, hg, hh, r⟩
              · exact .inl h2
              · refine .inr ⟨g, cap', cur, hv, hg, (hg5.block g (blk_lt hh) (fun e => ?_)).trans hh, r⟩
                exact HYX.out g (by rw [hv]; rfl) e.symm)
            have HYX5 := Lib.hid (show ∀ g, xv.ownBlock = some g → v5.ownBlock ≠ some g from fun g e1 e2 => by
              have hlt := (HXR3.out.lt g e1).2
              rcases hat5 with h | h
              · rw [h] at e2; exact HYX.out g e1 e2
              · rw [h] at e2; simp at e2; omega)
            have HYR5 := Lib.hid (show w5.ownsRow w.heap.size 22 1 v5 (acc ++ fsx).length (yvals ++ vals3) from by rw [List.length_append]; exact ho5)
            clear ho5 hg5 hkb O3 hat5
            go_wp2
            go_roundw
            case rel => exact ⟨p + 1, rest.drop K, l3, acc ++ fsx, v3, some ⟨b, o + K, none⟩, cb - K, yvals ++ vals3, by omega, by go_num, by rw [List.length_drop], by rw [List.length_drop]; omega, by omega, by rw [List.length_drop]; omega, HB5.out.drop K, (fun b' o' e => by simp at e; exact HBU5.out b' o (by rw [e.1])), (fun b' o' e => by simp at e; exact HBN3.out b' o (by rw [e.1])), .inr ⟨b, o + K, rfl⟩, HWR.out.drop K, HS5.out, HV3.out, HRI3.out, HX5.out, HXR5.out, HYn.out, HYR5.out, HYX5.out, HS15.out, B5, fun h => by omega⟩
            case measure => simp [intOf]; omega
      · have hcs : (decide ((p : Int) < kl) = false ∧ ¬ p < kl) ∨ (decide ((p : Int) < kl) = true ∧ p < kl ∧ decide ((p : Int) < 39) = false ∧ ¬ p < 39) := by simp; omega
        clear hcut
        rcases hcs with ⟨hd3, hd4⟩ | ⟨hd3, hd4, hd5, hd6⟩
        · rcases hfm with ⟨rfl, rfl⟩ | ⟨b, o, rfl⟩
          · obtain rfl : rest = [] := List.eq_nil_of_length_eq_zero (by omega)
            go_wp2_with fail
            refine (frameFeed w.heap.size sb2 v2 l2 none 0 0 (([] : List Int).take 0) _ HS2.out (by omega) (fun g e => (HV2.out g e).1) (HB2.out.take 0) rfl (HWR.out.take 0) (by omega)).mono ?_
            rintro e w3 ⟨fv, v3, fsx, l3, why3, vals3, rfl, hr, hst, hof, hva, hfw, hown⟩
            obtain ⟨rfl, hRI3, hstop3⟩ := piece_ok HRI.out hr
            have B3 := B2.trans (hfw.below (by omega) (fun g e => (HS2.out.2.1.lt g e).1) B2.size)
            have Z3 := hfw.size
            have HV3 := Lib.hid (show ∀ g, v3.ownBlock = some g → g ≠ sb2 ∧ g ≠ sb1 from fun g e => by
              rcases hown g e with h | h
              · exact HV2.out g h
              · have h1 := HS2.out.lt; omega)
            have hkb : ∀ (b : Nat) (cur : Array Value), w2.heap[b]? = some (.cells cur 5 (0, 0)) → some b ≠ v2.ownBlock → w3.heap[b]? = w2.heap[b]? := fun b cur hc hn => hfw.block b (blk_lt hc) (fun e => by
              subst e
              have h1 := HS2.out.1
              rw [hc] at h1
              simp at h1) hn
            have hgn : ∀ b, b < w2.heap.size → some b ≠ v2.ownBlock → some b ≠ v3.ownBlock := fun b hb hn e => by
              rcases hown b e.symm with h | h
              · exact hn h.symm
              · omega
            have HX3 := Lib.hid (HX2.out.keep (w' := w3) (g' := v3.ownBlock) (fun b cur hc _ hn => hkb b cur hc hn) (fun b hb _ hn => hgn b hb hn) (Nat.le_refl _))
            have HY3 := Lib.hid (HY2.out.keep (w' := w3) (g' := v3.ownBlock) (fun b cur hc _ hn => hkb b cur hc hn) (fun b hb _ hn => hgn b hb hn) (Nat.le_refl _))
            have HB3 := Lib.hid (HB2.out.keep (w' := w3) (fun b o e p v hc => by
              obtain ⟨cur, hcur⟩ := HBU.out b o e
              exact (World.cell?_of_block (w := w2) (hkb b cur hcur (HBN.out b o e))).trans hc))
            have HBU3 := Lib.hid (show UAt w3 none from fun b o e => by
              obtain ⟨cur, hcur⟩ := HBU.out b o e
              exact ⟨cur, (hkb b cur hcur (HBN.out b o e)).trans hcur⟩)
            have HBN3 := Lib.hid (show ∀ b' o', (none : Option Addr) = some ⟨b', o', none⟩ → some b' ≠ v3.ownBlock from fun b' o' e => by
              obtain ⟨cur, hcur⟩ := HBU.out b' o' e
              exact hgn b' (blk_lt hcur) (HBN.out b' o' e))
            have hrow : ∀ (base : Nat) (v : Value) (n : Nat) (vs : List Value), w2.ownsRow base 22 1 v n vs → w3.ownsRow base 22 1 v n vs := fun base v n vs h => by
              obtain ⟨h1, h2⟩ := h
              refine ⟨h1, ?_⟩
              rcases h2 with h2 | ⟨g, cap', cur, hv, hg, hh, r⟩
              · exact .inl h2
              · refine .inr ⟨g, cap', cur, hv, hg, (hfw.block g (blk_lt hh) (fun e => ?_) (own_ne HS2.out.2.1 hh (by decide))).trans hh, r⟩
                subst e
                have h1 := HS2.out.1
                rw [hh] at h1
                simp at h1
            have HXR3 := Lib.hid (hrow _ _ _ _ HXR.out)
            have O3 := hrow _ _ _ _ HYR.out
            have HS1' := Lib.hid ((hfw.block sb1 (blk_lt HS1.out) (by omega) (fun e => (HV2.out sb1 e.symm).2 rfl)).trans HS1.out)
            have hal := hRI3.le
            obtain ⟨az, cz, rfl⟩ := own_form hof
            have HOF := Lib.hid hof
            have HVA := Lib.hid hva
            have HS3 := Lib.hid hst
            have HRI3 := Lib.hid hRI3
            have HSTOP := Lib.hid hstop3
            have hlz : acc.length + fsx.length ≤ 5 := by simp only [List.length_append] at hal; omega
            have hll := hr.left
            simp only [List.length_append, List.length_take] at hll
            clear hal hr hst hof hva hfw hown hkb hgn hrow hRI3 hstop3 HS2 HV2 HX2 HY2 HB2 HBU HBN HXR HYR HS1
            go_wp2_with (at_builtin; refine wpList_append_rows _ rfl _ _ 24 rfl (w.heap.size) 22 j0 (.slice none 0 0) 24 Try.underlying24 hj hjz hj1 hj2 rfl _ _ _ rfl O3 w2.heap.size az _ cz vals3 rfl HOF.out ?c1 ?c3 ?c4 ?c5 ?_)
            case c1 => exact HVA.out.one
            case c3 => unfold maxLen; omega
            case c4 => omega
            case c5 => exact B3.size
            intro v5 w5 ho5 hg5 hat5
            have B5 := B3.grown hg5 B3.size (fun q hq => own_ge O3 hq)
            have hkb : ∀ (b : Nat) (cur : Array Value), w3.heap[b]? = some (.cells cur 5 (0, 0)) → w5.heap[b]? = w3.heap[b]? := fun b cur hc => hg5.block b (blk_lt hc) (own_ne (e' := 5) (cur := cur) O3 hc (by decide))
            have HS5 := Lib.hid (show StV w.heap.size w5 sb2 v3 l3 0 from by
              refine ⟨(hg5.block sb2 HS3.out.lt (own_ne O3 HS3.out.1 (by decide))).trans HS3.out.1, ?_, HS3.out.2.2⟩
              obtain ⟨h1, h2⟩ := HS3.out.2.1
              refine ⟨h1, ?_⟩
              rcases h2 with h2 | ⟨g, cap', cur, hv, hg, hh, r⟩
              · exact .inl h2
              · exact .inr ⟨g, cap', cur, hv, hg, (hkb g cur hh).trans hh, r⟩)
            have HS15 := Lib.hid ((hg5.block sb1 (blk_lt HS1'.out) (own_ne O3 HS1'.out (by decide))).trans HS1'.out)
            have HX5 := Lib.hid (HX3.out.keep (w' := w5) (g' := v3.ownBlock) (fun b cur hc _ _ => hkb b cur hc) (fun b _ _ h => h) (Nat.le_refl _))
            have HYn := Lib.hid ((HY3.out.app (HVA.out.lo (Nat.zero_le _))).keep (w' := w5) (g' := v3.ownBlock) (fun b cur hc _ _ => hkb b cur hc) (fun b _ _ h => h) (Nat.le_refl _))
            have HB5 := Lib.hid (HB3.out.keep (w' := w5) (fun b o e p v hc => by
              obtain ⟨cur, hcur⟩ := HBU3.out b o e
              exact (World.cell?_of_block (w := w3) (hkb b cur hcur)).trans hc))
            have HBU5 := Lib.hid (show UAt w5 none from fun b o e => by
              obtain ⟨cur, hcur⟩ := HBU3.out b o e
              exact ⟨cur, (hkb b cur hcur).trans hcur⟩)
            have HXR5 := Lib.hid (show w5.ownsRow bx 22 1 xv all.length xvals from by
              obtain ⟨h1, h2⟩ := HXR3.out
              refine ⟨h1, ?_⟩
              rcases h2 with h2 | ⟨g, cap', cur, hv, hg, hh, r⟩
              · exact .inl h2
              · refine .inr ⟨g, cap', cur, hv, hg, (hg5.block g (blk_lt hh) (fun e => ?_)).trans hh, r⟩
                exact HYX.out g (by rw [hv]; rfl) e.symm)
            have HYX5 := Lib.hid (show ∀ g, xv.ownBlock = some g → v5.ownBlock ≠ some g from fun g e1 e2 => by
              have hlt := (HXR3.out.lt g e1).2
              rcases hat5 with h | h
              · rw [h] at e2; exact HYX.out g e1 e2
              · rw [h] at e2; simp at e2; omega)
            have HYR5 := Lib.hid (show w5.ownsRow w.heap.size 22 1 v5 (acc ++ fsx).length (yvals ++ vals3) from by rw [List.length_append]; exact ho5)
            clear ho5 hg5 hkb O3 hat5
            go_wp2
            go_roundw
            case rel => exact ⟨p + 1, ([] : List Int).drop 0, l3, acc ++ fsx, v3, none, 0, yvals ++ vals3, by omega, by go_num, rfl, by simp, by omega, by simp at *; omega, .inl rfl, (fun b o e => by cases e), (fun b o e => by cases e), .inl ⟨rfl, rfl⟩, HWR.out.drop 0, HS5.out, HV3.out, HRI3.out, HX5.out, HXR5.out, HYn.out, HYR5.out, HYX5.out, HS15.out, B5, fun _ => piece_end HRI3.out HSTOP.out rfl⟩
            case measure => simp [intOf]; omega
          · go_wp2_with fail
            refine (frameFeed w.heap.size sb2 v2 l2 (some ⟨b, o, none⟩) rest.length cb (rest.take rest.length) _ HS2.out (by omega) (fun g e => (HV2.out g e).1) (HB2.out.take rest.length) (List.length_take.trans (Nat.min_self _)) (HWR.out.take rest.length) (by omega)).mono ?_
            rintro e w3 ⟨fv, v3, fsx, l3, why3, vals3, rfl, hr, hst, hof, hva, hfw, hown⟩
            obtain ⟨rfl, hRI3, hstop3⟩ := piece_ok HRI.out hr
            have B3 := B2.trans (hfw.below (by omega) (fun g e => (HS2.out.2.1.lt g e).1) B2.size)
            have Z3 := hfw.size
            have HV3 := Lib.hid (show ∀ g, v3.ownBlock = some g → g ≠ sb2 ∧ g ≠ sb1 from fun g e => by
              rcases hown g e with h | h
              · exact HV2.out g h
              · have h1 := HS2.out.lt; omega)
            have hkb : ∀ (b : Nat) (cur : Array Value), w2.heap[b]? = some (.cells cur 5 (0, 0)) → some b ≠ v2.ownBlock → w3.heap[b]? = w2.heap[b]? := fun b cur hc hn => hfw.block b (blk_lt hc) (fun e => by
              subst e
              have h1 := HS2.out.1
              rw [hc] at h1
              simp at h1) hn
            have hgn : ∀ b, b < w2.heap.size → some b ≠ v2.ownBlock → some b ≠ v3.ownBlock := fun b hb hn e => by
              rcases hown b e.symm with h | h
              · exact hn h.symm
              · omega
            have HX3 := Lib.hid (HX2.out.keep (w' := w3) (g' := v3.ownBlock) (fun b cur hc _ hn => hkb b cur hc hn) (fun b hb _ hn => hgn b hb hn) (Nat.le_refl _))
            have HY3 := Lib.hid (HY2.out.keep (w' := w3) (g' := v3.ownBlock) (fun b cur hc _ hn => hkb b cur hc hn) (fun b hb _ hn => hgn b hb hn) (Nat.le_refl _))
            have HB3 := Lib.hid (HB2.out.keep (w' := w3) (fun b o e p v hc => by
              obtain ⟨cur, hcur⟩ := HBU.out b o e
              exact (World.cell?_of_block (w := w2) (hkb b cur hcur (HBN.out b o e))).trans hc))
            have HBU3 := Lib.hid (show UAt w3 (some ⟨b, o, none⟩) from fun b o e => by
              obtain ⟨cur, hcur⟩ := HBU.out b o e
              exact ⟨cur, (hkb b cur hcur (HBN.out b o e)).trans hcur⟩)
            have HBN3 := Lib.hid (show ∀ b' o', (some ⟨b, o, none⟩ : Option Addr) = some ⟨b', o', none⟩ → some b' ≠ v3.ownBlock from fun b' o' e => by
              obtain ⟨cur, hcur⟩ := HBU.out b' o' e
              exact hgn b' (blk_lt hcur) (HBN.out b' o' e))
            have hrow : ∀ (base : Nat) (v : Value) (n : Nat) (vs : List Value), w2.ownsRow base 22 1 v n vs → w3.ownsRow base 22 1 v n vs := fun base v n vs h => by
              obtain ⟨h1, h2⟩ := h
              refine ⟨h1, ?_⟩
              rcases h2 with h2 | ⟨g, cap', cur, hv, hg, hh, r⟩
              · exact .inl h2
              · refine .inr ⟨g, cap', cur, hv, hg, (hfw.block g (blk_lt hh) (fun e => ?_) (own_ne HS2.out.2.1 hh (by decide))).trans hh, r⟩
                subst e
                have h1 := HS2.out.1
                rw [hh] at h1
                simp at h1
            have HXR3 := Lib.hid (hrow _ _ _ _ HXR.out)
            have O3 := hrow _ _ _ _ HYR.out
            have HS1' := Lib.hid ((hfw.block sb1 (blk_lt HS1.out) (by omega) (fun e => (HV2.out sb1 e.symm).2 rfl)).trans HS1.out)
            have hal := hRI3.le
            obtain ⟨az, cz, rfl⟩ := own_form hof
            have HOF := Lib.hid hof
            have HVA := Lib.hid hva
            have HS3 := Lib.hid hst
            have HRI3 := Lib.hid hRI3
            have HSTOP := Lib.hid hstop3
            have hlz : acc.length + fsx.length ≤ 5 := by simp only [List.length_append] at hal; omega
            have hll := hr.left
            simp only [List.length_append, List.length_take] at hll
            clear hal hr hst hof hva hfw hown hkb hgn hrow hRI3 hstop3 HS2 HV2 HX2 HY2 HB2 HBU HBN HXR HYR HS1
            rcases Classical.propComplete (cb = rest.length) with hce | hce
            · go_wp2_with (at_builtin; refine wpList_append_rows _ rfl _ _ 24 rfl (w.heap.size) 22 j0 (.slice none 0 0) 24 Try.underlying24 hj hjz hj1 hj2 rfl _ _ _ rfl O3 w2.heap.size az _ cz vals3 rfl HOF.out ?c1 ?c3 ?c4 ?c5 ?_)
              case c1 => exact HVA.out.one
              case c3 => unfold maxLen; omega
              case c4 => omega
              case c5 => exact B3.size
              intro v5 w5 ho5 hg5 hat5
              have B5 := B3.grown hg5 B3.size (fun q hq => own_ge O3 hq)
              have hkb : ∀ (b : Nat) (cur : Array Value), w3.heap[b]? = some (.cells cur 5 (0, 0)) → w5.heap[b]? = w3.heap[b]? := fun b cur hc => hg5.block b (blk_lt hc) (own_ne (e' := 5) (cur := cur) O3 hc (by decide))
              have HS5 := Lib.hid (show StV w.heap.size w5 sb2 v3 l3 0 from by
                refine ⟨(hg5.block sb2 HS3.out.lt (own_ne O3 HS3.out.1 (by decide))).trans HS3.out.1, ?_, HS3.out.2.2⟩
                obtain ⟨h1, h2⟩ := HS3.out.2.1
                refine ⟨h1, ?_⟩
                rcases h2 with h2 | ⟨g, cap', cur, hv, hg, hh, r⟩
                · exact .inl h2
                · exact .inr ⟨g, cap', cur, hv, hg, (hkb g cur hh).trans hh, r⟩)
              have HS15 := Lib.hid ((hg5.block sb1 (blk_lt HS1'.out) (own_ne O3 HS1'.out (by decide))).trans HS1'.out)
              have HX5 := Lib.hid (HX3.out.keep (w' := w5) (g' := v3.ownBlock) (fun b cur hc _ _ => hkb b cur hc) (fun b _ _ h => h) (Nat.le_refl _))
              have HYn := Lib.hid ((HY3.out.app (HVA.out.lo (Nat.zero_le _))).keep (w' := w5) (g' := v3.ownBlock) (fun b cur hc _ _ => hkb b cur hc) (fun b _ _ h => h) (Nat.le_refl _))
              have HB5 := Lib.hid (HB3.out.keep (w' := w5) (fun b o e p v hc => by
                obtain ⟨cur, hcur⟩ := HBU3.out b o e
                exact (World.cell?_of_block (w := w3) (hkb b cur hcur)).trans hc))
              have HBU5 := Lib.hid (show UAt w5 (some ⟨b, o, none⟩) from fun b o e => by
                obtain ⟨cur, hcur⟩ := HBU3.out b o e
                exact ⟨cur, (hkb b cur hcur).trans hcur⟩)
              have HXR5 := Lib.hid (show w5.ownsRow bx 22 1 xv all.length xvals from by
                obtain ⟨h1, h2⟩ := HXR3.out
                refine ⟨h1, ?_⟩
                rcases h2 with h2 | ⟨g, cap', cur, hv, hg, hh, r⟩
                · exact .inl h2
                · refine .inr ⟨g, cap', cur, hv, hg, (hg5.block g (blk_lt hh) (fun e => ?_)).trans hh, r⟩
                  exact HYX.out g (by rw [hv]; rfl) e.symm)
              have HYX5 := Lib.hid (show ∀ g, xv.ownBlock = some g → v5.ownBlock ≠ some g from fun g e1 e2 => by
                have hlt := (HXR3.out.lt g e1).2
                rcases hat5 with h | h
                · rw [h] at e2; exact HYX.out g e1 e2
                · rw [h] at e2; simp at e2; omega)
              have HYR5 := Lib.hid (show w5.ownsRow w.heap.size 22 1 v5 (acc ++ fsx).length (yvals ++ vals3) from by rw [List.length_append]; exact ho5)
              clear ho5 hg5 hkb O3 hat5
              go_wp2
              go_roundw
              case rel => exact ⟨p + 1, rest.drop rest.length, l3, acc ++ fsx, v3, some ⟨b, o, none⟩, cb - rest.length, yvals ++ vals3, by omega, by go_num, by rw [List.length_drop, Nat.sub_self], by rw [List.length_drop]; omega, by omega, by rw [List.length_drop]; omega, .inl (List.drop_eq_nil_of_le (by have := of_eq_true hce; omega)), HBU5.out, HBN3.out, .inr ⟨b, o, rfl⟩, HWR.out.drop rest.length, HS5.out, HV3.out, HRI3.out, HX5.out, HXR5.out, HYn.out, HYR5.out, HYX5.out, HS15.out, B5, fun _ => piece_end HRI3.out HSTOP.out (List.drop_eq_nil_of_le (by omega))⟩
              case measure => simp [intOf]; omega
            · go_wp2_with (at_builtin; refine wpList_append_rows _ rfl _ _ 24 rfl (w.heap.size) 22 j0 (.slice none 0 0) 24 Try.underlying24 hj hjz hj1 hj2 rfl _ _ _ rfl O3 w2.heap.size az _ cz vals3 rfl HOF.out ?c1 ?c3 ?c4 ?c5 ?_)
              case c1 => exact HVA.out.one
              case c3 => unfold maxLen; omega
              case c4 => omega
              case c5 => exact B3.size
              intro v5 w5 ho5 hg5 hat5
              have B5 := B3.grown hg5 B3.size (fun q hq => own_ge O3 hq)
              have hkb : ∀ (b : Nat) (cur : Array Value), w3.heap[b]? = some (.cells cur 5 (0, 0)) → w5.heap[b]? = w3.heap[b]? := fun b cur hc => hg5.block b (blk_lt hc) (own_ne (e' := 5) (cur := cur) O3 hc (by decide))
              have HS5 := Lib.hid (show StV w.heap.size w5 sb2 v3 l3 0 from by
                refine ⟨(hg5.block sb2 HS3.out.lt (own_ne O3 HS3.out.1 (by decide))).trans HS3.out.1, ?_, HS3.out.2.2⟩
                obtain ⟨h1, h2⟩ := HS3.out.2.1
                refine ⟨h1, ?_⟩
                rcases h2 with h2 | ⟨g, cap', cur, hv, hg, hh, r⟩
                · exact .inl h2
                · exact .inr ⟨g, cap', cur, hv, hg, (hkb g cur hh).trans hh, r⟩)
              have HS15 := Lib.hid ((hg5.block sb1 (blk_lt HS1'.out) (own_ne O3 HS1'.out (by decide))).trans HS1'.out)
              have HX5 := Lib.hid (HX3.out.keep (w' := w5) (g' := v3.ownBlock) (fun b cur hc _ _ => hkb b cur hc) (fun b _ _ h => h) (Nat.le_refl _))
              have HYn := Lib.hid ((HY3.out.app (HVA.out.lo (Nat.zero_le _))).keep (w' := w5) (g' := v3.ownBlock) (fun b cur hc _ _ => hkb b cur hc) (fun b _ _ h => h) (Nat.le_refl _))
              have HB5 := Lib.hid (HB3.out.keep (w' := w5) (fun b o e p v hc => by
                obtain ⟨cur, hcur⟩ := HBU3.out b o e
                exact (World.cell?_of_block (w := w3) (hkb b cur hcur)).trans hc))
              have HBU5 := Lib.hid (show UAt w5 (some ⟨b, o, none⟩) from fun b o e => by
                obtain ⟨cur, hcur⟩ := HBU3.out b o e
                exact ⟨cur, (hkb b cur hcur).trans hcur⟩)
              have HXR5 := Lib.hid (show w5.ownsRow bx 22 1 xv all.length xvals from by
                obtain ⟨h1, h2⟩ := HXR3.out
                refine ⟨h1, ?_⟩
                rcases h2 with h2 | ⟨g, cap', cur, hv, hg, hh, r⟩
                · exact .inl h2
                · refine .inr ⟨g, cap', cur, hv, hg, (hg5.block g (blk_lt hh) (fun e => ?_)).trans hh, r⟩
                  exact HYX.out g (by rw [hv]; rfl) e.symm)
              have HYX5 := Lib.hid (show ∀ g, xv.ownBlock = some g → v5.ownBlock ≠ some g from fun g e1 e2 => by
                have hlt := (HXR3.out.lt g e1).2
                rcases hat5 with h | h
                · rw [h] at e2; exact HYX.out g e1 e2
                · rw [h] at e2; simp at e2; omega)
              have HYR5 := Lib.hid (show w5.ownsRow w.heap.size 22 1 v5 (acc ++ fsx).length (yvals ++ vals3) from by rw [List.length_append]; exact ho5)
              clear ho5 hg5 hkb O3 hat5
              go_wp2
              go_roundw
              case rel => exact ⟨p + 1, rest.drop rest.length, l3, acc ++ fsx, v3, some ⟨b, o + rest.length, none⟩, cb - rest.length, yvals ++ vals3, by omega, by go_num, by rw [List.length_drop, Nat.sub_self], by rw [List.length_drop]; omega, by omega, by rw [List.length_drop]; omega, HB5.out.drop rest.length, (fun b' o' e => by simp at e; exact HBU5.out b' o (by rw [e.1])), (fun b' o' e => by simp at e; exact HBN3.out b' o (by rw [e.1])), .inr ⟨b, o + rest.length, rfl⟩, HWR.out.drop rest.length, HS5.out, HV3.out, HRI3.out, HX5.out, HXR5.out, HYn.out, HYR5.out, HYX5.out, HS15.out, B5, fun _ => piece_end HRI3.out HSTOP.out (List.drop_eq_nil_of_le (by omega))⟩
              case measure => simp [intOf]; omega
        · rcases hfm with ⟨rfl, rfl⟩ | ⟨b, o, rfl⟩
          · obtain rfl : rest = [] := List.eq_nil_of_length_eq_zero (by omega)
            go_wp2_with fail
            refine (frameFeed w.heap.size sb2 v2 l2 none 0 0 (([] : List Int).take 0) _ HS2.out (by omega) (fun g e => (HV2.out g e).1) (HB2.out.take 0) rfl (HWR.out.take 0) (by omega)).mono ?_
            rintro e w3 ⟨fv, v3, fsx, l3, why3, vals3, rfl, hr, hst, hof, hva, hfw, hown⟩
            obtain ⟨rfl, hRI3, hstop3⟩ := piece_ok HRI.out hr
            have B3 := B2.trans (hfw.below (by omega) (fun g e => (HS2.out.2.1.lt g e).1) B2.size)
            have Z3 := hfw.size
            have HV3 := Lib.hid (show ∀ g, v3.ownBlock = some g → g ≠ sb2 ∧ g ≠ sb1 from fun g e => by
              rcases hown g e with h | h
              · exact HV2.out g h
              · have h1 := HS2.out.lt; omega)
            have hkb : ∀ (b : Nat) (cur : Array Value), w2.heap[b]? = some (.cells cur 5 (0, 0)) → some b ≠ v2.ownBlock → w3.heap[b]? = w2.heap[b]? := fun b cur hc hn => hfw.block b (blk_lt hc) (fun e => by
              subst e
              have h1 := HS2.out.1
              rw [hc] at h1
              simp at h1) hn
            have hgn : ∀ b, b < w2.heap.size → some b ≠ v2.ownBlock → some b ≠ v3.ownBlock := fun b hb hn e => by
              rcases hown b e.symm with h | h
              · exact hn h.symm
              · omega
            have HX3 := Lib.hid (HX2.out.keep (w' := w3) (g' := v3.ownBlock) (fun b cur hc _ hn => hkb b cur hc hn) (fun b hb _ hn => hgn b hb hn) (Nat.le_refl _))
            have HY3 := Lib.hid (HY2.out.keep (w' := w3) (g' := v3.ownBlock) (fun b cur hc _ hn => hkb b cur hc hn) (fun b hb _ hn => hgn b hb hn) (Nat.le_refl _))
            have HB3 := Lib.hid (HB2.out.keep (w' := w3) (fun b o e p v hc => by
              obtain ⟨cur, hcur⟩ := HBU.out b o e
              exact (World.cell?_of_block (w := w2) (hkb b cur hcur (HBN.out b o e))).trans hc))
            have HBU3 := Lib.hid (show UAt w3 none from fun b o e => by
              obtain ⟨cur, hcur⟩ := HBU.out b o e
              exact ⟨cur, (hkb b cur hcur (HBN.out b o e)).trans hcur⟩)
            have HBN3 := Lib.hid (show ∀ b' o', (none : Option Addr) = some ⟨b', o', none⟩ → some b' ≠ v3.ownBlock from fun b' o' e => by
              obtain ⟨cur, hcur⟩ := HBU.out b' o' e
              exact hgn b' (blk_lt hcur) (HBN.out b' o' e))
            have hrow : ∀ (base : Nat) (v : Value) (n : Nat) (vs : List Value), w2.ownsRow base 22 1 v n vs → w3.ownsRow base 22 1 v n vs := fun base v n vs h => by
              obtain ⟨h1, h2⟩ := h
              refine ⟨h1, ?_⟩
              rcases h2 with h2 | ⟨g, cap', cur, hv, hg, hh, r⟩
              · exact .inl h2
              · refine .inr ⟨g, cap', cur, hv, hg, (hfw.block g (blk_lt hh) (fun e => ?_) (own_ne HS2.out.2.1 hh (by decide))).trans hh, r⟩
                subst e
                have h1 := HS2.out.1
                rw [hh] at h1
                simp at h1
            have HXR3 := Lib.hid (hrow _ _ _ _ HXR.out)
            have O3 := hrow _ _ _ _ HYR.out
            have HS1' := Lib.hid ((hfw.block sb1 (blk_lt HS1.out) (by omega) (fun e => (HV2.out sb1 e.symm).2 rfl)).trans HS1.out)
            have hal := hRI3.le
            obtain ⟨az, cz, rfl⟩ := own_form hof
            have HOF := Lib.hid hof
            have HVA := Lib.hid hva
            have HS3 := Lib.hid hst
            have HRI3 := Lib.hid hRI3
            have HSTOP := Lib.hid hstop3
            have hlz : acc.length + fsx.length ≤ 5 := by simp only [List.length_append] at hal; omega
            have hll := hr.left
            simp only [List.length_append, List.length_take] at hll
            clear hal hr hst hof hva hfw hown hkb hgn hrow hRI3 hstop3 HS2 HV2 HX2 HY2 HB2 HBU HBN HXR HYR HS1
            go_wp2_with (at_builtin; refine wpList_append_rows _ rfl _ _ 24 rfl (w.heap.size) 22 j0 (.slice none 0 0) 24 Try.underlying24 hj hjz hj1 hj2 rfl _ _ _ rfl O3 w2.heap.size az _ cz vals3 rfl HOF.out ?c1 ?c3 ?c4 ?c5 ?_)
            case c1 => exact HVA.out.one
            case c3 => unfold maxLen; omega
            case c4 => omega
            case c5 => exact B3.size
            intro v5 w5 ho5 hg5 hat5
            have B5 := B3.grown hg5 B3.size (fun q hq => own_ge O3 hq)
            have hkb : ∀ (b : Nat) (cur : Array Value), w3.heap[b]? = some (.cells cur 5 (0, 0)) → w5.heap[b]? = w3.heap[b]? := fun b cur hc => hg5.block b (blk_lt hc) (own_ne (e' := 5) (cur := cur) O3 hc (by decide))
            have HS5 := Lib.hid (show StV w.heap.size w5 sb2 v3 l3 0 from by
              refine ⟨(hg5.block sb2 HS3.out.lt (own_ne O3 HS3.out.1 (by decide))).trans HS3.out.1, ?_, HS3.out.2.2⟩
              obtain ⟨h1, h2⟩ := HS3.out.2.1
              refine ⟨h1, ?_⟩
              rcases h2 with h2 | ⟨g, cap', cur, hv, hg, hh, r⟩
              · exact .inl h2
              · exact .inr ⟨g, cap', cur, hv, hg, (hkb g cur hh).trans hh, r⟩)
            have HS15 := Lib.hid ((hg5.block sb1 (blk_lt HS1'.out) (own_ne O3 HS1'.out (by decide))).trans HS1'.out)
            have HX5 := Lib.hid (HX3.out.keep (w' := w5) (g' := v3.ownBlock) (fun b cur hc _ _ => hkb b cur hc) (fun b _ _ h => h) (Nat.le_refl _))
            have HYn := Lib.hid ((HY3.out.app (HVA.out.lo (Nat.zero_le _))).keep (w' := w5) (g' := v3.ownBlock) (fun b cur hc _ _ => hkb b cur hc) (fun b _ _ h => h) (Nat.le_refl _))
            have HB5 := Lib.hid (HB3.out.keep (w' := w5) (fun b o e p v hc => by
              obtain ⟨cur, hcur⟩ := HBU3.out b o e
              exact (World.cell?_of_block (w := w3) (hkb b cur hcur)).trans hc))
            have HBU5 := Lib.hid (show UAt w5 none from fun b o e => by
              obtain ⟨cur, hcur⟩ := HBU3.out b o e
              exact ⟨cur, (hkb b cur hcur).trans hcur⟩)
            have HXR5 := Lib.hid (show w5.ownsRow bx 22 1 xv all.length xvals from by
              obtain ⟨h1, h2⟩ := HXR3.out
              refine ⟨h1, ?_⟩
              rcases h2 with h2 | ⟨g, cap', cur, hv, hg, hh, r⟩
              · exact .inl h2
              · refine .inr ⟨g, cap', cur, hv, hg, (hg5.block g (blk_lt hh) (fun e => ?_)).trans hh, r⟩
                exact HYX.out g (by rw [hv]; rfl) e.symm)
            have HYX5 := Lib.hid (show ∀ g, xv.ownBlock = some g → v5.ownBlock ≠ some g from fun g e1 e2 => by
              have hlt := (HXR3.out.lt g e1).2
              rcases hat5 with h | h
              · rw [h] at e2; exact HYX.out g e1 e2
              · rw [h] at e2; simp at e2; omega)
            have HYR5 := Lib.hid (show w5.ownsRow w.heap.size 22 1 v5 (acc ++ fsx).length (yvals ++ vals3) from by rw [List.length_append]; exact ho5)
            clear ho5 hg5 hkb O3 hat5
            go_wp2
            go_roundw
            case rel => exact ⟨p + 1, ([] : List Int).drop 0, l3, acc ++ fsx, v3, none, 0, yvals ++ vals3, by omega, by go_num, rfl, by simp, by omega, by simp at *; omega, .inl rfl, (fun b o e => by cases e), (fun b o e => by cases e), .inl ⟨rfl, rfl⟩, HWR.out.drop 0, HS5.out, HV3.out, HRI3.out, HX5.out, HXR5.out, HYn.out, HYR5.out, HYX5.out, HS15.out, B5, fun _ => piece_end HRI3.out HSTOP.out rfl⟩
            case measure => simp [intOf]; omega
          · go_wp2_with fail
            refine (frameFeed w.heap.size sb2 v2 l2 (some ⟨b, o, none⟩) rest.length cb (rest.take rest.length) _ HS2.out (by omega) (fun g e => (HV2.out g e).1) (HB2.out.take rest.length) (List.length_take.trans (Nat.min_self _)) (HWR.out.take rest.length) (by omega)).mono ?_
            rintro e w3 ⟨fv, v3, fsx, l3, why3, vals3, rfl, hr, hst, hof, hva, hfw, hown⟩
            obtain ⟨rfl, hRI3, hstop3⟩ := piece_ok HRI.out hr
            have B3 := B2.trans (hfw.below (by omega) (fun g e => (HS2.out.2.1.lt g e).1) B2.size)
            have Z3 := hfw.size
            have HV3 := Lib.hid (show ∀ g, v3.ownBlock = some g → g ≠ sb2 ∧ g ≠ sb1 from fun g e => by
              rcases hown g e with h | h
              · exact HV2.out g h
              · have h1 := HS2.out.lt; omega)
            have hkb : ∀ (b : Nat) (cur : Array Value), w2.heap[b]? = some (.cells cur 5 (0, 0)) → some b ≠ v2.ownBlock → w3.heap[b]? = w2.heap[b]? := fun b cur hc hn => hfw.block b (blk_lt hc) (fun e => by
              subst e
              have h1 := HS2.out.1
              rw [hc] at h1
              simp at h1) hn
            have hgn : ∀ b, b < w2.heap.size → some b ≠ v2.ownBlock → some b ≠ v3.ownBlock := fun b hb hn e => by
              rcases hown b e.symm with h | h
              · exact hn h.symm
              · omega
            have HX3 := Lib.hid (HX2.out.keep (w' := w3) (g' := v3.ownBlock) (fun b cur hc _ hn => hkb b cur hc hn) (fun b hb _ hn => hgn b hb hn) (Nat.le_refl _))
            have HY3 := Lib.hid (HY2.out.keep (w' := w3) (g' := v3.ownBlock) (fun b cur hc _ hn => hkb b cur hc hn) (fun b hb _ hn => hgn b hb hn) (Nat.le_refl _))
            have HB3 := Lib.hid (HB2.out.keep (w' := w3) (fun b o e p v hc => by
              obtain ⟨cur, hcur⟩ := HBU.out b o e
              exact (World.cell?_of_block (w := w2) (hkb b cur hcur (HBN.out b o e))).trans hc))
            have HBU3 := Lib.hid (show UAt w3 (some ⟨b, o, none⟩) from fun b o e => by
              obtain ⟨cur, hcur⟩ := HBU.out b o e
              exact ⟨cur, (hkb b cur hcur (HBN.out b o e)).trans hcur⟩)
            have HBN3 := Lib.hid (show ∀ b' o', (some ⟨b, o, none⟩ : Option Addr) = some ⟨b', o', none⟩ → some b' ≠ v3.ownBlock from fun b' o' e => by
              obtain ⟨cur, hcur⟩ := HBU.out b' o' e
              exact hgn b' (blk_lt hcur) (HBN.out b' o' e))
            have hrow : ∀ (base : Nat) (v : Value) (n : Nat) (vs : List Value), w2.ownsRow base 22 1 v n vs → w3.ownsRow base 22 1 v n vs := fun base v n vs h => by
              obtain ⟨h1, h2⟩ := h
              refine ⟨h1, ?_⟩
              rcases h2 with h2 | ⟨g, cap', cur, hv, hg, hh, r⟩
              · exact .inl h2
              · refine .inr ⟨g, cap', cur, hv, hg, (hfw.block g (blk_lt hh) (fun e => ?_) (own_ne HS2.out.2.1 hh (by decide))).trans hh, r⟩
                subst e
                have h1 := HS2.out.1
                rw [hh] at h1
                simp at h1
            have HXR3 := Lib.hid (hrow _ _ _ _ HXR.out)
            have O3 := hrow _ _ _ _ HYR.out
            have HS1' := Lib.hid ((hfw.block sb1 (blk_lt HS1.out) (by omega) (fun e => (HV2.out sb1 e.symm).2 rfl)).trans HS1.out)
            have hal := hRI3.le
            obtain ⟨az, cz, rfl⟩ := own_form hof
            have HOF := Lib.hid hof
            have HVA := Lib.hid hva
            have HS3 := Lib.hid hst
            have HRI3 := Lib.hid hRI3
            have HSTOP := Lib.hid hstop3
            have hlz : acc.length + fsx.length ≤ 5 := by simp only [List.length_append] at hal; omega
            have hll := hr.left
            simp only [List.length_append, List.length_take] at hll
            clear hal hr hst hof hva hfw hown hkb hgn hrow hRI3 hstop3 HS2 HV2 HX2 HY2 HB2 HBU HBN HXR HYR HS1
            rcases Classical.propComplete (cb = rest.length) with hce | hce
            · go_wp2_with (at_builtin; refine wpList_append_rows _ rfl _ _ 24 rfl (w.heap.size) 22 j0 (.slice none 0 0) 24 Try.underlying24 hj hjz hj1 hj2 rfl _ _ _ rfl O3 w2.heap.size az _ cz vals3 rfl HOF.out ?c1 ?c3 ?c4 ?c5 ?_)
              case c1 => exact HVA.out.one
              case c3 => unfold maxLen; omega
              case c4 => omega
              case c5 => exact B3.size
              intro v5 w5 ho5 hg5 hat5
              have B5 := B3.grown hg5 B3.size (fun q hq => own_ge O3 hq)
              have hkb : ∀ (b : Nat) (cur : Array Value), w3.heap[b]? = some (.cells cur 5 (0, 0)) → w5.heap[b]? = w3.heap[b]? := fun b cur hc => hg5.block b (blk_lt hc) (own_ne (e' := 5) (cur := cur) O3 hc (by decide))
              have HS5 := Lib.hid (show StV w.heap.size w5 sb2 v3 l3 0 from by
                refine ⟨(hg5.block sb2 HS3.out.lt (own_ne O3 HS3.out.1 (by decide))).trans HS3.out.1, ?_, HS3.out.2.2⟩
                obtain ⟨h1, h2⟩ := HS3.out.2.1
                refine ⟨h1, ?_⟩
                rcases h2 with h2 | ⟨g, cap', cur, hv, hg, hh, r⟩
                · exact .inl h2
                · exact .inr ⟨g, cap', cur, hv, hg, (hkb g cur hh).trans hh, r⟩)
              have HS15 := Lib.hid ((hg5.block sb1 (blk_lt HS1'.out) (own_ne O3 HS1'.out (by decide))).trans HS1'.out)
              have HX5 := Lib.hid (HX3.out.keep (w' := w5) (g' := v3.ownBlock) (fun b cur hc _ _ => hkb b cur hc) (fun b _ _ h => h) (Nat.le_refl _))
              have HYn := Lib.hid ((HY3.out.app (HVA.out.lo (Nat.zero_le _))).keep (w' := w5) (g' := v3.ownBlock) (fun b cur hc _ _ => hkb b cur hc) (fun b _ _ h => h) (Nat.le_refl _))
              have HB5 := Lib.hid (HB3.out.keep (w' := w5) (fun b o e p v hc => by
                obtain ⟨cur, hcur⟩ := HBU3.out b o e
                exact (World.cell?_of_block (w := w3) (hkb b cur hcur)).trans hc))
              have HBU5 := Lib.hid (show UAt w5 (some ⟨b, o, none⟩) from fun b o e => by
                obtain ⟨cur, hcur⟩ := HBU3.out b o e
                exact ⟨cur, (hkb b cur hcur).trans hcur⟩)
              have HXR5 := Lib.hid (show w5.ownsRow bx 22 1 xv all.length xvals from by
                obtain ⟨h1, h2⟩ := HXR3.out
                refine ⟨h1, ?_⟩
                rcases h2 with h2 | ⟨g, cap', cur, hv, hg, hh, r⟩
                · exact .inl h2
                · refine .inr ⟨g, cap', cur, hv, hg, (hg5.block g (blk_lt hh) (fun e => ?_)).trans hh, r⟩
                  exact HYX.out g (by rw [hv]; rfl) e.symm)
              have HYX5 := Lib.hid (show ∀ g, xv.ownBlock = some g → v5.ownBlock ≠ some g from fun g e1 e2 => by
                have hlt := (HXR3.out.lt g e1).2
                rcases hat5 with h | h
                · rw [h] at e2; exact HYX.out g e1 e2
                · rw [h] at e2; simp at e2; omega)
              have HYR5 := Lib.hid (show w5.ownsRow w.heap.size 22 1 v5 (acc ++ fsx).length (yvals ++ vals3) from by rw [List.length_append]; exact ho5)
              clear ho5 hg5 hkb O3 hat5
              go_wp2
              go_roundw
              case rel => exact ⟨p + 1, rest.drop rest.length, l3, acc ++ fsx, v3, some ⟨b, o, none⟩, cb - rest.length, yvals ++ vals3, by omega, by go_num, by rw [List.length_drop, Nat.sub_self], by rw [List.length_drop]; omega, by omega, by rw [List.length_drop]; omega, .inl (List.drop_eq_nil_of_le (by have := of_eq_true hce; omega)), HBU5.out, HBN3.out, .inr ⟨b, o, rfl⟩, HWR.out.drop rest.length, HS5.out, HV3.out, HRI3.out, HX5.out, HXR5.out, HYn.out, HYR5.out, HYX5.out, HS15.out, B5, fun _ => piece_end HRI3.out HSTOP.out (List.drop_eq_nil_of_le (by omega))⟩
              case measure => simp [intOf]; omega
            · go_wp2_with (at_builtin; refine wpList_append_rows _ rfl _ _ 24 rfl (w.heap.size) 22 j0 (.slice none 0 0) 24 Try.underlying24 hj hjz hj1 hj2 rfl _ _ _ rfl O3 w2.heap.size az _ cz vals3 rfl HOF.out ?c1 ?c3 ?c4 ?c5 ?_)
              case c1 => exact HVA.out.one
              case c3 => unfold maxLen; omega
              case c4 => omega
              case c5 => exact B3.size
              intro v5 w5 ho5 hg5 hat5
              have B5 := B3.grown hg5 B3.size (fun q hq => own_ge O3 hq)
              have hkb : ∀ (b : Nat) (cur : Array Value), w3.heap[b]? = some (.cells cur 5 (0, 0)) → w5.heap[b]? = w3.heap[b]? := fun b cur hc => hg5.block b (blk_lt hc) (own_ne (e' := 5) (cur := cur) O3 hc (by decide))
              have HS5 := Lib.hid (show StV w.heap.size w5 sb2 v3 l3 0 from by
                refine ⟨(hg5.block sb2 HS3.out.lt (own_ne O3 HS3.out.1 (by decide))).trans HS3.out.1, ?_, HS3.out.2.2⟩
                obtain ⟨h1, h2⟩ := HS3.out.2.1
                refine ⟨h1, ?_⟩
                rcases h2 with h2 | ⟨g, cap', cur, hv, hg, hh, r⟩
                · exact .inl h2
                · exact .inr ⟨g, cap', cur, hv, hg, (hkb g cur hh).trans hh, r⟩)
              have HS15 := Lib.hid ((hg5.block sb1 (blk_lt HS1'.out) (own_ne O3 HS1'.out (by decide))).trans HS1'.out)
              have HX5 := Lib.hid (HX3.out.keep (w' := w5) (g' := v3.ownBlock) (fun b cur hc _ _ => hkb b cur hc) (fun b _ _ h => h) (Nat.le_refl _))
              have HYn := Lib.hid ((HY3.out.app (HVA.out.lo (Nat.zero_le _))).keep (w' := w5) (g' := v3.ownBlock) (fun b cur hc _ _ => hkb b cur hc) (fun b _ _ h => h) (Nat.le_refl _))
              have HB5 := Lib.hid (HB3.out.keep (w' := w5) (fun b o e p v hc => by
                obtain ⟨cur, hcur⟩ := HBU3.out b o e
                exact (World.cell?_of_block (w := w3) (hkb b cur hcur)).trans hc))
              have HBU5 := Lib.hid (show UAt w5 (some ⟨b, o, none⟩) from fun b o e => by
                obtain ⟨cur, hcur⟩ := HBU3.out b o e
                exact ⟨cur, (hkb b cur hcur).trans hcur⟩)
              have HXR5 := Lib.hid (show w5.ownsRow bx 22 1 xv all.length xvals from by
                obtain ⟨h1, h2⟩ := HXR3.out
                refine ⟨h1, ?_⟩
                rcases h2 with h2 | ⟨g, cap', cur, hv, hg, hh, r⟩
                · exact .inl h2
                · refine .inr ⟨g, cap', cur, hv, hg, (hg5.block g (blk_lt hh) (fun e => ?_)).trans hh, r⟩
                  exact HYX.out g (by rw [hv]; rfl) e.symm)
              have HYX5 := Lib.hid (show ∀ g, xv.ownBlock = some g → v5.ownBlock ≠ some g from fun g e1 e2 => by
                have hlt := (HXR3.out.lt g e1).2
                rcases hat5 with h | h
                · rw [h] at e2; exact HYX.out g e1 e2
                · rw [h] at e2; simp at e2; omega)
              have HYR5 := Lib.hid (show w5.ownsRow w.heap.size 22 1 v5 (acc ++ fsx).length (yvals ++ vals3) from by rw [List.length_append]; exact ho5)
              clear ho5 hg5 hkb O3 hat5
              go_wp2
              go_roundw
              case rel => exact ⟨p + 1, rest.drop rest.length, l3, acc ++ fsx, v3, some ⟨b, o + rest.length, none⟩, cb - rest.length, yvals ++ vals3, by omega, by go_num, by rw [List.length_drop, Nat.sub_self], by rw [List.length_drop]; omega, by omega, by rw [List.length_drop]; omega, HB5.out.drop rest.length, (fun b' o' e => by simp at e; exact HBU5.out b' o (by rw [e.1])), (fun b' o' e => by simp at e; exact HBN3.out b' o (by rw [e.1])), .inr ⟨b, o + rest.length, rfl⟩, HWR.out.drop rest.length, HS5.out, HV3.out, HRI3.out, HX5.out, HXR5.out, HYn.out, HYR5.out, HYX5.out, HS15.out, B5, fun _ => piece_end HRI3.out HSTOP.out (List.drop_eq_nil_of_le (by omega))⟩
              case measure => simp [intOf]; omega
    · obtain ⟨rfl, rfl, hae⟩ := HEND.out (by omega)
      subst hae
      have hcs : (decide ((p : Int) ≤ kl) = false ∧ ¬ p ≤ kl) ∨ (decide ((p : Int) ≤ kl) = true ∧ p ≤ kl ∧ decide ((p : Int) < 40) = false ∧ ¬ p < 40) := by have := HT3.out; simp; omega
      obtain ⟨ax, cx, rfl⟩ := own_form HXR.out
      obtain ⟨ay, cy, rfl⟩ := own_form HYR.out
      obtain ⟨n, hn⟩ : ∃ n, acc.length = n := ⟨_, rfl⟩
      have HN := Lib.hid hn
      rw [hn]
      have hn5 : n ≤ 5 := by omega
      clear hn HEND HB2 HBU HBN HRI hfm
      rcases hcs with ⟨hd3, hd4⟩ | ⟨hd3, hd4, hd5, hd6⟩
      all_goals
        go_wp2_with fail
        go_loopw [86] (fun i wr => ∃ j : Nat, j ≤ n ∧ i = .int .i64 (j : Int) ∧ Below w2.heap.size w2 wr) (fun i _ => n - (intOf i).toNat)
        case atStart => exact ⟨0, by omega, rfl, Below.refl _ _⟩
        case round =>
          obtain ⟨w3, rfl⟩ : ∃ y : World, y = wr := ⟨_, rfl⟩
          obtain ⟨i, hi', rfl, D3⟩ := hrel
          by_cases hin : i < n
          · obtain ⟨f, hf⟩ : ∃ f, acc[i]? = some f := ⟨_, List.getElem?_eq_getElem (by have := HN.out; omega)⟩
            obtain ⟨xa, xc, hxv, hxb, -⟩ := HX2.out.2 i f hf
            obtain ⟨ya, yc, hyv, hyb, -⟩ := HY2.out.2 i f hf
            obtain ⟨gx, hgx, rfl⟩ := own_cell HXR.out hxv
            obtain ⟨gy, hgy, rfl⟩ := own_cell HYR.out hyv
            have HCX := Lib.hid (ext_cell D3 hgx)
            have HCY := Lib.hid (ext_cell D3 hgy)
            obtain ⟨m, hm⟩ : ∃ m, f.length = m := ⟨_, rfl⟩
            rw [hm] at HCX HCY
            have hcvx := Lib.hid (show ∀ g : Of w3, (convert 22 9 (.slice xa m xc)).run Try.prog g.w = .ok (.string (strOfNums f)) g.w from fun g => run_text g.w 22 5 Try.underlying22 Try.underlying5 9 Try.underlying9 xa m xc f hm ((hxb.ext D3).ext g.h))
            have hcvy := Lib.hid (show ∀ g : Of w3, (convert 22 9 (.slice ya m yc)).run Try.prog g.w = .ok (.string (strOfNums f)) g.w from fun g => run_text g.w 22 5 Try.underlying22 Try.underlying5 9 Try.underlying9 ya m yc f hm ((hyb.ext D3).ext g.h))
            have hcx2 := own_cap HXR.out
            have hcy2 := own_cap HYR.out
            rw [HN.out] at hcx2 hcy2
            clear hf hxv hyv hxb hyb hgx hgy hm
            go_wp2_with fail
            haveI hIq : Nonempty (Of w3) := of_some _
            have hF0 := of_cell HCX.out
            have hF1 := of_cell HCY.out
            have hF2 := hcvx.out
            have hF3 := hcvy.out
            refine wp_region_stay w3 (by kernel_rfl) (by kernel_rfl) (by go_grown) ?_
            repeat (go_big_quiet_step (fail))
            refine wpQuiet_nil ?_
            intro w4 hb
            have D4 := ext_trans D3 hb
            clear hIq hF0 hF1 hF2 hF3 hb
            go_wp2
            go_roundw
            case rel => exact ⟨i + 1, by omega, by go_num, D4⟩
            case measure => simp [intOf]; omega
          · obtain rfl : i = n := by omega
            have HS3 := Lib.hid (HS2.out.ext D3)
            have HS13 := Lib.hid (ext_block D3 HS1.out)
            have D2 := ext_trans B2 D3
            go_wp2_with fail
            refine (frameLeft _ sb2 v2 [] 0 _ HS3.out).mono ?_
            rintro e w4 ⟨rfl, rfl⟩
            go_wp2_with fail
            refine (frameLeft0 sb1 ao 0 co 0 _ HS13.out).mono ?_
            rintro e w4 ⟨rfl, rfl⟩
            go_wp2_with fail
            refine (law3known _).mono ?_
            rintro e w4 ⟨rfl, hb⟩
            have D5 := ext_trans D2 hb
            go_wp2
            go_ret
            exact ⟨rfl, D5⟩

end Go.Proofs.Ytiblnonmlekjgaa
