/- Layer 3's laws, walked: FrameTells. -/
import Derived.Test.YtiblnonmlekjgaaFrameV
import Derived.Test.YtiblnonmlekjgaaFrameB
import Derived.Test.YtiblnonmlekjgaaFrameO
import Derived.Test.YtiblnonmlekjgaaRowsB
namespace Go.Proofs.Ytiblnonmlekjgaa
open Go.RowKit
set_option linter.unusedVariables false

theorem xor_in (a m : Int) (a0 : 0 ≤ a) (a1 : a < 256) (m0 : 0 ≤ m) (m1 : m < 256) : 0 ≤ bits .xor .u8 a m ∧ bits .xor .u8 a m < 256 := by
  rw [u8_xor a m a0 a1 m0 m1]
  have hlt : a.toNat ^^^ m.toNat < 2 ^ 8 := Nat.xor_lt_two_pow (by omega) (by omega)
  exact ⟨by omega, by omega⟩

set_option maxRecDepth 100000 in
set_option maxHeartbeats 1000000 in
theorem frameTells_walk (a0 : Option Addr) (len cap : Nat) (ro : Nat → Option Addr) (rl rc : Nat → Nat) (rx : Nat → List Int) (ra : Option Addr) (rlen rcap : Nat) (rz : List Int) (ka : Option Addr) (kl kc : Nat) (kz : List Int) (t1 tb : Int) (w : World) (h0 : IsRows w a0 len cap ro rl rc rx) (hr : IsRow .u8 w ra rlen rcap rz) (hk : IsRow .i64 w ka kl kc kz) (ht1 : (Lit.int .i64 t1).wf = true) (htb : (Lit.int .u8 tb).wf = true) (hbig : rlen ≤ 1048576) :
    Calls Try.prog 4 #[.slice a0 len cap, .slice ra rlen rcap, .slice ka kl kc, .int .i64 t1, .int .u8 tb] w fun e w' => e = .returned (.bool true) ∧ Below w.heap.size w w' := by
  obtain ⟨i0, hi, hz0, hz1, hz2⟩ := info_parts info_u8
  have H0 := Lib.hid h0
  have HK := Lib.hid hk
  obtain ⟨hra, hrl, hrc, hrm, hrw⟩ := bat_row hr
  have HRA := Lib.hid hra
  have HRL := Lib.hid hrl
  have HRW := Lib.hid hrw
  have hrm' := hrm
  unfold maxLen at hrm'
  have hb1 := bounds_i64 ht1
  have hbt := bounds_u8 htb
  have htb0 : 0 ≤ tb := hbt.1
  have htb1 : tb < 256 := by omega
  clear h0 hk hr hra hrl hrw ht1 htb hbt
  go_enter Try.func4, Try.ntmps4
  go_wp2_with fail
  refine (law3row a0 len cap ro rl rc rx _ H0.out).mono ?_
  rintro e w1 ⟨vb, rfl, hob, B1⟩
  obtain ⟨q, hq⟩ : ∃ q, min len 5 = q := ⟨_, rfl⟩
  have hq5 : q ≤ 5 := by omega
  have hql : q ≤ len := by omega
  rw [hq] at hob
  obtain ⟨y0, hy0⟩ : ∃ y, y = rowF rx q := ⟨_, rfl⟩
  have hyl : y0.length ≤ 340 := by rw [hy0]; have := rowF_len rx q; omega
  have HYW := Lib.hid (show Wb y0 by rw [hy0]; exact rowF_wb rx q (fun i hi => (H0.out.2.2.1 i (by omega)).2.2.2.2))
  rw [← hy0] at hob
  obtain ⟨N, hN⟩ : ∃ N, y0.length = N := ⟨_, rfl⟩
  have HN := Lib.hid hN
  rw [hN] at hob hyl
  obtain ⟨a1, c1, rfl, -, hc1, hm1, hA1, hown1, -⟩ := own_read hob
  have HOB1 := Lib.hid hob
  have HA11 := Lib.hid hA1
  have HO1 := Lib.hid (show ∀ b o, a1 = some ⟨b, o, none⟩ → b < w1.heap.size from fun b o e => (hown1 b o e).2.2.1)
  have hm1' := hm1
  unfold maxLen at hm1'
  have O0 : (w1.alloc (.cells #[] 5)).ownsRow w1.heap.size 5 1 (.slice (some ⟨w1.heap.size, 0, none⟩) 0 0) 0 (bc []) := World.ownsRow_made w1 #[] 0 (Nat.le_refl _) (by unfold maxLen; omega) rfl
  have B0 : Below w1.heap.size w1 (w1.alloc (.cells #[] 5)) := (Below.refl _ _).alloc (Nat.le_refl _) _
  have A0 := hA1.ext B0
  clear hq hob hy0 hA1 hown1 hN
  go_wp2_with (at_builtin; refine wpList_append_bytes _ rfl _ _ 22 rfl (w1.heap.size) 5 i0 Try.underlying22 hi hz0 hz1 hz2 (.slice (some ⟨w1.heap.size, 0, none⟩) 0 0) (0) ([]) rfl (O0) (a1) (N) (c1) (y0) rfl (A0) (HN.out) ?c3 ?c4 ?c5 ?_)
  case c3 => unfold maxLen; omega
  case c4 => omega
  case c5 => exact B0.size
  intro v2 w2 ho2 hg2
  have B2 := B0.grown hg2 B0.size (fun q hq => own_ge O0 hq)
  have ho2' : w2.ownsRow w1.heap.size 5 1 v2 N (bc y0) := by simpa using ho2
  obtain ⟨a2, c2, rfl, -, hc2, hm2, hA2, hown2, hn2⟩ := own_read ho2'
  have HU := Lib.hid (own_uat ho2')
  have HA20 := Lib.hid hA2
  have HO2 := Lib.hid (show ∀ b o, a2 = some ⟨b, o, none⟩ → w1.heap.size ≤ b ∧ o = 0 from fun b o e => ⟨(hown2 b o e).2.1, (hown2 b o e).2.2.2⟩)
  have HFM2 := Lib.hid (show (a2 = none ∧ N = 0) ∨ ∃ g, a2 = some ⟨g, 0, none⟩ from by
    rcases ho2'.2 with ⟨e, e2⟩ | ⟨g, cp, cur, e, _⟩
    · simp at e; exact .inl ⟨e.1, e.2.1⟩
    · simp at e; exact .inr ⟨g, e.1⟩)
  have hm2' := hm2
  unfold maxLen at hm2'
  have D2 := ext_trans B1 B2
  have HA12 := Lib.hid (HA11.out.ext B2)
  have HOB2 := Lib.hid (ownsRow_ext HOB1.out B2)
  have hown1 := Lib.hid (show ∀ b, (Value.slice a1 N c1).ownBlock = some b → b < w1.heap.size from fun b e => (HOB1.out.lt b e).2)
  clear ho2 hg2 ho2' hA2 hown2 hn2 O0 B0 A0
  by_cases hN0 : N = 0
  · have hd : decide ((0 : Int) < (N : Int)) = false := by simp; omega
    obtain ⟨y1, hy1⟩ : ∃ y, y = y0 := ⟨_, rfl⟩
    have HA1 := Lib.hid HA12.out
    have HA2 := Lib.hid (show BAt w2 a2 y1 from by rw [hy1]; exact HA20.out)
    have HU2 := Lib.hid HU.out
    have HOB := Lib.hid HOB2.out
    have HN2 := Lib.hid (show ∀ b o, a2 = some ⟨b, o, none⟩ → (Value.slice a1 N c1).ownBlock ≠ some b from fun b o e e' => by have h1 := hown1.out b e'; have h2 := (HO2.out b o e).1; omega)
    have D3 := D2
    have HY1L := Lib.hid (show y1.length = N from by rw [hy1]; exact HN.out)
    have HY1W := Lib.hid (show Wb y1 from by rw [hy1]; exact HYW.out)
    have hd2 : ¬ 0 < N := by omega
    clear hy1 HA12 HA20 HU HOB2 D2 HA11 HOB1 B2 hown1 HO2 HO1 HFM2 hN0
    go_wp2_with fail
    refine (law3play a1 N c1 y0 ka kl kc kz _ (HA1.out) HN.out hc1 hm1 HYW.out (by omega) (HK.out.ext D3)).mono ?_
    rintro e p1 ⟨rfl, hb⟩
    have Dp1 := ext_trans D3 hb
    have Ep1 := hb
    clear hb
    go_wp2_with fail
    refine (law3play a2 N c2 y1 ka kl kc kz _ (HA2.out.ext Ep1) HY1L.out hc2 hm2 HY1W.out (by omega) (HK.out.ext Dp1)).mono ?_
    rintro e p2 ⟨rfl, hb⟩
    have Dp2 := ext_trans Dp1 hb
    have Ep2 := ext_trans Ep1 hb
    clear hb
    go_wp2_with fail
    refine (law3play ra rlen rcap rz ka kl kc kz _ (HRA.out.ext Dp2) HRL.out hrc hrm HRW.out (by omega) (HK.out.ext Dp2)).mono ?_
    rintro e p3 ⟨rfl, hb⟩
    have Dp3 := ext_trans Dp2 hb
    have Ep3 := ext_trans Ep2 hb
    clear hb
    have O3 := ownsRow_ext HOB.out Ep3
    have A3 := HRA.out.ext Dp3
    have Z3 := Dp3.size
    go_wp2_with (at_builtin; refine wpList_append_bytes_w _ (by rfl) _ _ 22 rfl (w.heap.size) 5 i0 Try.underlying22 hi hz0 hz1 hz2 _ (N) (y0) rfl (O3) (ra) (rlen) (rcap) (rz) rfl (A3) (HRL.out) ?c3 ?c4 ?c5 ?_)
    case c3 => unfold maxLen; omega
    case c4 => omega
    case c5 => exact Z3
    intro v4 w4 ho4 hg4
    have D4 := Dp3.grown hg4 Dp3.size (fun q hq => own_ge O3 hq)
    have ho4' : w4.ownsRow w.heap.size 5 1 v4 (y0 ++ rz).length (bc (y0 ++ rz)) := by rw [List.length_append, HN.out, HRL.out]; exact ho4
    obtain ⟨a4, c4, rfl, -, hc4, hm4, hA4, -, -⟩ := own_read ho4'
    have HL4 := Lib.hid (show (y0 ++ rz).length = N + rlen by rw [List.length_append, HN.out, HRL.out])
    rw [HL4.out] at hc4
    have HA4 := Lib.hid hA4
    have HX4 := Lib.hid (HA2.out.ext Ep3)
    have HW4 := Lib.hid (HYW.out.app HRW.out)
    have HX5 := Lib.hid (HX4.out.keep (w' := w4) (fun b o e p v hc => by
      obtain ⟨cur, hcur⟩ := HU2.out b o e
      have hlt := blk_lt hcur
      exact (World.cell?_of_block (w := p3) (hg4.block b (by have := Ep3.size; omega) (fun e' => HN2.out b o e e'.symm))).trans hc))
    have hLL := HL4.out
    rw [hLL]
    clear ho4 hg4 ho4' hA4 O3 A3 Z3 hLL
    go_wp2_with fail
    refine (law3play a4 (N + rlen) c4 (y0 ++ rz) ka kl kc kz _ (HA4.out) HL4.out hc4 hm4 HW4.out (by omega) (HK.out.ext D4)).mono ?_
    rintro e p5 ⟨rfl, hb⟩
    have Dp5 := ext_trans D4 hb
    have Ep5 := hb
    clear hb
    go_wp2_with fail
    refine (lawOnes ra rlen rcap rz _ (HRA.out.ext Dp5) HRL.out hrc hrm HRW.out).mono ?_
    rintro e w6 ⟨rfl, hb⟩
    have D6 := ext_trans Dp5 hb
    have E6 := ext_trans Ep5 hb
    clear hb
    go_wp2_with fail
    refine (lawOnes a2 N c2 y1 _ (HX5.out.ext E6) HY1L.out hc2 hm2 HY1W.out).mono ?_
    rintro e w7 ⟨rfl, hb⟩
    have D7 := ext_trans D6 hb
    clear hb
    go_wp2_with fail
    refine (frameSum ra rlen rcap rz _ (HRA.out.ext D7) HRL.out HRW.out (by omega)).mono ?_
    rintro e w8 ⟨rfl, rfl⟩
    go_wp2_with fail
    refine (refSum ra rlen rcap rz _ (HRA.out.ext D7) HRL.out HRW.out (by omega)).mono ?_
    rintro e w8 ⟨rfl, rfl⟩
    go_wp2_with fail
    refine (law3known _).mono ?_
    rintro e w9 ⟨rfl, hb⟩
    have D9 := ext_trans D7 hb
    clear hb
    go_wp2
    go_ret
    exact ⟨rfl, D9⟩
  · have hd : decide ((0 : Int) < (N : Int)) = true := by simp; omega
    have hd2 : 0 < N := by omega
    obtain ⟨g2, rfl⟩ := HFM2.out.resolve_left (by omega)
    have hg21 := (HO2.out g2 0 rfl).1
    go_wp2_with fail
    refine (within_any t1 0 ((N : Int) - 1) _ (by omega) (by omega) (by omega) (by omega) (by omega)).mono ?_
    rintro e w3 ⟨rfl, rfl⟩
    have hy1 := win_lo t1 0 ((N : Int) - 1) (by omega)
    have hy2 := win_hi t1 0 ((N : Int) - 1) (by omega)
    generalize win t1 0 ((N : Int) - 1) = z at *
    obtain ⟨j, rfl⟩ := Int.eq_ofNat_of_zero_le hy1
    obtain ⟨u, hu⟩ : ∃ u, y0[j]? = some u := ⟨_, List.getElem?_eq_getElem (by rw [HN.out]; omega)⟩
    have hub := HYW.out u (List.mem_of_getElem? hu)
    have hcell : w2.cell? ⟨g2, j, none⟩ = some (.int .u8 u) := by
      rcases HA20.out with h | ⟨b, o, e, h⟩
      · rw [h] at hu; simp at hu
      · simp at e
        obtain ⟨rfl, rfl⟩ := e
        have := h j u hu
        rwa [Nat.zero_add] at this
    obtain ⟨cur, hcur⟩ := HU.out g2 0 rfl
    have hfrz := blk_free hcur
    have hgl := blk_lt hcur
    have HCUR := Lib.hid hcur
    obtain ⟨t3, ht3⟩ : ∃ t3, bits .xor .u8 u tb = t3 := ⟨_, rfl⟩
    have HT3 := Lib.hid (show 0 ≤ t3 ∧ t3 < 256 from by rw [← ht3]; exact xor_in u tb hub.1 hub.2 htb0 htb1)
    have hkp : Kept g2 w2 (w2.setCell ⟨g2, j, none⟩ (.int .u8 t3)) := (Kept.refl _ _).setCell _ _
    have HA1 := Lib.hid (HA12.out.keep (w' := w2.setCell ⟨g2, j, none⟩ (.int .u8 t3)) (fun b o e p v hc => hkp.cell (by have := HO1.out b o e; omega) hc))
    have HA2 := Lib.hid (show BAt (w2.setCell ⟨g2, j, none⟩ (.int .u8 t3)) (some ⟨g2, 0, none⟩) (y0.set j t3) by have := HA20.out.set_ HCUR.out j t3; rwa [Nat.zero_add] at this)
    have HU2 := Lib.hid (show UAt (w2.setCell ⟨g2, j, none⟩ (.int .u8 t3)) (some ⟨g2, 0, none⟩) from fun b o e => by simp at e; obtain ⟨rfl, rfl⟩ := e; exact ⟨_, blk_set HCUR.out rfl⟩)
    have HOB := Lib.hid (ownsRow_keep HOB2.out hkp (fun e => by have := hown1.out g2 e.symm; omega))
    have HN2 := Lib.hid (show ∀ b o, (some ⟨g2, 0, none⟩ : Option Addr) = some ⟨b, o, none⟩ → (Value.slice a1 N c1).ownBlock ≠ some b from fun b o e e' => by simp at e; have h1 := hown1.out b e'; omega)
    have D3 := D2.trans (hkp.below (by have := B1.size; omega))
    have HY1L := Lib.hid (show (y0.set j t3).length = N by rw [List.length_set]; exact HN.out)
    have HY1W := Lib.hid (show Wb (y0.set j t3) from fun n hn => by
      rcases List.mem_or_eq_of_mem_set hn with h | h
      · exact HYW.out n h
      · subst h; exact HT3.out)
    clear hkp HCUR hu hub hcur HA12 HA20 HU HOB2 D2 HA11 HOB1 B2 hown1 HO2 HO1 HFM2
    go_wp2_with fail
    refine (law3play a1 N c1 y0 ka kl kc kz _ (HA1.out) HN.out hc1 hm1 HYW.out (by omega) (HK.out.ext D3)).mono ?_
    rintro e p1 ⟨rfl, hb⟩
    have Dp1 := ext_trans D3 hb
    have Ep1 := hb
    clear hb
    go_wp2_with fail
    refine (law3play (some ⟨g2, 0, none⟩) N c2 (y0.set j t3) ka kl kc kz _ (HA2.out.ext Ep1) HY1L.out hc2 hm2 HY1W.out (by omega) (HK.out.ext Dp1)).mono ?_
    rintro e p2 ⟨rfl, hb⟩
    have Dp2 := ext_trans Dp1 hb
    have Ep2 := ext_trans Ep1 hb
    clear hb
    go_wp2_with fail
    refine (law3play ra rlen rcap rz ka kl kc kz _ (HRA.out.ext Dp2) HRL.out hrc hrm HRW.out (by omega) (HK.out.ext Dp2)).mono ?_
    rintro e p3 ⟨rfl, hb⟩
    have Dp3 := ext_trans Dp2 hb
    have Ep3 := ext_trans Ep2 hb
    clear hb
    have O3 := ownsRow_ext HOB.out Ep3
    have A3 := HRA.out.ext Dp3
    have Z3 := Dp3.size
    go_wp2_with (at_builtin; refine wpList_append_bytes_w _ (by rfl) _ _ 22 rfl (w.heap.size) 5 i0 Try.underlying22 hi hz0 hz1 hz2 _ (N) (y0) rfl (O3) (ra) (rlen) (rcap) (rz) rfl (A3) (HRL.out) ?c3 ?c4 ?c5 ?_)
    case c3 => unfold maxLen; omega
    case c4 => omega
    case c5 => exact Z3
    intro v4 w4 ho4 hg4
    have D4 := Dp3.grown hg4 Dp3.size (fun q hq => own_ge O3 hq)
    have ho4' : w4.ownsRow w.heap.size 5 1 v4 (y0 ++ rz).length (bc (y0 ++ rz)) := by rw [List.length_append, HN.out, HRL.out]; exact ho4
    obtain ⟨a4, c4, rfl, -, hc4, hm4, hA4, -, -⟩ := own_read ho4'
    have HL4 := Lib.hid (show (y0 ++ rz).length = N + rlen by rw [List.length_append, HN.out, HRL.out])
    rw [HL4.out] at hc4
    have HA4 := Lib.hid hA4
    have HX4 := Lib.hid (HA2.out.ext Ep3)
    have HW4 := Lib.hid (HYW.out.app HRW.out)
    have HX5 := Lib.hid (HX4.out.keep (w' := w4) (fun b o e p v hc => by
      obtain ⟨cur, hcur⟩ := HU2.out b o e
      have hlt := blk_lt hcur
      exact (World.cell?_of_block (w := p3) (hg4.block b (by have := Ep3.size; omega) (fun e' => HN2.out b o e e'.symm))).trans hc))
    have hLL := HL4.out
    rw [hLL]
    clear ho4 hg4 ho4' hA4 O3 A3 Z3 hLL
    go_wp2_with fail
    refine (law3play a4 (N + rlen) c4 (y0 ++ rz) ka kl kc kz _ (HA4.out) HL4.out hc4 hm4 HW4.out (by omega) (HK.out.ext D4)).mono ?_
    rintro e p5 ⟨rfl, hb⟩
    have Dp5 := ext_trans D4 hb
    have Ep5 := hb
    clear hb
    go_wp2_with fail
    refine (lawOnes ra rlen rcap rz _ (HRA.out.ext Dp5) HRL.out hrc hrm HRW.out).mono ?_
    rintro e w6 ⟨rfl, hb⟩
    have D6 := ext_trans Dp5 hb
    have E6 := ext_trans Ep5 hb
    clear hb
    go_wp2_with fail
    refine (lawOnes (some ⟨g2, 0, none⟩) N c2 (y0.set j t3) _ (HX5.out.ext E6) HY1L.out hc2 hm2 HY1W.out).mono ?_
    rintro e w7 ⟨rfl, hb⟩
    have D7 := ext_trans D6 hb
    clear hb
    go_wp2_with fail
    refine (frameSum ra rlen rcap rz _ (HRA.out.ext D7) HRL.out HRW.out (by omega)).mono ?_
    rintro e w8 ⟨rfl, rfl⟩
    go_wp2_with fail
    refine (refSum ra rlen rcap rz _ (HRA.out.ext D7) HRL.out HRW.out (by omega)).mono ?_
    rintro e w8 ⟨rfl, rfl⟩
    go_wp2_with fail
    refine (law3known _).mono ?_
    rintro e w9 ⟨rfl, hb⟩
    have D9 := ext_trans D7 hb
    clear hb
    go_wp2
    go_ret
    exact ⟨rfl, D9⟩

end Go.Proofs.Ytiblnonmlekjgaa
