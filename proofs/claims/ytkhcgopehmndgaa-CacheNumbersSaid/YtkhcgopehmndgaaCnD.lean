/- The document's own cache: Apply of feeds. -/
import Derived.Test.YtkhcgopehmndgaaCnC
import Derived.Test.YtkhcgopehmndgaaCnA
namespace Go.Proofs.Ytkhcgopehmndgaa
open Go.RowKit
set_option linter.unusedVariables false
set_option linter.unusedSimpArgs false


/-- the document's cache behind a feed: C is what all puts come to -/
def RpP (cb : Nat) (q s : Int) (C : List Cd) (w : World) (r : Ending) (w' : World) : Prop := Rim cb w w' ∧ ((sm (sealB C) = s ∧ r = .returned (.int .i64 0) ∧ RcP w' cb q C) ∨ (sm (sealB C) ≠ s ∧ r = .returned (.int .i64 25) ∧ RcP w' cb (-1) C))
theorem RcP.cat {w w' : World} {wb : Nat} {q : Int} {cs ls : List Cd} {a : Option Addr} (h : RcP w wb q cs) (hr : Rim wb w w') (hA : CAt w a ls) : CAt w' a ls := by
  obtain ⟨a1, c1, h1, -⟩ := h
  exact hA.keep fun b cur hc _ => hr.block b (fun e => by subst e; have h9 := h1.symm.trans hc; simp at h9) (blk_lt hc)
theorem RcP.blk {w w' : World} {wb : Nat} {q : Int} {cs : List Cd} {p : Nat} {cs0 : Array Value} {T0 : TypeId} (h : RcP w wb q cs) (hr : Rim wb w w') (hp : w.heap[p]? = some (.cells cs0 T0 (0, 0))) (hT : 72 ≠ T0) : w'.heap[p]? = some (.cells cs0 T0 (0, 0)) := by
  obtain ⟨a1, c1, h1, -⟩ := h
  exact (hr.block p (fun e => by subst e; have h9 := h1.symm.trans hp; simp at h9; exact hT h9.2) (blk_lt hp)).trans hp
set_option maxRecDepth 100000 in
set_option maxHeartbeats 4000000 in
theorem rcFull (cb n mc : Nat) (ma : Option Addr) (q0 q s tg : Int) (cs0 ls C : List Cd) (hC : ls.foldl putC [] = C) (w : World) (h : RcP w cb q0 cs0) (hm : CAt w ma ls) (hl0 : ls.length = n) (hn : n ≤ 64) (hr : ∀ x ∈ ls, CdR x ∧ KA x.a ∧ KI x.i) (hq : -1 ≤ q) :
    Calls Try.prog 32 #[.pointer (some ⟨cb, 0, none⟩), .agg #[.int .i64 2, .int .i64 5, .int .i64 0, .int .i64 0, .int .i64 tg, .int .i64 0, .int .i64 q, .string ⟨#[]⟩, .string ⟨#[]⟩, .bool true, .int .u32 s, .slice ma n mc, .slice none 0 0]] w fun r w' => RpP cb q s C w r w' := by
  have D0 := Lib.hid (show Below w.heap.size w (w.alloc (.cells #[.int .i64 2, .int .i64 5, .int .i64 0, .int .i64 0, .int .i64 tg, .int .i64 0, .int .i64 q, .string ⟨#[]⟩, .string ⟨#[]⟩, .bool true, .int .u32 s, .slice ma n mc, .slice none 0 0] 36)) from (Below.refl _ _).alloc (Nat.le_refl _) _)
  have HX := Lib.hid (blk_new w #[.int .i64 2, .int .i64 5, .int .i64 0, .int .i64 0, .int .i64 tg, .int .i64 0, .int .i64 q, .string ⟨#[]⟩, .string ⟨#[]⟩, .bool true, .int .u32 s, .slice ma n mc, .slice none 0 0] 36)
  have HP := Lib.hid (h.ext D0.out)
  have hcb := h.lt
  have HA := Lib.hid (hm.ext D0.out)
  have HL := Lib.hid hl0
  have HR := Lib.hid hr
  have HCC := Lib.hid hC
  have HWJ := Lib.hid (show ∀ J, WfC ((ls.take J).foldl putC []) from fun J => WfC.nil.fold (fun x hx => hr x (List.mem_of_mem_take hx)))
  clear hC
  clear h hm hl0 hr
  go_enter Try.func32, Try.ntmps32
  go_upto_region 1 with (fail)
  obtain ⟨p, hp⟩ : ∃ p, w.heap.size = p := ⟨_, rfl⟩
  have hpc : p ≠ cb := by omega
  rw [hp] at HX
  try rw [hp]
  clear hp hcb
  generalize (w.alloc (.cells #[.int .i64 2, .int .i64 5, .int .i64 0, .int .i64 0, .int .i64 tg, .int .i64 0, .int .i64 q, .string ⟨#[]⟩, .string ⟨#[]⟩, .bool true, .int .u32 s, .slice ma n mc, .slice none 0 0] 36)) = w1 at *
  have hk := blk_cell HX.out
  have hl := blk_lt HX.out
  go_wp2_with fail
  refine (refRight5 true tg q s ma n mc _ ls HA.out HL.out (by omega) (fun x hx => (HR.out x hx).1) hq).mono ?_
  rintro e w2 ⟨rfl, hb⟩
  have HX2 := Lib.hid (blk_ext hb HX.out)
  have HA2 := Lib.hid (HA.out.ext hb)
  have HP2 := Lib.hid (HP.out.ext hb)
  have D2 := Lib.hid (Rim.of (b := cb) (ext_trans D0.out hb))
  clear hk hl hb HX HA HP D0
  have hk := blk_cell HX2.out
  have hl := blk_lt HX2.out
  obtain ⟨a0, c0, h1, h2, h3, h4⟩ := HP2.out
  have H1 := Lib.hid h1
  clear h1 h2 h3 h4
  have hkc := blk_cell H1.out
  have hlc := blk_lt H1.out
  have hfc := blk_free H1.out
  go_upto_region 7 with (fail)
  have hkp : Kept cb w2 (w2.setCell ⟨cb, 0, none⟩ (.slice none 0 0)) := (Kept.refl cb w2).setCell _ _
  have HP3 := Lib.hid (show RcP (w2.setCell ⟨cb, 0, none⟩ (.slice none 0 0)) cb q0 [] from RcP.row H1.out (show OwnC 0 w2 (.slice none 0 0) [] from OwnR.nil _ _))
  have HX3 := Lib.hid (HP2.out.blk (Rim.kept hkp) HX2.out (by decide))
  have HA3 := Lib.hid (HP2.out.cat (Rim.kept hkp) HA2.out)
  have D3 := Lib.hid (D2.out.trans (Rim.kept hkp))
  clear hkp hk hl hkc hlc hfc HX2 HA2 HP2 D2 H1
  generalize (w2.setCell ⟨cb, 0, none⟩ (.slice none 0 0)) = w3 at *
  have hk := blk_cell HX3.out
  have hl := blk_lt HX3.out
  go_wp2_with fail
  go_loopw [38] (fun j wr => ∃ (J : Nat), J ≤ n ∧ j = .int .i64 (J : Int) ∧ RcP wr cb q0 ((ls.take J).foldl putC []) ∧ Rim cb w3 wr) (fun j _ => n - (intOf j).toNat)
  case atStart => exact ⟨0, by omega, rfl, HP3.out, Rim.of (Below.refl _ _)⟩
  case round =>
    obtain ⟨wr, rfl⟩ : ∃ y : World, y = wr := ⟨_, rfl⟩
    obtain ⟨J, hJ, rfl, hpr, hbr⟩ := hrel
    have HWC := Lib.hid (HWJ.out J)
    have HX4 := Lib.hid (HP3.out.blk hbr HX3.out (by decide))
    have HA4 := Lib.hid (HP3.out.cat hbr HA3.out)
    have HB4 := Lib.hid hbr
    obtain ⟨C1, hC1⟩ : ∃ C1, ((ls.take J).foldl putC []) = C1 := ⟨_, rfl⟩
    have HC1 := Lib.hid hC1
    rw [hC1] at hpr HWC
    have HP4 := Lib.hid hpr
    clear hpr hbr hk hl hC1
    by_cases hlt : J < n
    · obtain ⟨x, hx⟩ : ∃ x, ls[J]? = some x := ⟨_, List.getElem?_eq_getElem (by rw [HL.out]; exact hlt)⟩
      have HTK := Lib.hid (show ((ls.take (J + 1)).foldl putC []) = putC C1 x from by rw [List.take_add_one, hx, ← HC1.out]; simp)
      have HXR := Lib.hid (HR.out x (List.mem_of_getElem? hx))
      obtain ⟨vb, vo, rfl⟩ : ∃ b o, ma = some ⟨b, o, none⟩ := by
        rcases HA4.out with h | ⟨b, o, e, _⟩
        · rw [h] at hx; simp at hx
        · exact ⟨b, o, e⟩
      obtain ⟨y0, y1, y2, y3, y4, y5, y6, y7, y8⟩ := HA4.out.at hx
      have hJn : (J : Int) < (n : Int) := by omega
      have E3 := Lib.hid (show Below wr.heap.size wr (wr.alloc (.cells #[.string x.a, .string x.i, .int .i64 x.s, .int .i64 x.o, .int .i64 x.l, .int .i64 x.t, .int .i64 x.k, .int .i64 x.n, .bool x.g] 49)) from (Below.refl _ _).alloc (Nat.le_refl _) _)
      have HK3 := Lib.hid (blk_new wr #[.string x.a, .string x.i, .int .i64 x.s, .int .i64 x.o, .int .i64 x.l, .int .i64 x.t, .int .i64 x.k, .int .i64 x.n, .bool x.g] 49)
      have HP5 := Lib.hid (HP4.out.ext E3.out)
      have HB5 := Lib.hid (HB4.out.trans (Rim.of E3.out))
      clear hx
      go_upto_region 10 with (fail)
      clear y0 y1 y2 y3 y4 y5 y6 y7 y8 HB4 HP4
      generalize (wr.alloc (.cells #[.string x.a, .string x.i, .int .i64 x.s, .int .i64 x.o, .int .i64 x.l, .int .i64 x.t, .int .i64 x.k, .int .i64 x.n, .bool x.g] 49)) = w5 at *
      have hk4 := blk_cell HK3.out
      have hl4 := blk_lt HK3.out
      go_wp2_with fail
      refine (rcPut cb q0 C1 x _ HP5.out HWC.out HXR.out.1 HXR.out.2.1 HXR.out.2.2).mono ?_
      rintro e w6 ⟨rfl, hp6, hr6⟩
      have HP6 := Lib.hid (show RcP w6 cb q0 ((ls.take (J + 1)).foldl putC []) from by rw [HTK.out]; exact hp6)
      have HB6 := Lib.hid (HB5.out.trans hr6)
      clear hp6 hr6 hk4 hl4 HK3 HP5 HB5
      go_wp2
      go_roundw
      case rel => exact ⟨J + 1, by omega, by go_num, HP6.out, HB6.out⟩
      case measure => simp [intOf]; omega
    · obtain rfl : J = n := by omega
      have hlt2 : decide ((J : Int) < (J : Int)) = false := by simp
      obtain rfl : C1 = C := by rw [← HC1.out, ← HCC.out, List.take_of_length_le (by rw [HL.out]; exact Nat.le_refl _)]
      have HCS := Lib.hid (show ∀ x ∈ C1, CdS x from fun x hx => ⟨by have := (HWC.out.2 x hx).1.1.2.1; omega, by have := (HWC.out.2 x hx).1.2.1.2.1; omega⟩)
      have hlen := HWC.out.len
      obtain ⟨a, c, h1, h2, h3, h4⟩ := HP4.out
      obtain ⟨ln, hln⟩ : ∃ ln, C1.length = ln := ⟨_, rfl⟩
      rw [hln] at h1 h2 hlen
      have HLN := Lib.hid hln
      have H1 := Lib.hid h1
      have H4 := Lib.hid h4
      have HD := Lib.hid (D3.out.trans HB4.out)
      obtain ⟨S1, hS1⟩ : ∃ S1, sm (sealB C1) = S1 := ⟨_, rfl⟩
      have HS1 := Lib.hid hS1
      clear h1 h3 h4 hln hS1
      obtain ⟨w8, hw8⟩ : ∃ y : World, y = wr := ⟨_, rfl⟩
      rw [← hw8] at HX4 HP4 H1 H4 HD ⊢
      clear hw8
      go_upto_region 12 with (fail)
      haveI hIq : Nonempty (Of w8) := of_some _
      have hG0 := blk_of HX4.out
      have hG1 := blk_of H1.out
      first | (refine wp_region_stay w8 (by kernel_rfl) (by kernel_rfl) (by go_grown) ?_) | (refine wp_region_stay_seq w8 (by go_grown) ?_)
      repeat (go_big_quiet_step ((go_at_call 19; with_reducible refine stay_as (refSeal9 a ln c C1 _ (H4.out.ext (In.h _)) HLN.out hlen h2 HCS.out) (congrArg (Value.int .u32) HS1.out))))
      refine wpQuiet_nil ?_
      intro w9 hb9
      clear hIq hG0 hG1
      have HX9 := Lib.hid (blk_ext hb9 HX4.out)
      have HP9 := Lib.hid (HP4.out.ext hb9)
      have H9 := Lib.hid (blk_ext hb9 H1.out)
      have HD9 := Lib.hid (HD.out.trans (Rim.of hb9))
      clear hb9 HX4 HP4 H1 HD
      have hk9 := blk_cell HX9.out
      have hl9 := blk_lt HX9.out
      have hkc := blk_cell H9.out
      have hlc := blk_lt H9.out
      have hfc := blk_free H9.out
      by_cases hse : S1 = s
      · subst hse
        have hkp : Kept cb w9 (w9.setCell ⟨cb, 1, none⟩ (.int .i64 (q))) := (Kept.refl cb w9).setCell _ _
        have HPF := Lib.hid (RcP.num (q' := q) HP9.out)
        have HRF := Lib.hid (HD9.out.trans (Rim.kept hkp))
        clear hkp
        go_wp2
        go_ret
        exact ⟨HRF.out, .inl ⟨HS1.out, rfl, HPF.out⟩⟩
      · have hsb : (S1 == s) = false := by simpa using hse
        have hkp : Kept cb w9 (w9.setCell ⟨cb, 1, none⟩ (.int .i64 (-1))) := (Kept.refl cb w9).setCell _ _
        have HPF := Lib.hid (RcP.num (q' := -1) HP9.out)
        have HRF := Lib.hid (HD9.out.trans (Rim.kept hkp))
        clear hkp
        go_wp2
        go_ret
        exact ⟨HRF.out, .inr ⟨by rw [HS1.out]; exact hse, rfl, HPF.out⟩⟩

set_option maxRecDepth 100000 in
set_option maxHeartbeats 4000000 in
theorem rcDelta (cb n mc : Nat) (ma : Option Addr) (q0 q s tg : Int) (cs0 ls C : List Cd) (hC : ls.foldl putC cs0 = C) (h0 : q0 ≠ -1) (hwf : WfC cs0) (w : World) (h : RcP w cb q0 cs0) (hm : CAt w ma ls) (hl0 : ls.length = n) (hn : n ≤ 64) (hr : ∀ x ∈ ls, CdR x ∧ KA x.a ∧ KI x.i) (hq : -1 ≤ q) :
    Calls Try.prog 32 #[.pointer (some ⟨cb, 0, none⟩), .agg #[.int .i64 2, .int .i64 5, .int .i64 0, .int .i64 0, .int .i64 tg, .int .i64 0, .int .i64 q, .string ⟨#[]⟩, .string ⟨#[]⟩, .bool false, .int .u32 s, .slice ma n mc, .slice none 0 0]] w fun r w' => RpP cb q s C w r w' := by
  have D0 := Lib.hid (show Below w.heap.size w (w.alloc (.cells #[.int .i64 2, .int .i64 5, .int .i64 0, .int .i64 0, .int .i64 tg, .int .i64 0, .int .i64 q, .string ⟨#[]⟩, .string ⟨#[]⟩, .bool false, .int .u32 s, .slice ma n mc, .slice none 0 0] 36)) from (Below.refl _ _).alloc (Nat.le_refl _) _)
  have HX := Lib.hid (blk_new w #[.int .i64 2, .int .i64 5, .int .i64 0, .int .i64 0, .int .i64 tg, .int .i64 0, .int .i64 q, .string ⟨#[]⟩, .string ⟨#[]⟩, .bool false, .int .u32 s, .slice ma n mc, .slice none 0 0] 36)
  have HP := Lib.hid (h.ext D0.out)
  have hcb := h.lt
  have HA := Lib.hid (hm.ext D0.out)
  have HL := Lib.hid hl0
  have HR := Lib.hid hr
  have HCC := Lib.hid hC
  have hq0 : (q0 == -1) = false := by simpa using h0
  have HWJ := Lib.hid (show ∀ J, WfC ((ls.take J).foldl putC cs0) from fun J => hwf.fold (fun x hx => hr x (List.mem_of_mem_take hx)))
  clear hC h0 hwf
  clear h hm hl0 hr
  go_enter Try.func32, Try.ntmps32
  go_upto_region 1 with (fail)
  obtain ⟨p, hp⟩ : ∃ p, w.heap.size = p := ⟨_, rfl⟩
  have hpc : p ≠ cb := by omega
  rw [hp] at HX
  try rw [hp]
  clear hp hcb
  generalize (w.alloc (.cells #[.int .i64 2, .int .i64 5, .int .i64 0, .int .i64 0, .int .i64 tg, .int .i64 0, .int .i64 q, .string ⟨#[]⟩, .string ⟨#[]⟩, .bool false, .int .u32 s, .slice ma n mc, .slice none 0 0] 36)) = w1 at *
  have hk := blk_cell HX.out
  have hl := blk_lt HX.out
  go_wp2_with fail
  refine (refRight5 false tg q s ma n mc _ ls HA.out HL.out (by omega) (fun x hx => (HR.out x hx).1) hq).mono ?_
  rintro e w2 ⟨rfl, hb⟩
  have HX2 := Lib.hid (blk_ext hb HX.out)
  have HA2 := Lib.hid (HA.out.ext hb)
  have HP2 := Lib.hid (HP.out.ext hb)
  have D2 := Lib.hid (Rim.of (b := cb) (ext_trans D0.out hb))
  clear hk hl hb HX HA HP D0
  have hk := blk_cell HX2.out
  have hl := blk_lt HX2.out
  obtain ⟨a0, c0, h1, h2, h3, h4⟩ := HP2.out
  have H1 := Lib.hid h1
  clear h1 h2 h3 h4
  have hkc := blk_cell H1.out
  have hlc := blk_lt H1.out
  go_upto_region 7 with (fail)
  clear hkc hlc H1
  obtain ⟨w3, hw3⟩ : ∃ y : World, y = w2 := ⟨_, rfl⟩
  rw [← hw3] at HX2 HA2 HP2 D2 hk hl ⊢
  clear hw3
  have HP3 := HP2
  have HX3 := HX2
  have HA3 := HA2
  have D3 := D2
  clear HP2 HX2 HA2 D2
  go_wp2_with fail
  go_loopw [38] (fun j wr => ∃ (J : Nat), J ≤ n ∧ j = .int .i64 (J : Int) ∧ RcP wr cb q0 ((ls.take J).foldl putC cs0) ∧ Rim cb w3 wr) (fun j _ => n - (intOf j).toNat)
  case atStart => exact ⟨0, by omega, rfl, HP3.out, Rim.of (Below.refl _ _)⟩
  case round =>
    obtain ⟨wr, rfl⟩ : ∃ y : World, y = wr := ⟨_, rfl⟩
    obtain ⟨J, hJ, rfl, hpr, hbr⟩ := hrel
    have HWC := Lib.hid (HWJ.out J)
    have HX4 := Lib.hid (HP3.out.blk hbr HX3.out (by decide))
    have HA4 := Lib.hid (HP3.out.cat hbr HA3.out)
    have HB4 := Lib.hid hbr
    obtain ⟨C1, hC1⟩ : ∃ C1, ((ls.take J).foldl putC cs0) = C1 := ⟨_, rfl⟩
    have HC1 := Lib.hid hC1
    rw [hC1] at hpr HWC
    have HP4 := Lib.hid hpr
    clear hpr hbr hk hl hC1
    by_cases hlt : J < n
    · obtain ⟨x, hx⟩ : ∃ x, ls[J]? = some x := ⟨_, List.getElem?_eq_getElem (by rw [HL.out]; exact hlt)⟩
      have HTK := Lib.hid (show ((ls.take (J + 1)).foldl putC cs0) = putC C1 x from by rw [List.take_add_one, hx, ← HC1.out]; simp)
      have HXR := Lib.hid (HR.out x (List.mem_of_getElem? hx))
      obtain ⟨vb, vo, rfl⟩ : ∃ b o, ma = some ⟨b, o, none⟩ := by
        rcases HA4.out with h | ⟨b, o, e, _⟩
        · rw [h] at hx; simp at hx
        · exact ⟨b, o, e⟩
      obtain ⟨y0, y1, y2, y3, y4, y5, y6, y7, y8⟩ := HA4.out.at hx
      have hJn : (J : Int) < (n : Int) := by omega
      have E3 := Lib.hid (show Below wr.heap.size wr (wr.alloc (.cells #[.string x.a, .string x.i, .int .i64 x.s, .int .i64 x.o, .int .i64 x.l, .int .i64 x.t, .int .i64 x.k, .int .i64 x.n, .bool x.g] 49)) from (Below.refl _ _).alloc (Nat.le_refl _) _)
      have HK3 := Lib.hid (blk_new wr #[.string x.a, .string x.i, .int .i64 x.s, .int .i64 x.o, .int .i64 x.l, .int .i64 x.t, .int .i64 x.k, .int .i64 x.n, .bool x.g] 49)
      have HP5 := Lib.hid (HP4.out.ext E3.out)
      have HB5 := Lib.hid (HB4.out.trans (Rim.of E3.out))
      clear hx
      go_upto_region 10 with (fail)
      clear y0 y1 y2 y3 y4 y5 y6 y7 y8 HB4 HP4
      generalize (wr.alloc (.cells #[.string x.a, .string x.i, .int .i64 x.s, .int .i64 x.o, .int .i64 x.l, .int .i64 x.t, .int .i64 x.k, .int .i64 x.n, .bool x.g] 49)) = w5 at *
      have hk4 := blk_cell HK3.out
      have hl4 := blk_lt HK3.out
      go_wp2_with fail
      refine (rcPut cb q0 C1 x _ HP5.out HWC.out HXR.out.1 HXR.out.2.1 HXR.out.2.2).mono ?_
      rintro e w6 ⟨rfl, hp6, hr6⟩
      have HP6 := Lib.hid (show RcP w6 cb q0 ((ls.take (J + 1)).foldl putC cs0) from by rw [HTK.out]; exact hp6)
      have HB6 := Lib.hid (HB5.out.trans hr6)
      clear hp6 hr6 hk4 hl4 HK3 HP5 HB5
      go_wp2
      go_roundw
      case rel => exact ⟨J + 1, by omega, by go_num, HP6.out, HB6.out⟩
      case measure => simp [intOf]; omega
    · obtain rfl : J = n := by omega
      have hlt2 : decide ((J : Int) < (J : Int)) = false := by simp
      obtain rfl : C1 = C := by rw [← HC1.out, ← HCC.out, List.take_of_length_le (by rw [HL.out]; exact Nat.le_refl _)]
      have HCS := Lib.hid (show ∀ x ∈ C1, CdS x from fun x hx => ⟨by have := (HWC.out.2 x hx).1.1.2.1; omega, by have := (HWC.out.2 x hx).1.2.1.2.1; omega⟩)
      have hlen := HWC.out.len
      obtain ⟨a, c, h1, h2, h3, h4⟩ := HP4.out
      obtain ⟨ln, hln⟩ : ∃ ln, C1.length = ln := ⟨_, rfl⟩
      rw [hln] at h1 h2 hlen
      have HLN := Lib.hid hln
      have H1 := Lib.hid h1
      have H4 := Lib.hid h4
      have HD := Lib.hid (D3.out.trans HB4.out)
      obtain ⟨S1, hS1⟩ : ∃ S1, sm (sealB C1) = S1 := ⟨_, rfl⟩
      have HS1 := Lib.hid hS1
      clear h1 h3 h4 hln hS1
      obtain ⟨w8, hw8⟩ : ∃ y : World, y = wr := ⟨_, rfl⟩
      rw [← hw8] at HX4 HP4 H1 H4 HD ⊢
      clear hw8
      go_upto_region 12 with (fail)
      haveI hIq : Nonempty (Of w8) := of_some _
      have hG0 := blk_of HX4.out
      have hG1 := blk_of H1.out
      first | (refine wp_region_stay w8 (by kernel_rfl) (by kernel_rfl) (by go_grown) ?_) | (refine wp_region_stay_seq w8 (by go_grown) ?_)
      repeat (go_big_quiet_step ((go_at_call 19; with_reducible refine stay_as (refSeal9 a ln c C1 _ (H4.out.ext (In.h _)) HLN.out hlen h2 HCS.out) (congrArg (Value.int .u32) HS1.out))))
      refine wpQuiet_nil ?_
      intro w9 hb9
      clear hIq hG0 hG1
      have HX9 := Lib.hid (blk_ext hb9 HX4.out)
      have HP9 := Lib.hid (HP4.out.ext hb9)
      have H9 := Lib.hid (blk_ext hb9 H1.out)
      have HD9 := Lib.hid (HD.out.trans (Rim.of hb9))
      clear hb9 HX4 HP4 H1 HD
      have hk9 := blk_cell HX9.out
      have hl9 := blk_lt HX9.out
      have hkc := blk_cell H9.out
      have hlc := blk_lt H9.out
      have hfc := blk_free H9.out
      by_cases hse : S1 = s
      · subst hse
        have hkp : Kept cb w9 (w9.setCell ⟨cb, 1, none⟩ (.int .i64 (q))) := (Kept.refl cb w9).setCell _ _
        have HPF := Lib.hid (RcP.num (q' := q) HP9.out)
        have HRF := Lib.hid (HD9.out.trans (Rim.kept hkp))
        clear hkp
        go_wp2
        go_ret
        exact ⟨HRF.out, .inl ⟨HS1.out, rfl, HPF.out⟩⟩
      · have hsb : (S1 == s) = false := by simpa using hse
        have hkp : Kept cb w9 (w9.setCell ⟨cb, 1, none⟩ (.int .i64 (-1))) := (Kept.refl cb w9).setCell _ _
        have HPF := Lib.hid (RcP.num (q' := -1) HP9.out)
        have HRF := Lib.hid (HD9.out.trans (Rim.kept hkp))
        clear hkp
        go_wp2
        go_ret
        exact ⟨HRF.out, .inr ⟨by rw [HS1.out]; exact hse, rfl, HPF.out⟩⟩

set_option maxRecDepth 100000 in
set_option maxHeartbeats 4000000 in
theorem rcNever (cb n mc : Nat) (ma : Option Addr) (q s tg : Int) (cs0 ls : List Cd) (w : World) (h : RcP w cb (-1) cs0) (hm : CAt w ma ls) (hl0 : ls.length = n) (hn : n ≤ 64) (hr : ∀ x ∈ ls, CdR x ∧ KA x.a ∧ KI x.i) (hq : -1 ≤ q) :
    Calls Try.prog 32 #[.pointer (some ⟨cb, 0, none⟩), .agg #[.int .i64 2, .int .i64 5, .int .i64 0, .int .i64 0, .int .i64 tg, .int .i64 0, .int .i64 q, .string ⟨#[]⟩, .string ⟨#[]⟩, .bool false, .int .u32 s, .slice ma n mc, .slice none 0 0]] w fun r w' => r = .returned (.int .i64 25) ∧ Below w.heap.size w w' := by
  have D0 := Lib.hid (show Below w.heap.size w (w.alloc (.cells #[.int .i64 2, .int .i64 5, .int .i64 0, .int .i64 0, .int .i64 tg, .int .i64 0, .int .i64 q, .string ⟨#[]⟩, .string ⟨#[]⟩, .bool false, .int .u32 s, .slice ma n mc, .slice none 0 0] 36)) from (Below.refl _ _).alloc (Nat.le_refl _) _)
  have HX := Lib.hid (blk_new w #[.int .i64 2, .int .i64 5, .int .i64 0, .int .i64 0, .int .i64 tg, .int .i64 0, .int .i64 q, .string ⟨#[]⟩, .string ⟨#[]⟩, .bool false, .int .u32 s, .slice ma n mc, .slice none 0 0] 36)
  have HP := Lib.hid (h.ext D0.out)
  have hcb := h.lt
  have HA := Lib.hid (hm.ext D0.out)
  have HL := Lib.hid hl0
  have HR := Lib.hid hr
  clear h hm hl0 hr
  go_enter Try.func32, Try.ntmps32
  go_upto_region 1 with (fail)
  obtain ⟨p, hp⟩ : ∃ p, w.heap.size = p := ⟨_, rfl⟩
  have hpc : p ≠ cb := by omega
  rw [hp] at HX
  try rw [hp]
  clear hp hcb
  generalize (w.alloc (.cells #[.int .i64 2, .int .i64 5, .int .i64 0, .int .i64 0, .int .i64 tg, .int .i64 0, .int .i64 q, .string ⟨#[]⟩, .string ⟨#[]⟩, .bool false, .int .u32 s, .slice ma n mc, .slice none 0 0] 36)) = w1 at *
  have hk := blk_cell HX.out
  have hl := blk_lt HX.out
  go_wp2_with fail
  refine (refRight5 false tg q s ma n mc _ ls HA.out HL.out (by omega) (fun x hx => (HR.out x hx).1) hq).mono ?_
  rintro e w2 ⟨rfl, hb⟩
  have HX2 := Lib.hid (blk_ext hb HX.out)
  have HA2 := Lib.hid (HA.out.ext hb)
  have HP2 := Lib.hid (HP.out.ext hb)
  have D2 := Lib.hid (ext_trans D0.out hb)
  clear hk hl hb HX HA HP D0
  have hk := blk_cell HX2.out
  have hl := blk_lt HX2.out
  obtain ⟨a0, c0, h1, h2, h3, h4⟩ := HP2.out
  have H1 := Lib.hid h1
  clear h1 h2 h3 h4
  have hkc := blk_cell H1.out
  have hlc := blk_lt H1.out
  go_wp2
  go_ret
  exact ⟨rfl, D2.out⟩

end Go.Proofs.Ytkhcgopehmndgaa
