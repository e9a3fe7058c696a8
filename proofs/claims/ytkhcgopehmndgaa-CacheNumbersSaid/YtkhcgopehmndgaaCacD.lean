/- Package cache: a delta is applied. -/
import Derived.Test.YtkhcgopehmndgaaCacG
namespace Go.Proofs.Ytkhcgopehmndgaa
open Go.RowKit
set_option linter.unusedVariables false
set_option linter.unusedSimpArgs false

def K20 : List Ky := [(⟨#[97, 112, 112]⟩, ⟨#[105, 100]⟩), (⟨#[97, 112, 112]⟩, ⟨#[97]⟩), (⟨#[97, 112, 112]⟩, ⟨#[105, 100, 50]⟩), (⟨#[97, 112, 112]⟩, ⟨#[120, 48]⟩), (⟨#[97, 112, 112]⟩, ⟨#[109]⟩), (⟨#[98]⟩, ⟨#[105, 100]⟩), (⟨#[98]⟩, ⟨#[97]⟩), (⟨#[98]⟩, ⟨#[105, 100, 50]⟩), (⟨#[98]⟩, ⟨#[120, 48]⟩), (⟨#[98]⟩, ⟨#[109]⟩), (⟨#[97, 112, 112, 49]⟩, ⟨#[105, 100]⟩), (⟨#[97, 112, 112, 49]⟩, ⟨#[97]⟩), (⟨#[97, 112, 112, 49]⟩, ⟨#[105, 100, 50]⟩), (⟨#[97, 112, 112, 49]⟩, ⟨#[120, 48]⟩), (⟨#[97, 112, 112, 49]⟩, ⟨#[109]⟩), (⟨#[122, 57]⟩, ⟨#[105, 100]⟩), (⟨#[122, 57]⟩, ⟨#[97]⟩), (⟨#[122, 57]⟩, ⟨#[105, 100, 50]⟩), (⟨#[122, 57]⟩, ⟨#[120, 48]⟩), (⟨#[122, 57]⟩, ⟨#[109]⟩)]
theorem k20_mem {k : Ky} (h1 : KA k.1) (h2 : KI k.2) : k ∈ K20 := by
  obtain ⟨a, i⟩ := k
  rcases h1 with h | h | h | h <;> rcases h2 with g | g | g | g | g <;> (simp only at h g; subst h; subst g; simp [K20])
theorem k20_nodup : K20.Nodup := by simp [K20]
open Classical in
theorem few {es : List En} (h : Asc es) (hk : ∀ e ∈ es, KA e.c.a ∧ KI e.c.i) : es.length ≤ 20 := by
  have h1 := asc_nodup h
  have h2 : (K20.filter (fun k => decide (k ∈ es.map enK))).Nodup := List.Pairwise.filter _ k20_nodup
  have hp := (List.perm_ext_iff_of_nodup h1 h2).2 (fun k => by
    constructor
    · intro hm
      refine List.mem_filter.2 ⟨?_, by simpa using hm⟩
      obtain ⟨e, he, rfl⟩ := List.mem_map.1 hm
      exact k20_mem (hk e he).1 (hk e he).2
    · intro hm
      simpa using (List.mem_filter.1 hm).2)
  have h3 := hp.length_eq
  have h4 := List.length_filter_le (fun k => decide (k ∈ es.map enK)) K20
  rw [List.length_map] at h3
  have h5 : K20.length = 20 := rfl
  omega

theorem WfC.len {cs : List Cd} (h : WfC cs) : cs.length ≤ 20 := by
  have := few h.1 (fun e he => by obtain ⟨c, hc, rfl⟩ := List.mem_map.1 he; exact ⟨(h.2 c hc).2.1, (h.2 c hc).2.2.1⟩)
  rwa [List.length_map] at this
theorem WfC.fold {cs ls : List Cd} (h : WfC cs) (hr : ∀ x ∈ ls, CdR x ∧ KA x.a ∧ KI x.i) : WfC (ls.foldl putC cs) := by
  induction ls generalizing cs with
  | nil => exact h
  | cons x xs ih => exact ih (h.put (hr x (by simp)).1 (hr x (by simp)).2.1 (hr x (by simp)).2.2) (fun y hy => hr y (by simp [hy]))
set_option maxRecDepth 100000 in
theorem cachePut (base n c : Nat) (a : Option Addr) (cs : List Cd) (t : Cd) (w : World) (h : OwnC base w (.slice a n c) cs) (hl : cs.length = n) (hn : n ≤ 1000) (hs : Asc (cs.map zE)) (hbase : base ≤ w.heap.size) :
    Calls Try.prog 45 #[.slice a n c, .agg #[.string t.a, .string t.i, .int .i64 t.s, .int .i64 t.o, .int .i64 t.l, .int .i64 t.t, .int .i64 t.k, .int .i64 t.n, .bool t.g]] w fun r w' => ∃ v', r = .returned v' ∧ OwnC base w' v' (putC cs t) ∧ Below base w w' := by
  obtain ⟨ta, ti, ts, to_, tl, tt, tk, tn, tg⟩ := t
  cases tg <;> cases hin : isIn (ck ⟨ta, ti, ts, to_, tl, tt, tk, tn, _⟩) (cs.map zE)
  · exact cachePutNP base n c a cs ⟨ta, ti, ts, to_, tl, tt, tk, tn, false⟩ w h hl hn hs hbase rfl hin
  · exact cachePutFP base n c a cs ⟨ta, ti, ts, to_, tl, tt, tk, tn, false⟩ w h hl hn hs hbase rfl hin
  · exact cachePutNG base n c a cs ⟨ta, ti, ts, to_, tl, tt, tk, tn, true⟩ w h hl hn hs hbase rfl hin
  · exact cachePutFG base n c a cs ⟨ta, ti, ts, to_, tl, tt, tk, tn, true⟩ w h hl hn hs hbase rfl hin
/-- a cache behind a delta -/
def DelP (cb : Nat) (q s : Int) (w : World) (r : Ending) (w' : World) : Prop := ∃ cs1, WfC cs1 ∧ Rim cb w w' ∧ ((sm (sealB cs1) = s ∧ r = .returned (.int .i64 0) ∧ CacP w' cb q cs1) ∨ (sm (sealB cs1) ≠ s ∧ r = .returned (.int .i64 25) ∧ CacP w' cb (-1) cs1))
set_option maxRecDepth 100000 in
set_option maxHeartbeats 4000000 in
theorem applyDelta (cb n mc : Nat) (ma : Option Addr) (q0 q s : Int) (cs0 ls : List Cd) (w : World) (h : CacP w cb q0 cs0) (h0 : q0 ≠ -1) (hwf : WfC cs0) (hm : CAt w ma ls) (hl0 : ls.length = n) (hn : n ≤ 20) (hr : ∀ x ∈ ls, CdR x ∧ KA x.a ∧ KI x.i) (hq : -1 ≤ q) :
    Calls Try.prog 18 #[.pointer (some ⟨cb, 0, none⟩), .agg #[.int .i64 2, .int .i64 5, .int .i64 0, .int .i64 0, .int .i64 0, .int .i64 0, .int .i64 q, .string ⟨#[]⟩, .string ⟨#[]⟩, .bool false, .int .u32 s, .slice ma n mc, .slice none 0 0]] w fun r w' => DelP cb q s w r w' := by
  have D0 := Lib.hid (show Below w.heap.size w (w.alloc (.cells #[.int .i64 2, .int .i64 5, .int .i64 0, .int .i64 0, .int .i64 0, .int .i64 0, .int .i64 q, .string ⟨#[]⟩, .string ⟨#[]⟩, .bool false, .int .u32 s, .slice ma n mc, .slice none 0 0] 36)) from (Below.refl _ _).alloc (Nat.le_refl _) _)
  have HX := Lib.hid (blk_new w #[.int .i64 2, .int .i64 5, .int .i64 0, .int .i64 0, .int .i64 0, .int .i64 0, .int .i64 q, .string ⟨#[]⟩, .string ⟨#[]⟩, .bool false, .int .u32 s, .slice ma n mc, .slice none 0 0] 36)
  have HP := Lib.hid (h.ext D0.out)
  have hcb := h.lt
  have HA := Lib.hid (hm.ext D0.out)
  have HL := Lib.hid hl0
  have HR := Lib.hid hr
  have HWF := Lib.hid hwf
  have hq0 : (q0 == -1) = false := by simpa using h0
  have HWJ := Lib.hid (show ∀ J, WfC ((ls.take J).foldl putC cs0) from fun J => hwf.fold (fun x hx => hr x (List.mem_of_mem_take hx)))
  clear h hm hl0 hr hwf h0
  go_enter Try.func18, Try.ntmps18
  go_upto_region 1 with (fail)
  obtain ⟨p, hp⟩ : ∃ p, w.heap.size = p := ⟨_, rfl⟩
  have hpc : p ≠ cb := by omega
  rw [hp] at HX
  try rw [hp]
  clear hp hcb
  generalize (w.alloc (.cells #[.int .i64 2, .int .i64 5, .int .i64 0, .int .i64 0, .int .i64 0, .int .i64 0, .int .i64 q, .string ⟨#[]⟩, .string ⟨#[]⟩, .bool false, .int .u32 s, .slice ma n mc, .slice none 0 0] 36)) = w1 at *
  have hk := blk_cell HX.out
  have hl := blk_lt HX.out
  go_wp2_with fail
  refine (mailRightOk false q s ma n mc ls _ HA.out HL.out (by omega) (fun x hx => (HR.out x hx).1) hq).mono ?_
  rintro e w2 ⟨rfl, hb⟩
  have HX2 := Lib.hid (blk_ext hb HX.out)
  have HA2 := Lib.hid (HA.out.ext hb)
  have HP2 := Lib.hid (HP.out.ext hb)
  have D2 := Lib.hid (ext_trans D0.out hb)
  clear hk hl hb HX HA HP D0
  have hk := blk_cell HX2.out
  have hl := blk_lt HX2.out
  obtain ⟨a0, c0, h1, h2, h3, h4, h5⟩ := HP2.out
  obtain ⟨n0, hn0⟩ : ∃ n0, cs0.length = n0 := ⟨_, rfl⟩
  have HN0 := Lib.hid hn0
  have hn20 : n0 ≤ 20 := by rw [← hn0]; exact HWF.out.len
  rw [hn0] at h1 h2
  have H1 := Lib.hid h1
  have H4 := Lib.hid h4
  have H5 := Lib.hid h5
  clear h1 h2 h3 h4 h5 hn0
  have hkc := blk_cell H1.out
  have hlc := blk_lt H1.out
  go_wp2_with fail
  refine (cloneC a0 n0 c0 cs0 _ H4.out HN0.out (by omega) H5.out).mono ?_
  rintro e w3 ⟨v, rfl, ho, hb⟩
  obtain ⟨a, c, rfl, -, -, -⟩ := OwnR.form ho
  have HO3 := Lib.hid ho
  have HX3 := Lib.hid (blk_ext hb HX2.out)
  have HA3 := Lib.hid (HA2.out.ext hb)
  have HB3 := Lib.hid hb
  clear ho hb hk hl hkc hlc
  have hk := blk_cell HX3.out
  have hl := blk_lt HX3.out
  go_wp2_with fail
  go_loopw [5, 42] (fun v j wr => ∃ (J : Nat) (a : Option Addr) (c : Nat), J ≤ n ∧ j = .int .i64 (J : Int) ∧ v = .slice a ((ls.take J).foldl putC cs0).length c ∧ OwnC w2.heap.size wr (.slice a ((ls.take J).foldl putC cs0).length c) ((ls.take J).foldl putC cs0) ∧ Below w2.heap.size w2 wr) (fun v j _ => n - (intOf j).toNat)
  case atStart => exact ⟨0, a, c, by omega, rfl, rfl, HO3.out, HB3.out⟩
  case round =>
    obtain ⟨wr, rfl⟩ : ∃ y : World, y = wr := ⟨_, rfl⟩
    obtain ⟨J, a, c, hJ, rfl, rfl, ho, hbr⟩ := hrel
    have HO := Lib.hid ho
    have HB := Lib.hid hbr
    have HWC := Lib.hid (HWJ.out J)
    obtain ⟨C1, hC1⟩ : ∃ C1, ((ls.take J).foldl putC cs0) = C1 := ⟨_, rfl⟩
    have HC1 := Lib.hid hC1
    rw [hC1] at HO HWC ⊢
    obtain ⟨ln, hln⟩ : ∃ ln, C1.length = ln := ⟨_, rfl⟩
    have HLN := Lib.hid hln
    have hln20 : ln ≤ 20 := by rw [← hln]; exact HWC.out.len
    rw [hln] at HO ⊢
    clear ho hbr hk hl hC1 hln HO3 HB3 HA3 HX3
    by_cases hlt : J < n
    · obtain ⟨x, hx⟩ : ∃ x, ls[J]? = some x := ⟨_, List.getElem?_eq_getElem (by rw [HL.out]; exact hlt)⟩
      have HTK := Lib.hid (show ((ls.take (J + 1)).foldl putC cs0) = putC C1 x from by rw [List.take_add_one, hx, ← HC1.out]; simp)
      obtain ⟨vb, vo, rfl⟩ : ∃ b o, ma = some ⟨b, o, none⟩ := by
        rcases HA2.out with h | ⟨b, o, e, _⟩
        · rw [h] at hx; simp at hx
        · exact ⟨b, o, e⟩
      obtain ⟨y0, y1, y2, y3, y4, y5, y6, y7, y8⟩ := (HA2.out.ext HB.out).at hx
      have hJn : (J : Int) < (n : Int) := by omega
      have E3 := Lib.hid (show Below wr.heap.size wr (wr.alloc (.cells #[.string x.a, .string x.i, .int .i64 x.s, .int .i64 x.o, .int .i64 x.l, .int .i64 x.t, .int .i64 x.k, .int .i64 x.n, .bool x.g] 49)) from (Below.refl _ _).alloc (Nat.le_refl _) _)
      have HK3 := Lib.hid (blk_new wr #[.string x.a, .string x.i, .int .i64 x.s, .int .i64 x.o, .int .i64 x.l, .int .i64 x.t, .int .i64 x.k, .int .i64 x.n, .bool x.g] 49)
      have HO3 := Lib.hid (OwnR.ext HO.out E3.out)
      have HB3 := Lib.hid (ext_trans HB.out E3.out)
      clear hx
      go_upto_region 11 with (fail)
      clear y0 y1 y2 y3 y4 y5 y6 y7 y8 HO HB E3
      generalize (wr.alloc (.cells #[.string x.a, .string x.i, .int .i64 x.s, .int .i64 x.o, .int .i64 x.l, .int .i64 x.t, .int .i64 x.k, .int .i64 x.n, .bool x.g] 49)) = w4 at *
      have hk4 := blk_cell HK3.out
      have hl4 := blk_lt HK3.out
      go_wp2_with fail
      refine (cachePut w2.heap.size ln c a C1 x _ HO3.out HLN.out (by omega) HWC.out.1 HB3.out.size).mono ?_
      rintro e w5 ⟨v', rfl, ho, hb⟩
      have HB5 := Lib.hid (HB3.out.trans hb)
      obtain ⟨a5, c5, rfl, -, -, -⟩ := OwnR.form ho
      have HO5 := Lib.hid ho
      clear ho hb hk4 hl4 HK3 HO3 HB3
      rw [← HTK.out]
      go_wp2
      go_roundw
      case rel => exact ⟨J + 1, a5, c5, by omega, by go_num, rfl, by rw [HTK.out]; exact HO5.out, HB5.out⟩
      case measure => simp [intOf]; omega
    · obtain rfl : J = n := by omega
      have hlt2 : decide ((J : Int) < (J : Int)) = false := by simp
      have HX7 := Lib.hid (blk_ext HB.out HX2.out)
      have H17 := Lib.hid (blk_ext HB.out H1.out)
      have HD7 := Lib.hid (ext_trans D2.out HB.out)
      have HCS := Lib.hid (show ∀ x ∈ C1, CdS x from fun x hx => ⟨by have := (HWC.out.2 x hx).1.1.2.1; omega, by have := (HWC.out.2 x hx).1.2.1.2.1; omega⟩)
      clear HB HX2 HP2 D2 HA2 H1 H4
      have hkc := blk_cell H17.out
      have hlc := blk_lt H17.out
      have hfc := blk_free H17.out
      obtain ⟨w7, hw7⟩ : ∃ y : World, y = wr := ⟨_, rfl⟩
      rw [← hw7] at HO HX7 HD7 H17 hkc hlc hfc ⊢
      clear hw7
      go_upto_region 14 with (fail)
      have hkp : Kept cb w7 (w7.setCell ⟨cb, 0, none⟩ (.slice a ln c)) := (Kept.refl cb w7).setCell _ _
      have H8 := Lib.hid (show (w7.setCell ⟨cb, 0, none⟩ (.slice a ln c)).heap[cb]? = some (.cells #[.slice a ln c, .int .i64 q0] 80 (0, 0)) from blk_set H17.out (by first | rfl | simp))
      have HX8 := Lib.hid ((hkp.block p hpc).trans HX7.out)
      have HV8 := Lib.hid (show CAt (w7.setCell ⟨cb, 0, none⟩ (.slice a ln c)) a C1 ∧ ln ≤ c ∧ c ≤ maxLen ∧ ((a = none ∧ c = 0) ∨ ∃ b o, a = some ⟨b, o, none⟩) from by
        obtain ⟨a', c', e1, h1, h2, h3, -, h4⟩ := (show OwnC w2.heap.size w7 (.slice a ln c) C1 from HO.out).read
        simp only [Value.slice.injEq] at e1
        obtain ⟨rfl, -, rfl⟩ := e1
        rw [HLN.out] at h1
        refine ⟨h3.keep fun b cur hc _ => hkp.block b (fun e => by subst e; have h9 := H17.out.symm.trans hc; simp at h9), h1, h2, ?_⟩
        rcases h4 with ⟨e1, e2, -⟩ | ⟨g, e1⟩
        · exact .inl ⟨e1, e2⟩
        · exact .inr ⟨g, 0, e1⟩)
      have HD8 := Lib.hid (show Rim cb w (w7.setCell ⟨cb, 0, none⟩ (.slice a ln c)) from (Rim.of HD7.out).trans (Rim.kept hkp))
      obtain ⟨S1, hS1⟩ : ∃ S1, sm (sealB C1) = S1 := ⟨_, rfl⟩
      have HS1 := Lib.hid hS1
      clear hkp hkc hlc hfc HO HX7 HD7 H17 hS1
      generalize (w7.setCell ⟨cb, 0, none⟩ (.slice a ln c)) = w8 at *
      haveI hIq : Nonempty (Of w8) := of_some _
      have hG0 := blk_of HX8.out
      first | (refine wp_region_stay w8 (by kernel_rfl) (by kernel_rfl) (by go_grown) ?_) | (refine wp_region_stay_seq w8 (by go_grown) ?_)
      repeat (go_big_quiet_step ((go_at_call 46; with_reducible refine stay_as (sealOf a ln c C1 _ (HV8.out.1.ext (In.h _)) HLN.out hln20 HV8.out.2.1 HCS.out) (congrArg (Value.int .u32) HS1.out))))
      refine wpQuiet_nil ?_
      intro w9 hb9
      clear hIq hG0
      have H9 := Lib.hid (blk_ext hb9 H8.out)
      have HX9 := Lib.hid (blk_ext hb9 HX8.out)
      have HV9 := Lib.hid (HV8.out.1.ext hb9)
      have HF9 := Lib.hid HV8.out.2
      have HD9 := Lib.hid (HD8.out.trans (Rim.of hb9))
      clear hb9 H8 HX8 HV8 HD8
      have hk9 := blk_cell HX9.out
      have hl9 := blk_lt HX9.out
      have hkc := blk_cell H9.out
      have hlc := blk_lt H9.out
      have hfc := blk_free H9.out
      by_cases hse : S1 = s
      · subst hse
        have hkp : Kept cb w9 (w9.setCell ⟨cb, 1, none⟩ (.int .i64 (q))) := (Kept.refl cb w9).setCell _ _
        have HPF := Lib.hid (show CacP (w9.setCell ⟨cb, 1, none⟩ (.int .i64 (q))) cb (q) C1 from ⟨a, c, by rw [HLN.out]; exact blk_set H9.out (by first | rfl | simp), by rw [HLN.out]; exact HF9.out.1, HF9.out.2.1, HV9.out.keep fun b cur hc _ => hkp.block b (fun e => by subst e; have h9 := H9.out.symm.trans hc; simp at h9), HF9.out.2.2⟩)
        have HRF := Lib.hid (HD9.out.trans (Rim.kept hkp))
        clear hkp
        go_wp2
        go_ret
        exact ⟨C1, HWC.out, HRF.out, .inl ⟨HS1.out, rfl, HPF.out⟩⟩
      · have hsb : (S1 == s) = false := by simpa using hse
        have hkp : Kept cb w9 (w9.setCell ⟨cb, 1, none⟩ (.int .i64 (-1))) := (Kept.refl cb w9).setCell _ _
        have HPF := Lib.hid (show CacP (w9.setCell ⟨cb, 1, none⟩ (.int .i64 (-1))) cb (-1) C1 from ⟨a, c, by rw [HLN.out]; exact blk_set H9.out (by first | rfl | simp), by rw [HLN.out]; exact HF9.out.1, HF9.out.2.1, HV9.out.keep fun b cur hc _ => hkp.block b (fun e => by subst e; have h9 := H9.out.symm.trans hc; simp at h9), HF9.out.2.2⟩)
        have HRF := Lib.hid (HD9.out.trans (Rim.kept hkp))
        clear hkp
        go_wp2
        go_ret
        exact ⟨C1, HWC.out, HRF.out, .inr ⟨by rw [HS1.out]; exact hse, rfl, HPF.out⟩⟩

end Go.Proofs.Ytkhcgopehmndgaa
