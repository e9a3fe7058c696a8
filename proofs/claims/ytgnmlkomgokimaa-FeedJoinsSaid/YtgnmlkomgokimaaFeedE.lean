/- Feeds: the document's Delta. -/
import Derived.Test.YtgnmlkomgokimaaFeedS
import Derived.Test.YtgnmlkomgokimaaBn
namespace Go.Proofs.Ytgnmlkomgokimaa
open Go.RowKit
set_option linter.unusedVariables false
set_option linter.unusedSimpArgs false

set_option maxRecDepth 100000 in
set_option maxHeartbeats 2000000 in
theorem ref16DeltaNo (wb xb : Nat) (n : Int) (most : Int) (es : List En) (ks : List Ky) (w : World) (h : RShP w wb most es) (h2 : RefAt w xb ks) (hs : Asc es) (hn : es.length ≤ 20) (hc : ∀ x ∈ es, CdS x.c) (hk1 : ks.length ≤ 1000) (hno : n < 0 ∨ (ks.length : Int) < n ∨ n < (ks.length : Int) - 16) :
    Calls Try.prog 23 #[.pointer (some ⟨wb, 0, none⟩), .pointer (some ⟨xb, 0, none⟩), .int .i64 n] w fun r w' => FdP true (ks.length : Int) (sm (sealB (es.map (·.c)))) (seenL (es.map (·.c))) w r w' := by
  have D0 : Below w.heap.size w (w.alloc (.cells #[.int .i64 0, .int .i64 0, .int .i64 0, .int .i64 0, .int .i64 0, .int .i64 0, .int .i64 0, .string ⟨#[]⟩, .string ⟨#[]⟩, .bool false, .int .u32 0, .slice none 0 0, .slice none 0 0] 38)) := (Below.refl _ _).alloc (Nat.le_refl _) _
  have HX := Lib.hid (blk_new w #[.int .i64 0, .int .i64 0, .int .i64 0, .int .i64 0, .int .i64 0, .int .i64 0, .int .i64 0, .string ⟨#[]⟩, .string ⟨#[]⟩, .bool false, .int .u32 0, .slice none 0 0, .slice none 0 0] 38)
  have HS := Lib.hid (h.ext D0)
  have HQ := Lib.hid (h2.ext D0)
  have HB0 := Lib.hid D0
  obtain ⟨xn, hxn⟩ : ∃ xn, ks.length = xn := ⟨_, rfl⟩
  have HXN := Lib.hid hxn
  have HNO := Lib.hid hno
  have HK1 := Lib.hid hk1
  rw [hxn]
  clear h h2 D0 hxn hno hk1
  go_enter Try.func23, Try.ntmps23
  go_upto_region 1 with (fail)
  obtain ⟨r, hr⟩ : ∃ r, w.heap.size = r := ⟨_, rfl⟩
  rw [hr] at HX
  try rw [hr]
  have HRr := Lib.hid (show w.heap.size ≤ r by omega)
  clear hr
  generalize (w.alloc (.cells #[.int .i64 0, .int .i64 0, .int .i64 0, .int .i64 0, .int .i64 0, .int .i64 0, .int .i64 0, .string ⟨#[]⟩, .string ⟨#[]⟩, .bool false, .int .u32 0, .slice none 0 0, .slice none 0 0] 38)) = w0 at *
  go_wp2_with fail
  refine (refSince_no xb ks n _ HQ.out HK1.out HNO.out).mono ?_
  rintro e w1 ⟨rfl, hw1⟩
  have HX1 := Lib.hid (show w1.heap[r]? = some (.cells #[.int .i64 0, .int .i64 0, .int .i64 0, .int .i64 0, .int .i64 0, .int .i64 0, .int .i64 0, .string ⟨#[]⟩, .string ⟨#[]⟩, .bool false, .int .u32 0, .slice none 0 0, .slice none 0 0] 38 (0, 0)) from by rw [← hw1]; exact HX.out)
  have HS1 := Lib.hid (show RShP w1 wb most es from by rw [← hw1]; exact HS.out)
  have HQ1 := Lib.hid (show RefAt w1 xb ks from by rw [← hw1]; exact HQ.out)
  have HB1 := Lib.hid (show Below w.heap.size w w1 from by rw [← hw1]; exact HB0.out)
  clear hw1 HX HS HB0 HQ
  go_wp2_with fail
  refine (refFull16 wb xb most es ks _ HS1.out HQ1.out hn hc).mono ?_
  rintro e w2 ⟨va, k, vc, rfl, hk, hvc, hvm, hvat, hb⟩
  rw [HXN.out]
  obtain ⟨S, hS⟩ : ∃ S, sm (sealB (es.map (·.c))) = S := ⟨_, rfl⟩
  have HSS := Lib.hid hS
  rw [hS]
  have HKL := Lib.hid hk
  have HX2 := Lib.hid (blk_ext hb HX1.out)
  have HB2 := Lib.hid (ext_trans HB1.out hb)
  have HV2 := Lib.hid hvat
  have hl2 := blk_lt HX2.out
  have D3 := Lib.hid (show Below w2.heap.size w2 (w2.alloc (.cells #[.int .i64 2, .int .i64 5, .int .i64 0, .int .i64 0, .int .i64 0, .int .i64 0, .int .i64 (xn : Int), .string ⟨#[]⟩, .string ⟨#[]⟩, .bool true, .int .u32 S, .slice va k vc, .slice none 0 0] 38)) from (Below.refl _ _).alloc (Nat.le_refl _) _)
  have HM3 := Lib.hid (blk_new w2 #[.int .i64 2, .int .i64 5, .int .i64 0, .int .i64 0, .int .i64 0, .int .i64 0, .int .i64 (xn : Int), .string ⟨#[]⟩, .string ⟨#[]⟩, .bool true, .int .u32 S, .slice va k vc, .slice none 0 0] 38)
  clear hb hvat hk hS HX1 HS1 HQ1 HB1
  go_upto_region 3 with (fail)
  obtain ⟨m, hm⟩ : ∃ m, w2.heap.size = m := ⟨_, rfl⟩
  have hrm : r ≠ m := by omega
  rw [hm] at HM3
  try rw [hm]
  have HX3 := Lib.hid (blk_ext D3.out HX2.out)
  have HB3 := Lib.hid (ext_trans HB2.out D3.out)
  have HV3 := Lib.hid (HV2.out.ext D3.out)
  clear HX2 HB2 HV2 D3 hm hl2
  generalize (w2.alloc (.cells #[.int .i64 2, .int .i64 5, .int .i64 0, .int .i64 0, .int .i64 0, .int .i64 0, .int .i64 (xn : Int), .string ⟨#[]⟩, .string ⟨#[]⟩, .bool true, .int .u32 S, .slice va k vc, .slice none 0 0] 38)) = w3 at *
  have hkm := blk_cell HM3.out
  have hlm := blk_lt HM3.out
  have hk2 := blk_cell HX3.out
  have hf2 := blk_free HX3.out
  have hl2 := blk_lt HX3.out
  go_wp2_with fail
  refine bodyPost_ret (v := .agg #[.int .i64 2, .int .i64 5, .int .i64 0, .int .i64 0, .int .i64 0, .int .i64 0, .int .i64 (xn : Int), .string ⟨#[]⟩, .string ⟨#[]⟩, .bool true, .int .u32 S, .slice va k vc, .slice none 0 0]) (by have hk2 := blk_cell (blk_fill13 (v0 := .int .i64 2) (v1 := .int .i64 5) (v2 := .int .i64 0) (v3 := .int .i64 0) (v4 := .int .i64 0) (v5 := .int .i64 0) (v6 := .int .i64 (xn : Int)) (v7 := .string ⟨#[]⟩) (v8 := .string ⟨#[]⟩) (v9 := .bool true) (v10 := .int .u32 S) (v11 := .slice va k vc) (v12 := .slice none 0 0) HX3.out rfl); simp [results, Try.results23, go_sem, hk2]) rfl ?_
  rw [HSS.out]
  exact ⟨va, k, vc, rfl, HKL.out, hvc, hvm, HV3.out.keep (fun b cur hc he => by
    obtain ⟨o, e⟩ := he
    exact (blk_over13 (fun e0 => by subst e0; have h9 := HX3.out.symm.trans hc; simp at h9) hc).trans hc.symm), below_fill13 HB3.out HRr.out⟩

set_option maxRecDepth 100000 in
set_option maxHeartbeats 4000000 in
theorem ref16Delta (wb xb : Nat) (n : Int) (most : Int) (es : List En) (ks : List Ky) (w : World) (h : RShP w wb most es) (h2 : RefAt w xb ks) (hs : Asc es) (hn : es.length ≤ 20) (hc : ∀ x ∈ es, CdS x.c) (hk1 : ks.length ≤ 1000) (q m0 : Nat) (bs kk : List Ky) (hq : q + m0 = ks.length) (hm16 : m0 ≤ 16) (he : n = (q : Int)) (hb : ks.drop q = bs) (hkp : kp bs bs.length = kk) (hk16 : kk.length ≤ 16) :
    Calls Try.prog 23 #[.pointer (some ⟨wb, 0, none⟩), .pointer (some ⟨xb, 0, none⟩), .int .i64 n] w fun r w' => FdP false (ks.length : Int) (sm (sealB (es.map (·.c)))) (kk.map (cur es)) w r w' := by
  have D0 : Below w.heap.size w (w.alloc (.cells #[.int .i64 0, .int .i64 0, .int .i64 0, .int .i64 0, .int .i64 0, .int .i64 0, .int .i64 0, .string ⟨#[]⟩, .string ⟨#[]⟩, .bool false, .int .u32 0, .slice none 0 0, .slice none 0 0] 38)) := (Below.refl _ _).alloc (Nat.le_refl _) _
  have HX := Lib.hid (blk_new w #[.int .i64 0, .int .i64 0, .int .i64 0, .int .i64 0, .int .i64 0, .int .i64 0, .int .i64 0, .string ⟨#[]⟩, .string ⟨#[]⟩, .bool false, .int .u32 0, .slice none 0 0, .slice none 0 0] 38)
  obtain ⟨i0, hi, hz0, hz1, hz2⟩ := info_parts' info_card
  obtain ⟨nn, hnn⟩ : ∃ nn, n = nn := ⟨_, rfl⟩
  have HNN := Lib.hid hnn
  rw [hnn]
  obtain ⟨n, hn0⟩ : ∃ n, kk.length = n := ⟨_, rfl⟩
  have HKL := Lib.hid hn0
  have hn16 : n ≤ 16 := by omega
  have HT := Lib.hid (And.intro hq (And.intro he (And.intro hk1 (And.intro hm16 (And.intro hb hkp)))))
  obtain ⟨xn, hxn⟩ : ∃ xn, ks.length = xn := ⟨_, rfl⟩
  have HXN := Lib.hid hxn
  rw [hxn]
  have HS := Lib.hid (h.ext D0)
  have HQ := Lib.hid (h2.ext D0)
  have HB0 := Lib.hid D0
  have HAS := Lib.hid hs
  clear h h2 D0 hs hq he hk1 hm16 hb hkp hnn hk16 hn0 hxn
  go_enter Try.func23, Try.ntmps23
  go_upto_region 1 with (fail)
  obtain ⟨r, hr⟩ : ∃ r, w.heap.size = r := ⟨_, rfl⟩
  rw [hr] at HX
  try rw [hr]
  have HRr := Lib.hid (show w.heap.size ≤ r by omega)
  clear hr
  generalize (w.alloc (.cells #[.int .i64 0, .int .i64 0, .int .i64 0, .int .i64 0, .int .i64 0, .int .i64 0, .int .i64 0, .string ⟨#[]⟩, .string ⟨#[]⟩, .bool false, .int .u32 0, .slice none 0 0, .slice none 0 0] 38)) = w0 at *
  go_wp2_with fail
  refine (refSince_at xb q m0 nn ks bs _ HQ.out HT.out.2.2.1 HT.out.1 HT.out.2.2.2.1 (by rw [← HNN.out]; exact HT.out.2.1) HT.out.2.2.2.2.1).mono ?_
  rintro e w1 ht
  obtain ⟨ka, kcap, rfl, hka, hb⟩ := Told.read ht HT.out.2.2.2.2.2
  rw [HKL.out]
  have HX1 := Lib.hid (blk_ext hb HX.out)
  have HS1 := Lib.hid (HS.out.ext hb)
  have HQ1 := Lib.hid (HQ.out.ext hb)
  have HK1 := Lib.hid hka
  have HB1 := Lib.hid (ext_trans HB0.out hb)
  clear hb hka ht HX HS HQ HB0
  go_wp2_with fail
  refine (refFull16 wb xb most es ks _ HS1.out HQ1.out hn hc).mono ?_
  rintro e w4 ⟨va, k, vc, rfl, hk, hvc, hvm, hvat, hb⟩
  rw [HXN.out]
  obtain ⟨S, hS⟩ : ∃ S, sm (sealB (es.map (·.c))) = S := ⟨_, rfl⟩
  have HSS := Lib.hid hS
  rw [hS]
  have HX5 := Lib.hid (blk_ext hb HX1.out)
  have HW5 := Lib.hid (HS1.out.ext hb)
  have HKA := Lib.hid (HK1.out.ext hb)
  have HB5 := Lib.hid (ext_trans HB1.out hb)
  have hl5 := blk_lt HX5.out
  have D6 := Lib.hid (show Below w4.heap.size w4 (w4.alloc (.cells #[.int .i64 2, .int .i64 5, .int .i64 0, .int .i64 0, .int .i64 0, .int .i64 0, .int .i64 (xn : Int), .string ⟨#[]⟩, .string ⟨#[]⟩, .bool true, .int .u32 S, .slice va k vc, .slice none 0 0] 38)) from (Below.refl _ _).alloc (Nat.le_refl _) _)
  have HM6 := Lib.hid (blk_new w4 #[.int .i64 2, .int .i64 5, .int .i64 0, .int .i64 0, .int .i64 0, .int .i64 0, .int .i64 (xn : Int), .string ⟨#[]⟩, .string ⟨#[]⟩, .bool true, .int .u32 S, .slice va k vc, .slice none 0 0] 38)
  clear hb hS hk hvc hvm hvat HX1 HS1 HQ1 HB1 HK1
  obtain ⟨w5, hw5⟩ : ∃ w5, w4 = w5 := ⟨_, rfl⟩
  rw [hw5] at HX5 HW5 HKA HB5 hl5
  go_upto_region 5 with (fail)
  obtain ⟨m, hm⟩ : ∃ m, w4.heap.size = m := ⟨_, rfl⟩
  have HM5 := Lib.hid (show w5.heap.size ≤ m from by rw [← hw5, hm]; exact Nat.le_refl _)
  have hrm : r ≠ m := by have := HM5.out; omega
  rw [hw5] at D6
  rw [hw5] at hm HM6
  rw [hm] at HM6
  try rw [hw5]
  try rw [hm]
  clear hm hl5 hw5
  generalize (w5.alloc (.cells #[.int .i64 2, .int .i64 5, .int .i64 0, .int .i64 0, .int .i64 0, .int .i64 0, .int .i64 (xn : Int), .string ⟨#[]⟩, .string ⟨#[]⟩, .bool true, .int .u32 S, .slice va k vc, .slice none 0 0] 38)) = w6 at *
  have hkm := blk_cell HM6.out
  have hlm := blk_lt HM6.out
  have hfm := blk_free HM6.out
  go_upto_region 6 with (fail)
  have HM7 : ((w6.setCell ⟨m, 9, none⟩ (.bool false)).setCell ⟨m, 11, none⟩ (.slice none 0 0)).heap[m]? = some (.cells #[.int .i64 2, .int .i64 5, .int .i64 0, .int .i64 0, .int .i64 0, .int .i64 0, .int .i64 (xn : Int), .string ⟨#[]⟩, .string ⟨#[]⟩, .bool false, .int .u32 S, .slice none 0 0, .slice none 0 0] 38 (0, 0)) := blk_set (blk_set HM6.out (by first | rfl | simp)) (by first | rfl | simp)
  have HM8 := Lib.hid HM7
  have HB7 := Lib.hid (show Below w5.heap.size w5 ((w6.setCell ⟨m, 9, none⟩ (.bool false)).setCell ⟨m, 11, none⟩ (.slice none 0 0)) from (D6.out.setCell HM5.out _).setCell HM5.out _)
  clear HM7 HM6 D6 hkm hlm hfm
  generalize ((w6.setCell ⟨m, 9, none⟩ (.bool false)).setCell ⟨m, 11, none⟩ (.slice none 0 0)) = w7 at *
  go_wp2_with fail
  go_loopw [30] (fun j wr => ∃ (J : Nat) (ga : Option Addr) (gc : Nat), J ≤ n ∧ j = .int .i64 (J : Int) ∧ Below w5.heap.size w5 wr ∧ OwnC (m + 1) wr (.slice ga J gc) ((kk.take J).map (cur es)) ∧ wr.heap[m]? = some (.cells #[.int .i64 2, .int .i64 5, .int .i64 0, .int .i64 0, .int .i64 0, .int .i64 0, .int .i64 (xn : Int), .string ⟨#[]⟩, .string ⟨#[]⟩, .bool false, .int .u32 S, .slice ga J gc, .slice none 0 0] 38 (0, 0))) (fun j _ => n - (intOf j).toNat)
  case atStart => exact ⟨0, none, 0, by omega, rfl, HB7.out, OwnR.nil _ _, HM8.out⟩
  case round =>
    obtain ⟨wl, rfl⟩ : ∃ y : World, y = wr := ⟨_, rfl⟩
    obtain ⟨J, ga, gc, hJ, rfl, hbl, hol, hml⟩ := hrel
    have hlen : ((kk.take J).map (cur es)).length = J := by rw [List.length_map, List.length_take, HKL.out]; omega
    obtain ⟨L, hL⟩ : ∃ L, (kk.take J).map (cur es) = L := ⟨_, rfl⟩
    rw [hL] at hol hlen
    have HLL := Lib.hid hL
    have HLEN := Lib.hid hlen
    have HBl := Lib.hid hbl
    have HOl := Lib.hid hol
    have HMl := Lib.hid hml
    clear hL hlen hbl hol hml HM8 HB7
    by_cases hlt : J < n
    · skip
      obtain ⟨k, hkk⟩ : ∃ k, kk[J]? = some k := ⟨_, List.getElem?_eq_getElem (by have := HKL.out; omega)⟩
      obtain ⟨b, o, rfl⟩ : ∃ b o, ka = some ⟨b, o, none⟩ := by
        rcases HKA.out with h | ⟨b, o, e, _⟩
        · rw [h] at hkk; simp at hkk
        · exact ⟨b, o, e⟩
      have hJn : (J : Int) < (n : Int) := by omega
      have HST := Lib.hid (show (kk.take (J + 1)).map (cur es) = L ++ [cur es k] from by rw [List.take_add_one, hkk, List.map_append, HLL.out]; rfl)
      rcases (HKA.out.ext HBl.out) with h | ⟨b', o', e, hc⟩
      · rw [h] at hkk; simp at hkk
      obtain ⟨rfl, rfl⟩ : b' = b ∧ o' = o := by simp at e; exact ⟨e.1.symm, e.2.symm⟩
      have y0 := (hc J k hkk).1
      have y1 := (hc J k hkk).2
      have D6 : Below wl.heap.size wl (wl.alloc (.cells #[.string k.1, .string k.2] 33)) := (Below.refl _ _).alloc (Nat.le_refl _) _
      have HK5 := Lib.hid (blk_new wl #[.string k.1, .string k.2] 33)
      have HM5' := Lib.hid (blk_ext D6 HMl.out)
      have HO5' := Lib.hid (OwnR.ext HOl.out D6)
      have HB5' := Lib.hid (ext_trans HBl.out D6)
      have hml := blk_lt HMl.out
      clear hc hkk e D6 HMl HOl HBl
      go_upto_region 9 with (fail)
      obtain ⟨kb, hkb⟩ : ∃ kb, wl.heap.size = kb := ⟨_, rfl⟩
      rw [hkb] at HK5 hml
      try rw [hkb]
      have hkm : m ≠ kb := by omega
      clear hkb
      generalize (wl.alloc (.cells #[.string k.1, .string k.2] 33)) = w6 at *
      have hk6 := blk_cell HK5.out
      have hl6 := blk_lt HK5.out
      clear y0 y1
      cases hin : isIn k es
      · skip
        go_wp2_with fail
        refine (rshGetNo wb most es k _ (HW5.out.ext HB5'.out) HAS.out (by omega) hin).mono ?_
        rintro e x1 ⟨rfl, hb⟩
        rw [cur_no hin] at HST
        have HK6 := Lib.hid (blk_ext hb HK5.out)
        have HM6 := Lib.hid (blk_ext hb HM5'.out)
        have HO6 := Lib.hid (OwnR.ext HO5'.out hb)
        have HB6 := Lib.hid (ext_trans HB5'.out hb)
        clear hk6 hl6 hb HK5 HM5' HO5' HB5'
        obtain ⟨eb, heb⟩ : ∃ eb, x1.heap.size = eb := ⟨_, rfl⟩
        have HE7 := Lib.hid (blk_new x1 #[.string ⟨#[]⟩, .string ⟨#[]⟩, .int .i64 0, .int .i64 0, .int .i64 0, .int .i64 0, .int .i64 0, .int .i64 0, .bool false, .int .i64 0] 73)
        have D7 := Lib.hid (show Below x1.heap.size x1 (x1.alloc (.cells #[.string ⟨#[]⟩, .string ⟨#[]⟩, .int .i64 0, .int .i64 0, .int .i64 0, .int .i64 0, .int .i64 0, .int .i64 0, .bool false, .int .i64 0] 73)) from (Below.refl _ _).alloc (Nat.le_refl _) _)
        have HEM := Lib.hid (show w5.heap.size ≤ eb ∧ m < eb from by have := blk_lt HM6.out; have := HB6.out.size; exact ⟨by omega, by omega⟩)
        have HE8 := Lib.hid (show (x1.alloc (.cells #[.string ⟨#[]⟩, .string ⟨#[]⟩, .int .i64 0, .int .i64 0, .int .i64 0, .int .i64 0, .int .i64 0, .int .i64 0, .bool false, .int .i64 0] 73)).heap[eb]? = some (.cells #[.string ⟨#[]⟩, .string ⟨#[]⟩, .int .i64 0, .int .i64 0, .int .i64 0, .int .i64 0, .int .i64 0, .int .i64 0, .bool false, .int .i64 0] 73 (0, 0)) from by rw [← heb]; exact HE7.out)
        have HM8 := Lib.hid (blk_ext D7.out HM6.out)
        have HO8 := Lib.hid (OwnR.ext HO6.out D7.out)
        have HB8 := Lib.hid (ext_trans HB6.out D7.out)
        have HK8 := Lib.hid (blk_ext D7.out HK6.out)
        clear HE7 HM6 HO6 HB6 HK6 D7
        go_upto_region 10 with (fail)
        try rw [heb]
        clear heb
        generalize (x1.alloc (.cells #[.string ⟨#[]⟩, .string ⟨#[]⟩, .int .i64 0, .int .i64 0, .int .i64 0, .int .i64 0, .int .i64 0, .int .i64 0, .bool false, .int .i64 0] 73)) = w7 at *
        have hk7 := blk_cell HE8.out
        have hl7 := blk_lt HE8.out
        have hf7 := blk_free HE8.out
        have hkk7 := blk_cell HK8.out
        have hkl7 := blk_lt HK8.out
        have hke : kb ≠ eb := by rintro rfl; have h9 := HK8.out.symm.trans HE8.out; simp at h9
        go_upto_region 12 with (fail)
        have HE9 : (((((((((w7.setCell ⟨eb, 0, none⟩ (.string k.1)).setCell ⟨eb, 1, none⟩ (.string k.2)).setCell ⟨eb, 2, none⟩ (.int .i64 2)).setCell ⟨eb, 3, none⟩ (.int .i64 0)).setCell ⟨eb, 4, none⟩ (.int .i64 1)).setCell ⟨eb, 5, none⟩ (.int .i64 0)).setCell ⟨eb, 6, none⟩ (.int .i64 0)).setCell ⟨eb, 7, none⟩ (.int .i64 0)).setCell ⟨eb, 8, none⟩ (.bool true)).heap[eb]? = some (.cells #[.string k.1, .string k.2, .int .i64 2, .int .i64 0, .int .i64 1, .int .i64 0, .int .i64 0, .int .i64 0, .bool true, .int .i64 0] 73 (0, 0)) := (blk_set (blk_set (blk_set (blk_set (blk_set (blk_set (blk_set (blk_set (blk_set HE8.out (by first | rfl | simp)) (by first | rfl | simp)) (by first | rfl | simp)) (by first | rfl | simp)) (by first | rfl | simp)) (by first | rfl | simp)) (by first | rfl | simp)) (by first | rfl | simp)) (by first | rfl | simp))
        have hkp : Kept eb w7 (((((((((w7.setCell ⟨eb, 0, none⟩ (.string k.1)).setCell ⟨eb, 1, none⟩ (.string k.2)).setCell ⟨eb, 2, none⟩ (.int .i64 2)).setCell ⟨eb, 3, none⟩ (.int .i64 0)).setCell ⟨eb, 4, none⟩ (.int .i64 1)).setCell ⟨eb, 5, none⟩ (.int .i64 0)).setCell ⟨eb, 6, none⟩ (.int .i64 0)).setCell ⟨eb, 7, none⟩ (.int .i64 0)).setCell ⟨eb, 8, none⟩ (.bool true)) := ((((((((((Kept.refl eb w7).setCell _ _).setCell _ _).setCell _ _).setCell _ _).setCell _ _).setCell _ _).setCell _ _).setCell _ _).setCell _ _)
        have HM9 := Lib.hid ((hkp.block m (by have := HEM.out; omega)).trans HM8.out)
        have HO9 := Lib.hid (show OwnC (m + 1) (((((((((w7.setCell ⟨eb, 0, none⟩ (.string k.1)).setCell ⟨eb, 1, none⟩ (.string k.2)).setCell ⟨eb, 2, none⟩ (.int .i64 2)).setCell ⟨eb, 3, none⟩ (.int .i64 0)).setCell ⟨eb, 4, none⟩ (.int .i64 1)).setCell ⟨eb, 5, none⟩ (.int .i64 0)).setCell ⟨eb, 6, none⟩ (.int .i64 0)).setCell ⟨eb, 7, none⟩ (.int .i64 0)).setCell ⟨eb, 8, none⟩ (.bool true)) (.slice ga J gc) L from ownsRow_keep HO8.out hkp (own_ne HO8.out HE8.out (by decide)))
        have HB9 := Lib.hid (show Below w5.heap.size w5 (((((((((w7.setCell ⟨eb, 0, none⟩ (.string k.1)).setCell ⟨eb, 1, none⟩ (.string k.2)).setCell ⟨eb, 2, none⟩ (.int .i64 2)).setCell ⟨eb, 3, none⟩ (.int .i64 0)).setCell ⟨eb, 4, none⟩ (.int .i64 1)).setCell ⟨eb, 5, none⟩ (.int .i64 0)).setCell ⟨eb, 6, none⟩ (.int .i64 0)).setCell ⟨eb, 7, none⟩ (.int .i64 0)).setCell ⟨eb, 8, none⟩ (.bool true)) from (((((((((HB8.out.setCell HEM.out.1 _).setCell HEM.out.1 _).setCell HEM.out.1 _).setCell HEM.out.1 _).setCell HEM.out.1 _).setCell HEM.out.1 _).setCell HEM.out.1 _).setCell HEM.out.1 _).setCell HEM.out.1 _))
        have HE10 := Lib.hid HE9
        clear HE9 hkp HM8 HO8 HB8 HE8 HK8 hk7 hl7 hf7 hkk7 hkl7
        have HM8 := HM9
        have HO8 := HO9
        have HB8 := HB9
        have HE8 := HE10
        clear HM9 HO9 HB9 HE10
        generalize (((((((((w7.setCell ⟨eb, 0, none⟩ (.string k.1)).setCell ⟨eb, 1, none⟩ (.string k.2)).setCell ⟨eb, 2, none⟩ (.int .i64 2)).setCell ⟨eb, 3, none⟩ (.int .i64 0)).setCell ⟨eb, 4, none⟩ (.int .i64 1)).setCell ⟨eb, 5, none⟩ (.int .i64 0)).setCell ⟨eb, 6, none⟩ (.int .i64 0)).setCell ⟨eb, 7, none⟩ (.int .i64 0)).setCell ⟨eb, 8, none⟩ (.bool true)) = w8 at *
        have hk8 := blk_cell HE8.out
        have hl8 := blk_lt HE8.out
        have hm8 := blk_cell HM8.out
        have hlm8 := blk_lt HM8.out
        have E9 : Below w8.heap.size w8 (w8.alloc (.cells #[.string k.1, .string k.2, .int .i64 2, .int .i64 0, .int .i64 1, .int .i64 0, .int .i64 0, .int .i64 0, .bool true] 43)) := (Below.refl _ _).alloc (Nat.le_refl _) _
        have HV9 := Lib.hid (blk_new w8 #[.string k.1, .string k.2, .int .i64 2, .int .i64 0, .int .i64 1, .int .i64 0, .int .i64 0, .int .i64 0, .bool true] 43)
        have HM9 := Lib.hid (blk_ext E9 HM8.out)
        have HO9 := Lib.hid (show (w8.alloc (.cells #[.string k.1, .string k.2, .int .i64 2, .int .i64 0, .int .i64 1, .int .i64 0, .int .i64 0, .int .i64 0, .bool true] 43)).ownsRow (m + 1) 43 9 (.slice ga J gc) J (flat cc L) from by
          have := OwnR.ext HO8.out E9
          unfold OwnR at this
          rwa [HLEN.out] at this)
        have HB9 := Lib.hid (ext_trans HB8.out E9)
        clear E9 HO8 HB8
        go_wp2_with (at_builtin; refine wpList_append_own _ rfl _ _ 35 rfl (m + 1) 43 i0 Cd.zero.v 9 88 Try.underlying35 hi hz0 hz1 hz2 rfl (by decide) (.slice ga J gc) J (flat cc L) rfl HO9.out ⟨w8.heap.size, 0, none⟩ 1 1 (cc (⟨k.1, k.2, 2, 0, 1, 0, 0, 0, true⟩ : Cd)) rfl rfl ?c1 ?c2 ?c3 ?c4 ?c5 ?_)
        case c1 => intro j u hj; rw [add_off, Nat.zero_add, blk_cell HV9.out]; simpa [cc] using hj
        case c2 => exact cc_one (⟨k.1, k.2, 2, 0, 1, 0, 0, 0, true⟩ : Cd)
        case c3 => unfold maxLen; omega
        case c4 => omega
        case c5 => have := blk_lt HM9.out; omega
        intro v5 x5 ho5 hg5 _
        have hm9 := blk_lt HM9.out
        have hz9 := HB9.out.size
        have HB5' := Lib.hid (show Below w5.heap.size w5 x5 from HB9.out.grown hg5 hz9 (fun q hq => by have := own_ge HO9.out hq; have := HM5.out; omega))
        have HO5 := Lib.hid (show OwnC (m + 1) x5 v5 (L ++ [(⟨k.1, k.2, 2, 0, 1, 0, 0, 0, true⟩ : Cd)]) from by unfold OwnC OwnR; rw [flat_snoc, List.length_append, HLEN.out]; exact ho5)
        have HMx := Lib.hid ((hg5.block m hm9 (fun e => by have := own_ge HO9.out e.symm; omega)).trans HM9.out)
        obtain ⟨a5, c5, rfl, -, hcm5, -⟩ := OwnR.form HO5.out
        have hl5 : (L ++ [(⟨k.1, k.2, 2, 0, 1, 0, 0, 0, true⟩ : Cd)]).length = J + 1 := by rw [List.length_append, HLEN.out]; rfl
        rw [hl5] at HO5 ⊢
        clear ho5 hg5 HO9 HV9 HB9 HM9 HM8 HE8 hm9 hz9 hl5 hk8 hl8 hm8 hlm8
        have hm5 := blk_lt HMx.out
        have hf5 := blk_free HMx.out
        have hk5 := blk_cell HMx.out
        go_upto_region 13 with (fail)
        have HM10 : (x5.setCell ⟨m, 11, none⟩ (.slice a5 (J + 1) c5)).heap[m]? = some (.cells #[.int .i64 2, .int .i64 5, .int .i64 0, .int .i64 0, .int .i64 0, .int .i64 0, .int .i64 (xn : Int), .string ⟨#[]⟩, .string ⟨#[]⟩, .bool false, .int .u32 S, .slice a5 (J + 1) c5, .slice none 0 0] 38 (0, 0)) := blk_set HMx.out (by first | rfl | simp)
        have HB10 := Lib.hid (show Below w5.heap.size w5 (x5.setCell ⟨m, 11, none⟩ (.slice a5 (J + 1) c5)) from HB5'.out.setCell HM5.out _)
        have HO10 := Lib.hid (show OwnC (m + 1) (x5.setCell ⟨m, 11, none⟩ (.slice a5 (J + 1) c5)) (.slice a5 (J + 1) c5) (L ++ [(⟨k.1, k.2, 2, 0, 1, 0, 0, 0, true⟩ : Cd)]) from ownsRow_kept HO5.out ((Kept.refl m x5).setCell _ _) (by omega))
        have HM11 := Lib.hid HM10
        clear HM10 hm5 hf5 hk5 HMx HO5 HB5'
        generalize (x5.setCell ⟨m, 11, none⟩ (.slice a5 (J + 1) c5)) = x6 at *
        go_wp2
        go_roundw
        case rel => exact ⟨J + 1, a5, c5, by omega, by go_num, HB10.out, by rw [HST.out]; exact HO10.out, HM11.out⟩
        case measure => simp [intOf]; omega
      · skip
        obtain ⟨x, hx, -, -⟩ := isIn_at hin
        go_wp2_with fail
        refine (rshGetYes wb most es k _ (HW5.out.ext HB5'.out) x HAS.out (by omega) hx hin).mono ?_
        rintro e x1 ⟨rfl, hb⟩
        rw [cur_yes hin hx] at HST
        have HM6 := Lib.hid (blk_ext hb HM5'.out)
        have HO6 := Lib.hid (OwnR.ext HO5'.out hb)
        have HB6 := Lib.hid (ext_trans HB5'.out hb)
        clear hk6 hl6 hb HK5 HM5' HO5' HB5' hx
        obtain ⟨eb, heb⟩ : ∃ eb, x1.heap.size = eb := ⟨_, rfl⟩
        have HE7 := Lib.hid (blk_new x1 #[.string x.c.a, .string x.c.i, .int .i64 x.c.s, .int .i64 x.c.o, .int .i64 x.c.l, .int .i64 x.c.t, .int .i64 x.c.k, .int .i64 x.c.n, .bool x.c.g, .int .i64 x.seen] 73)
        have D7 := Lib.hid (show Below x1.heap.size x1 (x1.alloc (.cells #[.string x.c.a, .string x.c.i, .int .i64 x.c.s, .int .i64 x.c.o, .int .i64 x.c.l, .int .i64 x.c.t, .int .i64 x.c.k, .int .i64 x.c.n, .bool x.c.g, .int .i64 x.seen] 73)) from (Below.refl _ _).alloc (Nat.le_refl _) _)
        have HEM := Lib.hid (show w5.heap.size ≤ eb ∧ m < eb from by have := blk_lt HM6.out; have := HB6.out.size; exact ⟨by omega, by omega⟩)
        have HE8 := Lib.hid (show (x1.alloc (.cells #[.string x.c.a, .string x.c.i, .int .i64 x.c.s, .int .i64 x.c.o, .int .i64 x.c.l, .int .i64 x.c.t, .int .i64 x.c.k, .int .i64 x.c.n, .bool x.c.g, .int .i64 x.seen] 73)).heap[eb]? = some (.cells #[.string x.c.a, .string x.c.i, .int .i64 x.c.s, .int .i64 x.c.o, .int .i64 x.c.l, .int .i64 x.c.t, .int .i64 x.c.k, .int .i64 x.c.n, .bool x.c.g, .int .i64 x.seen] 73 (0, 0)) from by rw [← heb]; exact HE7.out)
        have HM8 := Lib.hid (blk_ext D7.out HM6.out)
        have HO8 := Lib.hid (OwnR.ext HO6.out D7.out)
        have HB8 := Lib.hid (ext_trans HB6.out D7.out)
        clear HE7 HM6 HO6 HB6 D7
        go_upto_region 10 with (fail)
        try rw [heb]
        clear heb
        generalize (x1.alloc (.cells #[.string x.c.a, .string x.c.i, .int .i64 x.c.s, .int .i64 x.c.o, .int .i64 x.c.l, .int .i64 x.c.t, .int .i64 x.c.k, .int .i64 x.c.n, .bool x.c.g, .int .i64 x.seen] 73)) = w8 at *
        have hk8 := blk_cell HE8.out
        have hl8 := blk_lt HE8.out
        have hm8 := blk_cell HM8.out
        have hlm8 := blk_lt HM8.out
        have E9 : Below w8.heap.size w8 (w8.alloc (.cells #[.string x.c.a, .string x.c.i, .int .i64 x.c.s, .int .i64 x.c.o, .int .i64 x.c.l, .int .i64 x.c.t, .int .i64 x.c.k, .int .i64 x.c.n, .bool x.c.g] 43)) := (Below.refl _ _).alloc (Nat.le_refl _) _
        have HV9 := Lib.hid (blk_new w8 #[.string x.c.a, .string x.c.i, .int .i64 x.c.s, .int .i64 x.c.o, .int .i64 x.c.l, .int .i64 x.c.t, .int .i64 x.c.k, .int .i64 x.c.n, .bool x.c.g] 43)
        have HM9 := Lib.hid (blk_ext E9 HM8.out)
        have HO9 := Lib.hid (show (w8.alloc (.cells #[.string x.c.a, .string x.c.i, .int .i64 x.c.s, .int .i64 x.c.o, .int .i64 x.c.l, .int .i64 x.c.t, .int .i64 x.c.k, .int .i64 x.c.n, .bool x.c.g] 43)).ownsRow (m + 1) 43 9 (.slice ga J gc) J (flat cc L) from by
          have := OwnR.ext HO8.out E9
          unfold OwnR at this
          rwa [HLEN.out] at this)
        have HB9 := Lib.hid (ext_trans HB8.out E9)
        clear E9 HO8 HB8
        go_wp2_with (at_builtin; refine wpList_append_own _ rfl _ _ 35 rfl (m + 1) 43 i0 Cd.zero.v 9 88 Try.underlying35 hi hz0 hz1 hz2 rfl (by decide) (.slice ga J gc) J (flat cc L) rfl HO9.out ⟨w8.heap.size, 0, none⟩ 1 1 (cc x.c) rfl rfl ?c1 ?c2 ?c3 ?c4 ?c5 ?_)
        case c1 => intro j u hj; rw [add_off, Nat.zero_add, blk_cell HV9.out]; simpa [cc] using hj
        case c2 => exact cc_one x.c
        case c3 => unfold maxLen; omega
        case c4 => omega
        case c5 => have := blk_lt HM9.out; omega
        intro v5 x5 ho5 hg5 _
        have hm9 := blk_lt HM9.out
        have hz9 := HB9.out.size
        have HB5' := Lib.hid (show Below w5.heap.size w5 x5 from HB9.out.grown hg5 hz9 (fun q hq => by have := own_ge HO9.out hq; have := HM5.out; omega))
        have HO5 := Lib.hid (show OwnC (m + 1) x5 v5 (L ++ [x.c]) from by unfold OwnC OwnR; rw [flat_snoc, List.length_append, HLEN.out]; exact ho5)
        have HMx := Lib.hid ((hg5.block m hm9 (fun e => by have := own_ge HO9.out e.symm; omega)).trans HM9.out)
        obtain ⟨a5, c5, rfl, -, hcm5, -⟩ := OwnR.form HO5.out
        have hl5 : (L ++ [x.c]).length = J + 1 := by rw [List.length_append, HLEN.out]; rfl
        rw [hl5] at HO5 ⊢
        clear ho5 hg5 HO9 HV9 HB9 HM9 HM8 HE8 hm9 hz9 hl5 hk8 hl8 hm8 hlm8
        have hm5 := blk_lt HMx.out
        have hf5 := blk_free HMx.out
        have hk5 := blk_cell HMx.out
        go_upto_region 13 with (fail)
        have HM10 : (x5.setCell ⟨m, 11, none⟩ (.slice a5 (J + 1) c5)).heap[m]? = some (.cells #[.int .i64 2, .int .i64 5, .int .i64 0, .int .i64 0, .int .i64 0, .int .i64 0, .int .i64 (xn : Int), .string ⟨#[]⟩, .string ⟨#[]⟩, .bool false, .int .u32 S, .slice a5 (J + 1) c5, .slice none 0 0] 38 (0, 0)) := blk_set HMx.out (by first | rfl | simp)
        have HB10 := Lib.hid (show Below w5.heap.size w5 (x5.setCell ⟨m, 11, none⟩ (.slice a5 (J + 1) c5)) from HB5'.out.setCell HM5.out _)
        have HO10 := Lib.hid (show OwnC (m + 1) (x5.setCell ⟨m, 11, none⟩ (.slice a5 (J + 1) c5)) (.slice a5 (J + 1) c5) (L ++ [x.c]) from ownsRow_kept HO5.out ((Kept.refl m x5).setCell _ _) (by omega))
        have HM11 := Lib.hid HM10
        clear HM10 hm5 hf5 hk5 HMx HO5 HB5'
        generalize (x5.setCell ⟨m, 11, none⟩ (.slice a5 (J + 1) c5)) = x6 at *
        go_wp2
        go_roundw
        case rel => exact ⟨J + 1, a5, c5, by omega, by go_num, HB10.out, by rw [HST.out]; exact HO10.out, HM11.out⟩
        case measure => simp [intOf]; omega
    · obtain rfl : J = n := by omega
      have hlt2 : decide ((J : Int) < (J : Int)) = false := by simp
      have HXl := Lib.hid (blk_ext HBl.out HX5.out)
      have HB9 := Lib.hid (ext_trans HB5.out HBl.out)
      have hkM := blk_cell HMl.out
      have hlM := blk_lt HMl.out
      have hkX := blk_cell HXl.out
      have hfX := blk_free HXl.out
      have hlX := blk_lt HXl.out
      have hgr : ∀ b o, ga = some ⟨b, o, none⟩ → b ≠ r := fun b o e0 e1 => by
        subst e0 e1
        have h8 := own_ne (v := .slice (some ⟨b, o, none⟩) J gc) HOl.out HXl.out (by decide)
        exact h8 rfl
      go_wp2_with fail
      refine bodyPost_ret (v := .agg #[.int .i64 2, .int .i64 5, .int .i64 0, .int .i64 0, .int .i64 0, .int .i64 0, .int .i64 (xn : Int), .string ⟨#[]⟩, .string ⟨#[]⟩, .bool false, .int .u32 S, .slice ga J gc, .slice none 0 0]) (by have hk2 := blk_cell (blk_fill13 (v0 := .int .i64 2) (v1 := .int .i64 5) (v2 := .int .i64 0) (v3 := .int .i64 0) (v4 := .int .i64 0) (v5 := .int .i64 0) (v6 := .int .i64 (xn : Int)) (v7 := .string ⟨#[]⟩) (v8 := .string ⟨#[]⟩) (v9 := .bool false) (v10 := .int .u32 S) (v11 := .slice ga J gc) (v12 := .slice none 0 0) HXl.out rfl); simp [results, Try.results23, go_sem, hk2]) rfl ?_
      rw [HSS.out]
      obtain ⟨a', c', e1, h1, h2, h3, -, -⟩ := HOl.out.read
      simp only [Value.slice.injEq] at e1
      obtain ⟨rfl, -, rfl⟩ := e1
      have hLK : kk.map (cur es) = L := by rw [← HLL.out, List.take_of_length_le (by rw [HKL.out]; exact Nat.le_refl _)]
      rw [hLK]
      rw [HLEN.out] at h1
      exact ⟨ga, J, gc, rfl, HLEN.out, h1, h2, h3.keep (fun b cur hc he => by
        obtain ⟨o, e⟩ := he
        exact (blk_over13 (hgr b o e) hc).trans hc.symm), below_fill13 HB9.out HRr.out⟩

end Go.Proofs.Ytgnmlkomgokimaa
