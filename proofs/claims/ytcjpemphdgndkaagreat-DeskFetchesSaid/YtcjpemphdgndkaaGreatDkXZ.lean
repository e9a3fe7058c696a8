/- Deltas of a desk. -/
import Derived.Test.YtcjpemphdgndkaaGreatDkWZ
namespace Go.Proofs.YtcjpemphdgndkaaGreat
open Go.RowKit
set_option linter.unusedVariables false
set_option linter.unusedSimpArgs false

set_option maxRecDepth 100000 in
set_option maxHeartbeats 2000000 in
theorem feedDeltaNoD (Dk0 : DkR) (Dq : DkQ) (sb rb q : Nat) (n : Int) (most : Int) (es : List En) (ks : List Ky) (w : World) (h : DkS Dk0 w sb most es) (h2 : RecAtD Dq w rb q ks) (hs : Asc es) (hn : es.length ≤ 100) (hc : ∀ x ∈ es, CdS x.c) (hq : q ≤ 1000000) (hno : n < 0 ∨ (q : Int) < n ∨ n < (q : Int) - 16) :
    Calls Tryz.prog 87 #[.pointer (some ⟨sb, 4, none⟩), .pointer (some ⟨rb, 9, none⟩), .int .i64 n] w fun r w' => FdP true (q : Int) (sm (sealB (es.map (·.c)))) (seenL (es.map (·.c))) w r w' := by
  have D0 : Below w.heap.size w (w.alloc (.cells #[.int .i64 0, .int .i64 0, .int .i64 0, .int .i64 0, .int .i64 0, .int .i64 0, .int .i64 0, .string ⟨#[]⟩, .string ⟨#[]⟩, .bool false, .int .u32 0, .slice none 0 0, .slice none 0 0] 33)) := (Below.refl _ _).alloc (Nat.le_refl _) _
  have HX := Lib.hid (blk_new w #[.int .i64 0, .int .i64 0, .int .i64 0, .int .i64 0, .int .i64 0, .int .i64 0, .int .i64 0, .string ⟨#[]⟩, .string ⟨#[]⟩, .bool false, .int .u32 0, .slice none 0 0, .slice none 0 0] 33)
  have HS := Lib.hid (h.ext D0)
  have HQ := Lib.hid (h2.ext D0)
  have HB0 := Lib.hid D0
  clear h h2 D0
  go_enter Tryz.func87, Tryz.ntmps87
  go_upto_region 1 with (fail)
  obtain ⟨r, hr⟩ : ∃ r, w.heap.size = r := ⟨_, rfl⟩
  rw [hr] at HX
  try rw [hr]
  have HRr := Lib.hid (show w.heap.size ≤ r by omega)
  clear hr
  generalize (w.alloc (.cells #[.int .i64 0, .int .i64 0, .int .i64 0, .int .i64 0, .int .i64 0, .int .i64 0, .int .i64 0, .string ⟨#[]⟩, .string ⟨#[]⟩, .bool false, .int .u32 0, .slice none 0 0, .slice none 0 0] 33)) = w0 at *
  go_wp2_with fail
  refine (recentSince_noD Dq rb q ks n _ HQ.out hq hno).mono ?_
  rintro e w1 ⟨rfl, hw1⟩
  have HX1 := Lib.hid (show w1.heap[r]? = some (.cells #[.int .i64 0, .int .i64 0, .int .i64 0, .int .i64 0, .int .i64 0, .int .i64 0, .int .i64 0, .string ⟨#[]⟩, .string ⟨#[]⟩, .bool false, .int .u32 0, .slice none 0 0, .slice none 0 0] 33 (0, 0)) from by rw [← hw1]; exact HX.out)
  have HS1 := Lib.hid (show DkS Dk0 w1 sb most es from by rw [← hw1]; exact HS.out)
  have HQ1 := Lib.hid (show RecAtD Dq w1 rb q ks from by rw [← hw1]; exact HQ.out)
  have HB1 := Lib.hid (show Below w.heap.size w w1 from by rw [← hw1]; exact HB0.out)
  clear hw1 HX HS HB0 HQ
  go_wp2_with fail
  refine (feedFullD Dk0 Dq sb rb q most es ks _ HS1.out HQ1.out hn hc).mono ?_
  rintro e w2 ⟨va, k, vc, rfl, hk, hvc, hvm, hvat, hb⟩
  obtain ⟨S, hS⟩ : ∃ S, sm (sealB (es.map (·.c))) = S := ⟨_, rfl⟩
  have HSS := Lib.hid hS
  rw [hS]
  have HKL := Lib.hid hk
  have HX2 := Lib.hid (blk_ext hb HX1.out)
  have HB2 := Lib.hid (ext_trans HB1.out hb)
  have HV2 := Lib.hid hvat
  have hk2 := blk_cell HX2.out
  have hf2 := blk_free HX2.out
  have hl2 := blk_lt HX2.out
  clear hb hvat hk hS HX1 HS1 HQ1 HB1
  go_wp2_with fail
  refine bodyPost_ret (v := .agg #[.int .i64 2, .int .i64 5, .int .i64 0, .int .i64 0, .int .i64 0, .int .i64 0, .int .i64 q, .string ⟨#[]⟩, .string ⟨#[]⟩, .bool true, .int .u32 S, .slice va k vc, .slice none 0 0]) (by have hk2 := blk_cell (blk_fill13 (v0 := .int .i64 2) (v1 := .int .i64 5) (v2 := .int .i64 0) (v3 := .int .i64 0) (v4 := .int .i64 0) (v5 := .int .i64 0) (v6 := .int .i64 q) (v7 := .string ⟨#[]⟩) (v8 := .string ⟨#[]⟩) (v9 := .bool true) (v10 := .int .u32 S) (v11 := .slice va k vc) (v12 := .slice none 0 0) HX2.out rfl); simp [results, Tryz.results87, go_sem, hk2]) rfl ?_
  rw [HSS.out]
  exact ⟨va, k, vc, rfl, HKL.out, hvc, hvm, HV2.out.keep (fun b cur hc he => by
    obtain ⟨o, e⟩ := he
    exact (blk_over13 (fun e0 => by subst e0; have h9 := HX2.out.symm.trans hc; simp at h9) hc).trans hc.symm), below_fill13 HB2.out HRr.out⟩
set_option maxRecDepth 100000 in
set_option maxHeartbeats 4000000 in
theorem feedDeltaD (Dk0 : DkR) (Dq : DkQ) (sb rb q : Nat) (n : Int) (most : Int) (es : List En) (ks : List Ky) (w : World) (h : DkS Dk0 w sb most es) (h2 : RecAtD Dq w rb q ks) (hs : Asc es) (hn : es.length ≤ 100) (hc : ∀ x ∈ es, CdS x.c) (hq : q ≤ 1000000) (m0 : Nat) (bs kk : List Ky) (hl : ks.length = min q 16) (he : n = (q : Int) - m0) (hm : m0 ≤ q) (hm16 : m0 ≤ 16) (hb : ks.drop (ks.length - m0) = bs) (hkp : kp bs bs.length = kk) (hk16 : kk.length ≤ 16) :
    Calls Tryz.prog 87 #[.pointer (some ⟨sb, 4, none⟩), .pointer (some ⟨rb, 9, none⟩), .int .i64 n] w fun r w' => FdP false (q : Int) (sm (sealB (es.map (·.c)))) (kk.map (cur es)) w r w' := by
  have D0 : Below w.heap.size w (w.alloc (.cells #[.int .i64 0, .int .i64 0, .int .i64 0, .int .i64 0, .int .i64 0, .int .i64 0, .int .i64 0, .string ⟨#[]⟩, .string ⟨#[]⟩, .bool false, .int .u32 0, .slice none 0 0, .slice none 0 0] 33)) := (Below.refl _ _).alloc (Nat.le_refl _) _
  have HX := Lib.hid (blk_new w #[.int .i64 0, .int .i64 0, .int .i64 0, .int .i64 0, .int .i64 0, .int .i64 0, .int .i64 0, .string ⟨#[]⟩, .string ⟨#[]⟩, .bool false, .int .u32 0, .slice none 0 0, .slice none 0 0] 33)
  obtain ⟨i0, hi, hz0, hz1, hz2⟩ := info_parts' info_card
  obtain ⟨nn, hnn⟩ : ∃ nn, n = nn := ⟨_, rfl⟩
  have HNN := Lib.hid hnn
  rw [hnn]
  obtain ⟨n, hn0⟩ : ∃ n, kk.length = n := ⟨_, rfl⟩
  have HKL := Lib.hid hn0
  have hn16 : n ≤ 16 := by omega
  have HS := Lib.hid (h.ext D0)
  have HQ := Lib.hid (h2.ext D0)
  have HB0 := Lib.hid D0
  have HAS := Lib.hid hs
  have HT := Lib.hid (And.intro hl (And.intro he (And.intro hm (And.intro hm16 (And.intro hb hkp)))))
  clear h h2 D0 hs hl he hm hm16 hb hkp hnn hk16 hn0
  go_enter Tryz.func87, Tryz.ntmps87
  go_upto_region 1 with (fail)
  obtain ⟨r, hr⟩ : ∃ r, w.heap.size = r := ⟨_, rfl⟩
  rw [hr] at HX
  try rw [hr]
  have HRr := Lib.hid (show w.heap.size ≤ r by omega)
  clear hr
  generalize (w.alloc (.cells #[.int .i64 0, .int .i64 0, .int .i64 0, .int .i64 0, .int .i64 0, .int .i64 0, .int .i64 0, .string ⟨#[]⟩, .string ⟨#[]⟩, .bool false, .int .u32 0, .slice none 0 0, .slice none 0 0] 33)) = w0 at *
  go_wp2_with fail
  refine (recentSince_atD Dq rb q m0 nn ks bs _ HQ.out HT.out.1 (by rw [← HNN.out]; exact HT.out.2.1) HT.out.2.2.1 HT.out.2.2.2.1 hq HT.out.2.2.2.2.1).mono ?_
  rintro e w1 ht
  obtain ⟨ka, kcap, rfl, hka, hb⟩ := Told.read ht HT.out.2.2.2.2.2
  rw [HKL.out]
  have HX1 := Lib.hid (blk_ext hb HX.out)
  have HS1 := Lib.hid (HS.out.ext hb)
  have HQ1 := Lib.hid (HQ.out.ext hb)
  have HK1 := Lib.hid hka
  have HB1 := Lib.hid (ext_trans HB0.out hb)
  clear hb hka ht HX HS HQ HB0
  go_wp2_with fail
  refine (feedHeadD Dk0 Dq sb rb q most es ks _ HS1.out HQ1.out hn hc).mono ?_
  rintro e w5 ⟨rfl, hb⟩
  obtain ⟨S, hS⟩ : ∃ S, sm (sealB (es.map (·.c))) = S := ⟨_, rfl⟩
  have HSS := Lib.hid hS
  rw [hS]
  have HX5 := Lib.hid (blk_ext hb HX1.out)
  have HS5 := Lib.hid (HS1.out.ext hb)
  have HKA := Lib.hid (HK1.out.ext hb)
  have HB5 := Lib.hid (ext_trans HB1.out hb)
  have hl5 := blk_lt HX5.out
  have D6 := Lib.hid (show Below w5.heap.size w5 (w5.alloc (.cells #[.int .i64 2, .int .i64 5, .int .i64 0, .int .i64 0, .int .i64 0, .int .i64 0, .int .i64 q, .string ⟨#[]⟩, .string ⟨#[]⟩, .bool false, .int .u32 S, .slice none 0 0, .slice none 0 0] 33)) from (Below.refl _ _).alloc (Nat.le_refl _) _)
  have HM6 := Lib.hid (blk_new w5 #[.int .i64 2, .int .i64 5, .int .i64 0, .int .i64 0, .int .i64 0, .int .i64 0, .int .i64 q, .string ⟨#[]⟩, .string ⟨#[]⟩, .bool false, .int .u32 S, .slice none 0 0, .slice none 0 0] 33)
  clear hb hS HX1 HS1 HQ1 HB1 HK1
  go_upto_region 7 with (fail)
  obtain ⟨m, hm⟩ : ∃ m, w5.heap.size = m := ⟨_, rfl⟩
  have hrm : r ≠ m := by omega
  have HM5 := Lib.hid (show w5.heap.size ≤ m from by rw [hm]; exact Nat.le_refl _)
  rw [hm] at HM6
  try rw [hm]
  clear hm hl5
  generalize (w5.alloc (.cells #[.int .i64 2, .int .i64 5, .int .i64 0, .int .i64 0, .int .i64 0, .int .i64 0, .int .i64 q, .string ⟨#[]⟩, .string ⟨#[]⟩, .bool false, .int .u32 S, .slice none 0 0, .slice none 0 0] 33)) = w6 at *
  go_wp2_with fail
  go_loopw [35] (fun j wr => ∃ (J : Nat) (ga : Option Addr) (gc : Nat), J ≤ n ∧ j = .int .i64 (J : Int) ∧ Below w5.heap.size w5 wr ∧ OwnC (m + 1) wr (.slice ga J gc) ((kk.take J).map (cur es)) ∧ wr.heap[m]? = some (.cells #[.int .i64 2, .int .i64 5, .int .i64 0, .int .i64 0, .int .i64 0, .int .i64 0, .int .i64 q, .string ⟨#[]⟩, .string ⟨#[]⟩, .bool false, .int .u32 S, .slice ga J gc, .slice none 0 0] 33 (0, 0))) (fun j _ => n - (intOf j).toNat)
  case atStart => exact ⟨0, none, 0, by omega, rfl, D6.out, OwnR.nil _ _, HM6.out⟩
  case round =>
    obtain ⟨wl, rfl⟩ : ∃ y : World, y = wr := ⟨_, rfl⟩
    obtain ⟨J, ga, gc, hJ, rfl, hbl, hol, hml⟩ := hrel
    have hlen : ((kk.take J).map (cur es)).length = J := by rw [List.length_map, List.length_take, HKL.out]; omega
    obtain ⟨L, hL⟩ : ∃ L, (kk.take J).map (cur es) = L := ⟨_, rfl⟩
    rw [hL] at hol hlen
    have HLL := Lib.hid hL
    have HLEN := Lib.hid hlen
    have HBl := Lib.hid hbl
    have HOl := Lib.hid hol
    have HMl := Lib.hid hml
    clear hL hlen hbl hol hml D6 HM6
    by_cases hlt : J < n
    · skip
      obtain ⟨k, hkk⟩ : ∃ k, kk[J]? = some k := ⟨_, List.getElem?_eq_getElem (by have := HKL.out; omega)⟩
      obtain ⟨b, o, rfl⟩ : ∃ b o, ka = some ⟨b, o, none⟩ := by
        rcases HKA.out with h | ⟨b, o, e, _⟩
        · rw [h] at hkk; simp at hkk
        · exact ⟨b, o, e⟩
      have hJn : (J : Int) < (n : Int) := by omega
      have HST := Lib.hid (show (kk.take (J + 1)).map (cur es) = L ++ [cur es k] from by rw [List.take_add_one, hkk, List.map_append, HLL.out]; rfl)
      rcases (HKA.out.ext HBl.out) with h | ⟨b', o', e, hc⟩
      · rw [h] at hkk; simp at hkk
      obtain ⟨rfl, rfl⟩ : b' = b ∧ o' = o := by simp at e; exact ⟨e.1.symm, e.2.symm⟩
      have y0 := (hc J k hkk).1
      have y1 := (hc J k hkk).2
      have D6 : Below wl.heap.size wl (wl.alloc (.cells #[.string k.1, .string k.2] 28)) := (Below.refl _ _).alloc (Nat.le_refl _) _
      have HK6 := Lib.hid (blk_new wl #[.string k.1, .string k.2] 28)
      have HM6 := Lib.hid (blk_ext D6 HMl.out)
      have HO6 := Lib.hid (OwnR.ext HOl.out D6)
      have HB6 := Lib.hid (ext_trans HBl.out D6)
      have hml := blk_lt HMl.out
      clear hc hkk e D6 HMl HOl HBl
      go_upto_region 10 with (fail)
      obtain ⟨kb, hkb⟩ : ∃ kb, wl.heap.size = kb := ⟨_, rfl⟩
      rw [hkb] at HK6 hml
      try rw [hkb]
      have hkm : m ≠ kb := by omega
      clear hkb
      generalize (wl.alloc (.cells #[.string k.1, .string k.2] 28)) = w6 at *
      have DD := (Below.refl w6.heap.size w6).drew
      have HM7 := Lib.hid (blk_ext DD HM6.out)
      have HK7 := Lib.hid (blk_ext DD HK6.out)
      have HO7 := Lib.hid (OwnR.ext HO6.out DD)
      have HB7 := Lib.hid (ext_trans HB6.out DD)
      clear HM6 HK6 HO6 HB6 y0 y1 DD
      haveI hI0 : Nonempty (In (fun W : World => W.heap[m]? = some (.cells #[.int .i64 2, .int .i64 5, .int .i64 0, .int .i64 0, .int .i64 0, .int .i64 0, .int .i64 q, .string ⟨#[]⟩, .string ⟨#[]⟩, .bool false, .int .u32 S, .slice ga J gc, .slice none 0 0] 33 (0, 0)) ∧ W.heap[kb]? = some (.cells #[.string k.1, .string k.2] 28 (0, 0)))) := ⟨⟨_, HM7.out, HK7.out⟩⟩
      have hF1 : ∀ g : In (fun W : World => W.heap[m]? = some (.cells #[.int .i64 2, .int .i64 5, .int .i64 0, .int .i64 0, .int .i64 0, .int .i64 0, .int .i64 q, .string ⟨#[]⟩, .string ⟨#[]⟩, .bool false, .int .u32 S, .slice ga J gc, .slice none 0 0] 33 (0, 0)) ∧ W.heap[kb]? = some (.cells #[.string k.1, .string k.2] 28 (0, 0))), g.w.cell? ⟨m, 11, none⟩ = some (.slice ga J gc) := fun g => by rw [blk_cell g.h.1]; rfl
      have hF2 : ∀ g : In (fun W : World => W.heap[m]? = some (.cells #[.int .i64 2, .int .i64 5, .int .i64 0, .int .i64 0, .int .i64 0, .int .i64 0, .int .i64 q, .string ⟨#[]⟩, .string ⟨#[]⟩, .bool false, .int .u32 S, .slice ga J gc, .slice none 0 0] 33 (0, 0)) ∧ W.heap[kb]? = some (.cells #[.string k.1, .string k.2] 28 (0, 0))), m < g.w.heap.size := fun g => blk_lt g.h.1
      have hF3 : ∀ g : In (fun W : World => W.heap[m]? = some (.cells #[.int .i64 2, .int .i64 5, .int .i64 0, .int .i64 0, .int .i64 0, .int .i64 0, .int .i64 q, .string ⟨#[]⟩, .string ⟨#[]⟩, .bool false, .int .u32 S, .slice ga J gc, .slice none 0 0] 33 (0, 0)) ∧ W.heap[kb]? = some (.cells #[.string k.1, .string k.2] 28 (0, 0))), g.w.cell? ⟨kb, 0, none⟩ = some (.string k.1) := fun g => by rw [blk_cell g.h.2]; rfl
      have hF4 : ∀ g : In (fun W : World => W.heap[m]? = some (.cells #[.int .i64 2, .int .i64 5, .int .i64 0, .int .i64 0, .int .i64 0, .int .i64 0, .int .i64 q, .string ⟨#[]⟩, .string ⟨#[]⟩, .bool false, .int .u32 S, .slice ga J gc, .slice none 0 0] 33 (0, 0)) ∧ W.heap[kb]? = some (.cells #[.string k.1, .string k.2] 28 (0, 0))), g.w.cell? ⟨kb, 1, none⟩ = some (.string k.2) := fun g => by rw [blk_cell g.h.2]; rfl
      have hF5 : ∀ g : In (fun W : World => W.heap[m]? = some (.cells #[.int .i64 2, .int .i64 5, .int .i64 0, .int .i64 0, .int .i64 0, .int .i64 0, .int .i64 q, .string ⟨#[]⟩, .string ⟨#[]⟩, .bool false, .int .u32 S, .slice ga J gc, .slice none 0 0] 33 (0, 0)) ∧ W.heap[kb]? = some (.cells #[.string k.1, .string k.2] 28 (0, 0))), kb < g.w.heap.size := fun g => blk_lt g.h.2
      refine wp_region_split 8 1 7 rfl rfl (by kernel_rfl) (by kernel_rfl) (by kernel_rfl) (by kernel_rfl) (by kernel_rfl) ?_
      simp only [List.take_succ_cons, List.take_zero]
      refine wpAny_hist (fun W : World => W.heap[m]? = some (.cells #[.int .i64 2, .int .i64 5, .int .i64 0, .int .i64 0, .int .i64 0, .int .i64 0, .int .i64 q, .string ⟨#[]⟩, .string ⟨#[]⟩, .bool false, .int .u32 S, .slice ga J gc, .slice none 0 0] 33 (0, 0)) ∧ W.heap[kb]? = some (.cells #[.string k.1, .string k.2] 28 (0, 0))) (by kernel_rfl) (by kernel_rfl) ⟨HM7.out, HK7.out⟩ ?_
      generalize w6.drew = x0 at *
      repeat (first | (refine Hist.wpG_plain 0 _ (by decide +kernel) rfl (by rfl) (by rfl) (fun K hK => ?_); go_big_quiet_op; refine hK _ ?_; clear hK K))
      refine Hist.wpG_call (by rfl) (by rfl) (fun K hK => ?_)
      go_big_op
      refine (feedCurrentD Dk0 sb most es k _ (HS5.out.ext HB7.out) HAS.out (by omega)).mono ?_
      rintro e x1 ⟨rfl, hb⟩
      obtain ⟨c, hcu⟩ : ∃ c, cur es k = c := ⟨_, rfl⟩
      rw [hcu] at HST ⊢
      have HM8 := Lib.hid (blk_ext hb HM7.out)
      have HK8 := Lib.hid (blk_ext hb HK7.out)
      have HO8 := Lib.hid (OwnR.ext HO7.out hb)
      have HB8 := Lib.hid (ext_trans HB7.out hb)
      refine hK _ _ ⟨(fun W : World => W.heap[m]? = some (.cells #[.int .i64 2, .int .i64 5, .int .i64 0, .int .i64 0, .int .i64 0, .int .i64 0, .int .i64 q, .string ⟨#[]⟩, .string ⟨#[]⟩, .bool false, .int .u32 S, .slice ga J gc, .slice none 0 0] 33 (0, 0)) ∧ W.heap[kb]? = some (.cells #[.string k.1, .string k.2] 28 (0, 0))), (by simp only [List.cons_append, List.nil_append, List.forall_mem_cons]; repeat' (first | exact ⟨HM8.out, HK8.out⟩ | (intro _ h; cases h; done) | (exact trivial) | constructor)), ?_⟩
      clear hK K hb hcu HM7 HK7 HO7 HB7
      try simp only [Act.put, List.setIfInBounds_toArray, List.set_cons_succ, List.set_cons_zero]
      repeat (first | (refine Hist.wpG_plain 1 _ (by decide +kernel) rfl (by rfl) (by rfl) (fun K hK => ?_); go_big_quiet_op; refine hK _ ?_; clear hK K) | (refine Hist.wpG_plain 0 _ (by decide +kernel) rfl (by rfl) (by rfl) (fun K hK => ?_); go_big_quiet_op; refine hK _ ?_; clear hK K))
      refine Hist.wpG_call (by rfl) (by rfl) (fun K hK => ?_)
      go_big_op
      have E9 : Below x1.heap.size x1 (x1.alloc (.cells #[.string c.a, .string c.i, .int .i64 c.s, .int .i64 c.o, .int .i64 c.l, .int .i64 c.t, .int .i64 c.k, .int .i64 c.n, .bool c.g] 37)) := (Below.refl _ _).alloc (Nat.le_refl _) _
      have HV9 := Lib.hid (blk_new x1 #[.string c.a, .string c.i, .int .i64 c.s, .int .i64 c.o, .int .i64 c.l, .int .i64 c.t, .int .i64 c.k, .int .i64 c.n, .bool c.g] 37)
      have HM9 := Lib.hid (blk_ext E9 HM8.out)
      have HK9 := Lib.hid (blk_ext E9 HK8.out)
      have HO9 := Lib.hid (show (x1.alloc (.cells #[.string c.a, .string c.i, .int .i64 c.s, .int .i64 c.o, .int .i64 c.l, .int .i64 c.t, .int .i64 c.k, .int .i64 c.n, .bool c.g] 37)).ownsRow (m + 1) 37 9 (.slice ga J gc) J (flat cc L) from by
        have := OwnR.ext HO8.out E9
        unfold OwnR at this
        rwa [HLEN.out] at this)
      have HB9 := Lib.hid (ext_trans HB8.out E9)
      refine hK _ _ ⟨(fun W : World => W.heap[m]? = some (.cells #[.int .i64 2, .int .i64 5, .int .i64 0, .int .i64 0, .int .i64 0, .int .i64 0, .int .i64 q, .string ⟨#[]⟩, .string ⟨#[]⟩, .bool false, .int .u32 S, .slice ga J gc, .slice none 0 0] 33 (0, 0)) ∧ W.heap[kb]? = some (.cells #[.string k.1, .string k.2] 28 (0, 0))), (by simp only [List.cons_append, List.nil_append, List.forall_mem_cons]; repeat' (first | exact ⟨HM9.out, HK9.out⟩ | (intro _ h; cases h; done) | (exact trivial) | constructor)), ?_⟩
      clear hK K HM8 HK8 HO8 HB8 E9
      try simp only [Act.put, List.setIfInBounds_toArray, List.set_cons_succ, List.set_cons_zero]
      repeat (first | (refine Hist.wpG_plain 2 _ (by decide +kernel) rfl (by rfl) (by rfl) (fun K hK => ?_); go_big_quiet_op; refine hK _ ?_; clear hK K) | (refine Hist.wpG_plain 1 _ (by decide +kernel) rfl (by rfl) (by rfl) (fun K hK => ?_); go_big_quiet_op; refine hK _ ?_; clear hK K) | (refine Hist.wpG_plain 0 _ (by decide +kernel) rfl (by rfl) (by rfl) (fun K hK => ?_); go_big_quiet_op; refine hK _ ?_; clear hK K))
      refine Hist.wpG_call (by rfl) (by rfl) (fun K hK => ?_)
      have hm9 := blk_lt HM9.out
      refine wp_append_own _ _ _ 30 rfl (m + 1) 37 i0 Cd.zero.v 9 88 Tryz.underlying30 hi hz0 hz1 hz2 rfl (by decide) (.slice ga J gc) J (flat cc L) rfl HO9.out ⟨x1.heap.size, 0, none⟩ 1 1 (cc c) rfl rfl ?c1 ?c2 ?c3 ?c4 ?c5 ?_
      case c1 => intro j u hj; rw [add_off, Nat.zero_add, blk_cell HV9.out]; simpa [cc] using hj
      case c2 => exact cc_one c
      case c3 => unfold maxLen; omega
      case c4 => omega
      case c5 => omega
      intro v5 x5 ho5 hg5 _
      have hz9 := HB9.out.size
      have HB5 := Lib.hid (show Below w5.heap.size w5 x5 from HB9.out.grown hg5 hz9 (fun q hq => by have := own_ge HO9.out hq; have := HM5.out; omega))
      have HO5 := Lib.hid (show OwnC (m + 1) x5 v5 (L ++ [c]) from by unfold OwnC OwnR; rw [flat_snoc, List.length_append, HLEN.out]; exact ho5)
      have HMx := Lib.hid ((hg5.block m hm9 (fun e => by have := own_ge HO9.out e.symm; omega)).trans HM9.out)
      have HKx := Lib.hid ((hg5.block kb (blk_lt HK9.out) (own_ne HO9.out HK9.out (by decide))).trans HK9.out)
      obtain ⟨a5, c5, rfl, -, hcm5, -⟩ := OwnR.form HO5.out
      have hl5 : (L ++ [c]).length = J + 1 := by rw [List.length_append, HLEN.out]; rfl
      rw [hl5] at HO5 ⊢
      refine hK _ _ ⟨(fun W : World => W.heap[m]? = some (.cells #[.int .i64 2, .int .i64 5, .int .i64 0, .int .i64 0, .int .i64 0, .int .i64 0, .int .i64 q, .string ⟨#[]⟩, .string ⟨#[]⟩, .bool false, .int .u32 S, .slice ga J gc, .slice none 0 0] 33 (0, 0)) ∧ W.heap[kb]? = some (.cells #[.string k.1, .string k.2] 28 (0, 0))), (by simp only [List.cons_append, List.nil_append, List.forall_mem_cons]; repeat' (first | exact ⟨HMx.out, HKx.out⟩ | (intro _ h; cases h; done) | (exact trivial) | constructor)), ?_⟩
      clear hK K ho5 hg5 HO9 HV9 HB9 HM9 HK9 hm9 hz9 hl5
      try simp only [Act.put, List.setIfInBounds_toArray, List.set_cons_succ, List.set_cons_zero]
      repeat (first | (refine Hist.wpG_plain 3 _ (by decide +kernel) rfl (by rfl) (by rfl) (fun K hK => ?_); go_big_quiet_op; refine hK _ ?_; clear hK K) | (refine Hist.wpG_plain 2 _ (by decide +kernel) rfl (by rfl) (by rfl) (fun K hK => ?_); go_big_quiet_op; refine hK _ ?_; clear hK K) | (refine Hist.wpG_plain 1 _ (by decide +kernel) rfl (by rfl) (by rfl) (fun K hK => ?_); go_big_quiet_op; refine hK _ ?_; clear hK K) | (refine Hist.wpG_plain 0 _ (by decide +kernel) rfl (by rfl) (by rfl) (fun K hK => ?_); go_big_quiet_op; refine hK _ ?_; clear hK K))
      refine Hist.wpG_nil ?_
      have hm5 := blk_lt HMx.out
      have hf5 := blk_free HMx.out
      have hk5 := blk_cell HMx.out
      simp only [behind]
      refine wpAny_one 8 _ (by kernel_rfl) rfl ?_
      refine wpOp_do (by simp only [List.getElem?_toArray, List.getElem?_cons_succ, List.getElem?_cons_zero]; rfl) (by rfl) (fun K hK => ?_)
      go_big_op
      refine hK _ _ ?_
      clear hK K
      refine wpAny_end (by kernel_rfl) ?_
      clear hF1 hF2 hF3 hF4 hF5 hI0
      have HM10 : (x5.setCell ⟨m, 11, none⟩ (.slice a5 (J + 1) c5)).heap[m]? = some (.cells #[.int .i64 2, .int .i64 5, .int .i64 0, .int .i64 0, .int .i64 0, .int .i64 0, .int .i64 q, .string ⟨#[]⟩, .string ⟨#[]⟩, .bool false, .int .u32 S, .slice a5 (J + 1) c5, .slice none 0 0] 33 (0, 0)) := blk_set HMx.out (by first | rfl | simp)
      have HB10 := Lib.hid (show Below w5.heap.size w5 (x5.setCell ⟨m, 11, none⟩ (.slice a5 (J + 1) c5)) from HB5.out.setCell HM5.out _)
      have HO10 := Lib.hid (show OwnC (m + 1) (x5.setCell ⟨m, 11, none⟩ (.slice a5 (J + 1) c5)) (.slice a5 (J + 1) c5) (L ++ [c]) from ownsRow_kept HO5.out ((Kept.refl m x5).setCell _ _) (by omega))
      have HM11 := Lib.hid HM10
      clear HM10 hm5 hf5 hk5 HMx HKx HO5
      generalize (x5.setCell ⟨m, 11, none⟩ (.slice a5 (J + 1) c5)) = x6 at *
      go_wp2
      go_roundw
      case rel => exact ⟨J + 1, a5, c5, by omega, by go_num, HB10.out, by rw [HST.out]; exact HO10.out, HM11.out⟩
      case measure => simp [intOf]; omega
    · obtain rfl : J = n := by omega
      have hlt2 : decide ((J : Int) < (J : Int)) = false := by simp
      have HXl := Lib.hid (blk_ext HBl.out HX5.out)
      have HB9 := Lib.hid (ext_trans HB5.out HBl.out)
      have hkM := blk_cell HMl.out
      have hlM := blk_lt HMl.out
      have hkX := blk_cell HXl.out
      have hfX := blk_free HXl.out
      have hlX := blk_lt HXl.out
      have hgr : ∀ b o, ga = some ⟨b, o, none⟩ → b ≠ r := fun b o e0 e1 => by
        subst e0 e1
        have h8 := own_ne (v := .slice (some ⟨b, o, none⟩) J gc) HOl.out HXl.out (by decide)
        exact h8 rfl
      go_wp2_with fail
      refine bodyPost_ret (v := .agg #[.int .i64 2, .int .i64 5, .int .i64 0, .int .i64 0, .int .i64 0, .int .i64 0, .int .i64 q, .string ⟨#[]⟩, .string ⟨#[]⟩, .bool false, .int .u32 S, .slice ga J gc, .slice none 0 0]) (by have hk2 := blk_cell (blk_fill13 (v0 := .int .i64 2) (v1 := .int .i64 5) (v2 := .int .i64 0) (v3 := .int .i64 0) (v4 := .int .i64 0) (v5 := .int .i64 0) (v6 := .int .i64 q) (v7 := .string ⟨#[]⟩) (v8 := .string ⟨#[]⟩) (v9 := .bool false) (v10 := .int .u32 S) (v11 := .slice ga J gc) (v12 := .slice none 0 0) HXl.out rfl); simp [results, Tryz.results87, go_sem, hk2]) rfl ?_
      rw [HSS.out]
      obtain ⟨a', c', e1, h1, h2, h3, -, -⟩ := HOl.out.read
      simp only [Value.slice.injEq] at e1
      obtain ⟨rfl, -, rfl⟩ := e1
      have hLK : kk.map (cur es) = L := by rw [← HLL.out, List.take_of_length_le (by rw [HKL.out]; exact Nat.le_refl _)]
      rw [hLK]
      rw [HLEN.out] at h1
      exact ⟨ga, J, gc, rfl, HLEN.out, h1, h2, h3.keep (fun b cur hc he => by
        obtain ⟨o, e⟩ := he
        exact (blk_over13 (hgr b o e) hc).trans hc.symm), below_fill13 HB9.out HRr.out⟩
end Go.Proofs.YtcjpemphdgndkaaGreat
