/- FeedJoins: the walk. -/
import Derived.Test.YtgnmlkomgokimaaJoinQ
import Derived.Test.YtgnmlkomgokimaaHist
namespace Go.Proofs.Ytgnmlkomgokimaa
open Go.RowKit
set_option linter.unusedVariables false
set_option linter.unusedSimpArgs false

theorem bytes_text (w : World) {a : Option Addr} {n c : Nat} {xs : List Int} (h : BAt w a xs) (hl : xs.length = n) : (convert 57 9 (.slice a n c)).run Try.prog w = .ok (.string (strOfNums xs)) w :=
  run_text w 57 5 Try.underlying57 Try.underlying5 9 Try.underlying9 a n c xs hl h
theorem seenL_seenL2 (ls : List Cd) : seenL (seenL ls) = seenL ls := by
  have h : (seenL ls).filter (fun c => !c.g) = seenL ls := List.filter_eq_self.2 (fun c hc => by simp [(seenL_mem hc).2])
  unfold seenL at h ⊢
  rw [h]
  exact srt_ord klt _ (srt_is klt klt_weak _)
set_option maxRecDepth 100000 in
set_option maxHeartbeats 8000000 in
theorem feedJoins_walk (ra : Option Addr) (rlen rcap : Nat) (rz : List Int) (sa : Option Addr) (slen scap : Nat) (sz : List Int) (w : World) (hr : IsRow .i64 w ra rlen rcap rz) (hr8 : rlen * 8 ≤ 140737488351232) (hs : IsRow .i64 w sa slen scap sz) (hs8 : slen * 8 ≤ 140737488351232) :
    Calls Try.prog 5 #[.slice ra rlen rcap, .slice sa slen scap] w fun r w' => r = .returned (.bool true) ∧ Below w.heap.size w w' := by
  go_enter Try.func5, Try.ntmps5
  have HR2 := Lib.hid hs
  clear hs
  go_wp2_with fail
  refine (law15made ra rlen rcap rz _ hr hr8).mono ?_
  rintro e w1 ⟨sb, rb, wb, xb, es, ks, rfl, hp, has, hka, hkl⟩
  have hn := few has hka
  have HKY := Lib.hid hka
  have HC := Lib.hid (show ∀ x ∈ es, CdS x.c from fun x hx => ⟨by have := (hka x hx).1.size; omega, by have := (hka x hx).2.size; omega⟩)
  have HKS := Lib.hid (show ∀ c ∈ (seenL (es.map (·.c))), KyS (ck c) from fun c hc => by obtain ⟨e, he, rfl, -⟩ := mem_seen.1 hc; exact HC.out e he)
  have HAS := Lib.hid has
  have HND := Lib.hid (seen_nd has)
  have HS1 := Lib.hid hp.1
  have HQ1 := Lib.hid hp.2.1
  have HD1 := Lib.hid hp.2.2.2.2.1
  have HLE := Lib.hid (show w.heap.size ≤ sb ∧ w.heap.size ≤ rb from ⟨hp.2.2.2.2.2.1, hp.2.2.2.2.2.2.1⟩)
  have HKL := Lib.hid hkl
  clear hp has hka hkl hr
  have HM2 := Lib.hid (MpD.made w1)
  have E2 := Lib.hid (show Below w1.heap.size w1 (w1.alloc (.map #[] 0)) from (Below.refl _ _).alloc (Nat.le_refl _) _)
  have hmk := @run_makeMap Try.prog
  go_upto_region 5 with (fail)
  clear hmk
  obtain ⟨mb, hmb⟩ : ∃ mb, w1.heap.size = mb := ⟨_, rfl⟩
  have HMB := Lib.hid hmb
  rw [hmb] at HM2
  try rw [hmb]
  have HS2 := Lib.hid (HS1.out.ext E2.out)
  have HQ2 := Lib.hid (HQ1.out.ext E2.out)
  clear hmb
  generalize (w1.alloc (.map #[] 0)) = w2 at *
  go_wp2_with fail
  refine (feedFull sb rb ks.length 20 es (lastK ks ks.length) _ HS2.out HQ2.out hn HC.out).mono ?_
  rintro e w3 ⟨va, k, vc, rfl, hk, hvc, hvm, hvat, hb⟩
  obtain ⟨N0, hN0⟩ : ∃ N, ks.length = N := ⟨_, rfl⟩
  obtain ⟨S0, hS0⟩ : ∃ S, sm (sealB (es.map (·.c))) = S := ⟨_, rfl⟩
  have HN0 := Lib.hid hN0
  rw [hN0, hS0]
  have HLN := Lib.hid hk
  have hk20 : k ≤ 20 := by rw [← hk]; refine Nat.le_trans (seenL_len _) ?_; rw [List.length_map]; exact hn
  have HV3 := Lib.hid hvat
  have HM3 := Lib.hid (HM2.out.ext hb)
  have HE3 := Lib.hid (ext_trans E2.out hb)
  unfold maxLen at hvm
  clear hb hk hvat hN0 hS0 HM2 HS2 HQ2 E2
  have hfc := fun w => field_cards true (N0 : Int) S0 va k vc w
  go_wp2_with fail
  clear hfc
  go_loopw [42] (fun j wr => ∃ J : Nat, J ≤ k ∧ j = .int .i64 (J : Int) ∧ MpD wr mb J (((seenL (es.map (·.c))).take J).map zE) ∧ Rim mb w3 wr) (fun j _ => k - (intOf j).toNat)
  case atStart => exact ⟨0, by omega, rfl, HM3.out, Rim.of (Below.refl _ _)⟩
  case round =>
    obtain ⟨w4, rfl⟩ : ∃ y : World, y = wr := ⟨_, rfl⟩
    obtain ⟨J, hJ, rfl, hm4, hr4⟩ := hrel
    have HM4 := Lib.hid hm4
    have HR4 := Lib.hid hr4
    have HV4 := Lib.hid (show CAt w4 va (seenL (es.map (·.c))) from HV3.out.keep fun b cur hc _ => hr4.block b (HM3.out.ne hc) (blk_lt hc))
    clear hm4 hr4
    by_cases hlt : J < k
    · obtain ⟨c, hcx⟩ : ∃ c, (seenL (es.map (·.c)))[J]? = some c := ⟨_, List.getElem?_eq_getElem (by rw [HLN.out]; exact hlt)⟩
      have HKC := Lib.hid (HKS.out c (List.mem_of_getElem? hcx))
      have HSET := Lib.hid (snocset HND.out hcx)
      obtain ⟨vb, vo, rfl⟩ : ∃ b o, va = some ⟨b, o, none⟩ := by
        rcases HV4.out with h | ⟨b, o, e, _⟩
        · rw [h] at hcx; simp at hcx
        · exact ⟨b, o, e⟩
      obtain ⟨y0, y1, y2, y3, y4, y5, y6, y7, y8⟩ := HV4.out.at hcx
      have hJn : (J : Int) < (k : Int) := by omega
      have D5 := Lib.hid (show Below w4.heap.size w4 (w4.alloc (.cells #[.string c.a, .string c.i, .int .i64 c.s, .int .i64 c.o, .int .i64 c.l, .int .i64 c.t, .int .i64 c.k, .int .i64 c.n, .bool c.g] 43)) from (Below.refl _ _).alloc (Nat.le_refl _) _)
      have HX5 := Lib.hid (blk_new w4 #[.string c.a, .string c.i, .int .i64 c.s, .int .i64 c.o, .int .i64 c.l, .int .i64 c.t, .int .i64 c.k, .int .i64 c.n, .bool c.g] 43)
      have HM5 := Lib.hid (HM4.out.ext D5.out)
      have HR5 := Lib.hid (HR4.out.trans (Rim.of D5.out))
      clear hcx
      go_upto_region 8 with (fail)
      clear HV4 HM4 HR4 y0 y1 y2 y3 y4 y5 y6 y7 y8 D5
      generalize (w4.alloc (.cells #[.string c.a, .string c.i, .int .i64 c.s, .int .i64 c.o, .int .i64 c.l, .int .i64 c.t, .int .i64 c.k, .int .i64 c.n, .bool c.g] 43)) = w5 at *
      have hk5 := blk_cell HX5.out
      have hl5 := blk_lt HX5.out
      go_wp2_with (at_mapUpdate; refine wpMapStoreC _ rfl _ _ _ rfl mb J (((seenL (es.map (·.c))).take J).map zE) (((seenL (es.map (·.c))).take (J + 1)).map zE) rfl HM5.out (by unfold maxLen; omega) (zE c) rfl rfl HKC.out HSET.out ?_; intro w7 hm7 hg7)
      have HM7 := Lib.hid hm7
      have HR7 := Lib.hid (HR5.out.trans (rim_grown hg7))
      clear hm7 hg7 HM5 HR5 hk5 hl5 HX5
      go_wp2
      go_roundw
      case rel => exact ⟨J + 1, by omega, by go_num, HM7.out, HR7.out⟩
      case measure => simp [intOf]; omega
    · obtain rfl : J = k := by omega
      have hlt2 : decide ((J : Int) < (J : Int)) = false := by simp
      have HA4 := Lib.hid (show MpD w4 mb J ((seenL (es.map (·.c))).map zE) from by have := HM4.out; rwa [List.take_of_length_le (by rw [HLN.out]; exact Nat.le_refl _)] at this)
      have HE4 := Lib.hid (show Below w1.heap.size w1 w4 from HE3.out.trans (HR4.out.below (by rw [← HMB.out]; exact Nat.le_refl _) HE3.out.size))
      have HS4 := Lib.hid (HS1.out.ext HE4.out)
      have HQ4 := Lib.hid (HQ1.out.ext HE4.out)
      have HD4 := Lib.hid (ext_trans HD1.out HE4.out)
      clear HM4 HR4 HV4 HM3 HV3 HE3
      go_wp2_with fail
      refine (recentSeq rb ks.length (lastK ks ks.length) _ HQ4.out).mono ?_
      rintro e w5 ⟨rfl, hw5⟩
      rw [hw5] at HA4 HE4 HS4 HQ4 HD4
      rw [HN0.out]
      clear hw5 HE4
      have HT6 := Lib.hid (tapeK_new (a := sa) (len := slen) (cap := scap) w5)
      have hrow := (rowOk_new (HR2.out.ext HD4.out) (.cells #[.slice sa slen scap, .int .i64 0] 47)).2
      have D6 := Lib.hid (show Below w5.heap.size w5 (w5.alloc (.cells #[.slice sa slen scap, .int .i64 0] 47)) from (Below.refl _ _).alloc (Nat.le_refl _) _)
      go_upto_region 12 with (fail)
      obtain ⟨tb, htb⟩ : ∃ tb, w5.heap.size = tb := ⟨_, rfl⟩
      have htb0 : w.heap.size ≤ tb := by rw [← htb]; exact HD4.out.size
      have hmb0 : w.heap.size ≤ mb := by rw [← HMB.out]; exact HD1.out.size
      rw [htb] at HT6 hrow
      try rw [htb]
      have HNE := Lib.hid hrow
      have HP6 := Lib.hid (show JQ w sa slen scap sb rb tb mb J es ((seenL (es.map (·.c))).map zE) ks (w5.alloc (.cells #[.slice sa slen scap, .int .i64 0] 47)) from ⟨HS4.out.ext D6.out, HQ4.out.ext D6.out, HT6.out, HA4.out.ext D6.out, ext_trans HD4.out D6.out, HLE.out.1, HLE.out.2, htb0, hmb0⟩)
      clear hrow htb htb0 hmb0 HT6 D6 HS4 HQ4 HA4 HD4
      generalize (w5.alloc (.cells #[.slice sa slen scap, .int .i64 0] 47)) = w6 at *
      go_wp2_with fail
      refine (tapeNextK sa slen scap sz tb 14 _ HP6.out.2.2.1 (show RowOk sa slen scap sz _ tb from ⟨HR2.out.ext HP6.out.2.2.2.2.1, HNE.out⟩) (by omega) (by omega)).mono ?_
      rintro e w7 ⟨v, rfl, v0, v1, ht, hb⟩
      have HP7 := Lib.hid (HP6.out.t ht hb)
      obtain ⟨M0, rfl⟩ : ∃ M0 : Nat, v = (M0 : Int) := ⟨v.toNat, by omega⟩
      have hM0 : M0 ≤ 13 := by omega
      clear ht hb HP6 v0 v1
      go_wp2_with fail
      go_loopw [14] (fun n wr => ∃ (M : Nat) (es1 : List En) (ms : List Ky), n = .int .i64 (M : Int) ∧ ms.length + M ≤ 13 ∧ JQ w sa slen scap sb rb tb mb J es1 ((seenL (es.map (·.c))).map zE) (ks ++ ms) wr ∧ Asc es1 ∧ (∀ e ∈ es1, KA e.c.a ∧ KI e.c.i) ∧ Ch es es1 ms) (fun n _ => (intOf n).toNat)
      case atStart => exact ⟨M0, es, [], rfl, by simpa using hM0, by rw [List.append_nil]; exact HP7.out, HAS.out, HKY.out, Ch.nil es⟩
      case round =>
        obtain ⟨w8, rfl⟩ : ∃ y : World, y = wr := ⟨_, rfl⟩
        obtain ⟨M, es1, ms, rfl, hml, hp, has1, hkk1, hch1⟩ := hrel
        have HP8 := Lib.hid hp
        have HAS1 := Lib.hid has1
        have HKK1 := Lib.hid hkk1
        have HCH1 := Lib.hid hch1
        have HFEW := Lib.hid (few has1 hkk1)
        clear hp has1 hkk1 hch1 HP7
        by_cases hM : M = 0
        · subst hM
          have hdM : decide ((0 : Int) < ((0 : Nat) : Int)) = false := by simp
          go_wp2_with fail
          have hN13 : ms.length ≤ 13 := by omega
          obtain ⟨N, hN⟩ : ∃ N, (ks ++ ms).length = N := ⟨_, rfl⟩
          have HN := Lib.hid hN
          have HNS := Lib.hid (show N = N0 + ms.length from by rw [← hN, List.length_append, HN0.out])
          have hn1 := HFEW.out
          have HC1 := Lib.hid (show ∀ x ∈ es1, CdS x.c from fun x hx => ⟨by have := (HKK1.out x hx).1.size; omega, by have := (HKK1.out x hx).2.size; omega⟩)
          have HFC := Lib.hid (show ∀ x ∈ (seenL (es1.map (·.c))), CdS x from fun x hx => by obtain ⟨e, he, rfl, -⟩ := mem_seen.1 hx; exact HC1.out e he)
          have HTL := Lib.hid (show (lastK (ks ++ ms) (ks ++ ms).length).drop ((lastK (ks ++ ms) (ks ++ ms).length).length - ms.length) = ms from by
            rw [lastK_tail (Nat.le_refl _) (by rw [List.length_append]; omega) (by omega), List.take_length, show (ks ++ ms).length - ms.length = ks.length from by simp, List.drop_left])
          obtain ⟨kk, hkk⟩ : ∃ kk, kp ms ms.length = kk := ⟨_, rfl⟩
          have HKN := Lib.hid (show kk.Nodup from by rw [← hkk]; exact (kp_nd ms ms.length (Nat.le_refl _)).1)
          have HKM := Lib.hid (show ∀ q, q ∈ kk ↔ q ∈ ms from fun q => by rw [← hkk]; exact kp_mem)
          have hkl16 : kk.length ≤ 13 := by rw [← hkk]; exact Nat.le_trans (kp_len _ _) hN13
          have HKP := Lib.hid hkk
          obtain ⟨S, hS⟩ : ∃ S, sm (sealB (es1.map (·.c))) = S := ⟨_, rfl⟩
          have HS := Lib.hid hS
          have hN29 : N0 ≤ 29 := by have h1 := HKL.out; have h2 := HN0.out; omega
          clear hN hkk hS
          refine (feedDelta sb rb (ks ++ ms).length (N0 : Int) 20 es1 (lastK (ks ++ ms) (ks ++ ms).length) _ HP8.out.1 HP8.out.2.1 HAS1.out hn1 HC1.out (by rw [HN.out]; have := HNS.out; omega) ms.length ms kk (lastK_len _ _ (Nat.le_refl _)) (by rw [HN.out]; have := HNS.out; omega) (by rw [HN.out]; have := HNS.out; omega) (by omega) HTL.out HKP.out (by omega)).mono ?_
          rintro e w9 ⟨da, n2, dc, rfl, hdk, hdc, hdm, hdat, hb⟩
          rw [HN.out, HS.out]
          have HDK := Lib.hid (show kk.length = n2 from by rw [← hdk, List.length_map])
          have hn213 : n2 ≤ 13 := by have := HDK.out; omega
          have HDA := Lib.hid hdat
          have HP9 := Lib.hid (HP8.out.ext hb)
          clear hdk hdat hb HP8
          go_wp2_with fail
          refine (feedFull sb rb (ks ++ ms).length 20 es1 (lastK (ks ++ ms) (ks ++ ms).length) _ HP9.out.1 HP9.out.2.1 hn1 HC1.out).mono ?_
          rintro e wA ⟨fa, k2, fc, rfl, hfk, hfc, hfm, hfat, hb⟩
          rw [HN.out, HS.out]
          have HFK := Lib.hid hfk
          have hk220 : k2 ≤ 20 := by rw [← hfk]; refine Nat.le_trans (seenL_len _) ?_; rw [List.length_map]; exact hn1
          have HFA := Lib.hid hfat
          have HDA2 := Lib.hid (HDA.out.ext hb)
          have HPA := Lib.hid (HP9.out.ext hb)
          have EA := Lib.hid (show Below wA.heap.size wA ((wA.alloc (.cells #[.int .i64 2, .int .i64 5, .int .i64 0, .int .i64 0, .int .i64 0, .int .i64 0, .int .i64 (N : Int), .string ⟨#[]⟩, .string ⟨#[]⟩, .bool false, .int .u32 S, .slice da n2 dc, .slice none 0 0] 38)).alloc (.cells #[.int .i64 2, .int .i64 5, .int .i64 0, .int .i64 0, .int .i64 0, .int .i64 0, .int .i64 (N : Int), .string ⟨#[]⟩, .string ⟨#[]⟩, .bool true, .int .u32 S, .slice fa k2 fc, .slice none 0 0] 38)) from ((Below.refl _ _).alloc (Nat.le_refl _) _).alloc (by simp) _)
          have HPD := Lib.hid (blk_alloc (blk_new wA #[.int .i64 2, .int .i64 5, .int .i64 0, .int .i64 0, .int .i64 0, .int .i64 0, .int .i64 (N : Int), .string ⟨#[]⟩, .string ⟨#[]⟩, .bool false, .int .u32 S, .slice da n2 dc, .slice none 0 0] 38) (.cells #[.int .i64 2, .int .i64 5, .int .i64 0, .int .i64 0, .int .i64 0, .int .i64 0, .int .i64 (N : Int), .string ⟨#[]⟩, .string ⟨#[]⟩, .bool true, .int .u32 S, .slice fa k2 fc, .slice none 0 0] 38))
          have HPF := Lib.hid (show ((wA.alloc (.cells #[.int .i64 2, .int .i64 5, .int .i64 0, .int .i64 0, .int .i64 0, .int .i64 0, .int .i64 (N : Int), .string ⟨#[]⟩, .string ⟨#[]⟩, .bool false, .int .u32 S, .slice da n2 dc, .slice none 0 0] 38)).alloc (.cells #[.int .i64 2, .int .i64 5, .int .i64 0, .int .i64 0, .int .i64 0, .int .i64 0, .int .i64 (N : Int), .string ⟨#[]⟩, .string ⟨#[]⟩, .bool true, .int .u32 S, .slice fa k2 fc, .slice none 0 0] 38)).heap[wA.heap.size + 1]? = some (.cells #[.int .i64 2, .int .i64 5, .int .i64 0, .int .i64 0, .int .i64 0, .int .i64 0, .int .i64 (N : Int), .string ⟨#[]⟩, .string ⟨#[]⟩, .bool true, .int .u32 S, .slice fa k2 fc, .slice none 0 0] 38 (0, 0)) from blk_new_at (by simp) _ _)
          clear hfk hfat hb HDA HP9
          go_upto_region 19 with (fail)
          obtain ⟨pd, hpd⟩ : ∃ pd, wA.heap.size = pd := ⟨_, rfl⟩
          rw [hpd] at HPD HPF
          try rw [hpd]
          obtain ⟨pf, hpf⟩ : ∃ pf, pd + 1 = pf := ⟨_, rfl⟩
          rw [hpf] at HPF
          try rw [hpf]
          have HDB := Lib.hid (HDA2.out.ext EA.out)
          have HFB := Lib.hid (HFA.out.ext EA.out)
          have HMB2 := Lib.hid (HPA.out.2.2.2.1.ext EA.out)
          have HD := Lib.hid (ext_trans HPA.out.2.2.2.2.1 EA.out)
          have hwm : w.heap.size ≤ mb := HPA.out.2.2.2.2.2.2.2.2
          clear hpd hpf HDA2 HFA HPA EA
          generalize ((wA.alloc (.cells #[.int .i64 2, .int .i64 5, .int .i64 0, .int .i64 0, .int .i64 0, .int .i64 0, .int .i64 (N : Int), .string ⟨#[]⟩, .string ⟨#[]⟩, .bool false, .int .u32 S, .slice da n2 dc, .slice none 0 0] 38)).alloc (.cells #[.int .i64 2, .int .i64 5, .int .i64 0, .int .i64 0, .int .i64 0, .int .i64 0, .int .i64 (N : Int), .string ⟨#[]⟩, .string ⟨#[]⟩, .bool true, .int .u32 S, .slice fa k2 fc, .slice none 0 0] 38)) = wB at *
          have hkd := blk_cell HPD.out
          have hld := blk_lt HPD.out
          have hkf := blk_cell HPF.out
          have hlf := blk_lt HPF.out
          go_wp2_with fail
          go_loopw [99] (fun j wr => ∃ (J2 : Nat) (Fl : List En), J2 ≤ n2 ∧ j = .int .i64 (J2 : Int) ∧ MpD wr mb (J + J2) Fl ∧ Fn (seenL (es.map (·.c))) ((kk.take J2).map (cur es1)) (kk.take J2) Fl ∧ Rim mb wB wr) (fun j _ => n2 - (intOf j).toNat)
          case atStart => exact ⟨0, _, by omega, rfl, HMB2.out, Fn.start _, Rim.of (Below.refl _ _)⟩
          case round =>
            obtain ⟨wr1, rfl⟩ : ∃ y : World, y = wr := ⟨_, rfl⟩
            obtain ⟨J2, Fl, hJ2, rfl, hmr, hfn, hrr⟩ := hrel
            have HMr := Lib.hid hmr
            have HFNr := Lib.hid hfn
            have HRr := Lib.hid hrr
            have HAr := Lib.hid (show CAt wr1 da (kk.map (cur es1)) from HDB.out.keep fun b cur hc _ => hrr.block b (HMB2.out.ne hc) (blk_lt hc))
            clear hmr hfn hrr hkd hld hkf hlf
            by_cases hlt2 : J2 < n2
            · obtain ⟨kj, hkj⟩ : ∃ kj, kk[J2]? = some kj := ⟨_, List.getElem?_eq_getElem (by rw [HDK.out]; exact hlt2)⟩
              have hin := HCH1.out.2 kj ((HKM.out kj).1 (List.mem_of_getElem? hkj))
              obtain ⟨hck, e9, he9, hec⟩ := cur_key hin
              have hcx : (kk.map (cur es1))[J2]? = some (cur es1 kj) := by rw [List.getElem?_map, hkj]; rfl
              have ht1 : kk.take (J2 + 1) = kk.take J2 ++ [kj] := by rw [List.take_add_one, hkj]; rfl
              have hBK : ∀ b ∈ (kk.take J2).map (cur es1), ck b ∈ kk.take J2 := fun b hb => by
                obtain ⟨q, hq, rfl⟩ := List.mem_map.1 hb
                rw [(cur_key (HCH1.out.2 q ((HKM.out q).1 (List.mem_of_mem_take hq)))).1]
                exact hq
              have hnk : kj ∉ kk.take J2 := fun hm => by
                have h8 : (kk.take (J2 + 1)).Nodup := HKN.out.sublist (List.take_sublist _ _)
                rw [ht1, List.nodup_append] at h8
                exact h8.2.2 kj hm kj (by simp) rfl
              have hks : KyS (ck (cur es1 kj)) := by rw [← hec]; exact HC1.out e9 he9
              have ht2 : (kk.take (J2 + 1)).map (cur es1) = (kk.take J2).map (cur es1) ++ [cur es1 kj] := by rw [ht1, List.map_append]; rfl
              rw [← hck] at ht1 hnk
              obtain ⟨c, hcu⟩ : ∃ c, cur es1 kj = c := ⟨_, rfl⟩
              rw [hcu] at hcx ht1 ht2 hnk hks
              have HBK := Lib.hid hBK
              clear hck hec he9 hcu hin hkj hBK
              obtain ⟨vb, vo, rfl⟩ : ∃ b o, da = some ⟨b, o, none⟩ := by
                rcases HAr.out with h | ⟨b, o, e, _⟩
                · rw [h] at hcx; simp at hcx
                · exact ⟨b, o, e⟩
              obtain ⟨y0, y1, y2, y3, y4, y5, y6, y7, y8⟩ := HAr.out.at hcx
              have hJn2 : (J2 : Int) < (n2 : Int) := by omega
              obtain ⟨ca, ci, cs, co, cl, ct, cq, cn, cg⟩ := c
              simp only at y0 y1 y2 y3 y4 y5 y6 y7 y8
              have HT1 := Lib.hid ht2
              have HT2 := Lib.hid ht1
              have HNK := Lib.hid hnk
              have HKC := Lib.hid (show KyS (ca, ci) from hks)
              clear hcx ht1 ht2 hnk hks
              cases cg
              · skip
                have D5 := Lib.hid (show Below wr1.heap.size wr1 (wr1.alloc (.cells #[.string ca, .string ci, .int .i64 cs, .int .i64 co, .int .i64 cl, .int .i64 ct, .int .i64 cq, .int .i64 cn, .bool false] 43)) from (Below.refl _ _).alloc (Nat.le_refl _) _)
                have HX5 := Lib.hid (blk_new wr1 #[.string ca, .string ci, .int .i64 cs, .int .i64 co, .int .i64 cl, .int .i64 ct, .int .i64 cq, .int .i64 cn, .bool false] 43)
                have HM5 := Lib.hid (HMr.out.ext D5.out)
                have HR5 := Lib.hid (HRr.out.trans (Rim.of D5.out))
                go_upto_region 24 with (fail)
                clear HMr HRr HAr y0 y1 y2 y3 y4 y5 y6 y7 y8 D5
                generalize (wr1.alloc (.cells #[.string ca, .string ci, .int .i64 cs, .int .i64 co, .int .i64 cl, .int .i64 ct, .int .i64 cq, .int .i64 cn, .bool false] 43)) = wr2 at *
                have hk5 := blk_cell HX5.out
                have hl5 := blk_lt HX5.out
                have HFN2 := Lib.hid (Fn.put HFNr.out HBK.out (c := (⟨ca, ci, cs, co, cl, ct, cq, cn, false⟩ : Cd)) HNK.out rfl)
                go_wp2_with (at_mapUpdate; refine wpMapStoreC _ rfl _ _ _ rfl mb (J + J2) Fl (zE (⟨ca, ci, cs, co, cl, ct, cq, cn, false⟩ : Cd) :: woK Fl (ca, ci)) rfl HM5.out (by unfold maxLen; omega) (zE (⟨ca, ci, cs, co, cl, ct, cq, cn, false⟩ : Cd)) rfl rfl HKC.out Fn.putset ?_; intro w7 hm7 hg7)
                have HM7 := Lib.hid hm7
                have HR7 := Lib.hid (HR5.out.trans (rim_grown hg7))
                clear hm7 hg7 HM5 HR5 hk5 hl5 HX5
                go_wp2
                go_roundw
                case rel => exact ⟨J2 + 1, _, by omega, by go_num, HM7.out, by rw [HT1.out, HT2.out]; exact HFN2.out, HR7.out⟩
                case measure => simp [intOf]; omega
              · skip
                have D5 := Lib.hid (show Below wr1.heap.size wr1 (wr1.alloc (.cells #[.string ca, .string ci, .int .i64 cs, .int .i64 co, .int .i64 cl, .int .i64 ct, .int .i64 cq, .int .i64 cn, .bool true] 43)) from (Below.refl _ _).alloc (Nat.le_refl _) _)
                have HX5 := Lib.hid (blk_new wr1 #[.string ca, .string ci, .int .i64 cs, .int .i64 co, .int .i64 cl, .int .i64 ct, .int .i64 cq, .int .i64 cn, .bool true] 43)
                have HM5 := Lib.hid (HMr.out.ext D5.out)
                have HR5 := Lib.hid (HRr.out.trans (Rim.of D5.out))
                go_upto_region 24 with (fail)
                clear HMr HRr HAr y0 y1 y2 y3 y4 y5 y6 y7 y8 D5
                generalize (wr1.alloc (.cells #[.string ca, .string ci, .int .i64 cs, .int .i64 co, .int .i64 cl, .int .i64 ct, .int .i64 cq, .int .i64 cn, .bool true] 43)) = wr2 at *
                have hk5 := blk_cell HX5.out
                have hl5 := blk_lt HX5.out
                have HFN2 := Lib.hid (Fn.del HFNr.out HBK.out (c := (⟨ca, ci, cs, co, cl, ct, cq, cn, true⟩ : Cd)) HNK.out rfl)
                go_wp2_with (at_delete; refine wpMapDelC _ rfl _ _ rfl mb (J + J2) Fl (woK Fl (ca, ci)) rfl HM5.out (ca, ci) rfl HKC.out (fun x => woK_mem) ?_; intro w7 hm7 hg7)
                have HM7 := Lib.hid (hm7.mono (Nat.le_succ (J + J2)))
                have HR7 := Lib.hid (HR5.out.trans (rim_grown hg7))
                clear hm7 hg7 HM5 HR5 hk5 hl5 HX5
                go_wp2
                go_roundw
                case rel => exact ⟨J2 + 1, _, by omega, by go_num, HM7.out, by rw [HT1.out, HT2.out]; exact HFN2.out, HR7.out⟩
                case measure => simp [intOf]; omega
            · obtain rfl : J2 = n2 := by omega
              have hlt3 : decide ((J2 : Int) < (J2 : Int)) = false := by simp
              have HGM := Lib.hid (show MpD wr1 mb (J + J2) ((seenL (es1.map (·.c))).map zE) from HMr.out.congr (by
                have h8 := HFNr.out
                rw [List.take_of_length_le (by rw [HDK.out]; exact Nat.le_refl _)] at h8
                exact Fn.done HAS1.out HCH1.out HKM.out h8))
              have HVr := Lib.hid (show CAt wr1 fa (seenL (es1.map (·.c))) from HFB.out.keep fun b cur hc _ => HRr.out.block b (HMB2.out.ne hc) (blk_lt hc))
              have HPr := Lib.hid ((HRr.out.block pf (HMB2.out.ne HPF.out) (blk_lt HPF.out)).trans HPF.out)
              have HDr := Lib.hid (HD.out.trans (HRr.out.below hwm HD.out.size))
              have HND2 := Lib.hid (seen_nd HAS1.out)
              obtain ⟨Dt, ho, hho⟩ := HGM.out
              have HHO := Lib.hid hho
              clear hho HGM HMr HFNr HRr HAr HDB HFB HMB2 HPD HPF HD
              go_wp2_with (first | (at_range; refine wpList_range_own _ rfl _ 31 rfl 33 43 keyedK Try.underlying31 RC mb (J + J2) Dt rfl ho ?_; intro wi hrg hg6 hs6) | go_in)
              obtain ⟨it, hit⟩ : ∃ it, wr1.heap.size = it := ⟨_, rfl⟩
              have HBi := Lib.hid (show Below wr1.heap.size wr1 wi from (Below.refl _ _).grown hg6 (Nat.le_refl _) (fun k hk => by cases hk))
              have hiti : it < wi.heap.size := by omega
              have hmbi : mb < wi.heap.size := by have := ho.lt; omega
              have HIT := Lib.hid hit
              rw [hit] at hrg
              try rw [hit]
              clear hit hg6 hs6
              obtain ⟨i0, hi, hz0, hz1, hz2⟩ := info_parts' info_card
              go_frame
              go_loopw [20] (fun l wr => ∃ (left : Lit → Bool) (cn : Nat) (ls : List Cd) (la : Option Addr) (lc : Nat), wr.ranges Try.prog 33 RC mb it (J + J2) Dt left cn ∧ Hid (∀ z, left z = true → Maps.has Dt z = true) ∧ Hid (Below wr1.heap.size wr1 wr) ∧ Tk left (seenL (es1.map (·.c))) ls ∧ l = .slice la ls.length lc ∧ OwnC wi.heap.size wr (.slice la ls.length lc) ls ∧ wi.heap.size ≤ wr.heap.size) (fun _ wr => wr.rangeLeft mb it)
              case atStart => exact ⟨_, _, [], none, 0, hrg, Lib.hid (fun z h => h), HBi, Tk.start HHO.out, rfl, OwnR.nil _ _, Nat.le_refl _⟩
              case round =>
                obtain ⟨w7, rfl⟩ : ∃ y : World, y = wr := ⟨_, rfl⟩
                obtain ⟨left, cn, ls, la, lc, hrg1, HLF, HBR, htk, rfl, hol, hsz⟩ := hrel
                have HTK := Lib.hid htk
                have HOL := Lib.hid hol
                have hll : ls.length ≤ 20 := by
                  have h8 := (List.Nodup.length_le_of_subset htk.1 (fun c hc => ((htk.2 c).1 hc).1))
                  have h9 := HFK.out
                  omega
                obtain ⟨ll, hll2⟩ : ∃ ll, ls.length = ll := ⟨_, rfl⟩
                have HLL := Lib.hid hll2
                rw [hll2] at HOL hll ⊢
                clear htk hol hll2 hrg
                go_wp2_with (first | (at_next; refine wpList_next_ranges _ rfl _ rfl 33 keyedK RC (fun x : Value => x) (fun c : Cd => .agg #[.string c.a, .string c.i, .int .i64 c.s, .int .i64 c.o, .int .i64 c.l, .int .i64 c.t, .int .i64 c.k, .int .i64 c.n, .bool c.g]) (fun key kl h => ⟨key, rfl⟩) (fun v y h => by obtain ⟨c, e, -⟩ := RC_inv h; exact ⟨c, e⟩) mb it (J + J2) Dt _ _ rfl hrg1 ?_ ?_) | go_in)
                · intro _ hl0
                  have hperm := HTK.out.all hl0 HND2.out
                  have hlk : k2 = ll := by rw [← HLL.out, hperm.length_eq]; exact HFK.out.symm
                  subst hlk
                  have HLC := Lib.hid (show ∀ x ∈ ls, CdS x from fun x hx => HFC.out x (hperm.mem_iff.1 hx))
                  have hse := seen_perm hperm HND2.out
                  have HSL := Lib.hid (show sm (sealB ls) = S from by unfold sealB; rw [hse]; exact HS.out)
                  obtain ⟨X, hX⟩ : ∃ X, sealB (es1.map (·.c)) = X := ⟨_, rfl⟩
                  have HXL := Lib.hid (show sealB ls = X from by unfold sealB; rw [hse]; exact hX)
                  have HXX := Lib.hid (show sealB (seenL (es1.map (·.c))) = X from by unfold sealB; rw [seenL_seenL2]; exact hX)
                  obtain ⟨SX, hSX⟩ : ∃ SX, strOfNums X = SX := ⟨_, rfl⟩
                  have HSX := Lib.hid hSX
                  obtain ⟨a', c', e1, hlc, -, hcat, -, -⟩ := HOL.out.read
                  simp only [Value.slice.injEq] at e1
                  obtain ⟨rfl, -, rfl⟩ := e1
                  rw [HLL.out] at hlc
                  have HL9 := Lib.hid (show CAt w7 la ls from hcat)
                  have HV9 := Lib.hid (HVr.out.ext HBR.out)
                  have HP9 := Lib.hid (blk_ext HBR.out HPr.out)
                  have HD9 := Lib.hid (ext_trans HDr.out HBR.out)
                  clear hl0 hperm hse hX hSX hcat hrg1 HOL HTK
                  obtain ⟨w9, hw9⟩ : ∃ y : World, y = w7 := ⟨_, rfl⟩
                  rw [← hw9] at HL9 HV9 HP9 HD9 ⊢
                  clear hw9
                  go_upto_region 33 with (fail)
                  have HPX0 := Lib.hid (blk_ext ((Below.refl w9.heap.size w9).drew) HP9.out)
                  have HLX0 := Lib.hid (HL9.out.ext ((Below.refl w9.heap.size w9).drew))
                  have HVX0 := Lib.hid (HV9.out.ext ((Below.refl w9.heap.size w9).drew))
                  have HDX0 := Lib.hid (ext_trans HD9.out ((Below.refl w9.heap.size w9).drew))
                  have HCL0 := HPX0
                  haveI hI0 : Nonempty (In (fun W : World => W.heap[pf]? = some (.cells #[.int .i64 2, .int .i64 5, .int .i64 0, .int .i64 0, .int .i64 0, .int .i64 0, .int .i64 (N : Int), .string ⟨#[]⟩, .string ⟨#[]⟩, .bool true, .int .u32 S, .slice fa k2 fc, .slice none 0 0] 38 (0, 0)))) := ⟨⟨_, HCL0.out⟩⟩
                  have hP0 : ∀ g : In (fun W : World => W.heap[pf]? = some (.cells #[.int .i64 2, .int .i64 5, .int .i64 0, .int .i64 0, .int .i64 0, .int .i64 0, .int .i64 (N : Int), .string ⟨#[]⟩, .string ⟨#[]⟩, .bool true, .int .u32 S, .slice fa k2 fc, .slice none 0 0] 38 (0, 0))), g.w.cell? ⟨pf, 10, none⟩ = some (.int .u32 S) := fun g => by rw [blk_cell g.h]; rfl
                  have hQ0 : ∀ g : In (fun W : World => W.heap[pf]? = some (.cells #[.int .i64 2, .int .i64 5, .int .i64 0, .int .i64 0, .int .i64 0, .int .i64 0, .int .i64 (N : Int), .string ⟨#[]⟩, .string ⟨#[]⟩, .bool true, .int .u32 S, .slice fa k2 fc, .slice none 0 0] 38 (0, 0))), g.w.cell? ⟨pf, 11, none⟩ = some (.slice fa k2 fc) := fun g => by rw [blk_cell g.h]; rfl
                  have hL0 : ∀ g : In (fun W : World => W.heap[pf]? = some (.cells #[.int .i64 2, .int .i64 5, .int .i64 0, .int .i64 0, .int .i64 0, .int .i64 0, .int .i64 (N : Int), .string ⟨#[]⟩, .string ⟨#[]⟩, .bool true, .int .u32 S, .slice fa k2 fc, .slice none 0 0] 38 (0, 0))), pf < g.w.heap.size := fun g => blk_lt g.h
                  refine Hist.wp_region_hist (fun W : World => W.heap[pf]? = some (.cells #[.int .i64 2, .int .i64 5, .int .i64 0, .int .i64 0, .int .i64 0, .int .i64 0, .int .i64 (N : Int), .string ⟨#[]⟩, .string ⟨#[]⟩, .bool true, .int .u32 S, .slice fa k2 fc, .slice none 0 0] 38 (0, 0))) (by kernel_rfl) (by kernel_rfl) (by kernel_rfl) HPX0.out ?_
                  clear HP9 HL9 HV9 HD9
                  generalize w9.drew = x0 at *
                  repeat (first | (refine Hist.wpG_plain 0 _ (by decide +kernel) rfl (by rfl) (by rfl) (fun K hK => ?_); go_big_quiet_op; refine hK _ ?_; clear hK K) | (refine Hist.wpG_skip (by rfl) (by rfl) ?_; simp only [Act.put, List.setIfInBounds_toArray, List.set_cons_succ, List.set_cons_zero]))
                  refine Hist.wpG_call (by rfl) (by rfl) (fun K hK => ?_)
                  go_big_op
                  refine (sealOf la k2 lc ls _ HLX0.out HLL.out hk220 hlc HLC.out).mono ?_
                  rintro e x1 ⟨rfl, hb⟩
                  rw [HSL.out]
                  have HPX1 := Lib.hid (blk_ext hb HPX0.out)
                  have HLX1 := Lib.hid (HLX0.out.ext hb)
                  have HVX1 := Lib.hid (HVX0.out.ext hb)
                  have HDX1 := Lib.hid (ext_trans HDX0.out hb)
                  refine hK _ _ ⟨(fun W : World => W.heap[pf]? = some (.cells #[.int .i64 2, .int .i64 5, .int .i64 0, .int .i64 0, .int .i64 0, .int .i64 0, .int .i64 (N : Int), .string ⟨#[]⟩, .string ⟨#[]⟩, .bool true, .int .u32 S, .slice fa k2 fc, .slice none 0 0] 38 (0, 0))), (by simp only [List.cons_append, List.nil_append, List.forall_mem_cons]; repeat' (first | exact HPX1.out | (intro _ h; cases h; done) | (exact trivial) | constructor)), ?_⟩
                  clear hK K hb HPX0 HLX0 HVX0 HDX0
                  repeat (first | (refine Hist.wpG_plain 1 _ (by decide +kernel) rfl (by rfl) (by rfl) (fun K hK => ?_); go_big_quiet_op; refine hK _ ?_; clear hK K) | (refine Hist.wpG_plain 0 _ (by decide +kernel) rfl (by rfl) (by rfl) (fun K hK => ?_); go_big_quiet_op; refine hK _ ?_; clear hK K) | (refine Hist.wpG_skip (by rfl) (by rfl) ?_; simp only [Act.put, List.setIfInBounds_toArray, List.set_cons_succ, List.set_cons_zero]))
                  refine Hist.wpG_call (by rfl) (by rfl) (fun K hK => ?_)
                  go_big_op
                  refine (sealBytes la k2 lc ls _ HLX1.out HLL.out hk220 hlc HLC.out).mono ?_
                  rintro e x2 ⟨v, rfl, ho, hb⟩
                  obtain ⟨ra2, rc2, rfl, -, -, -, hrb, -, -⟩ := own_read ho
                  rw [HXL.out] at hrb ⊢
                  have HPX2 := Lib.hid (blk_ext hb HPX1.out)
                  have HVX2 := Lib.hid (HVX1.out.ext hb)
                  have HDX2 := Lib.hid (ext_trans HDX1.out hb)
                  have HCL2 := Lib.hid (And.intro HPX2.out hrb)
                  haveI hI2 : Nonempty (In (fun W : World => (W.heap[pf]? = some (.cells #[.int .i64 2, .int .i64 5, .int .i64 0, .int .i64 0, .int .i64 0, .int .i64 0, .int .i64 (N : Int), .string ⟨#[]⟩, .string ⟨#[]⟩, .bool true, .int .u32 S, .slice fa k2 fc, .slice none 0 0] 38 (0, 0))) ∧ BAt W ra2 X)) := ⟨⟨_, HCL2.out⟩⟩
                  have hP2 : ∀ g : In (fun W : World => (W.heap[pf]? = some (.cells #[.int .i64 2, .int .i64 5, .int .i64 0, .int .i64 0, .int .i64 0, .int .i64 0, .int .i64 (N : Int), .string ⟨#[]⟩, .string ⟨#[]⟩, .bool true, .int .u32 S, .slice fa k2 fc, .slice none 0 0] 38 (0, 0))) ∧ BAt W ra2 X), g.w.cell? ⟨pf, 10, none⟩ = some (.int .u32 S) := fun g => by rw [blk_cell g.h.1]; rfl
                  have hQ2 : ∀ g : In (fun W : World => (W.heap[pf]? = some (.cells #[.int .i64 2, .int .i64 5, .int .i64 0, .int .i64 0, .int .i64 0, .int .i64 0, .int .i64 (N : Int), .string ⟨#[]⟩, .string ⟨#[]⟩, .bool true, .int .u32 S, .slice fa k2 fc, .slice none 0 0] 38 (0, 0))) ∧ BAt W ra2 X), g.w.cell? ⟨pf, 11, none⟩ = some (.slice fa k2 fc) := fun g => by rw [blk_cell g.h.1]; rfl
                  have hL2 : ∀ g : In (fun W : World => (W.heap[pf]? = some (.cells #[.int .i64 2, .int .i64 5, .int .i64 0, .int .i64 0, .int .i64 0, .int .i64 0, .int .i64 (N : Int), .string ⟨#[]⟩, .string ⟨#[]⟩, .bool true, .int .u32 S, .slice fa k2 fc, .slice none 0 0] 38 (0, 0))) ∧ BAt W ra2 X), pf < g.w.heap.size := fun g => blk_lt g.h.1
                  have FF2 : ∀ g : In (fun W : World => (W.heap[pf]? = some (.cells #[.int .i64 2, .int .i64 5, .int .i64 0, .int .i64 0, .int .i64 0, .int .i64 0, .int .i64 (N : Int), .string ⟨#[]⟩, .string ⟨#[]⟩, .bool true, .int .u32 S, .slice fa k2 fc, .slice none 0 0] 38 (0, 0))) ∧ BAt W ra2 X), (convert 57 9 (.slice ra2 X.length rc2)).run Try.prog g.w = .ok (.string SX) g.w := fun g => by have := bytes_text (c := rc2) g.w g.h.2 rfl; rw [HSX.out] at this; exact this
                  refine hK _ _ ⟨(fun W : World => (W.heap[pf]? = some (.cells #[.int .i64 2, .int .i64 5, .int .i64 0, .int .i64 0, .int .i64 0, .int .i64 0, .int .i64 (N : Int), .string ⟨#[]⟩, .string ⟨#[]⟩, .bool true, .int .u32 S, .slice fa k2 fc, .slice none 0 0] 38 (0, 0))) ∧ BAt W ra2 X), (by simp only [List.cons_append, List.nil_append, List.forall_mem_cons]; repeat' (first | exact HPX2.out | exact HCL2.out | exact (And.intro HPX2.out (hrb)) | (intro _ h; cases h; done) | (exact trivial) | constructor)), ?_⟩
                  clear hK K ho hb hrb HPX1 HDX1 HVX1
                  repeat (first | (refine Hist.wpG_plain 2 _ (by decide +kernel) rfl (by rfl) (by rfl) (fun K hK => ?_); go_big_quiet_op; refine hK _ ?_; clear hK K) | (refine Hist.wpG_plain 1 _ (by decide +kernel) rfl (by rfl) (by rfl) (fun K hK => ?_); go_big_quiet_op; refine hK _ ?_; clear hK K) | (refine Hist.wpG_plain 0 _ (by decide +kernel) rfl (by rfl) (by rfl) (fun K hK => ?_); go_big_quiet_op; refine hK _ ?_; clear hK K) | (refine Hist.wpG_skip (by rfl) (by rfl) ?_; simp only [Act.put, List.setIfInBounds_toArray, List.set_cons_succ, List.set_cons_zero]))
                  refine Hist.wpG_call (by rfl) (by rfl) (fun K hK => ?_)
                  go_big_op
                  refine (sealBytes fa k2 fc (seenL (es1.map (·.c))) _ HVX2.out HFK.out hk220 hfc HFC.out).mono ?_
                  rintro e x3 ⟨v, rfl, ho, hb⟩
                  have HB23 := Lib.hid hb
                  obtain ⟨ra3, rc3, rfl, -, -, -, hrb, -, -⟩ := own_read ho
                  rw [HXX.out] at hrb ⊢
                  have HPX3 := Lib.hid (blk_ext hb HPX2.out)
                  have HVX3 := Lib.hid (HVX2.out.ext hb)
                  have HDX3 := Lib.hid (ext_trans HDX2.out hb)
                  have HCL3 := Lib.hid (And.intro HPX3.out hrb)
                  haveI hI3 : Nonempty (In (fun W : World => (W.heap[pf]? = some (.cells #[.int .i64 2, .int .i64 5, .int .i64 0, .int .i64 0, .int .i64 0, .int .i64 0, .int .i64 (N : Int), .string ⟨#[]⟩, .string ⟨#[]⟩, .bool true, .int .u32 S, .slice fa k2 fc, .slice none 0 0] 38 (0, 0))) ∧ BAt W ra3 X)) := ⟨⟨_, HCL3.out⟩⟩
                  have hP3 : ∀ g : In (fun W : World => (W.heap[pf]? = some (.cells #[.int .i64 2, .int .i64 5, .int .i64 0, .int .i64 0, .int .i64 0, .int .i64 0, .int .i64 (N : Int), .string ⟨#[]⟩, .string ⟨#[]⟩, .bool true, .int .u32 S, .slice fa k2 fc, .slice none 0 0] 38 (0, 0))) ∧ BAt W ra3 X), g.w.cell? ⟨pf, 10, none⟩ = some (.int .u32 S) := fun g => by rw [blk_cell g.h.1]; rfl
                  have hQ3 : ∀ g : In (fun W : World => (W.heap[pf]? = some (.cells #[.int .i64 2, .int .i64 5, .int .i64 0, .int .i64 0, .int .i64 0, .int .i64 0, .int .i64 (N : Int), .string ⟨#[]⟩, .string ⟨#[]⟩, .bool true, .int .u32 S, .slice fa k2 fc, .slice none 0 0] 38 (0, 0))) ∧ BAt W ra3 X), g.w.cell? ⟨pf, 11, none⟩ = some (.slice fa k2 fc) := fun g => by rw [blk_cell g.h.1]; rfl
                  have hL3 : ∀ g : In (fun W : World => (W.heap[pf]? = some (.cells #[.int .i64 2, .int .i64 5, .int .i64 0, .int .i64 0, .int .i64 0, .int .i64 0, .int .i64 (N : Int), .string ⟨#[]⟩, .string ⟨#[]⟩, .bool true, .int .u32 S, .slice fa k2 fc, .slice none 0 0] 38 (0, 0))) ∧ BAt W ra3 X), pf < g.w.heap.size := fun g => blk_lt g.h.1
                  have FF3 : ∀ g : In (fun W : World => (W.heap[pf]? = some (.cells #[.int .i64 2, .int .i64 5, .int .i64 0, .int .i64 0, .int .i64 0, .int .i64 0, .int .i64 (N : Int), .string ⟨#[]⟩, .string ⟨#[]⟩, .bool true, .int .u32 S, .slice fa k2 fc, .slice none 0 0] 38 (0, 0))) ∧ BAt W ra3 X), (convert 57 9 (.slice ra3 X.length rc3)).run Try.prog g.w = .ok (.string SX) g.w := fun g => by have := bytes_text (c := rc3) g.w g.h.2 rfl; rw [HSX.out] at this; exact this
                  refine hK _ _ ⟨(fun W : World => (W.heap[pf]? = some (.cells #[.int .i64 2, .int .i64 5, .int .i64 0, .int .i64 0, .int .i64 0, .int .i64 0, .int .i64 (N : Int), .string ⟨#[]⟩, .string ⟨#[]⟩, .bool true, .int .u32 S, .slice fa k2 fc, .slice none 0 0] 38 (0, 0))) ∧ BAt W ra3 X), (by simp only [List.cons_append, List.nil_append, List.forall_mem_cons]; repeat' (first | exact HPX3.out | exact HCL3.out | exact (And.intro HPX3.out (BAt.ext HCL2.out.2 hb)) | (intro _ h; cases h; done) | (exact trivial) | constructor)), ?_⟩
                  clear hK K ho hb hrb HPX2 HDX2 HVX2
                  repeat (first | (refine Hist.wpG_plain 3 _ (by decide +kernel) rfl (by rfl) (by rfl) (fun K hK => ?_); go_big_quiet_op; refine hK _ ?_; clear hK K) | (refine Hist.wpG_plain 2 _ (by decide +kernel) rfl (by rfl) (by rfl) (fun K hK => ?_); go_big_quiet_op; refine hK _ ?_; clear hK K) | (refine Hist.wpG_plain 1 _ (by decide +kernel) rfl (by rfl) (by rfl) (fun K hK => ?_); go_big_quiet_op; refine hK _ ?_; clear hK K) | (refine Hist.wpG_plain 0 _ (by decide +kernel) rfl (by rfl) (by rfl) (fun K hK => ?_); go_big_quiet_op; refine hK _ ?_; clear hK K) | (refine Hist.wpG_skip (by rfl) (by rfl) ?_; simp only [Act.put, List.setIfInBounds_toArray, List.set_cons_succ, List.set_cons_zero]))
                  refine Hist.wpG_call (by rfl) (by rfl) (fun K hK => ?_)
                  go_big_op
                  refine (law15known _).mono ?_
                  rintro e x4 ⟨rfl, hb⟩
                  have HPX4 := Lib.hid (blk_ext hb HPX3.out)
                  have HDX4 := Lib.hid (ext_trans HDX3.out hb)
                  refine hK _ _ ⟨(fun W : World => W.heap[pf]? = some (.cells #[.int .i64 2, .int .i64 5, .int .i64 0, .int .i64 0, .int .i64 0, .int .i64 0, .int .i64 (N : Int), .string ⟨#[]⟩, .string ⟨#[]⟩, .bool true, .int .u32 S, .slice fa k2 fc, .slice none 0 0] 38 (0, 0))), (by simp only [List.cons_append, List.nil_append, List.forall_mem_cons]; repeat' (first | exact HPX4.out | exact (And.intro HPX4.out (BAt.ext HCL3.out.2 hb)) | exact (And.intro HPX4.out (BAt.ext (BAt.ext HCL2.out.2 HB23.out) hb)) | (intro _ h; cases h; done) | (exact trivial) | constructor)), ?_⟩
                  clear hK K hb
                  repeat (first | (refine Hist.wpG_plain 4 _ (by decide +kernel) rfl (by rfl) (by rfl) (fun K hK => ?_); go_big_quiet_op; refine hK _ ?_; clear hK K) | (refine Hist.wpG_plain 3 _ (by decide +kernel) rfl (by rfl) (by rfl) (fun K hK => ?_); go_big_quiet_op; refine hK _ ?_; clear hK K) | (refine Hist.wpG_plain 2 _ (by decide +kernel) rfl (by rfl) (by rfl) (fun K hK => ?_); go_big_quiet_op; refine hK _ ?_; clear hK K) | (refine Hist.wpG_plain 1 _ (by decide +kernel) rfl (by rfl) (by rfl) (fun K hK => ?_); go_big_quiet_op; refine hK _ ?_; clear hK K) | (refine Hist.wpG_plain 0 _ (by decide +kernel) rfl (by rfl) (by rfl) (fun K hK => ?_); go_big_quiet_op; refine hK _ ?_; clear hK K) | (refine Hist.wpG_skip (by rfl) (by rfl) ?_; simp only [Act.put, List.setIfInBounds_toArray, List.set_cons_succ, List.set_cons_zero]))
                  refine Hist.wpG_nil ?_
                  clear hI0 hP0 hQ0 hL0 hI2 hP2 hQ2 hL2 FF2 hI3 hP3 hQ3 hL3 FF3
                  go_wp2
                  go_ret
                  exact ⟨rfl, HDX4.out⟩
                · intro key c kl y ys wn cn1 hkey hlk hv hat hrg2 hlt3 hg2 hs2 hen
                  obtain ⟨e0, he0, hkl, hks⟩ := HHO.out.no (HLF.out kl hlk)
                  obtain ⟨c0, hc0m, rfl⟩ := List.mem_map.1 he0
                  have hc0 : c = c0 := by
                    have h1 : RC (.agg #[.string c.a, .string c.i, .int .i64 c.s, .int .i64 c.o, .int .i64 c.l, .int .i64 c.t, .int .i64 c.k, .int .i64 c.n, .bool c.g]) = some (y, ys) := hv
                    rw [RC_mk] at h1
                    have h2 : y = .held c := by simpa using (congrArg (Option.map Prod.fst) h1).symm
                    have h3 := (HHO.out.1 (zE c0) he0).2.2 (.held c)
                    rw [← hkl, hat, h2] at h3
                    simpa [zE] using h3
                  subst hc0
                  have HTK2 := Lib.hid (HTK.out.step HHO.out HND2.out hc0m (by rw [← show kl = klit (ck c) from hkl]; exact hlk))
                  rw [← show kl = klit (ck c) from hkl] at HTK2
                  have HLE1 := Lib.hid hrg1.left_eq
                  have HLT3 := Lib.hid hlt3
                  have HLF2 := Lib.hid (show ∀ z, (left z && !z.sameKey kl) = true → Maps.has Dt z = true from fun z hz => HLF.out z (by simp only [Bool.and_eq_true] at hz; exact hz.1))
                  obtain ⟨L2, hL2⟩ : ∃ L2 : Lit → Bool, L2 = fun z => left z && !z.sameKey kl := ⟨_, rfl⟩
                  rw [← hL2] at HTK2 hrg2
                  have HLF3 := Lib.hid (show ∀ z, L2 z = true → Maps.has Dt z = true from by rw [hL2]; exact HLF2.out)
                  have HRG2 := Lib.hid hrg2
                  have HBn := Lib.hid (show Below wr1.heap.size wr1 wn from HBR.out.grown hg2 HBR.out.size (fun j hj => by simp at hj; have := HIT.out; omega))
                  have HOn := Lib.hid (show OwnC wi.heap.size wn (.slice la ll lc) ls from ownsRow_grown HOL.out hg2 hiti)
                  have hszn : wi.heap.size ≤ wn.heap.size := by omega
                  have Dm := Lib.hid (show Below wn.heap.size wn (wn.alloc (.cells #[.string c.a, .string c.i, .int .i64 c.s, .int .i64 c.o, .int .i64 c.l, .int .i64 c.t, .int .i64 c.k, .int .i64 c.n, .bool c.g] 43)) from (Below.refl _ _).alloc (Nat.le_refl _) _)
                  have HXm := Lib.hid (blk_new wn #[.string c.a, .string c.i, .int .i64 c.s, .int .i64 c.o, .int .i64 c.l, .int .i64 c.t, .int .i64 c.k, .int .i64 c.n, .bool c.g] 43)
                  clear hkey hlk hv hat hrg2 hlt3 hkl hks hrg1 hg2 hs2 hL2 he0 hc0m HTK HOL
                  go_upto_region 32 with (fail)
                  clear hen
                  have HBm := Lib.hid (HBn.out.trans (Dm.out.mono HBn.out.size))
                  have HOm := Lib.hid (OwnR.ext HOn.out Dm.out)
                  have HRm := Lib.hid (ranges_ext HRG2.out Dm.out)
                  have hszm : wi.heap.size ≤ (wn.alloc (.cells #[.string c.a, .string c.i, .int .i64 c.s, .int .i64 c.o, .int .i64 c.l, .int .i64 c.t, .int .i64 c.k, .int .i64 c.n, .bool c.g] 43)).heap.size := Nat.le_trans hszn Dm.out.size
                  clear HBn HOn HRG2 Dm
                  generalize (wn.alloc (.cells #[.string c.a, .string c.i, .int .i64 c.s, .int .i64 c.o, .int .i64 c.l, .int .i64 c.t, .int .i64 c.k, .int .i64 c.n, .bool c.g] 43)) = wm at *
                  have hkm := blk_cell HXm.out
                  have hlm := blk_lt HXm.out
                  have Eb := Lib.hid (show Below wm.heap.size wm (wm.alloc (.cells #[.string c.a, .string c.i, .int .i64 c.s, .int .i64 c.o, .int .i64 c.l, .int .i64 c.t, .int .i64 c.k, .int .i64 c.n, .bool c.g] 43)) from (Below.refl _ _).alloc (Nat.le_refl _) _)
                  have HOb := Lib.hid (show (wm.alloc (.cells #[.string c.a, .string c.i, .int .i64 c.s, .int .i64 c.o, .int .i64 c.l, .int .i64 c.t, .int .i64 c.k, .int .i64 c.n, .bool c.g] 43)).ownsRow wi.heap.size 43 9 (.slice la ll lc) ll (flat cc ls) from by
                    have h8 := OwnR.ext HOm.out Eb.out
                    unfold OwnR at h8
                    rwa [HLL.out] at h8)
                  have HVb := Lib.hid (blk_new wm #[.string c.a, .string c.i, .int .i64 c.s, .int .i64 c.o, .int .i64 c.l, .int .i64 c.t, .int .i64 c.k, .int .i64 c.n, .bool c.g] 43)
                  have HBb := Lib.hid (HBm.out.trans (Eb.out.mono HBm.out.size))
                  have HRb := Lib.hid (ranges_ext HRm.out Eb.out)
                  have hszb : wi.heap.size ≤ (wm.alloc (.cells #[.string c.a, .string c.i, .int .i64 c.s, .int .i64 c.o, .int .i64 c.l, .int .i64 c.t, .int .i64 c.k, .int .i64 c.n, .bool c.g] 43)).heap.size := Nat.le_trans hszm Eb.out.size
                  go_wp2_with (at_builtin; refine wpList_append_own _ rfl _ _ 35 rfl (wi.heap.size) 43 i0 Cd.zero.v 9 88 Try.underlying35 hi hz0 hz1 hz2 rfl (by decide) (.slice la ll lc) ll (flat cc ls) rfl HOb.out ⟨wm.heap.size, 0, none⟩ 1 1 (cc c) rfl rfl ?c1 ?c2 ?c3 ?c4 ?c5 ?_)
                  case c1 => intro j u hj; rw [add_off, Nat.zero_add, blk_cell HVb.out]; simpa [cc] using hj
                  case c2 => exact cc_one c
                  case c3 => unfold maxLen; omega
                  case c4 => omega
                  case c5 => exact hszb
                  intro v5 w5 ho5 hg5 _
                  have HB5 := Lib.hid (show Below wr1.heap.size wr1 w5 from HBb.out.grown hg5 HBb.out.size (fun q hq => by have := own_ge HOb.out hq; have := HIT.out; omega))
                  have HO5 := Lib.hid (show OwnC wi.heap.size w5 v5 (ls ++ [c]) from by unfold OwnC OwnR; rw [flat_snoc, List.length_append, HLL.out]; exact ho5)
                  have HR5 := Lib.hid (HRb.out.kept hg5 (fun e => by have := own_ge HOb.out e.symm; omega) (fun e => by have := own_ge HOb.out e.symm; omega))
                  have hsz5 : wi.heap.size ≤ w5.heap.size := Nat.le_trans hszb hg5.size
                  obtain ⟨a5, c5, rfl, -, -, -⟩ := OwnR.form HO5.out
                  clear ho5 hg5 HOb HVb HBb HRb HOm HRm HBm hkm hlm
                  go_wp2
                  go_roundw
                  case rel => exact ⟨L2, cn1, ls ++ [c], a5, c5, HR5.out, HLF3, HB5, HTK2.out, rfl, HO5.out, hsz5⟩
                  case measure => rw [HR5.out.left_eq, HLE1.out]; exact HLT3.out
        · obtain ⟨M, rfl⟩ : ∃ M', M = M' + 1 := ⟨M - 1, by omega⟩
          have hdM : decide (0 < ((M + 1 : Nat) : Int)) = true := decide_eq_true (by omega)
          have hM9 : M ≤ 12 := by omega
          go_wp2_with fail
          refine (tapeCardF sa slen scap sz tb _ HP8.out.2.2.1 (show RowOk sa slen scap sz _ tb from ⟨HR2.out.ext HP8.out.2.2.2.2.1, HNE.out⟩)).mono ?_
          rintro e w3 ⟨x, rfl, -, hka, hki, ht, hb⟩
          have HKA := Lib.hid hka
          have HKI := Lib.hid hki
          have HP9' := Lib.hid (HP8.out.t ht hb)
          have D4 := Lib.hid (show Below w3.heap.size w3 (w3.alloc (.cells #[.string x.a, .string x.i, .int .i64 x.s, .int .i64 x.o, .int .i64 x.l, .int .i64 x.t, .int .i64 x.k, .int .i64 x.n, .bool x.g] 43)) from (Below.refl _ _).alloc (Nat.le_refl _) _)
          have HX9 := Lib.hid (blk_new w3 #[.string x.a, .string x.i, .int .i64 x.s, .int .i64 x.o, .int .i64 x.l, .int .i64 x.t, .int .i64 x.k, .int .i64 x.n, .bool x.g] 43)
          have HP9 := Lib.hid (HP9'.out.ext D4.out)
          have hlt3 := (show sb < w3.heap.size ∧ rb < w3.heap.size from ⟨HP9'.out.1.lt, HP9'.out.2.1.lt⟩)
          clear hka hki ht hb HP8 HP9' D4 hdM
          go_upto_region 16 with (fail)
          obtain ⟨p, hp⟩ : ∃ p, w3.heap.size = p := ⟨_, rfl⟩
          rw [hp] at HX9 hlt3
          try rw [hp]
          have HNP := Lib.hid (show p ≠ sb ∧ p ≠ rb from ⟨by omega, by omega⟩)
          clear hp hlt3
          generalize (w3.alloc (.cells #[.string x.a, .string x.i, .int .i64 x.s, .int .i64 x.o, .int .i64 x.l, .int .i64 x.t, .int .i64 x.k, .int .i64 x.n, .bool x.g] 43)) = w9 at *
          have hk9 := blk_cell HX9.out
          have hl9 := blk_lt HX9.out
          cases hin : isIn (enK (⟨x, 0⟩ : En)) es1
          · skip
            have HAS2 := Lib.hid (show Asc (insAt es1 (low (enK (⟨x, 0⟩ : En)) es1) (⟨x, 0⟩ : En)) from asc_ins HAS1.out hin)
            have HKK2 := Lib.hid (show ∀ e ∈ (insAt es1 (low (enK (⟨x, 0⟩ : En)) es1) (⟨x, 0⟩ : En)), KA e.c.a ∧ KI e.c.i from fun y hy => by rcases (mem_ins HAS1.out hin _).1 hy with rfl | hy; (· exact ⟨HKA.out, HKI.out⟩); (· exact HKK1.out y hy.1))
            have HCH2 := Lib.hid (HCH1.out.put HAS2.out (⟨x, 0⟩ : En) (fun y => mem_ins HAS1.out hin _))
            have HF2 := Lib.hid (show es1.length + 1 ≤ 20 from by have := few HAS2.out HKK2.out; rw [insAt_len] at this; exact this)
            go_wp2_with fail
            refine (shPutNew sb 20 es1 (⟨x, 0⟩ : En) _ HP9.out.1 HAS1.out (by have := HFEW.out; omega) hin (by have := HF2.out; omega)).mono ?_
            rintro e w10 ⟨rfl, hs, hr⟩
            have HP10 := Lib.hid (HP9.out.s hs hr)
            have HX10 := Lib.hid ((hr.block p HNP.out.1 (blk_lt HX9.out)).trans HX9.out)
            obtain ⟨es3, hes⟩ : ∃ es3, (insAt es1 (low (enK (⟨x, 0⟩ : En)) es1) (⟨x, 0⟩ : En)) = es3 := ⟨_, rfl⟩
            rw [hes] at HP10 HAS2 HKK2 HCH2
            clear hs hr HP9 HX9 hk9 hl9 hes
            have hk10 := blk_cell HX10.out
            have hl10 := blk_lt HX10.out
            go_wp2_with fail
            refine (recentAdd rb (ks ++ ms).length (lastK (ks ++ ms) (ks ++ ms).length) (x.a, x.i) _ HP10.out.2.1 (by rw [lastK_len _ _ (Nat.le_refl _)]; omega) (by rw [List.length_append]; have := HKL.out; omega)).mono ?_
            rintro e w11 ⟨rfl, hs, hr⟩
            have HP11 := Lib.hid (HP10.out.r (ms := ks ++ (ms ++ [(x.a, x.i)])) (by have h9 := hs; have e9 : (ks ++ ms ++ [(x.a, x.i)]).length = (ks ++ ms).length + 1 := List.length_append; rw [addK_all, e9] at h9; rw [← List.append_assoc, e9]; exact h9) hr)
            have HML := Lib.hid (show (ms ++ [(x.a, x.i)]).length + M ≤ 13 from by rw [List.length_append]; simp only [List.length_cons, List.length_nil]; omega)
            clear hs hr HP10 HX10 hk10 hl10
            go_wp2
            go_roundw
            case rel => exact ⟨M, es3, ms ++ [(x.a, x.i)], by go_num, HML.out, HP11.out, HAS2.out, HKK2.out, HCH2.out⟩
            case measure => simp [intOf]
          · skip
            have HAS2 := Lib.hid (show Asc (es1.set (low (enK (⟨x, 0⟩ : En)) es1) (⟨x, 0⟩ : En)) from asc_put HAS1.out hin)
            have HKK2 := Lib.hid (show ∀ e ∈ (es1.set (low (enK (⟨x, 0⟩ : En)) es1) (⟨x, 0⟩ : En)), KA e.c.a ∧ KI e.c.i from fun y hy => by rcases (mem_set HAS1.out hin).1 hy with rfl | hy; (· exact ⟨HKA.out, HKI.out⟩); (· exact HKK1.out y hy.1))
            have HCH2 := Lib.hid (HCH1.out.put HAS2.out (⟨x, 0⟩ : En) (fun y => mem_set HAS1.out hin))
            go_wp2_with fail
            refine (shPutIn sb 20 es1 (⟨x, 0⟩ : En) _ HP9.out.1 HAS1.out (by have := HFEW.out; omega) hin).mono ?_
            rintro e w10 ⟨rfl, hs, hr⟩
            have HP10 := Lib.hid (HP9.out.s hs hr)
            have HX10 := Lib.hid ((hr.block p HNP.out.1 (blk_lt HX9.out)).trans HX9.out)
            obtain ⟨es3, hes⟩ : ∃ es3, (es1.set (low (enK (⟨x, 0⟩ : En)) es1) (⟨x, 0⟩ : En)) = es3 := ⟨_, rfl⟩
            rw [hes] at HP10 HAS2 HKK2 HCH2
            clear hs hr HP9 HX9 hk9 hl9 hes
            have hk10 := blk_cell HX10.out
            have hl10 := blk_lt HX10.out
            go_wp2_with fail
            refine (recentAdd rb (ks ++ ms).length (lastK (ks ++ ms) (ks ++ ms).length) (x.a, x.i) _ HP10.out.2.1 (by rw [lastK_len _ _ (Nat.le_refl _)]; omega) (by rw [List.length_append]; have := HKL.out; omega)).mono ?_
            rintro e w11 ⟨rfl, hs, hr⟩
            have HP11 := Lib.hid (HP10.out.r (ms := ks ++ (ms ++ [(x.a, x.i)])) (by have h9 := hs; have e9 : (ks ++ ms ++ [(x.a, x.i)]).length = (ks ++ ms).length + 1 := List.length_append; rw [addK_all, e9] at h9; rw [← List.append_assoc, e9]; exact h9) hr)
            have HML := Lib.hid (show (ms ++ [(x.a, x.i)]).length + M ≤ 13 from by rw [List.length_append]; simp only [List.length_cons, List.length_nil]; omega)
            clear hs hr HP10 HX10 hk10 hl10
            go_wp2
            go_roundw
            case rel => exact ⟨M, es3, ms ++ [(x.a, x.i)], by go_num, HML.out, HP11.out, HAS2.out, HKK2.out, HCH2.out⟩
            case measure => simp [intOf]

end Go.Proofs.Ytgnmlkomgokimaa
