/- CacheHolds: the walk. -/
import Derived.Test.YtkhcgopehmndgaaCacQ
import Derived.Test.YtkhcgopehmndgaaOpenBools
import Derived.Test.YtkhcgopehmndgaaHist
namespace Go.Proofs.Ytkhcgopehmndgaa
open Go.RowKit
set_option linter.unusedVariables false
set_option linter.unusedSimpArgs false

theorem bytes_text (w : World) {a : Option Addr} {n c : Nat} {xs : List Int} (h : BAt w a xs) (hl : xs.length = n) : (convert 62 9 (.slice a n c)).run Try.prog w = .ok (.string (strOfNums xs)) w :=
  run_text w 62 5 Try.underlying62 Try.underlying5 9 Try.underlying9 a n c xs hl h
set_option maxRecDepth 100000 in
set_option maxHeartbeats 16000000 in
theorem cacheHolds_walk (ra : Option Addr) (rlen rcap : Nat) (rz : List Int) (la : Option Addr) (llen lcap : Nat) (Z : Nat → Bool) (w : World) (hr : IsRow .i64 w ra rlen rcap rz) (hr8 : rlen * 8 ≤ 140737488351232) (hlost : IsBools w la llen lcap Z) :
    Calls Try.prog 4 #[.slice ra rlen rcap, .slice la llen lcap] w fun r w' => r = .returned (.bool true) ∧ Below w.heap.size w w' := by
  have D1 := Lib.hid (show Below w.heap.size w (w.alloc (.cells #[.slice ra rlen rcap, .int .i64 0] 29)) from (Below.refl _ _).alloc (Nat.le_refl _) _)
  have HT1 := Lib.hid (tapeK_new (a := ra) (len := rlen) (cap := rcap) w)
  have HR := Lib.hid hr
  have HNE := Lib.hid (rowOk_new hr (.cells #[.slice ra rlen rcap, .int .i64 0] 29)).2
  have HLO := Lib.hid hlost
  have hlm := hlost.1
  have hlm2 := hlost.2.1
  unfold maxLen at hlm2
  clear hr hlost
  go_enter Try.func4, Try.ntmps4
  go_upto_region 2 with (fail)
  obtain ⟨tb, htb⟩ : ∃ tb, w.heap.size = tb := ⟨_, rfl⟩
  have HTB := Lib.hid (show w.heap.size ≤ tb by omega)
  rw [htb] at HT1 HNE
  try rw [htb]
  clear htb
  generalize (w.alloc (.cells #[.slice ra rlen rcap, .int .i64 0] 29)) = w1 at *
  go_wp2_with fail
  refine (shNew 20 _ (by omega)).mono ?_
  rintro e w2 ⟨rfl, hs2, hb⟩
  obtain ⟨sb, hsb⟩ : ∃ sb, w1.heap.size = sb := ⟨_, rfl⟩
  have HSB := Lib.hid (show w.heap.size ≤ sb from by rw [← hsb]; exact D1.out.size)
  rw [hsb] at hs2
  try rw [hsb]
  have HS2 := Lib.hid (show ShP w2 sb 20 [] from hs2)
  have HT2 := Lib.hid (HT1.out.ext hb)
  have D2 := Lib.hid (ext_trans D1.out hb)
  clear hs2 hb hsb HT1 D1
  go_wp2_with fail
  refine (recentNew _).mono ?_
  rintro e w3 ⟨rfl, hq3, hb⟩
  obtain ⟨rb, hrb⟩ : ∃ rb, w2.heap.size = rb := ⟨_, rfl⟩
  have HRB := Lib.hid (show w.heap.size ≤ rb from by rw [← hrb]; exact D2.out.size)
  rw [hrb] at hq3
  try rw [hrb]
  have HQ3 := Lib.hid hq3
  have HS3 := Lib.hid (HS2.out.ext hb)
  have HT3 := Lib.hid (HT2.out.ext hb)
  have D3 := Lib.hid (ext_trans D2.out hb)
  clear hq3 hb hrb HT2 HS2 D2
  go_wp2_with fail
  refine (cacheNew _).mono ?_
  rintro e w4 ⟨rfl, hp, hb⟩
  obtain ⟨cb, hcb⟩ : ∃ cb, w3.heap.size = cb := ⟨_, rfl⟩
  have HCB := Lib.hid (show w.heap.size ≤ cb from by rw [← hcb]; exact D3.out.size)
  rw [hcb] at hp
  try rw [hcb]
  have HK4 := Lib.hid (show KQ w ra rlen rcap sb rb tb cb (-1) [] [] [] w4 from ⟨HS3.out.ext hb, HQ3.out.ext hb, HT3.out.ext hb, hp, ext_trans D3.out hb, HSB.out, HRB.out, HTB.out, HCB.out⟩)
  clear hp hb hcb HT3 HS3 HQ3 D3
  go_wp2_with fail
  go_loopw [9, 10] (fun av i wr => ∃ (I : Nat) (A q : Int) (es : List En) (cs : List Cd) (ks : List Ky), I ≤ 12 ∧ av = .int .i64 A ∧ i = .int .i64 (I : Int) ∧ (A = -1 ∨ A = (ks.length : Int)) ∧ ks.length ≤ 3 * I ∧ KQ w ra rlen rcap sb rb tb cb q es cs ks wr ∧ Asc es ∧ (∀ e ∈ es, CdF e.c) ∧ WfC cs ∧ Ch [] es ks) (fun av i _ => 12 - (intOf i).toNat)
  case atStart => exact ⟨0, -1, -1, [], [], [], by omega, rfl, rfl, .inl rfl, by simp, HK4.out, List.Pairwise.nil, fun e he => (by cases he), WfC.nil, Ch.nil []⟩
  case round =>
    obtain ⟨w5, rfl⟩ : ∃ y : World, y = wr := ⟨_, rfl⟩
    obtain ⟨I, A, q, es, cs, ks, hI, rfl, rfl, haa, hkl0, hkq, has, hkk, hwc, hch⟩ := hrel
    have HK5 := Lib.hid hkq
    have HAA := Lib.hid haa
    have HAS := Lib.hid has
    have HKK := Lib.hid hkk
    have HWC := Lib.hid hwc
    have HCH := Lib.hid hch
    clear haa hkq has hkk hwc hch HK4
    by_cases hlt : I < 12
    · have hdI : decide ((I : Int) < 12) = true := by simp; omega
      go_wp2_with fail
      refine (tapeNextK ra rlen rcap rz tb 4 _ HK5.out.2.2.1 (show RowOk ra rlen rcap rz _ tb from ⟨HR.out.ext HK5.out.2.2.2.2.1, HNE.out⟩) (by omega) (by omega)).mono ?_
      rintro e w7 ⟨v, rfl, v0, v1, ht, hb⟩
      have HP7 := Lib.hid (HK5.out.t ht hb)
      obtain ⟨M0, rfl⟩ : ∃ M0 : Nat, v = (M0 : Int) := ⟨v.toNat, by omega⟩
      have hM0 : M0 ≤ 3 := by omega
      clear ht hb HK5 v0 v1
      go_wp2_with fail
      go_loopw [11] (fun n wr => ∃ (M : Nat) (es1 : List En) (ms : List Ky), n = .int .i64 (M : Int) ∧ ms.length + M ≤ 3 ∧ KQ w ra rlen rcap sb rb tb cb q es1 cs (ks ++ ms) wr ∧ Asc es1 ∧ (∀ e ∈ es1, CdF e.c) ∧ Ch [] es1 (ks ++ ms)) (fun n _ => (intOf n).toNat)
      case atStart => exact ⟨M0, es, [], rfl, by simpa using hM0, by rw [List.append_nil]; exact HP7.out, HAS.out, HKK.out, by rw [List.append_nil]; exact HCH.out⟩
      case round =>
        obtain ⟨w8, rfl⟩ : ∃ y : World, y = wr := ⟨_, rfl⟩
        obtain ⟨M, es1, ms, rfl, hml, hp, has1, hkk1, hch1⟩ := hrel
        have HP8 := Lib.hid hp
        have HAS1 := Lib.hid has1
        have HKK1 := Lib.hid hkk1
        have HCH1 := Lib.hid hch1
        have HFEW := Lib.hid (few_of has1 hkk1)
        clear hp has1 hkk1 hch1 HP7
        by_cases hM : M = 0
        · subst hM
          have hdM : decide ((0 : Int) < ((0 : Nat) : Int)) = false := by simp
          have HCE1 := Lib.hid (cds_of HKK1.out)
          have HCS1 := Lib.hid (show ∀ x ∈ (es1.map (·.c)), CdS x from fun x hx => by obtain ⟨e, he, rfl⟩ := List.mem_map.1 hx; exact HCE1.out e he)
          have hn20 := HFEW.out
          have HWS := Lib.hid (seen_wf HAS1.out HKK1.out)
          have HSR := Lib.hid (show ∀ x ∈ (seenL (es1.map (·.c))), CdR x from fun x hx => (HWS.out.2 x hx).1)
          have HSG := Lib.hid (show ∀ x ∈ (seenL (es1.map (·.c))), x.g = false from fun x hx => (HWS.out.2 x hx).2.2.2)
          have HSP := Lib.hid (seen_pw HAS1.out)
          have HSC := Lib.hid (show ∀ x ∈ (seenL (es1.map (·.c))), CdS x from fun x hx => HCS1.out x (seenL_mem hx).1)
          obtain ⟨S, hS⟩ : ∃ S, sm (sealB (es1.map (·.c))) = S := ⟨_, rfl⟩
          have HS := Lib.hid hS
          have HSS := Lib.hid (show sm (sealB (seenL (es1.map (·.c)))) = S from by rw [sealB_seen]; exact hS)
          obtain ⟨X, hX⟩ : ∃ X, sealB (es1.map (·.c)) = X := ⟨_, rfl⟩
          have HXX := Lib.hid hX
          have HXS := Lib.hid (show sealB (seenL (es1.map (·.c))) = X from by rw [sealB_seen]; exact hX)
          obtain ⟨SX, hSX⟩ : ∃ SX, strOfNums X = SX := ⟨_, rfl⟩
          have HSX := Lib.hid hSX
          clear hS hX hSX
          obtain ⟨ks1, hks1⟩ : ∃ ks1, ks ++ ms = ks1 := ⟨_, rfl⟩
          obtain ⟨N, hN⟩ : ∃ N, ks1.length = N := ⟨_, rfl⟩
          have HN := Lib.hid hN
          have HNK := Lib.hid (show N = ks.length + ms.length from by rw [← hN, ← hks1, List.length_append])
          have HDR := Lib.hid (show ks1.drop (N - ms.length) = ms from by rw [← hks1, show N - ms.length = ks.length from by have := HNK.out; omega, List.drop_left])
          have hms3 : ms.length ≤ 3 := by omega
          have hN39 : N ≤ 3 * I + 3 := by have := HNK.out; omega
          rw [hks1] at HP8 HCH1
          have HK13 := HP8
          clear hN hks1 HP8
          by_cases hA : A = -1
          · subst hA
            go_wp2_with fail
            refine (feedDeltaNo sb rb ks1.length (-1) 20 es1 (lastK ks1 ks1.length) _ HK13.out.1 HK13.out.2.1 HAS1.out hn20 HCE1.out (by rw [HN.out]; omega) (by omega)).mono ?_
            rintro e w14 ⟨ma, mn, mc, rfl, hml2, hmc, hmm, hmat, hb⟩
            rw [HN.out, HS.out]
            have HML := Lib.hid hml2
            have hmn20 : mn ≤ 20 := by rw [← hml2]; exact HWS.out.len
            have HK14 := Lib.hid (HK13.out.ext hb)
            have E15 := Lib.hid (show Below w14.heap.size w14 (w14.alloc (.cells #[.int .i64 2, .int .i64 5, .int .i64 0, .int .i64 0, .int .i64 0, .int .i64 0, .int .i64 (N : Int), .string ⟨#[]⟩, .string ⟨#[]⟩, .bool true, .int .u32 S, .slice ma mn mc, .slice none 0 0] 36)) from (Below.refl _ _).alloc (Nat.le_refl _) _)
            have HMX := Lib.hid (blk_new w14 #[.int .i64 2, .int .i64 5, .int .i64 0, .int .i64 0, .int .i64 0, .int .i64 0, .int .i64 (N : Int), .string ⟨#[]⟩, .string ⟨#[]⟩, .bool true, .int .u32 S, .slice ma mn mc, .slice none 0 0] 36)
            have HMA := Lib.hid (hmat.ext E15.out)
            have HK15 := Lib.hid (HK14.out.ext E15.out)
            clear hb hml2 hmat HK13 HK14 E15
            go_upto_region 16 with (fail)
            obtain ⟨m, hm⟩ : ∃ m, w14.heap.size = m := ⟨_, rfl⟩
            rw [hm] at HMX
            try rw [hm]
            clear hm
            generalize (w14.alloc (.cells #[.int .i64 2, .int .i64 5, .int .i64 0, .int .i64 0, .int .i64 0, .int .i64 0, .int .i64 (N : Int), .string ⟨#[]⟩, .string ⟨#[]⟩, .bool true, .int .u32 S, .slice ma mn mc, .slice none 0 0] 36)) = w15 at *
            by_cases hil : I < llen
            · obtain ⟨lb, lo, hla⟩ : ∃ b o, la = some ⟨b, o, none⟩ := by
                rcases HLO.out.2.2 with h | ⟨b, o, e, _⟩
                · omega
                · exact ⟨b, o, e⟩
              subst hla
              have hcl : w15.cell? ⟨lb, lo + I, none⟩ = some (.bool (Z I)) := by
                rcases (HLO.out.ext HK15.out.2.2.2.2.1).2.2 with h | ⟨b, o, e, h9⟩
                · omega
                · have e2 : b = lb ∧ o = lo := by simp at e; exact ⟨e.1.symm, e.2.symm⟩
                  obtain ⟨rfl, rfl⟩ := e2
                  exact h9 I hil
              have hd3 : decide ((I : Int) < (llen : Int)) = true := by simp; omega
              have hd4 : (I : Int) < (llen : Int) := by omega
              cases hz : Z I
              · rw [hz] at hcl
                clear hz
                have hkx := blk_cell HMX.out
                have hlx := blk_lt HMX.out
                go_wp2_with fail
                refine (applyFull cb mn mc ma q (N : Int) S cs (seenL (es1.map (·.c))) _ HK15.out.2.2.2.1 HMA.out HML.out hmn20 HSR.out HSG.out HSP.out (by omega) HSS.out).mono ?_
                rintro e wa ⟨rfl, hp, hr⟩
                have HKa := Lib.hid (HK15.out.c hp hr)
                clear hp hr hkx hlx HMX HMA HK15
                go_wp2_with fail
                refine (cacheCards cb (N : Int) (seenL (es1.map (·.c))) _ HKa.out.2.2.2.1 (by have := HML.out; omega)).mono ?_
                rintro e wb ⟨v, rfl, ho, hb⟩
                obtain ⟨ga, gc, rfl, hgc, hgm, hgat, -, -⟩ := ho.read
                rw [HML.out] at hgc ⊢
                have HGA := Lib.hid hgat
                have HKb := Lib.hid (HKa.out.ext hb)
                clear ho hb hgat HKa
                go_wp2_with fail
                refine (refSeal9 ga mn gc (seenL (es1.map (·.c))) _ HGA.out HML.out (by omega) hgc HSC.out).mono ?_
                rintro e wc ⟨rfl, hb⟩
                rw [HSS.out]
                have HKc := Lib.hid (HKb.out.ext hb)
                clear hb HKb HGA
                go_wp2_with fail
                refine (shCards sb 20 es1 _ HKc.out.1 (by omega)).mono ?_
                rintro e wd ⟨v, rfl, ho, hb⟩
                obtain ⟨ha, hc, rfl, hhc, hhm, hhat, -, -⟩ := ho.read
                obtain ⟨n1, hn1⟩ : ∃ n1, (es1.map (·.c)).length = n1 := ⟨_, rfl⟩
                have HN1 := Lib.hid hn1
                have hn120 : n1 ≤ 20 := by rw [← hn1, List.length_map]; omega
                rw [hn1] at hhc ⊢
                have HHA := Lib.hid hhat
                have HKd := Lib.hid (HKc.out.ext hb)
                clear ho hb hhat hn1 HKc
                go_wp2_with fail
                refine (refSeal9 ha n1 hc (es1.map (·.c)) _ HHA.out HN1.out hn120 hhc HCS1.out).mono ?_
                rintro e we ⟨rfl, hb⟩
                rw [HS.out]
                have HKe := Lib.hid (HKd.out.ext hb)
                clear hb HKd HHA
                have hss : (S == S) = true := by simp
                go_wp2_with fail
                refine (cacheSince cb (N : Int) (seenL (es1.map (·.c))) _ HKe.out.2.2.2.1).mono ?_
                rintro e wf ⟨rfl, hb⟩
                have HKf := Lib.hid (HKe.out.ext hb)
                clear hb HKe
                go_wp2_with fail
                refine (recentSeq rb ks1.length (lastK ks1 ks1.length) _ HKf.out.2.1).mono ?_
                rintro e wg ⟨rfl, hwg⟩
                rw [HN.out]
                rw [hwg] at HKf
                clear hwg
                have hnn : ((N : Int) == (N : Int)) = true := by simp
                go_wp2
                go_roundw
                case rel => exact ⟨I + 1, (N : Int), (N : Int), es1, (seenL (es1.map (·.c))), ks1, by omega, rfl, by go_num, .inr (by rw [HN.out]), by rw [HN.out]; omega, HKf.out, HAS1.out, HKK1.out, HWS.out, HCH1.out⟩
                case measure => simp [intOf]; omega
              · rw [hz] at hcl
                clear hz
                have hkx := blk_cell HMX.out
                have hlx := blk_lt HMX.out
                go_wp2
                go_roundw
                case rel => exact ⟨I + 1, (N : Int), q, es1, cs, ks1, by omega, rfl, by go_num, .inr (by rw [HN.out]), by rw [HN.out]; omega, HK15.out, HAS1.out, HKK1.out, HWC.out, HCH1.out⟩
                case measure => simp [intOf]; omega
            · have hd3 : decide ((I : Int) < (llen : Int)) = false := by simp; omega
              have hkx := blk_cell HMX.out
              have hlx := blk_lt HMX.out
              go_wp2_with fail
              refine (applyFull cb mn mc ma q (N : Int) S cs (seenL (es1.map (·.c))) _ HK15.out.2.2.2.1 HMA.out HML.out hmn20 HSR.out HSG.out HSP.out (by omega) HSS.out).mono ?_
              rintro e wa ⟨rfl, hp, hr⟩
              have HKa := Lib.hid (HK15.out.c hp hr)
              clear hp hr hkx hlx HMX HMA HK15
              go_wp2_with fail
              refine (cacheCards cb (N : Int) (seenL (es1.map (·.c))) _ HKa.out.2.2.2.1 (by have := HML.out; omega)).mono ?_
              rintro e wb ⟨v, rfl, ho, hb⟩
              obtain ⟨ga, gc, rfl, hgc, hgm, hgat, -, -⟩ := ho.read
              rw [HML.out] at hgc ⊢
              have HGA := Lib.hid hgat
              have HKb := Lib.hid (HKa.out.ext hb)
              clear ho hb hgat HKa
              go_wp2_with fail
              refine (refSeal9 ga mn gc (seenL (es1.map (·.c))) _ HGA.out HML.out (by omega) hgc HSC.out).mono ?_
              rintro e wc ⟨rfl, hb⟩
              rw [HSS.out]
              have HKc := Lib.hid (HKb.out.ext hb)
              clear hb HKb HGA
              go_wp2_with fail
              refine (shCards sb 20 es1 _ HKc.out.1 (by omega)).mono ?_
              rintro e wd ⟨v, rfl, ho, hb⟩
              obtain ⟨ha, hc, rfl, hhc, hhm, hhat, -, -⟩ := ho.read
              obtain ⟨n1, hn1⟩ : ∃ n1, (es1.map (·.c)).length = n1 := ⟨_, rfl⟩
              have HN1 := Lib.hid hn1
              have hn120 : n1 ≤ 20 := by rw [← hn1, List.length_map]; omega
              rw [hn1] at hhc ⊢
              have HHA := Lib.hid hhat
              have HKd := Lib.hid (HKc.out.ext hb)
              clear ho hb hhat hn1 HKc
              go_wp2_with fail
              refine (refSeal9 ha n1 hc (es1.map (·.c)) _ HHA.out HN1.out hn120 hhc HCS1.out).mono ?_
              rintro e we ⟨rfl, hb⟩
              rw [HS.out]
              have HKe := Lib.hid (HKd.out.ext hb)
              clear hb HKd HHA
              have hss : (S == S) = true := by simp
              go_wp2_with fail
              refine (cacheSince cb (N : Int) (seenL (es1.map (·.c))) _ HKe.out.2.2.2.1).mono ?_
              rintro e wf ⟨rfl, hb⟩
              have HKf := Lib.hid (HKe.out.ext hb)
              clear hb HKe
              go_wp2_with fail
              refine (recentSeq rb ks1.length (lastK ks1 ks1.length) _ HKf.out.2.1).mono ?_
              rintro e wg ⟨rfl, hwg⟩
              rw [HN.out]
              rw [hwg] at HKf
              clear hwg
              have hnn : ((N : Int) == (N : Int)) = true := by simp
              go_wp2
              go_roundw
              case rel => exact ⟨I + 1, (N : Int), (N : Int), es1, (seenL (es1.map (·.c))), ks1, by omega, rfl, by go_num, .inr (by rw [HN.out]), by rw [HN.out]; omega, HKf.out, HAS1.out, HKK1.out, HWS.out, HCH1.out⟩
              case measure => simp [intOf]; omega

          · have HAK := Lib.hid (show A = (N : Int) - ms.length from by have := HNK.out; rcases HAA.out with h | h; (· exact absurd h hA); (· omega))
            have HTL := Lib.hid (show (lastK ks1 ks1.length).drop ((lastK ks1 ks1.length).length - ms.length) = ms from by
              rw [lastK_tail (Nat.le_refl _) (by rw [HN.out]; have := HNK.out; omega) (by omega), List.take_length, HN.out, HDR.out])
            obtain ⟨kk, hkk⟩ : ∃ kk, kp ms ms.length = kk := ⟨_, rfl⟩
            have HKP := Lib.hid hkk
            have hkl : kk.length ≤ 3 := by rw [← hkk]; exact Nat.le_trans (kp_len _ _) hms3
            have HKS := Lib.hid (show ∀ k ∈ kk, k ∈ ks1 from fun k hk => by
              rw [← hkk] at hk
              have h1 := kp_sub ms ms.length k hk
              rw [← HDR.out] at h1
              exact List.mem_of_mem_drop h1)
            clear hkk
            go_wp2_with fail
            refine (feedDelta sb rb ks1.length A 20 es1 (lastK ks1 ks1.length) _ HK13.out.1 HK13.out.2.1 HAS1.out hn20 HCE1.out (by rw [HN.out]; omega) ms.length ms kk (lastK_len _ _ (Nat.le_refl _)) (by rw [HN.out]; exact HAK.out) (by rw [HN.out]; have := HNK.out; omega) (by omega) HTL.out HKP.out (by omega)).mono ?_
            rintro e w14 ⟨ma, mn, mc, rfl, hml2, hmc, hmm, hmat, hb⟩
            rw [HN.out, HS.out]
            have HML := Lib.hid hml2
            have hmn20 : mn ≤ 20 := by rw [← hml2, List.length_map]; omega
            have HMR := Lib.hid (cur_all HCH1.out (fun k hk => HKS.out k hk) HKK1.out)
            have HK14 := Lib.hid (HK13.out.ext hb)
            have E15 := Lib.hid (show Below w14.heap.size w14 (w14.alloc (.cells #[.int .i64 2, .int .i64 5, .int .i64 0, .int .i64 0, .int .i64 0, .int .i64 0, .int .i64 (N : Int), .string ⟨#[]⟩, .string ⟨#[]⟩, .bool false, .int .u32 S, .slice ma mn mc, .slice none 0 0] 36)) from (Below.refl _ _).alloc (Nat.le_refl _) _)
            have HMX := Lib.hid (blk_new w14 #[.int .i64 2, .int .i64 5, .int .i64 0, .int .i64 0, .int .i64 0, .int .i64 0, .int .i64 (N : Int), .string ⟨#[]⟩, .string ⟨#[]⟩, .bool false, .int .u32 S, .slice ma mn mc, .slice none 0 0] 36)
            have HMA := Lib.hid (hmat.ext E15.out)
            have HK15 := Lib.hid (HK14.out.ext E15.out)
            clear hb hml2 hmat HK13 HK14 E15
            go_upto_region 16 with (fail)
            obtain ⟨m, hm⟩ : ∃ m, w14.heap.size = m := ⟨_, rfl⟩
            rw [hm] at HMX
            try rw [hm]
            clear hm
            generalize (w14.alloc (.cells #[.int .i64 2, .int .i64 5, .int .i64 0, .int .i64 0, .int .i64 0, .int .i64 0, .int .i64 (N : Int), .string ⟨#[]⟩, .string ⟨#[]⟩, .bool false, .int .u32 S, .slice ma mn mc, .slice none 0 0] 36)) = w15 at *
            by_cases hil : I < llen
            · obtain ⟨lb, lo, hla⟩ : ∃ b o, la = some ⟨b, o, none⟩ := by
                rcases HLO.out.2.2 with h | ⟨b, o, e, _⟩
                · omega
                · exact ⟨b, o, e⟩
              subst hla
              have hcl : w15.cell? ⟨lb, lo + I, none⟩ = some (.bool (Z I)) := by
                rcases (HLO.out.ext HK15.out.2.2.2.2.1).2.2 with h | ⟨b, o, e, h9⟩
                · omega
                · have e2 : b = lb ∧ o = lo := by simp at e; exact ⟨e.1.symm, e.2.symm⟩
                  obtain ⟨rfl, rfl⟩ := e2
                  exact h9 I hil
              have hd3 : decide ((I : Int) < (llen : Int)) = true := by simp; omega
              have hd4 : (I : Int) < (llen : Int) := by omega
              cases hz : Z I
              · rw [hz] at hcl
                clear hz
                have hkx := blk_cell HMX.out
                have hlx := blk_lt HMX.out
                go_wp2_with fail
                by_cases hq : q = -1
                · subst hq
                  refine (applyNever cb mn mc ma (N : Int) S cs (kk.map (cur es1)) _ HK15.out.2.2.2.1 HMA.out HML.out hmn20 (fun x hx => (HMR.out x hx).1) (by omega)).mono ?_
                  rintro e wa ⟨rfl, hb⟩
                  have HKa := Lib.hid (HK15.out.ext hb)
                  clear hb hkx hlx HMX HMA HK15
                  have hIq0 := HKa
                  have HKx0 := Lib.hid (HKa.out.ext ((Below.refl wa.heap.size wa).drew))
                  go_upto_region 21 with (fail)
                  haveI hI0 : Nonempty (In (fun _ : World => True)) := ⟨⟨wa, trivial⟩⟩
                  refine Hist.wp_region_hist (fun _ => True) (by kernel_rfl) (by kernel_rfl) (by kernel_rfl) trivial ?_
                  clear HKa hIq0
                  generalize wa.drew = x0 at *
                  repeat (first | (refine Hist.wpG_plain 0 _ (by decide +kernel) rfl (by rfl) (by rfl) (fun K hK => ?_); go_big_quiet_op; refine hK _ ?_; clear hK K) | (refine Hist.wpG_skip (by rfl) (by rfl) ?_; simp only [Act.put, List.setIfInBounds_toArray, List.set_cons_succ, List.set_cons_zero]))
                  refine Hist.wpG_call (by rfl) (by rfl) (fun K hK => ?_)
                  go_big_op
                  refine (cacheSince cb (-1) cs _ HKx0.out.2.2.2.1).mono ?_
                  rintro e x1 ⟨rfl, hb⟩
                  have HKx1 := Lib.hid (HKx0.out.ext hb)
                  refine hK _ _ ⟨fun _ => True, (by simp only [List.cons_append, List.nil_append, List.forall_mem_cons]; repeat' (first | exact trivial | (intro _ h; cases h; done) | (exact trivial) | constructor)), ?_⟩
                  clear hK K hb HKx0
                  repeat (first | (refine Hist.wpG_plain 1 _ (by decide +kernel) rfl (by rfl) (by rfl) (fun K hK => ?_); go_big_quiet_op; refine hK _ ?_; clear hK K) | (refine Hist.wpG_plain 0 _ (by decide +kernel) rfl (by rfl) (by rfl) (fun K hK => ?_); go_big_quiet_op; refine hK _ ?_; clear hK K) | (refine Hist.wpG_skip (by rfl) (by rfl) ?_; simp only [Act.put, List.setIfInBounds_toArray, List.set_cons_succ, List.set_cons_zero]))
                  refine Hist.wpG_call (by rfl) (by rfl) (fun K hK => ?_)
                  go_big_op
                  refine (feedFull sb rb ks1.length 20 es1 (lastK ks1 ks1.length) _ HKx1.out.1 HKx1.out.2.1 hn20 HCE1.out).mono ?_
                  rintro e x2 ⟨va, k, vc, rfl, hk, hvc, hvm, hvat, hb⟩
                  rw [HN.out, HS.out]
                  have HKL := Lib.hid hk
                  have hk20 : k ≤ 20 := by rw [← hk]; exact HWS.out.len
                  have HVA := Lib.hid hvat
                  have HKx2 := Lib.hid (HKx1.out.ext hb)
                  refine hK _ _ ⟨fun _ => True, (by simp only [List.cons_append, List.nil_append, List.forall_mem_cons]; repeat' (first | exact trivial | (intro _ h; cases h; done) | (exact trivial) | constructor)), ?_⟩
                  clear hK K hb hk hvat HKx1
                  repeat (first | (refine Hist.wpG_plain 2 _ (by decide +kernel) rfl (by rfl) (by rfl) (fun K hK => ?_); go_big_quiet_op; refine hK _ ?_; clear hK K) | (refine Hist.wpG_plain 1 _ (by decide +kernel) rfl (by rfl) (by rfl) (fun K hK => ?_); go_big_quiet_op; refine hK _ ?_; clear hK K) | (refine Hist.wpG_plain 0 _ (by decide +kernel) rfl (by rfl) (by rfl) (fun K hK => ?_); go_big_quiet_op; refine hK _ ?_; clear hK K) | (refine Hist.wpG_skip (by rfl) (by rfl) ?_; simp only [Act.put, List.setIfInBounds_toArray, List.set_cons_succ, List.set_cons_zero]))
                  refine Hist.wpG_call (by rfl) (by rfl) (fun K hK => ?_)
                  go_big_op
                  refine (applyFull cb k vc va (-1) (N : Int) S cs (seenL (es1.map (·.c))) _ HKx2.out.2.2.2.1 HVA.out HKL.out hk20 HSR.out HSG.out HSP.out (by omega) HSS.out).mono ?_
                  rintro e x3 ⟨rfl, hp, hr⟩
                  have HKx3 := Lib.hid (HKx2.out.c hp hr)
                  refine hK _ _ ⟨fun _ => True, (by simp only [List.cons_append, List.nil_append, List.forall_mem_cons]; repeat' (first | exact trivial | (intro _ h; cases h; done) | (exact trivial) | constructor)), ?_⟩
                  clear hK K hp hr HKx2 HVA
                  repeat (first | (refine Hist.wpG_plain 3 _ (by decide +kernel) rfl (by rfl) (by rfl) (fun K hK => ?_); go_big_quiet_op; refine hK _ ?_; clear hK K) | (refine Hist.wpG_plain 2 _ (by decide +kernel) rfl (by rfl) (by rfl) (fun K hK => ?_); go_big_quiet_op; refine hK _ ?_; clear hK K) | (refine Hist.wpG_plain 1 _ (by decide +kernel) rfl (by rfl) (by rfl) (fun K hK => ?_); go_big_quiet_op; refine hK _ ?_; clear hK K) | (refine Hist.wpG_plain 0 _ (by decide +kernel) rfl (by rfl) (by rfl) (fun K hK => ?_); go_big_quiet_op; refine hK _ ?_; clear hK K) | (refine Hist.wpG_skip (by rfl) (by rfl) ?_; simp only [Act.put, List.setIfInBounds_toArray, List.set_cons_succ, List.set_cons_zero]))
                  refine Hist.wpG_call (by rfl) (by rfl) (fun K hK => ?_)
                  go_big_op
                  refine (cacheCards cb (N : Int) (seenL (es1.map (·.c))) _ HKx3.out.2.2.2.1 (by have := HKL.out; omega)).mono ?_
                  rintro e x4 ⟨v, rfl, ho, hb⟩
                  obtain ⟨ga, gc, rfl, hgc, hgm, hgat, -, -⟩ := ho.read
                  rw [HKL.out] at hgc ⊢
                  have HGA := Lib.hid hgat
                  have HKx4 := Lib.hid (HKx3.out.ext hb)
                  refine hK _ _ ⟨fun _ => True, (by simp only [List.cons_append, List.nil_append, List.forall_mem_cons]; repeat' (first | exact trivial | (intro _ h; cases h; done) | (exact trivial) | constructor)), ?_⟩
                  clear hK K ho hb hgat HKx3
                  repeat (first | (refine Hist.wpG_plain 4 _ (by decide +kernel) rfl (by rfl) (by rfl) (fun K hK => ?_); go_big_quiet_op; refine hK _ ?_; clear hK K) | (refine Hist.wpG_plain 3 _ (by decide +kernel) rfl (by rfl) (by rfl) (fun K hK => ?_); go_big_quiet_op; refine hK _ ?_; clear hK K) | (refine Hist.wpG_plain 2 _ (by decide +kernel) rfl (by rfl) (by rfl) (fun K hK => ?_); go_big_quiet_op; refine hK _ ?_; clear hK K) | (refine Hist.wpG_plain 1 _ (by decide +kernel) rfl (by rfl) (by rfl) (fun K hK => ?_); go_big_quiet_op; refine hK _ ?_; clear hK K) | (refine Hist.wpG_plain 0 _ (by decide +kernel) rfl (by rfl) (by rfl) (fun K hK => ?_); go_big_quiet_op; refine hK _ ?_; clear hK K) | (refine Hist.wpG_skip (by rfl) (by rfl) ?_; simp only [Act.put, List.setIfInBounds_toArray, List.set_cons_succ, List.set_cons_zero]))
                  refine Hist.wpG_call (by rfl) (by rfl) (fun K hK => ?_)
                  go_big_op
                  refine (refBytes9 ga k gc (seenL (es1.map (·.c))) _ HGA.out HKL.out hk20 hgc HSC.out).mono ?_
                  rintro e x5 ⟨v, rfl, ho, hb⟩
                  obtain ⟨rr1, rc1, rfl, -, -, -, hrb, -, -⟩ := own_read ho
                  rw [HXS.out] at hrb ⊢
                  have HKx5 := Lib.hid (HKx4.out.ext hb)
                  have HBB1 := Lib.hid hrb
                  have FF1 : ∀ g : In (fun W : World => BAt W rr1 X), (convert 62 9 (.slice rr1 X.length rc1)).run Try.prog g.w = .ok (.string SX) g.w := fun g => by have := bytes_text (c := rc1) g.w g.h rfl; rw [HSX.out] at this; exact this
                  haveI hI1 : Nonempty (In (fun W : World => BAt W rr1 X)) := ⟨⟨_, HBB1.out⟩⟩
                  refine hK _ _ ⟨(fun W : World => BAt W rr1 X), (by simp only [List.cons_append, List.nil_append, List.forall_mem_cons]; repeat' (first | exact HBB1.out | (intro _ h; cases h; done) | (exact trivial) | constructor)), ?_⟩
                  clear hK K ho hb hrb HKx4 HGA
                  repeat (first | (refine Hist.wpG_plain 5 _ (by decide +kernel) rfl (by rfl) (by rfl) (fun K hK => ?_); go_big_quiet_op; refine hK _ ?_; clear hK K) | (refine Hist.wpG_plain 4 _ (by decide +kernel) rfl (by rfl) (by rfl) (fun K hK => ?_); go_big_quiet_op; refine hK _ ?_; clear hK K) | (refine Hist.wpG_plain 3 _ (by decide +kernel) rfl (by rfl) (by rfl) (fun K hK => ?_); go_big_quiet_op; refine hK _ ?_; clear hK K) | (refine Hist.wpG_plain 2 _ (by decide +kernel) rfl (by rfl) (by rfl) (fun K hK => ?_); go_big_quiet_op; refine hK _ ?_; clear hK K) | (refine Hist.wpG_plain 1 _ (by decide +kernel) rfl (by rfl) (by rfl) (fun K hK => ?_); go_big_quiet_op; refine hK _ ?_; clear hK K) | (refine Hist.wpG_plain 0 _ (by decide +kernel) rfl (by rfl) (by rfl) (fun K hK => ?_); go_big_quiet_op; refine hK _ ?_; clear hK K) | (refine Hist.wpG_skip (by rfl) (by rfl) ?_; simp only [Act.put, List.setIfInBounds_toArray, List.set_cons_succ, List.set_cons_zero]))
                  refine Hist.wpG_call (by rfl) (by rfl) (fun K hK => ?_)
                  go_big_op
                  refine (shCards sb 20 es1 _ HKx5.out.1 (by omega)).mono ?_
                  rintro e x6 ⟨v, rfl, ho, hb⟩
                  obtain ⟨ha, hc, rfl, hhc, hhm, hhat, -, -⟩ := ho.read
                  obtain ⟨n1, hn1⟩ : ∃ n1, (es1.map (·.c)).length = n1 := ⟨_, rfl⟩
                  have HN1 := Lib.hid hn1
                  have hn120 : n1 ≤ 20 := by rw [← hn1, List.length_map]; omega
                  rw [hn1] at hhc ⊢
                  have HHA := Lib.hid hhat
                  have HKx6 := Lib.hid (HKx5.out.ext hb)
                  have HBB6 := Lib.hid (BAt.ext HBB1.out hb)
                  refine hK _ _ ⟨fun _ => True, (by simp only [List.cons_append, List.nil_append, List.forall_mem_cons]; repeat' (first | exact HBB6.out | (intro _ h; cases h; done) | (exact trivial) | constructor)), ?_⟩
                  clear hK K ho hb hhat hn1 HKx5
                  repeat (first | (refine Hist.wpG_plain 6 _ (by decide +kernel) rfl (by rfl) (by rfl) (fun K hK => ?_); go_big_quiet_op; refine hK _ ?_; clear hK K) | (refine Hist.wpG_plain 5 _ (by decide +kernel) rfl (by rfl) (by rfl) (fun K hK => ?_); go_big_quiet_op; refine hK _ ?_; clear hK K) | (refine Hist.wpG_plain 4 _ (by decide +kernel) rfl (by rfl) (by rfl) (fun K hK => ?_); go_big_quiet_op; refine hK _ ?_; clear hK K) | (refine Hist.wpG_plain 3 _ (by decide +kernel) rfl (by rfl) (by rfl) (fun K hK => ?_); go_big_quiet_op; refine hK _ ?_; clear hK K) | (refine Hist.wpG_plain 2 _ (by decide +kernel) rfl (by rfl) (by rfl) (fun K hK => ?_); go_big_quiet_op; refine hK _ ?_; clear hK K) | (refine Hist.wpG_plain 1 _ (by decide +kernel) rfl (by rfl) (by rfl) (fun K hK => ?_); go_big_quiet_op; refine hK _ ?_; clear hK K) | (refine Hist.wpG_plain 0 _ (by decide +kernel) rfl (by rfl) (by rfl) (fun K hK => ?_); go_big_quiet_op; refine hK _ ?_; clear hK K) | (refine Hist.wpG_skip (by rfl) (by rfl) ?_; simp only [Act.put, List.setIfInBounds_toArray, List.set_cons_succ, List.set_cons_zero]))
                  refine Hist.wpG_call (by rfl) (by rfl) (fun K hK => ?_)
                  go_big_op
                  refine (refBytes9 ha n1 hc (es1.map (·.c)) _ HHA.out HN1.out hn120 hhc HCS1.out).mono ?_
                  rintro e x7 ⟨v, rfl, ho, hb⟩
                  obtain ⟨rr2, rc2, rfl, -, -, -, hrb, -, -⟩ := own_read ho
                  rw [HXX.out] at hrb ⊢
                  have HKx7 := Lib.hid (HKx6.out.ext hb)
                  have HBB2 := Lib.hid hrb
                  have HBB7 := Lib.hid (BAt.ext HBB6.out hb)
                  have FF2 : ∀ g : In (fun W : World => BAt W rr2 X), (convert 62 9 (.slice rr2 X.length rc2)).run Try.prog g.w = .ok (.string SX) g.w := fun g => by have := bytes_text (c := rc2) g.w g.h rfl; rw [HSX.out] at this; exact this
                  haveI hI2 : Nonempty (In (fun W : World => BAt W rr2 X)) := ⟨⟨_, HBB2.out⟩⟩
                  refine hK _ _ ⟨(fun W : World => BAt W rr2 X), (by simp only [List.cons_append, List.nil_append, List.forall_mem_cons]; repeat' (first | exact HBB7.out | exact HBB2.out | (intro _ h; cases h; done) | (exact trivial) | constructor)), ?_⟩
                  clear hK K ho hb hrb HKx6 HHA
                  repeat (first | (refine Hist.wpG_plain 7 _ (by decide +kernel) rfl (by rfl) (by rfl) (fun K hK => ?_); go_big_quiet_op; refine hK _ ?_; clear hK K) | (refine Hist.wpG_plain 6 _ (by decide +kernel) rfl (by rfl) (by rfl) (fun K hK => ?_); go_big_quiet_op; refine hK _ ?_; clear hK K) | (refine Hist.wpG_plain 5 _ (by decide +kernel) rfl (by rfl) (by rfl) (fun K hK => ?_); go_big_quiet_op; refine hK _ ?_; clear hK K) | (refine Hist.wpG_plain 4 _ (by decide +kernel) rfl (by rfl) (by rfl) (fun K hK => ?_); go_big_quiet_op; refine hK _ ?_; clear hK K) | (refine Hist.wpG_plain 3 _ (by decide +kernel) rfl (by rfl) (by rfl) (fun K hK => ?_); go_big_quiet_op; refine hK _ ?_; clear hK K) | (refine Hist.wpG_plain 2 _ (by decide +kernel) rfl (by rfl) (by rfl) (fun K hK => ?_); go_big_quiet_op; refine hK _ ?_; clear hK K) | (refine Hist.wpG_plain 1 _ (by decide +kernel) rfl (by rfl) (by rfl) (fun K hK => ?_); go_big_quiet_op; refine hK _ ?_; clear hK K) | (refine Hist.wpG_plain 0 _ (by decide +kernel) rfl (by rfl) (by rfl) (fun K hK => ?_); go_big_quiet_op; refine hK _ ?_; clear hK K) | (refine Hist.wpG_skip (by rfl) (by rfl) ?_; simp only [Act.put, List.setIfInBounds_toArray, List.set_cons_succ, List.set_cons_zero]))
                  refine Hist.wpG_nil ?_
                  clear hI0 hI1 hI2 FF1 FF2
                  go_wp2
                  go_roundw
                  case rel => exact ⟨I + 1, (N : Int), (N : Int), es1, (seenL (es1.map (·.c))), ks1, by omega, rfl, by go_num, .inr (by rw [HN.out]), by rw [HN.out]; omega, HKx7.out, HAS1.out, HKK1.out, HWS.out, HCH1.out⟩
                  case measure => simp [intOf]; omega
                · refine (applyDelta cb mn mc ma q (N : Int) S cs (kk.map (cur es1)) _ HK15.out.2.2.2.1 hq HWC.out HMA.out HML.out hmn20 HMR.out (by omega)).mono ?_
                  rintro e wa ⟨cs1, hwf, hr, hor⟩
                  have HW1 := Lib.hid hwf
                  obtain ⟨l1, hl1⟩ : ∃ l1, cs1.length = l1 := ⟨_, rfl⟩
                  have HL1 := Lib.hid hl1
                  have hl120 : l1 ≤ 20 := by rw [← hl1]; exact hwf.len
                  have HD1 := Lib.hid (show ∀ x ∈ cs1, CdS x from fun x hx => ⟨by have := (hwf.2 x hx).1.1.2.1; omega, by have := (hwf.2 x hx).1.2.1.2.1; omega⟩)
                  rcases hor with ⟨hse, rfl, hp⟩ | ⟨hse, rfl, hp⟩
                  · have HKa := Lib.hid (HK15.out.c hp hr)
                    have HSE := Lib.hid hse
                    clear hp hr hwf hl1 hse hkx hlx HMX HMA HK15
                    go_wp2_with fail
                    refine (cacheCards cb (N : Int) cs1 _ HKa.out.2.2.2.1 (by have := HL1.out; omega)).mono ?_
                    rintro e wb ⟨v, rfl, ho, hb⟩
                    obtain ⟨ga, gc, rfl, hgc, hgm, hgat, -, -⟩ := ho.read
                    rw [HL1.out] at hgc ⊢
                    have HGA := Lib.hid hgat
                    have HKb := Lib.hid (HKa.out.ext hb)
                    clear ho hb hgat HKa
                    go_wp2_with fail
                    refine (refSeal9 ga l1 gc cs1 _ HGA.out HL1.out (by omega) hgc HD1.out).mono ?_
                    rintro e wc ⟨rfl, hb⟩
                    rw [HSE.out]
                    have HKc := Lib.hid (HKb.out.ext hb)
                    clear hb HKb HGA
                    go_wp2_with fail
                    refine (shCards sb 20 es1 _ HKc.out.1 (by omega)).mono ?_
                    rintro e wd ⟨v, rfl, ho, hb⟩
                    obtain ⟨ha, hc, rfl, hhc, hhm, hhat, -, -⟩ := ho.read
                    obtain ⟨n1, hn1⟩ : ∃ n1, (es1.map (·.c)).length = n1 := ⟨_, rfl⟩
                    have HN1 := Lib.hid hn1
                    have hn120 : n1 ≤ 20 := by rw [← hn1, List.length_map]; omega
                    rw [hn1] at hhc ⊢
                    have HHA := Lib.hid hhat
                    have HKd := Lib.hid (HKc.out.ext hb)
                    clear ho hb hhat hn1 HKc
                    go_wp2_with fail
                    refine (refSeal9 ha n1 hc (es1.map (·.c)) _ HHA.out HN1.out hn120 hhc HCS1.out).mono ?_
                    rintro e we ⟨rfl, hb⟩
                    rw [HS.out]
                    have HKe := Lib.hid (HKd.out.ext hb)
                    clear hb HKd HHA
                    have hss : (S == S) = true := by simp
                    go_wp2_with fail
                    refine (cacheSince cb (N : Int) cs1 _ HKe.out.2.2.2.1).mono ?_
                    rintro e wf ⟨rfl, hb⟩
                    have HKf := Lib.hid (HKe.out.ext hb)
                    clear hb HKe
                    go_wp2_with fail
                    refine (recentSeq rb ks1.length (lastK ks1 ks1.length) _ HKf.out.2.1).mono ?_
                    rintro e wg ⟨rfl, hwg⟩
                    rw [HN.out]
                    rw [hwg] at HKf
                    clear hwg
                    have hnn : ((N : Int) == (N : Int)) = true := by simp
                    go_wp2
                    go_roundw
                    case rel => exact ⟨I + 1, (N : Int), (N : Int), es1, cs1, ks1, by omega, rfl, by go_num, .inr (by rw [HN.out]), by rw [HN.out]; omega, HKf.out, HAS1.out, HKK1.out, HW1.out, HCH1.out⟩
                    case measure => simp [intOf]; omega
                  · have HKa := Lib.hid (HK15.out.c hp hr)
                    clear hp hr hwf hl1 hse hkx hlx HMX HMA HK15
                    have hIq0 := HKa
                    have HKx0 := Lib.hid (HKa.out.ext ((Below.refl wa.heap.size wa).drew))
                    go_upto_region 21 with (fail)
                    haveI hI0 : Nonempty (In (fun _ : World => True)) := ⟨⟨wa, trivial⟩⟩
                    refine Hist.wp_region_hist (fun _ => True) (by kernel_rfl) (by kernel_rfl) (by kernel_rfl) trivial ?_
                    clear HKa hIq0
                    generalize wa.drew = x0 at *
                    repeat (first | (refine Hist.wpG_plain 0 _ (by decide +kernel) rfl (by rfl) (by rfl) (fun K hK => ?_); go_big_quiet_op; refine hK _ ?_; clear hK K) | (refine Hist.wpG_skip (by rfl) (by rfl) ?_; simp only [Act.put, List.setIfInBounds_toArray, List.set_cons_succ, List.set_cons_zero]))
                    refine Hist.wpG_call (by rfl) (by rfl) (fun K hK => ?_)
                    go_big_op
                    refine (cacheSince cb (-1) cs1 _ HKx0.out.2.2.2.1).mono ?_
                    rintro e x1 ⟨rfl, hb⟩
                    have HKx1 := Lib.hid (HKx0.out.ext hb)
                    refine hK _ _ ⟨fun _ => True, (by simp only [List.cons_append, List.nil_append, List.forall_mem_cons]; repeat' (first | exact trivial | (intro _ h; cases h; done) | (exact trivial) | constructor)), ?_⟩
                    clear hK K hb HKx0
                    repeat (first | (refine Hist.wpG_plain 1 _ (by decide +kernel) rfl (by rfl) (by rfl) (fun K hK => ?_); go_big_quiet_op; refine hK _ ?_; clear hK K) | (refine Hist.wpG_plain 0 _ (by decide +kernel) rfl (by rfl) (by rfl) (fun K hK => ?_); go_big_quiet_op; refine hK _ ?_; clear hK K) | (refine Hist.wpG_skip (by rfl) (by rfl) ?_; simp only [Act.put, List.setIfInBounds_toArray, List.set_cons_succ, List.set_cons_zero]))
                    refine Hist.wpG_call (by rfl) (by rfl) (fun K hK => ?_)
                    go_big_op
                    refine (feedFull sb rb ks1.length 20 es1 (lastK ks1 ks1.length) _ HKx1.out.1 HKx1.out.2.1 hn20 HCE1.out).mono ?_
                    rintro e x2 ⟨va, k, vc, rfl, hk, hvc, hvm, hvat, hb⟩
                    rw [HN.out, HS.out]
                    have HKL := Lib.hid hk
                    have hk20 : k ≤ 20 := by rw [← hk]; exact HWS.out.len
                    have HVA := Lib.hid hvat
                    have HKx2 := Lib.hid (HKx1.out.ext hb)
                    refine hK _ _ ⟨fun _ => True, (by simp only [List.cons_append, List.nil_append, List.forall_mem_cons]; repeat' (first | exact trivial | (intro _ h; cases h; done) | (exact trivial) | constructor)), ?_⟩
                    clear hK K hb hk hvat HKx1
                    repeat (first | (refine Hist.wpG_plain 2 _ (by decide +kernel) rfl (by rfl) (by rfl) (fun K hK => ?_); go_big_quiet_op; refine hK _ ?_; clear hK K) | (refine Hist.wpG_plain 1 _ (by decide +kernel) rfl (by rfl) (by rfl) (fun K hK => ?_); go_big_quiet_op; refine hK _ ?_; clear hK K) | (refine Hist.wpG_plain 0 _ (by decide +kernel) rfl (by rfl) (by rfl) (fun K hK => ?_); go_big_quiet_op; refine hK _ ?_; clear hK K) | (refine Hist.wpG_skip (by rfl) (by rfl) ?_; simp only [Act.put, List.setIfInBounds_toArray, List.set_cons_succ, List.set_cons_zero]))
                    refine Hist.wpG_call (by rfl) (by rfl) (fun K hK => ?_)
                    go_big_op
                    refine (applyFull cb k vc va (-1) (N : Int) S cs1 (seenL (es1.map (·.c))) _ HKx2.out.2.2.2.1 HVA.out HKL.out hk20 HSR.out HSG.out HSP.out (by omega) HSS.out).mono ?_
                    rintro e x3 ⟨rfl, hp, hr⟩
                    have HKx3 := Lib.hid (HKx2.out.c hp hr)
                    refine hK _ _ ⟨fun _ => True, (by simp only [List.cons_append, List.nil_append, List.forall_mem_cons]; repeat' (first | exact trivial | (intro _ h; cases h; done) | (exact trivial) | constructor)), ?_⟩
                    clear hK K hp hr HKx2 HVA
                    repeat (first | (refine Hist.wpG_plain 3 _ (by decide +kernel) rfl (by rfl) (by rfl) (fun K hK => ?_); go_big_quiet_op; refine hK _ ?_; clear hK K) | (refine Hist.wpG_plain 2 _ (by decide +kernel) rfl (by rfl) (by rfl) (fun K hK => ?_); go_big_quiet_op; refine hK _ ?_; clear hK K) | (refine Hist.wpG_plain 1 _ (by decide +kernel) rfl (by rfl) (by rfl) (fun K hK => ?_); go_big_quiet_op; refine hK _ ?_; clear hK K) | (refine Hist.wpG_plain 0 _ (by decide +kernel) rfl (by rfl) (by rfl) (fun K hK => ?_); go_big_quiet_op; refine hK _ ?_; clear hK K) | (refine Hist.wpG_skip (by rfl) (by rfl) ?_; simp only [Act.put, List.setIfInBounds_toArray, List.set_cons_succ, List.set_cons_zero]))
                    refine Hist.wpG_call (by rfl) (by rfl) (fun K hK => ?_)
                    go_big_op
                    refine (cacheCards cb (N : Int) (seenL (es1.map (·.c))) _ HKx3.out.2.2.2.1 (by have := HKL.out; omega)).mono ?_
                    rintro e x4 ⟨v, rfl, ho, hb⟩
                    obtain ⟨ga, gc, rfl, hgc, hgm, hgat, -, -⟩ := ho.read
                    rw [HKL.out] at hgc ⊢
                    have HGA := Lib.hid hgat
                    have HKx4 := Lib.hid (HKx3.out.ext hb)
                    refine hK _ _ ⟨fun _ => True, (by simp only [List.cons_append, List.nil_append, List.forall_mem_cons]; repeat' (first | exact trivial | (intro _ h; cases h; done) | (exact trivial) | constructor)), ?_⟩
                    clear hK K ho hb hgat HKx3
                    repeat (first | (refine Hist.wpG_plain 4 _ (by decide +kernel) rfl (by rfl) (by rfl) (fun K hK => ?_); go_big_quiet_op; refine hK _ ?_; clear hK K) | (refine Hist.wpG_plain 3 _ (by decide +kernel) rfl (by rfl) (by rfl) (fun K hK => ?_); go_big_quiet_op; refine hK _ ?_; clear hK K) | (refine Hist.wpG_plain 2 _ (by decide +kernel) rfl (by rfl) (by rfl) (fun K hK => ?_); go_big_quiet_op; refine hK _ ?_; clear hK K) | (refine Hist.wpG_plain 1 _ (by decide +kernel) rfl (by rfl) (by rfl) (fun K hK => ?_); go_big_quiet_op; refine hK _ ?_; clear hK K) | (refine Hist.wpG_plain 0 _ (by decide +kernel) rfl (by rfl) (by rfl) (fun K hK => ?_); go_big_quiet_op; refine hK _ ?_; clear hK K) | (refine Hist.wpG_skip (by rfl) (by rfl) ?_; simp only [Act.put, List.setIfInBounds_toArray, List.set_cons_succ, List.set_cons_zero]))
                    refine Hist.wpG_call (by rfl) (by rfl) (fun K hK => ?_)
                    go_big_op
                    refine (refBytes9 ga k gc (seenL (es1.map (·.c))) _ HGA.out HKL.out hk20 hgc HSC.out).mono ?_
                    rintro e x5 ⟨v, rfl, ho, hb⟩
                    obtain ⟨rr1, rc1, rfl, -, -, -, hrb, -, -⟩ := own_read ho
                    rw [HXS.out] at hrb ⊢
                    have HKx5 := Lib.hid (HKx4.out.ext hb)
                    have HBB1 := Lib.hid hrb
                    have FF1 : ∀ g : In (fun W : World => BAt W rr1 X), (convert 62 9 (.slice rr1 X.length rc1)).run Try.prog g.w = .ok (.string SX) g.w := fun g => by have := bytes_text (c := rc1) g.w g.h rfl; rw [HSX.out] at this; exact this
                    haveI hI1 : Nonempty (In (fun W : World => BAt W rr1 X)) := ⟨⟨_, HBB1.out⟩⟩
                    refine hK _ _ ⟨(fun W : World => BAt W rr1 X), (by simp only [List.cons_append, List.nil_append, List.forall_mem_cons]; repeat' (first | exact HBB1.out | (intro _ h; cases h; done) | (exact trivial) | constructor)), ?_⟩
                    clear hK K ho hb hrb HKx4 HGA
                    repeat (first | (refine Hist.wpG_plain 5 _ (by decide +kernel) rfl (by rfl) (by rfl) (fun K hK => ?_); go_big_quiet_op; refine hK _ ?_; clear hK K) | (refine Hist.wpG_plain 4 _ (by decide +kernel) rfl (by rfl) (by rfl) (fun K hK => ?_); go_big_quiet_op; refine hK _ ?_; clear hK K) | (refine Hist.wpG_plain 3 _ (by decide +kernel) rfl (by rfl) (by rfl) (fun K hK => ?_); go_big_quiet_op; refine hK _ ?_; clear hK K) | (refine Hist.wpG_plain 2 _ (by decide +kernel) rfl (by rfl) (by rfl) (fun K hK => ?_); go_big_quiet_op; refine hK _ ?_; clear hK K) | (refine Hist.wpG_plain 1 _ (by decide +kernel) rfl (by rfl) (by rfl) (fun K hK => ?_); go_big_quiet_op; refine hK _ ?_; clear hK K) | (refine Hist.wpG_plain 0 _ (by decide +kernel) rfl (by rfl) (by rfl) (fun K hK => ?_); go_big_quiet_op; refine hK _ ?_; clear hK K) | (refine Hist.wpG_skip (by rfl) (by rfl) ?_; simp only [Act.put, List.setIfInBounds_toArray, List.set_cons_succ, List.set_cons_zero]))
                    refine Hist.wpG_call (by rfl) (by rfl) (fun K hK => ?_)
                    go_big_op
                    refine (shCards sb 20 es1 _ HKx5.out.1 (by omega)).mono ?_
                    rintro e x6 ⟨v, rfl, ho, hb⟩
                    obtain ⟨ha, hc, rfl, hhc, hhm, hhat, -, -⟩ := ho.read
                    obtain ⟨n1, hn1⟩ : ∃ n1, (es1.map (·.c)).length = n1 := ⟨_, rfl⟩
                    have HN1 := Lib.hid hn1
                    have hn120 : n1 ≤ 20 := by rw [← hn1, List.length_map]; omega
                    rw [hn1] at hhc ⊢
                    have HHA := Lib.hid hhat
                    have HKx6 := Lib.hid (HKx5.out.ext hb)
                    have HBB6 := Lib.hid (BAt.ext HBB1.out hb)
                    refine hK _ _ ⟨fun _ => True, (by simp only [List.cons_append, List.nil_append, List.forall_mem_cons]; repeat' (first | exact HBB6.out | (intro _ h; cases h; done) | (exact trivial) | constructor)), ?_⟩
                    clear hK K ho hb hhat hn1 HKx5
                    repeat (first | (refine Hist.wpG_plain 6 _ (by decide +kernel) rfl (by rfl) (by rfl) (fun K hK => ?_); go_big_quiet_op; refine hK _ ?_; clear hK K) | (refine Hist.wpG_plain 5 _ (by decide +kernel) rfl (by rfl) (by rfl) (fun K hK => ?_); go_big_quiet_op; refine hK _ ?_; clear hK K) | (refine Hist.wpG_plain 4 _ (by decide +kernel) rfl (by rfl) (by rfl) (fun K hK => ?_); go_big_quiet_op; refine hK _ ?_; clear hK K) | (refine Hist.wpG_plain 3 _ (by decide +kernel) rfl (by rfl) (by rfl) (fun K hK => ?_); go_big_quiet_op; refine hK _ ?_; clear hK K) | (refine Hist.wpG_plain 2 _ (by decide +kernel) rfl (by rfl) (by rfl) (fun K hK => ?_); go_big_quiet_op; refine hK _ ?_; clear hK K) | (refine Hist.wpG_plain 1 _ (by decide +kernel) rfl (by rfl) (by rfl) (fun K hK => ?_); go_big_quiet_op; refine hK _ ?_; clear hK K) | (refine Hist.wpG_plain 0 _ (by decide +kernel) rfl (by rfl) (by rfl) (fun K hK => ?_); go_big_quiet_op; refine hK _ ?_; clear hK K) | (refine Hist.wpG_skip (by rfl) (by rfl) ?_; simp only [Act.put, List.setIfInBounds_toArray, List.set_cons_succ, List.set_cons_zero]))
                    refine Hist.wpG_call (by rfl) (by rfl) (fun K hK => ?_)
                    go_big_op
                    refine (refBytes9 ha n1 hc (es1.map (·.c)) _ HHA.out HN1.out hn120 hhc HCS1.out).mono ?_
                    rintro e x7 ⟨v, rfl, ho, hb⟩
                    obtain ⟨rr2, rc2, rfl, -, -, -, hrb, -, -⟩ := own_read ho
                    rw [HXX.out] at hrb ⊢
                    have HKx7 := Lib.hid (HKx6.out.ext hb)
                    have HBB2 := Lib.hid hrb
                    have HBB7 := Lib.hid (BAt.ext HBB6.out hb)
                    have FF2 : ∀ g : In (fun W : World => BAt W rr2 X), (convert 62 9 (.slice rr2 X.length rc2)).run Try.prog g.w = .ok (.string SX) g.w := fun g => by have := bytes_text (c := rc2) g.w g.h rfl; rw [HSX.out] at this; exact this
                    haveI hI2 : Nonempty (In (fun W : World => BAt W rr2 X)) := ⟨⟨_, HBB2.out⟩⟩
                    refine hK _ _ ⟨(fun W : World => BAt W rr2 X), (by simp only [List.cons_append, List.nil_append, List.forall_mem_cons]; repeat' (first | exact HBB7.out | exact HBB2.out | (intro _ h; cases h; done) | (exact trivial) | constructor)), ?_⟩
                    clear hK K ho hb hrb HKx6 HHA
                    repeat (first | (refine Hist.wpG_plain 7 _ (by decide +kernel) rfl (by rfl) (by rfl) (fun K hK => ?_); go_big_quiet_op; refine hK _ ?_; clear hK K) | (refine Hist.wpG_plain 6 _ (by decide +kernel) rfl (by rfl) (by rfl) (fun K hK => ?_); go_big_quiet_op; refine hK _ ?_; clear hK K) | (refine Hist.wpG_plain 5 _ (by decide +kernel) rfl (by rfl) (by rfl) (fun K hK => ?_); go_big_quiet_op; refine hK _ ?_; clear hK K) | (refine Hist.wpG_plain 4 _ (by decide +kernel) rfl (by rfl) (by rfl) (fun K hK => ?_); go_big_quiet_op; refine hK _ ?_; clear hK K) | (refine Hist.wpG_plain 3 _ (by decide +kernel) rfl (by rfl) (by rfl) (fun K hK => ?_); go_big_quiet_op; refine hK _ ?_; clear hK K) | (refine Hist.wpG_plain 2 _ (by decide +kernel) rfl (by rfl) (by rfl) (fun K hK => ?_); go_big_quiet_op; refine hK _ ?_; clear hK K) | (refine Hist.wpG_plain 1 _ (by decide +kernel) rfl (by rfl) (by rfl) (fun K hK => ?_); go_big_quiet_op; refine hK _ ?_; clear hK K) | (refine Hist.wpG_plain 0 _ (by decide +kernel) rfl (by rfl) (by rfl) (fun K hK => ?_); go_big_quiet_op; refine hK _ ?_; clear hK K) | (refine Hist.wpG_skip (by rfl) (by rfl) ?_; simp only [Act.put, List.setIfInBounds_toArray, List.set_cons_succ, List.set_cons_zero]))
                    refine Hist.wpG_nil ?_
                    clear hI0 hI1 hI2 FF1 FF2
                    go_wp2
                    go_roundw
                    case rel => exact ⟨I + 1, (N : Int), (N : Int), es1, (seenL (es1.map (·.c))), ks1, by omega, rfl, by go_num, .inr (by rw [HN.out]), by rw [HN.out]; omega, HKx7.out, HAS1.out, HKK1.out, HWS.out, HCH1.out⟩
                    case measure => simp [intOf]; omega
              · rw [hz] at hcl
                clear hz
                have hkx := blk_cell HMX.out
                have hlx := blk_lt HMX.out
                go_wp2
                go_roundw
                case rel => exact ⟨I + 1, (N : Int), q, es1, cs, ks1, by omega, rfl, by go_num, .inr (by rw [HN.out]), by rw [HN.out]; omega, HK15.out, HAS1.out, HKK1.out, HWC.out, HCH1.out⟩
                case measure => simp [intOf]; omega
            · have hd3 : decide ((I : Int) < (llen : Int)) = false := by simp; omega
              have hkx := blk_cell HMX.out
              have hlx := blk_lt HMX.out
              go_wp2_with fail
              by_cases hq : q = -1
              · subst hq
                refine (applyNever cb mn mc ma (N : Int) S cs (kk.map (cur es1)) _ HK15.out.2.2.2.1 HMA.out HML.out hmn20 (fun x hx => (HMR.out x hx).1) (by omega)).mono ?_
                rintro e wa ⟨rfl, hb⟩
                have HKa := Lib.hid (HK15.out.ext hb)
                clear hb hkx hlx HMX HMA HK15
                have hIq0 := HKa
                have HKx0 := Lib.hid (HKa.out.ext ((Below.refl wa.heap.size wa).drew))
                go_upto_region 21 with (fail)
                haveI hI0 : Nonempty (In (fun _ : World => True)) := ⟨⟨wa, trivial⟩⟩
                refine Hist.wp_region_hist (fun _ => True) (by kernel_rfl) (by kernel_rfl) (by kernel_rfl) trivial ?_
                clear HKa hIq0
                generalize wa.drew = x0 at *
                repeat (first | (refine Hist.wpG_plain 0 _ (by decide +kernel) rfl (by rfl) (by rfl) (fun K hK => ?_); go_big_quiet_op; refine hK _ ?_; clear hK K) | (refine Hist.wpG_skip (by rfl) (by rfl) ?_; simp only [Act.put, List.setIfInBounds_toArray, List.set_cons_succ, List.set_cons_zero]))
                refine Hist.wpG_call (by rfl) (by rfl) (fun K hK => ?_)
                go_big_op
                refine (cacheSince cb (-1) cs _ HKx0.out.2.2.2.1).mono ?_
                rintro e x1 ⟨rfl, hb⟩
                have HKx1 := Lib.hid (HKx0.out.ext hb)
                refine hK _ _ ⟨fun _ => True, (by simp only [List.cons_append, List.nil_append, List.forall_mem_cons]; repeat' (first | exact trivial | (intro _ h; cases h; done) | (exact trivial) | constructor)), ?_⟩
                clear hK K hb HKx0
                repeat (first | (refine Hist.wpG_plain 1 _ (by decide +kernel) rfl (by rfl) (by rfl) (fun K hK => ?_); go_big_quiet_op; refine hK _ ?_; clear hK K) | (refine Hist.wpG_plain 0 _ (by decide +kernel) rfl (by rfl) (by rfl) (fun K hK => ?_); go_big_quiet_op; refine hK _ ?_; clear hK K) | (refine Hist.wpG_skip (by rfl) (by rfl) ?_; simp only [Act.put, List.setIfInBounds_toArray, List.set_cons_succ, List.set_cons_zero]))
                refine Hist.wpG_call (by rfl) (by rfl) (fun K hK => ?_)
                go_big_op
                refine (feedFull sb rb ks1.length 20 es1 (lastK ks1 ks1.length) _ HKx1.out.1 HKx1.out.2.1 hn20 HCE1.out).mono ?_
                rintro e x2 ⟨va, k, vc, rfl, hk, hvc, hvm, hvat, hb⟩
                rw [HN.out, HS.out]
                have HKL := Lib.hid hk
                have hk20 : k ≤ 20 := by rw [← hk]; exact HWS.out.len
                have HVA := Lib.hid hvat
                have HKx2 := Lib.hid (HKx1.out.ext hb)
                refine hK _ _ ⟨fun _ => True, (by simp only [List.cons_append, List.nil_append, List.forall_mem_cons]; repeat' (first | exact trivial | (intro _ h; cases h; done) | (exact trivial) | constructor)), ?_⟩
                clear hK K hb hk hvat HKx1
                repeat (first | (refine Hist.wpG_plain 2 _ (by decide +kernel) rfl (by rfl) (by rfl) (fun K hK => ?_); go_big_quiet_op; refine hK _ ?_; clear hK K) | (refine Hist.wpG_plain 1 _ (by decide +kernel) rfl (by rfl) (by rfl) (fun K hK => ?_); go_big_quiet_op; refine hK _ ?_; clear hK K) | (refine Hist.wpG_plain 0 _ (by decide +kernel) rfl (by rfl) (by rfl) (fun K hK => ?_); go_big_quiet_op; refine hK _ ?_; clear hK K) | (refine Hist.wpG_skip (by rfl) (by rfl) ?_; simp only [Act.put, List.setIfInBounds_toArray, List.set_cons_succ, List.set_cons_zero]))
                refine Hist.wpG_call (by rfl) (by rfl) (fun K hK => ?_)
                go_big_op
                refine (applyFull cb k vc va (-1) (N : Int) S cs (seenL (es1.map (·.c))) _ HKx2.out.2.2.2.1 HVA.out HKL.out hk20 HSR.out HSG.out HSP.out (by omega) HSS.out).mono ?_
                rintro e x3 ⟨rfl, hp, hr⟩
                have HKx3 := Lib.hid (HKx2.out.c hp hr)
                refine hK _ _ ⟨fun _ => True, (by simp only [List.cons_append, List.nil_append, List.forall_mem_cons]; repeat' (first | exact trivial | (intro _ h; cases h; done) | (exact trivial) | constructor)), ?_⟩
                clear hK K hp hr HKx2 HVA
                repeat (first | (refine Hist.wpG_plain 3 _ (by decide +kernel) rfl (by rfl) (by rfl) (fun K hK => ?_); go_big_quiet_op; refine hK _ ?_; clear hK K) | (refine Hist.wpG_plain 2 _ (by decide +kernel) rfl (by rfl) (by rfl) (fun K hK => ?_); go_big_quiet_op; refine hK _ ?_; clear hK K) | (refine Hist.wpG_plain 1 _ (by decide +kernel) rfl (by rfl) (by rfl) (fun K hK => ?_); go_big_quiet_op; refine hK _ ?_; clear hK K) | (refine Hist.wpG_plain 0 _ (by decide +kernel) rfl (by rfl) (by rfl) (fun K hK => ?_); go_big_quiet_op; refine hK _ ?_; clear hK K) | (refine Hist.wpG_skip (by rfl) (by rfl) ?_; simp only [Act.put, List.setIfInBounds_toArray, List.set_cons_succ, List.set_cons_zero]))
                refine Hist.wpG_call (by rfl) (by rfl) (fun K hK => ?_)
                go_big_op
                refine (cacheCards cb (N : Int) (seenL (es1.map (·.c))) _ HKx3.out.2.2.2.1 (by have := HKL.out; omega)).mono ?_
                rintro e x4 ⟨v, rfl, ho, hb⟩
                obtain ⟨ga, gc, rfl, hgc, hgm, hgat, -, -⟩ := ho.read
                rw [HKL.out] at hgc ⊢
                have HGA := Lib.hid hgat
                have HKx4 := Lib.hid (HKx3.out.ext hb)
                refine hK _ _ ⟨fun _ => True, (by simp only [List.cons_append, List.nil_append, List.forall_mem_cons]; repeat' (first | exact trivial | (intro _ h; cases h; done) | (exact trivial) | constructor)), ?_⟩
                clear hK K ho hb hgat HKx3
                repeat (first | (refine Hist.wpG_plain 4 _ (by decide +kernel) rfl (by rfl) (by rfl) (fun K hK => ?_); go_big_quiet_op; refine hK _ ?_; clear hK K) | (refine Hist.wpG_plain 3 _ (by decide +kernel) rfl (by rfl) (by rfl) (fun K hK => ?_); go_big_quiet_op; refine hK _ ?_; clear hK K) | (refine Hist.wpG_plain 2 _ (by decide +kernel) rfl (by rfl) (by rfl) (fun K hK => ?_); go_big_quiet_op; refine hK _ ?_; clear hK K) | (refine Hist.wpG_plain 1 _ (by decide +kernel) rfl (by rfl) (by rfl) (fun K hK => ?_); go_big_quiet_op; refine hK _ ?_; clear hK K) | (refine Hist.wpG_plain 0 _ (by decide +kernel) rfl (by rfl) (by rfl) (fun K hK => ?_); go_big_quiet_op; refine hK _ ?_; clear hK K) | (refine Hist.wpG_skip (by rfl) (by rfl) ?_; simp only [Act.put, List.setIfInBounds_toArray, List.set_cons_succ, List.set_cons_zero]))
                refine Hist.wpG_call (by rfl) (by rfl) (fun K hK => ?_)
                go_big_op
                refine (refBytes9 ga k gc (seenL (es1.map (·.c))) _ HGA.out HKL.out hk20 hgc HSC.out).mono ?_
                rintro e x5 ⟨v, rfl, ho, hb⟩
                obtain ⟨rr1, rc1, rfl, -, -, -, hrb, -, -⟩ := own_read ho
                rw [HXS.out] at hrb ⊢
                have HKx5 := Lib.hid (HKx4.out.ext hb)
                have HBB1 := Lib.hid hrb
                have FF1 : ∀ g : In (fun W : World => BAt W rr1 X), (convert 62 9 (.slice rr1 X.length rc1)).run Try.prog g.w = .ok (.string SX) g.w := fun g => by have := bytes_text (c := rc1) g.w g.h rfl; rw [HSX.out] at this; exact this
                haveI hI1 : Nonempty (In (fun W : World => BAt W rr1 X)) := ⟨⟨_, HBB1.out⟩⟩
                refine hK _ _ ⟨(fun W : World => BAt W rr1 X), (by simp only [List.cons_append, List.nil_append, List.forall_mem_cons]; repeat' (first | exact HBB1.out | (intro _ h; cases h; done) | (exact trivial) | constructor)), ?_⟩
                clear hK K ho hb hrb HKx4 HGA
                repeat (first | (refine Hist.wpG_plain 5 _ (by decide +kernel) rfl (by rfl) (by rfl) (fun K hK => ?_); go_big_quiet_op; refine hK _ ?_; clear hK K) | (refine Hist.wpG_plain 4 _ (by decide +kernel) rfl (by rfl) (by rfl) (fun K hK => ?_); go_big_quiet_op; refine hK _ ?_; clear hK K) | (refine Hist.wpG_plain 3 _ (by decide +kernel) rfl (by rfl) (by rfl) (fun K hK => ?_); go_big_quiet_op; refine hK _ ?_; clear hK K) | (refine Hist.wpG_plain 2 _ (by decide +kernel) rfl (by rfl) (by rfl) (fun K hK => ?_); go_big_quiet_op; refine hK _ ?_; clear hK K) | (refine Hist.wpG_plain 1 _ (by decide +kernel) rfl (by rfl) (by rfl) (fun K hK => ?_); go_big_quiet_op; refine hK _ ?_; clear hK K) | (refine Hist.wpG_plain 0 _ (by decide +kernel) rfl (by rfl) (by rfl) (fun K hK => ?_); go_big_quiet_op; refine hK _ ?_; clear hK K) | (refine Hist.wpG_skip (by rfl) (by rfl) ?_; simp only [Act.put, List.setIfInBounds_toArray, List.set_cons_succ, List.set_cons_zero]))
                refine Hist.wpG_call (by rfl) (by rfl) (fun K hK => ?_)
                go_big_op
                refine (shCards sb 20 es1 _ HKx5.out.1 (by omega)).mono ?_
                rintro e x6 ⟨v, rfl, ho, hb⟩
                obtain ⟨ha, hc, rfl, hhc, hhm, hhat, -, -⟩ := ho.read
                obtain ⟨n1, hn1⟩ : ∃ n1, (es1.map (·.c)).length = n1 := ⟨_, rfl⟩
                have HN1 := Lib.hid hn1
                have hn120 : n1 ≤ 20 := by rw [← hn1, List.length_map]; omega
                rw [hn1] at hhc ⊢
                have HHA := Lib.hid hhat
                have HKx6 := Lib.hid (HKx5.out.ext hb)
                have HBB6 := Lib.hid (BAt.ext HBB1.out hb)
                refine hK _ _ ⟨fun _ => True, (by simp only [List.cons_append, List.nil_append, List.forall_mem_cons]; repeat' (first | exact HBB6.out | (intro _ h; cases h; done) | (exact trivial) | constructor)), ?_⟩
                clear hK K ho hb hhat hn1 HKx5
                repeat (first | (refine Hist.wpG_plain 6 _ (by decide +kernel) rfl (by rfl) (by rfl) (fun K hK => ?_); go_big_quiet_op; refine hK _ ?_; clear hK K) | (refine Hist.wpG_plain 5 _ (by decide +kernel) rfl (by rfl) (by rfl) (fun K hK => ?_); go_big_quiet_op; refine hK _ ?_; clear hK K) | (refine Hist.wpG_plain 4 _ (by decide +kernel) rfl (by rfl) (by rfl) (fun K hK => ?_); go_big_quiet_op; refine hK _ ?_; clear hK K) | (refine Hist.wpG_plain 3 _ (by decide +kernel) rfl (by rfl) (by rfl) (fun K hK => ?_); go_big_quiet_op; refine hK _ ?_; clear hK K) | (refine Hist.wpG_plain 2 _ (by decide +kernel) rfl (by rfl) (by rfl) (fun K hK => ?_); go_big_quiet_op; refine hK _ ?_; clear hK K) | (refine Hist.wpG_plain 1 _ (by decide +kernel) rfl (by rfl) (by rfl) (fun K hK => ?_); go_big_quiet_op; refine hK _ ?_; clear hK K) | (refine Hist.wpG_plain 0 _ (by decide +kernel) rfl (by rfl) (by rfl) (fun K hK => ?_); go_big_quiet_op; refine hK _ ?_; clear hK K) | (refine Hist.wpG_skip (by rfl) (by rfl) ?_; simp only [Act.put, List.setIfInBounds_toArray, List.set_cons_succ, List.set_cons_zero]))
                refine Hist.wpG_call (by rfl) (by rfl) (fun K hK => ?_)
                go_big_op
                refine (refBytes9 ha n1 hc (es1.map (·.c)) _ HHA.out HN1.out hn120 hhc HCS1.out).mono ?_
                rintro e x7 ⟨v, rfl, ho, hb⟩
                obtain ⟨rr2, rc2, rfl, -, -, -, hrb, -, -⟩ := own_read ho
                rw [HXX.out] at hrb ⊢
                have HKx7 := Lib.hid (HKx6.out.ext hb)
                have HBB2 := Lib.hid hrb
                have HBB7 := Lib.hid (BAt.ext HBB6.out hb)
                have FF2 : ∀ g : In (fun W : World => BAt W rr2 X), (convert 62 9 (.slice rr2 X.length rc2)).run Try.prog g.w = .ok (.string SX) g.w := fun g => by have := bytes_text (c := rc2) g.w g.h rfl; rw [HSX.out] at this; exact this
                haveI hI2 : Nonempty (In (fun W : World => BAt W rr2 X)) := ⟨⟨_, HBB2.out⟩⟩
                refine hK _ _ ⟨(fun W : World => BAt W rr2 X), (by simp only [List.cons_append, List.nil_append, List.forall_mem_cons]; repeat' (first | exact HBB7.out | exact HBB2.out | (intro _ h; cases h; done) | (exact trivial) | constructor)), ?_⟩
                clear hK K ho hb hrb HKx6 HHA
                repeat (first | (refine Hist.wpG_plain 7 _ (by decide +kernel) rfl (by rfl) (by rfl) (fun K hK => ?_); go_big_quiet_op; refine hK _ ?_; clear hK K) | (refine Hist.wpG_plain 6 _ (by decide +kernel) rfl (by rfl) (by rfl) (fun K hK => ?_); go_big_quiet_op; refine hK _ ?_; clear hK K) | (refine Hist.wpG_plain 5 _ (by decide +kernel) rfl (by rfl) (by rfl) (fun K hK => ?_); go_big_quiet_op; refine hK _ ?_; clear hK K) | (refine Hist.wpG_plain 4 _ (by decide +kernel) rfl (by rfl) (by rfl) (fun K hK => ?_); go_big_quiet_op; refine hK _ ?_; clear hK K) | (refine Hist.wpG_plain 3 _ (by decide +kernel) rfl (by rfl) (by rfl) (fun K hK => ?_); go_big_quiet_op; refine hK _ ?_; clear hK K) | (refine Hist.wpG_plain 2 _ (by decide +kernel) rfl (by rfl) (by rfl) (fun K hK => ?_); go_big_quiet_op; refine hK _ ?_; clear hK K) | (refine Hist.wpG_plain 1 _ (by decide +kernel) rfl (by rfl) (by rfl) (fun K hK => ?_); go_big_quiet_op; refine hK _ ?_; clear hK K) | (refine Hist.wpG_plain 0 _ (by decide +kernel) rfl (by rfl) (by rfl) (fun K hK => ?_); go_big_quiet_op; refine hK _ ?_; clear hK K) | (refine Hist.wpG_skip (by rfl) (by rfl) ?_; simp only [Act.put, List.setIfInBounds_toArray, List.set_cons_succ, List.set_cons_zero]))
                refine Hist.wpG_nil ?_
                clear hI0 hI1 hI2 FF1 FF2
                go_wp2
                go_roundw
                case rel => exact ⟨I + 1, (N : Int), (N : Int), es1, (seenL (es1.map (·.c))), ks1, by omega, rfl, by go_num, .inr (by rw [HN.out]), by rw [HN.out]; omega, HKx7.out, HAS1.out, HKK1.out, HWS.out, HCH1.out⟩
                case measure => simp [intOf]; omega
              · refine (applyDelta cb mn mc ma q (N : Int) S cs (kk.map (cur es1)) _ HK15.out.2.2.2.1 hq HWC.out HMA.out HML.out hmn20 HMR.out (by omega)).mono ?_
                rintro e wa ⟨cs1, hwf, hr, hor⟩
                have HW1 := Lib.hid hwf
                obtain ⟨l1, hl1⟩ : ∃ l1, cs1.length = l1 := ⟨_, rfl⟩
                have HL1 := Lib.hid hl1
                have hl120 : l1 ≤ 20 := by rw [← hl1]; exact hwf.len
                have HD1 := Lib.hid (show ∀ x ∈ cs1, CdS x from fun x hx => ⟨by have := (hwf.2 x hx).1.1.2.1; omega, by have := (hwf.2 x hx).1.2.1.2.1; omega⟩)
                rcases hor with ⟨hse, rfl, hp⟩ | ⟨hse, rfl, hp⟩
                · have HKa := Lib.hid (HK15.out.c hp hr)
                  have HSE := Lib.hid hse
                  clear hp hr hwf hl1 hse hkx hlx HMX HMA HK15
                  go_wp2_with fail
                  refine (cacheCards cb (N : Int) cs1 _ HKa.out.2.2.2.1 (by have := HL1.out; omega)).mono ?_
                  rintro e wb ⟨v, rfl, ho, hb⟩
                  obtain ⟨ga, gc, rfl, hgc, hgm, hgat, -, -⟩ := ho.read
                  rw [HL1.out] at hgc ⊢
                  have HGA := Lib.hid hgat
                  have HKb := Lib.hid (HKa.out.ext hb)
                  clear ho hb hgat HKa
                  go_wp2_with fail
                  refine (refSeal9 ga l1 gc cs1 _ HGA.out HL1.out (by omega) hgc HD1.out).mono ?_
                  rintro e wc ⟨rfl, hb⟩
                  rw [HSE.out]
                  have HKc := Lib.hid (HKb.out.ext hb)
                  clear hb HKb HGA
                  go_wp2_with fail
                  refine (shCards sb 20 es1 _ HKc.out.1 (by omega)).mono ?_
                  rintro e wd ⟨v, rfl, ho, hb⟩
                  obtain ⟨ha, hc, rfl, hhc, hhm, hhat, -, -⟩ := ho.read
                  obtain ⟨n1, hn1⟩ : ∃ n1, (es1.map (·.c)).length = n1 := ⟨_, rfl⟩
                  have HN1 := Lib.hid hn1
                  have hn120 : n1 ≤ 20 := by rw [← hn1, List.length_map]; omega
                  rw [hn1] at hhc ⊢
                  have HHA := Lib.hid hhat
                  have HKd := Lib.hid (HKc.out.ext hb)
                  clear ho hb hhat hn1 HKc
                  go_wp2_with fail
                  refine (refSeal9 ha n1 hc (es1.map (·.c)) _ HHA.out HN1.out hn120 hhc HCS1.out).mono ?_
                  rintro e we ⟨rfl, hb⟩
                  rw [HS.out]
                  have HKe := Lib.hid (HKd.out.ext hb)
                  clear hb HKd HHA
                  have hss : (S == S) = true := by simp
                  go_wp2_with fail
                  refine (cacheSince cb (N : Int) cs1 _ HKe.out.2.2.2.1).mono ?_
                  rintro e wf ⟨rfl, hb⟩
                  have HKf := Lib.hid (HKe.out.ext hb)
                  clear hb HKe
                  go_wp2_with fail
                  refine (recentSeq rb ks1.length (lastK ks1 ks1.length) _ HKf.out.2.1).mono ?_
                  rintro e wg ⟨rfl, hwg⟩
                  rw [HN.out]
                  rw [hwg] at HKf
                  clear hwg
                  have hnn : ((N : Int) == (N : Int)) = true := by simp
                  go_wp2
                  go_roundw
                  case rel => exact ⟨I + 1, (N : Int), (N : Int), es1, cs1, ks1, by omega, rfl, by go_num, .inr (by rw [HN.out]), by rw [HN.out]; omega, HKf.out, HAS1.out, HKK1.out, HW1.out, HCH1.out⟩
                  case measure => simp [intOf]; omega
                · have HKa := Lib.hid (HK15.out.c hp hr)
                  clear hp hr hwf hl1 hse hkx hlx HMX HMA HK15
                  have hIq0 := HKa
                  have HKx0 := Lib.hid (HKa.out.ext ((Below.refl wa.heap.size wa).drew))
                  go_upto_region 21 with (fail)
                  haveI hI0 : Nonempty (In (fun _ : World => True)) := ⟨⟨wa, trivial⟩⟩
                  refine Hist.wp_region_hist (fun _ => True) (by kernel_rfl) (by kernel_rfl) (by kernel_rfl) trivial ?_
                  clear HKa hIq0
                  generalize wa.drew = x0 at *
                  repeat (first | (refine Hist.wpG_plain 0 _ (by decide +kernel) rfl (by rfl) (by rfl) (fun K hK => ?_); go_big_quiet_op; refine hK _ ?_; clear hK K) | (refine Hist.wpG_skip (by rfl) (by rfl) ?_; simp only [Act.put, List.setIfInBounds_toArray, List.set_cons_succ, List.set_cons_zero]))
                  refine Hist.wpG_call (by rfl) (by rfl) (fun K hK => ?_)
                  go_big_op
                  refine (cacheSince cb (-1) cs1 _ HKx0.out.2.2.2.1).mono ?_
                  rintro e x1 ⟨rfl, hb⟩
                  have HKx1 := Lib.hid (HKx0.out.ext hb)
                  refine hK _ _ ⟨fun _ => True, (by simp only [List.cons_append, List.nil_append, List.forall_mem_cons]; repeat' (first | exact trivial | (intro _ h; cases h; done) | (exact trivial) | constructor)), ?_⟩
                  clear hK K hb HKx0
                  repeat (first | (refine Hist.wpG_plain 1 _ (by decide +kernel) rfl (by rfl) (by rfl) (fun K hK => ?_); go_big_quiet_op; refine hK _ ?_; clear hK K) | (refine Hist.wpG_plain 0 _ (by decide +kernel) rfl (by rfl) (by rfl) (fun K hK => ?_); go_big_quiet_op; refine hK _ ?_; clear hK K) | (refine Hist.wpG_skip (by rfl) (by rfl) ?_; simp only [Act.put, List.setIfInBounds_toArray, List.set_cons_succ, List.set_cons_zero]))
                  refine Hist.wpG_call (by rfl) (by rfl) (fun K hK => ?_)
                  go_big_op
                  refine (feedFull sb rb ks1.length 20 es1 (lastK ks1 ks1.length) _ HKx1.out.1 HKx1.out.2.1 hn20 HCE1.out).mono ?_
                  rintro e x2 ⟨va, k, vc, rfl, hk, hvc, hvm, hvat, hb⟩
                  rw [HN.out, HS.out]
                  have HKL := Lib.hid hk
                  have hk20 : k ≤ 20 := by rw [← hk]; exact HWS.out.len
                  have HVA := Lib.hid hvat
                  have HKx2 := Lib.hid (HKx1.out.ext hb)
                  refine hK _ _ ⟨fun _ => True, (by simp only [List.cons_append, List.nil_append, List.forall_mem_cons]; repeat' (first | exact trivial | (intro _ h; cases h; done) | (exact trivial) | constructor)), ?_⟩
                  clear hK K hb hk hvat HKx1
                  repeat (first | (refine Hist.wpG_plain 2 _ (by decide +kernel) rfl (by rfl) (by rfl) (fun K hK => ?_); go_big_quiet_op; refine hK _ ?_; clear hK K) | (refine Hist.wpG_plain 1 _ (by decide +kernel) rfl (by rfl) (by rfl) (fun K hK => ?_); go_big_quiet_op; refine hK _ ?_; clear hK K) | (refine Hist.wpG_plain 0 _ (by decide +kernel) rfl (by rfl) (by rfl) (fun K hK => ?_); go_big_quiet_op; refine hK _ ?_; clear hK K) | (refine Hist.wpG_skip (by rfl) (by rfl) ?_; simp only [Act.put, List.setIfInBounds_toArray, List.set_cons_succ, List.set_cons_zero]))
                  refine Hist.wpG_call (by rfl) (by rfl) (fun K hK => ?_)
                  go_big_op
                  refine (applyFull cb k vc va (-1) (N : Int) S cs1 (seenL (es1.map (·.c))) _ HKx2.out.2.2.2.1 HVA.out HKL.out hk20 HSR.out HSG.out HSP.out (by omega) HSS.out).mono ?_
                  rintro e x3 ⟨rfl, hp, hr⟩
                  have HKx3 := Lib.hid (HKx2.out.c hp hr)
                  refine hK _ _ ⟨fun _ => True, (by simp only [List.cons_append, List.nil_append, List.forall_mem_cons]; repeat' (first | exact trivial | (intro _ h; cases h; done) | (exact trivial) | constructor)), ?_⟩
                  clear hK K hp hr HKx2 HVA
                  repeat (first | (refine Hist.wpG_plain 3 _ (by decide +kernel) rfl (by rfl) (by rfl) (fun K hK => ?_); go_big_quiet_op; refine hK _ ?_; clear hK K) | (refine Hist.wpG_plain 2 _ (by decide +kernel) rfl (by rfl) (by rfl) (fun K hK => ?_); go_big_quiet_op; refine hK _ ?_; clear hK K) | (refine Hist.wpG_plain 1 _ (by decide +kernel) rfl (by rfl) (by rfl) (fun K hK => ?_); go_big_quiet_op; refine hK _ ?_; clear hK K) | (refine Hist.wpG_plain 0 _ (by decide +kernel) rfl (by rfl) (by rfl) (fun K hK => ?_); go_big_quiet_op; refine hK _ ?_; clear hK K) | (refine Hist.wpG_skip (by rfl) (by rfl) ?_; simp only [Act.put, List.setIfInBounds_toArray, List.set_cons_succ, List.set_cons_zero]))
                  refine Hist.wpG_call (by rfl) (by rfl) (fun K hK => ?_)
                  go_big_op
                  refine (cacheCards cb (N : Int) (seenL (es1.map (·.c))) _ HKx3.out.2.2.2.1 (by have := HKL.out; omega)).mono ?_
                  rintro e x4 ⟨v, rfl, ho, hb⟩
                  obtain ⟨ga, gc, rfl, hgc, hgm, hgat, -, -⟩ := ho.read
                  rw [HKL.out] at hgc ⊢
                  have HGA := Lib.hid hgat
                  have HKx4 := Lib.hid (HKx3.out.ext hb)
                  refine hK _ _ ⟨fun _ => True, (by simp only [List.cons_append, List.nil_append, List.forall_mem_cons]; repeat' (first | exact trivial | (intro _ h; cases h; done) | (exact trivial) | constructor)), ?_⟩
                  clear hK K ho hb hgat HKx3
                  repeat (first | (refine Hist.wpG_plain 4 _ (by decide +kernel) rfl (by rfl) (by rfl) (fun K hK => ?_); go_big_quiet_op; refine hK _ ?_; clear hK K) | (refine Hist.wpG_plain 3 _ (by decide +kernel) rfl (by rfl) (by rfl) (fun K hK => ?_); go_big_quiet_op; refine hK _ ?_; clear hK K) | (refine Hist.wpG_plain 2 _ (by decide +kernel) rfl (by rfl) (by rfl) (fun K hK => ?_); go_big_quiet_op; refine hK _ ?_; clear hK K) | (refine Hist.wpG_plain 1 _ (by decide +kernel) rfl (by rfl) (by rfl) (fun K hK => ?_); go_big_quiet_op; refine hK _ ?_; clear hK K) | (refine Hist.wpG_plain 0 _ (by decide +kernel) rfl (by rfl) (by rfl) (fun K hK => ?_); go_big_quiet_op; refine hK _ ?_; clear hK K) | (refine Hist.wpG_skip (by rfl) (by rfl) ?_; simp only [Act.put, List.setIfInBounds_toArray, List.set_cons_succ, List.set_cons_zero]))
                  refine Hist.wpG_call (by rfl) (by rfl) (fun K hK => ?_)
                  go_big_op
                  refine (refBytes9 ga k gc (seenL (es1.map (·.c))) _ HGA.out HKL.out hk20 hgc HSC.out).mono ?_
                  rintro e x5 ⟨v, rfl, ho, hb⟩
                  obtain ⟨rr1, rc1, rfl, -, -, -, hrb, -, -⟩ := own_read ho
                  rw [HXS.out] at hrb ⊢
                  have HKx5 := Lib.hid (HKx4.out.ext hb)
                  have HBB1 := Lib.hid hrb
                  have FF1 : ∀ g : In (fun W : World => BAt W rr1 X), (convert 62 9 (.slice rr1 X.length rc1)).run Try.prog g.w = .ok (.string SX) g.w := fun g => by have := bytes_text (c := rc1) g.w g.h rfl; rw [HSX.out] at this; exact this
                  haveI hI1 : Nonempty (In (fun W : World => BAt W rr1 X)) := ⟨⟨_, HBB1.out⟩⟩
                  refine hK _ _ ⟨(fun W : World => BAt W rr1 X), (by simp only [List.cons_append, List.nil_append, List.forall_mem_cons]; repeat' (first | exact HBB1.out | (intro _ h; cases h; done) | (exact trivial) | constructor)), ?_⟩
                  clear hK K ho hb hrb HKx4 HGA
                  repeat (first | (refine Hist.wpG_plain 5 _ (by decide +kernel) rfl (by rfl) (by rfl) (fun K hK => ?_); go_big_quiet_op; refine hK _ ?_; clear hK K) | (refine Hist.wpG_plain 4 _ (by decide +kernel) rfl (by rfl) (by rfl) (fun K hK => ?_); go_big_quiet_op; refine hK _ ?_; clear hK K) | (refine Hist.wpG_plain 3 _ (by decide +kernel) rfl (by rfl) (by rfl) (fun K hK => ?_); go_big_quiet_op; refine hK _ ?_; clear hK K) | (refine Hist.wpG_plain 2 _ (by decide +kernel) rfl (by rfl) (by rfl) (fun K hK => ?_); go_big_quiet_op; refine hK _ ?_; clear hK K) | (refine Hist.wpG_plain 1 _ (by decide +kernel) rfl (by rfl) (by rfl) (fun K hK => ?_); go_big_quiet_op; refine hK _ ?_; clear hK K) | (refine Hist.wpG_plain 0 _ (by decide +kernel) rfl (by rfl) (by rfl) (fun K hK => ?_); go_big_quiet_op; refine hK _ ?_; clear hK K) | (refine Hist.wpG_skip (by rfl) (by rfl) ?_; simp only [Act.put, List.setIfInBounds_toArray, List.set_cons_succ, List.set_cons_zero]))
                  refine Hist.wpG_call (by rfl) (by rfl) (fun K hK => ?_)
                  go_big_op
                  refine (shCards sb 20 es1 _ HKx5.out.1 (by omega)).mono ?_
                  rintro e x6 ⟨v, rfl, ho, hb⟩
                  obtain ⟨ha, hc, rfl, hhc, hhm, hhat, -, -⟩ := ho.read
                  obtain ⟨n1, hn1⟩ : ∃ n1, (es1.map (·.c)).length = n1 := ⟨_, rfl⟩
                  have HN1 := Lib.hid hn1
                  have hn120 : n1 ≤ 20 := by rw [← hn1, List.length_map]; omega
                  rw [hn1] at hhc ⊢
                  have HHA := Lib.hid hhat
                  have HKx6 := Lib.hid (HKx5.out.ext hb)
                  have HBB6 := Lib.hid (BAt.ext HBB1.out hb)
                  refine hK _ _ ⟨fun _ => True, (by simp only [List.cons_append, List.nil_append, List.forall_mem_cons]; repeat' (first | exact HBB6.out | (intro _ h; cases h; done) | (exact trivial) | constructor)), ?_⟩
                  clear hK K ho hb hhat hn1 HKx5
                  repeat (first | (refine Hist.wpG_plain 6 _ (by decide +kernel) rfl (by rfl) (by rfl) (fun K hK => ?_); go_big_quiet_op; refine hK _ ?_; clear hK K) | (refine Hist.wpG_plain 5 _ (by decide +kernel) rfl (by rfl) (by rfl) (fun K hK => ?_); go_big_quiet_op; refine hK _ ?_; clear hK K) | (refine Hist.wpG_plain 4 _ (by decide +kernel) rfl (by rfl) (by rfl) (fun K hK => ?_); go_big_quiet_op; refine hK _ ?_; clear hK K) | (refine Hist.wpG_plain 3 _ (by decide +kernel) rfl (by rfl) (by rfl) (fun K hK => ?_); go_big_quiet_op; refine hK _ ?_; clear hK K) | (refine Hist.wpG_plain 2 _ (by decide +kernel) rfl (by rfl) (by rfl) (fun K hK => ?_); go_big_quiet_op; refine hK _ ?_; clear hK K) | (refine Hist.wpG_plain 1 _ (by decide +kernel) rfl (by rfl) (by rfl) (fun K hK => ?_); go_big_quiet_op; refine hK _ ?_; clear hK K) | (refine Hist.wpG_plain 0 _ (by decide +kernel) rfl (by rfl) (by rfl) (fun K hK => ?_); go_big_quiet_op; refine hK _ ?_; clear hK K) | (refine Hist.wpG_skip (by rfl) (by rfl) ?_; simp only [Act.put, List.setIfInBounds_toArray, List.set_cons_succ, List.set_cons_zero]))
                  refine Hist.wpG_call (by rfl) (by rfl) (fun K hK => ?_)
                  go_big_op
                  refine (refBytes9 ha n1 hc (es1.map (·.c)) _ HHA.out HN1.out hn120 hhc HCS1.out).mono ?_
                  rintro e x7 ⟨v, rfl, ho, hb⟩
                  obtain ⟨rr2, rc2, rfl, -, -, -, hrb, -, -⟩ := own_read ho
                  rw [HXX.out] at hrb ⊢
                  have HKx7 := Lib.hid (HKx6.out.ext hb)
                  have HBB2 := Lib.hid hrb
                  have HBB7 := Lib.hid (BAt.ext HBB6.out hb)
                  have FF2 : ∀ g : In (fun W : World => BAt W rr2 X), (convert 62 9 (.slice rr2 X.length rc2)).run Try.prog g.w = .ok (.string SX) g.w := fun g => by have := bytes_text (c := rc2) g.w g.h rfl; rw [HSX.out] at this; exact this
                  haveI hI2 : Nonempty (In (fun W : World => BAt W rr2 X)) := ⟨⟨_, HBB2.out⟩⟩
                  refine hK _ _ ⟨(fun W : World => BAt W rr2 X), (by simp only [List.cons_append, List.nil_append, List.forall_mem_cons]; repeat' (first | exact HBB7.out | exact HBB2.out | (intro _ h; cases h; done) | (exact trivial) | constructor)), ?_⟩
                  clear hK K ho hb hrb HKx6 HHA
                  repeat (first | (refine Hist.wpG_plain 7 _ (by decide +kernel) rfl (by rfl) (by rfl) (fun K hK => ?_); go_big_quiet_op; refine hK _ ?_; clear hK K) | (refine Hist.wpG_plain 6 _ (by decide +kernel) rfl (by rfl) (by rfl) (fun K hK => ?_); go_big_quiet_op; refine hK _ ?_; clear hK K) | (refine Hist.wpG_plain 5 _ (by decide +kernel) rfl (by rfl) (by rfl) (fun K hK => ?_); go_big_quiet_op; refine hK _ ?_; clear hK K) | (refine Hist.wpG_plain 4 _ (by decide +kernel) rfl (by rfl) (by rfl) (fun K hK => ?_); go_big_quiet_op; refine hK _ ?_; clear hK K) | (refine Hist.wpG_plain 3 _ (by decide +kernel) rfl (by rfl) (by rfl) (fun K hK => ?_); go_big_quiet_op; refine hK _ ?_; clear hK K) | (refine Hist.wpG_plain 2 _ (by decide +kernel) rfl (by rfl) (by rfl) (fun K hK => ?_); go_big_quiet_op; refine hK _ ?_; clear hK K) | (refine Hist.wpG_plain 1 _ (by decide +kernel) rfl (by rfl) (by rfl) (fun K hK => ?_); go_big_quiet_op; refine hK _ ?_; clear hK K) | (refine Hist.wpG_plain 0 _ (by decide +kernel) rfl (by rfl) (by rfl) (fun K hK => ?_); go_big_quiet_op; refine hK _ ?_; clear hK K) | (refine Hist.wpG_skip (by rfl) (by rfl) ?_; simp only [Act.put, List.setIfInBounds_toArray, List.set_cons_succ, List.set_cons_zero]))
                  refine Hist.wpG_nil ?_
                  clear hI0 hI1 hI2 FF1 FF2
                  go_wp2
                  go_roundw
                  case rel => exact ⟨I + 1, (N : Int), (N : Int), es1, (seenL (es1.map (·.c))), ks1, by omega, rfl, by go_num, .inr (by rw [HN.out]), by rw [HN.out]; omega, HKx7.out, HAS1.out, HKK1.out, HWS.out, HCH1.out⟩
                  case measure => simp [intOf]; omega
        · obtain ⟨M, rfl⟩ : ∃ M', M = M' + 1 := ⟨M - 1, by omega⟩
          have hdM : decide (0 < ((M + 1 : Nat) : Int)) = true := decide_eq_true (by omega)
          have hM9 : M ≤ 2 := by omega
          go_wp2_with fail
          refine (tapeCardF ra rlen rcap rz tb _ HP8.out.2.2.1 (show RowOk ra rlen rcap rz _ tb from ⟨HR.out.ext HP8.out.2.2.2.2.1, HNE.out⟩)).mono ?_
          rintro e w3 ⟨x, rfl, hok, hka, hki, ht, hb⟩
          have HXF := Lib.hid (show CdF x from ⟨hok, hka, hki⟩)
          have HP9' := Lib.hid (HP8.out.t ht hb)
          have D4 := Lib.hid (show Below w3.heap.size w3 (w3.alloc (.cells #[.string x.a, .string x.i, .int .i64 x.s, .int .i64 x.o, .int .i64 x.l, .int .i64 x.t, .int .i64 x.k, .int .i64 x.n, .bool x.g] 49)) from (Below.refl _ _).alloc (Nat.le_refl _) _)
          have HX9 := Lib.hid (blk_new w3 #[.string x.a, .string x.i, .int .i64 x.s, .int .i64 x.o, .int .i64 x.l, .int .i64 x.t, .int .i64 x.k, .int .i64 x.n, .bool x.g] 49)
          have HP9 := Lib.hid (HP9'.out.ext D4.out)
          have hlt3 := (show sb < w3.heap.size ∧ rb < w3.heap.size from ⟨HP9'.out.1.lt, HP9'.out.2.1.lt⟩)
          clear hok hka hki ht hb HP8 HP9' D4 hdM
          go_upto_region 13 with (fail)
          obtain ⟨p, hp⟩ : ∃ p, w3.heap.size = p := ⟨_, rfl⟩
          rw [hp] at HX9 hlt3
          try rw [hp]
          have HNP := Lib.hid (show p ≠ sb ∧ p ≠ rb from ⟨by omega, by omega⟩)
          clear hp hlt3
          generalize (w3.alloc (.cells #[.string x.a, .string x.i, .int .i64 x.s, .int .i64 x.o, .int .i64 x.l, .int .i64 x.t, .int .i64 x.k, .int .i64 x.n, .bool x.g] 49)) = w9 at *
          have hk9 := blk_cell HX9.out
          have hl9 := blk_lt HX9.out
          cases hin : isIn (enK (⟨x, 0⟩ : En)) es1
          · skip
            have HAS2 := Lib.hid (show Asc (insAt es1 (low (enK (⟨x, 0⟩ : En)) es1) (⟨x, 0⟩ : En)) from asc_ins HAS1.out hin)
            have HKK2 := Lib.hid (show ∀ e ∈ (insAt es1 (low (enK (⟨x, 0⟩ : En)) es1) (⟨x, 0⟩ : En)), CdF e.c from fun y hy => by rcases (mem_ins HAS1.out hin _).1 hy with rfl | hy; (· exact HXF.out); (· exact HKK1.out y hy.1))
            have HCH2 := Lib.hid (HCH1.out.put HAS2.out (⟨x, 0⟩ : En) (fun y => mem_ins HAS1.out hin _))
            have HF2 := Lib.hid (show es1.length + 1 ≤ 20 from by have := few_of HAS2.out HKK2.out; rw [insAt_len] at this; exact this)
            go_wp2_with fail
            refine (shPutNew sb 20 es1 (⟨x, 0⟩ : En) _ HP9.out.1 HAS1.out (by have := HFEW.out; omega) hin (by have := HF2.out; omega)).mono ?_
            rintro e w10 ⟨rfl, hs, hr⟩
            have HP10 := Lib.hid (HP9.out.s hs hr)
            have HX10 := Lib.hid ((hr.block p HNP.out.1 (blk_lt HX9.out)).trans HX9.out)
            obtain ⟨es3, hes⟩ : ∃ es3, (insAt es1 (low (enK (⟨x, 0⟩ : En)) es1) (⟨x, 0⟩ : En)) = es3 := ⟨_, rfl⟩
            rw [hes] at HP10 HAS2 HKK2 HCH2
            clear hs hr HP9 HX9 hk9 hl9 hes
            have hk10 := blk_cell HX10.out
            have hl10 := blk_lt HX10.out
            go_wp2_with fail
            refine (recentAdd rb (ks ++ ms).length (lastK (ks ++ ms) (ks ++ ms).length) (x.a, x.i) _ HP10.out.2.1 (by rw [lastK_len _ _ (Nat.le_refl _)]; omega) (by rw [List.length_append]; omega)).mono ?_
            rintro e w11 ⟨rfl, hs, hr⟩
            have HP11 := Lib.hid (HP10.out.r (ms := ks ++ (ms ++ [(x.a, x.i)])) (by have h9 := hs; have e9 : (ks ++ ms ++ [(x.a, x.i)]).length = (ks ++ ms).length + 1 := List.length_append; rw [addK_all, e9] at h9; rw [← List.append_assoc, e9]; exact h9) hr)
            have HML := Lib.hid (show (ms ++ [(x.a, x.i)]).length + M ≤ 3 from by rw [List.length_append]; simp only [List.length_cons, List.length_nil]; omega)
            have HCH3 := Lib.hid (show Ch [] es3 (ks ++ (ms ++ [(x.a, x.i)])) from by rw [← List.append_assoc]; exact HCH2.out)
            clear hs hr HP10 HX10 hk10 hl10
            go_wp2
            go_roundw
            case rel => exact ⟨M, es3, ms ++ [(x.a, x.i)], by go_num, HML.out, HP11.out, HAS2.out, HKK2.out, HCH3.out⟩
            case measure => simp [intOf]
          · skip
            have HAS2 := Lib.hid (show Asc (es1.set (low (enK (⟨x, 0⟩ : En)) es1) (⟨x, 0⟩ : En)) from asc_put HAS1.out hin)
            have HKK2 := Lib.hid (show ∀ e ∈ (es1.set (low (enK (⟨x, 0⟩ : En)) es1) (⟨x, 0⟩ : En)), CdF e.c from fun y hy => by rcases (mem_set HAS1.out hin).1 hy with rfl | hy; (· exact HXF.out); (· exact HKK1.out y hy.1))
            have HCH2 := Lib.hid (HCH1.out.put HAS2.out (⟨x, 0⟩ : En) (fun y => mem_set HAS1.out hin))
            go_wp2_with fail
            refine (shPutIn sb 20 es1 (⟨x, 0⟩ : En) _ HP9.out.1 HAS1.out (by have := HFEW.out; omega) hin).mono ?_
            rintro e w10 ⟨rfl, hs, hr⟩
            have HP10 := Lib.hid (HP9.out.s hs hr)
            have HX10 := Lib.hid ((hr.block p HNP.out.1 (blk_lt HX9.out)).trans HX9.out)
            obtain ⟨es3, hes⟩ : ∃ es3, (es1.set (low (enK (⟨x, 0⟩ : En)) es1) (⟨x, 0⟩ : En)) = es3 := ⟨_, rfl⟩
            rw [hes] at HP10 HAS2 HKK2 HCH2
            clear hs hr HP9 HX9 hk9 hl9 hes
            have hk10 := blk_cell HX10.out
            have hl10 := blk_lt HX10.out
            go_wp2_with fail
            refine (recentAdd rb (ks ++ ms).length (lastK (ks ++ ms) (ks ++ ms).length) (x.a, x.i) _ HP10.out.2.1 (by rw [lastK_len _ _ (Nat.le_refl _)]; omega) (by rw [List.length_append]; omega)).mono ?_
            rintro e w11 ⟨rfl, hs, hr⟩
            have HP11 := Lib.hid (HP10.out.r (ms := ks ++ (ms ++ [(x.a, x.i)])) (by have h9 := hs; have e9 : (ks ++ ms ++ [(x.a, x.i)]).length = (ks ++ ms).length + 1 := List.length_append; rw [addK_all, e9] at h9; rw [← List.append_assoc, e9]; exact h9) hr)
            have HML := Lib.hid (show (ms ++ [(x.a, x.i)]).length + M ≤ 3 from by rw [List.length_append]; simp only [List.length_cons, List.length_nil]; omega)
            have HCH3 := Lib.hid (show Ch [] es3 (ks ++ (ms ++ [(x.a, x.i)])) from by rw [← List.append_assoc]; exact HCH2.out)
            clear hs hr HP10 HX10 hk10 hl10
            go_wp2
            go_roundw
            case rel => exact ⟨M, es3, ms ++ [(x.a, x.i)], by go_num, HML.out, HP11.out, HAS2.out, HKK2.out, HCH3.out⟩
            case measure => simp [intOf]
    · have hdI : decide ((I : Int) < 12) = false := by simp; omega
      go_wp2_with fail
      refine (law21known _).mono ?_
      rintro e w6 ⟨rfl, hb⟩
      have HD6 := Lib.hid (ext_trans HK5.out.2.2.2.2.1 hb)
      clear hb
      go_wp2
      go_ret
      exact ⟨rfl, HD6.out⟩

end Go.Proofs.Ytkhcgopehmndgaa
