/- The law's parses. -/
import Derived.Test.YtcgembfdejjliaaGreatDoorScPa
import Derived.Test.YtcgembfdejjliaaGreatDoorStay
import Derived.Deep.Cut
namespace Go.Proofs.YtcgembfdejjliaaGreatDoor
open Go.RowKit
open Go.PlainAid (bt get_bt bt_le bt_nonneg)
set_option linter.unusedVariables false
set_option linter.unusedSimpArgs false

set_option maxRecDepth 100000 in
set_option maxHeartbeats 5000000 in
theorem parsesP (s : ByteArray) (hs : s.size ≤ 1048576) (w : World) (hw : SW w) :
    Calls Tryz.prog 8 #[.string s] w fun r w' => r = .returned (.bool true) ∧ Below w.heap.size w w' := by
  have HW := Lib.hid hw
  clear hw
  obtain ⟨n, hn⟩ : ∃ n, s.size = n := ⟨_, rfl⟩
  have HL := Lib.hid (show s.data.toList.length = n from hn)
  rw [hn] at hs
  have hb := get_bt s
  go_enter Tryz.func8, Tryz.ntmps8
  go_wp2_with fail
  refine (parseP s (by omega) w HW.out).mono ?_
  rintro e w1 ⟨va, vf, vs, rfl, hp⟩
  obtain ⟨A, hA⟩ : ∃ l, (pm 1 0 (nl s.data.toList)).1 = l := ⟨_, rfl⟩
  obtain ⟨FF, hFF⟩ : ∃ l, (pm 1 0 (nl s.data.toList)).2 = l := ⟨_, rfl⟩
  rw [hA, hFF] at hp
  have HPM0 := Lib.hid (show pm 1 0 (nl s.data.toList) = (A, FF) from Prod.ext hA hFF)
  obtain ⟨a1, c1, rfl, hc1, hA1⟩ := hp.oa.acts
  obtain ⟨e1, d1, rfl, hd1, hdm, he1⟩ := hp.ov.form
  have hvl := hp.fe.len
  obtain ⟨na, hna⟩ : ∃ n, A.length = n := ⟨_, rfl⟩
  obtain ⟨nf, hnf⟩ : ∃ n, vs.length = n := ⟨_, rfl⟩
  rw [hna] at hc1 ⊢
  rw [hnf] at hd1 ⊢
  have HPQ := Lib.hid hp
  have HAC := Lib.hid hA1
  have HEF := Lib.hid he1
  have HNA := Lib.hid hna
  have HNF := Lib.hid (show FF.length = nf from by rw [← hvl]; exact hnf)
  have hlb := nl_len s.data.toList
  have hsz := pm_len (nl s.data.toList) 1 0
  rw [HL.out] at hlb
  have hna2 : na ≤ n + 1 := by rw [HPM0.out, hna] at hsz; simp only at hsz; omega
  have hnf2 : nf ≤ n + 1 := by rw [HPM0.out, HNF.out] at hsz; simp only at hsz; omega
  clear hp hA1 he1 hvl hna hnf hA hFF hlb hsz hdm
  go_wp2_with fail
  go_loopw [5, 6, 7, 8, 9, 10] (fun nv av kv mv sv iv wr => ∃ (N A0 k m K I : Nat) (L : List (List UInt8)), nv = .int .i64 (N : Int) ∧ av = .int .i64 (A0 : Int) ∧ kv = .int .i64 (k : Int) ∧ mv = .int .i64 (m : Int) ∧ sv = .int .i64 (K : Int) ∧ iv = .int .i64 (I : Int) ∧ N ≤ I ∧ k ≤ na ∧ m ≤ nf ∧ (k ≤ I) ∧ (m ≤ I) ∧ K ≤ I ∧ Lft s.data.toList n I A0 L ∧ pm (N + 1) K L = (A.drop k, FF.drop m) ∧ Below w1.heap.size w1 wr) (fun _ _ _ _ _ iv _ => n + 1 - (RowKit.intOf iv).toNat)
  case atStart => exact ⟨0, 0, 0, 0, 0, 0, _, rfl, rfl, rfl, rfl, rfl, rfl, by omega, by omega, by omega, by omega, by omega, by omega, .inl ⟨by omega, by omega, rfl, fun k c h h2 => by omega⟩, HPM0.out, Below.refl _ _⟩
  case round =>
    obtain ⟨w4, rfl⟩ : ∃ y : World, y = wr := ⟨_, rfl⟩
    obtain ⟨N, A0, k, m, K, I, L, rfl, rfl, rfl, rfl, rfl, rfl, hNI, hk, hm, hka, hmf, hKI, hlft, hpm, hb4⟩ := hrel
    have H4 := Lib.hid (show _ ∧ _ ∧ _ from ⟨hlft, hpm, hb4⟩)
    have hI1 : I ≤ n + 1 := by rcases hlft with h | h <;> omega
    clear hlft hpm hb4
    by_cases hIn : I ≤ n
    · have hIni : (I : Int) ≤ (n : Int) := by omega
      by_cases hlt : I < n
      · have hlti : (I : Int) < (n : Int) := by omega
        obtain ⟨c, hc, hbc⟩ := bt_at s I (by omega)
        by_cases h10 : c = 10
        · have ht : (bt s I != 10) = false := by rw [hbc, h10]; rfl
          have hcut := H4.out.1.cut hlt (by rw [hc, h10])
          clear hc hbc h10
          obtain ⟨L', hL', hL2⟩ := hcut
          obtain ⟨q, hq⟩ : ∃ q, s.extract A0 I = q := ⟨_, rfl⟩
          have hqd : q.data.toList = (s.data.toList.drop A0).take (I - A0) := by
            rw [← hq]
            simp [ByteArray.data_extract, Array.toList_extract, List.extract_eq_take_drop]
          have hqz : q.size ≤ 1048576 := by
            have h1 : q.data.toList.length = q.size := rfl
            rw [← h1, hqd, List.length_take, List.length_drop]
            have h2 : s.data.toList.length = n := HL.out
            omega
          have hA0I : A0 ≤ I := H4.out.1.in hIn
          have hsl : ∀ y : World, (Instr.slice 9 (.string s) (some (.int .i64 (A0 : Int))) (some (.int .i64 (I : Int))) none).run Tryz.prog y = .ok (.string q) y := fun y => by
            rw [run_slice_string y 9 s .i64 .i64 (A0 : Int) (I : Int) Tryz.underlying9 (by omega) (by omega) (by omega)]
            rw [← hq]
            simp
          have HQ := Lib.hid (show _ ∧ _ ∧ _ from ⟨hqd, hL2, show ∀ c ∈ q.data.toList, c ≠ 10 from by rw [hqd]; exact H4.out.1.seg hIn⟩)
          have HPM := Lib.hid (show pm (N + 1) K (q.data.toList :: L') = (A.drop k, FF.drop m) from by rw [hqd, ← hL']; exact H4.out.2.1)
          clear hq hL' hL2 hqd
          by_cases hqs : q.size = 0
          · have he : q.toList.isEmpty = true := by have := size_empty q; simp [hqs] at this; simpa using this
            have hnil : q.data.toList = [] := by
              have h1 : q.data.toList.length = q.size := rfl
              exact List.eq_nil_of_length_eq_zero (by omega)
            have HP2 := Lib.hid (pm_idle HPM.out (.inl hnil))
            clear hnil
            go_wp2
            exact ⟨⟨N + 1, I + 1, k, m, K, I + 1, L', by go_num, by go_num, rfl, rfl, rfl, by go_num, by omega, hk, hm, by omega, by omega, by omega, HQ.out.2.1, HP2.out, H4.out.2.2⟩, by simp [RowKit.intOf]; omega⟩
          · have he : q.toList.isEmpty = false := by have := size_empty q; simp [hqs] at this; simpa using this
            have hnil : q.data.toList ≠ [] := fun h => hqs (by show q.data.size = 0; rw [← Array.length_toList, h]; rfl)
            have HNIL := Lib.hid hnil
            clear hnil
            by_cases hK4 : 400 ≤ K
            · have HP2 := Lib.hid (pm_idle HPM.out (.inr hK4))
              have h40 : (400 : Int) ≤ (K : Int) := by omega
              go_wp2
              exact ⟨⟨N + 1, I + 1, k, m, K, I + 1, L', by go_num, by go_num, rfl, rfl, rfl, by go_num, by omega, hk, hm, by omega, by omega, by omega, HQ.out.2.1, HP2.out, H4.out.2.2⟩, by simp [RowKit.intOf]; omega⟩
            · have h40 : ¬ (400 : Int) ≤ (K : Int) := by omega
              go_wp2_with fail
              refine (docLine q hqz w4).mono ?_
              rintro e w6 ⟨op, rfl, hop, hb6⟩
              rw [← lineM_seg q HQ.out.2.2] at hop ⊢
              have H6 := Lib.hid (show _ ∧ _ from ⟨ext_trans H4.out.2.2 hb6, hop⟩)
              obtain ⟨r, hr⟩ : ∃ r, (lineM q).getD acZ = r := ⟨_, rfl⟩
              rw [hr]
              obtain ⟨ok, hok⟩ : ∃ o, (lineM q).isSome = o := ⟨_, rfl⟩
              rw [hok]
              have HOK := Lib.hid hok
              simp only [acC]
              clear hb6 hop hok
              go_upto_region 13 with (fail)
              have B5 := al_below w6 (.cells #[.int .i64 r.k, .int .i64 r.a, .int .i64 r.b, .int .i64 r.op, .int .i64 r.st, .int .i64 r.n, .string r.app] 29)
              have X5 := blk_new w6 #[.int .i64 r.k, .int .i64 r.a, .int .i64 r.b, .int .i64 r.op, .int .i64 r.st, .int .i64 r.n, .string r.app] 29
              have H5 := Lib.hid (show _ ∧ _ from ⟨ext_trans H6.out.1 B5, X5⟩)
              generalize (w6.alloc (.cells #[.int .i64 r.k, .int .i64 r.a, .int .i64 r.b, .int .i64 r.op, .int .i64 r.st, .int .i64 r.n, .string r.app] 29)) = w5 at *
              generalize w6.heap.size = p6 at *
              clear B5 X5
              cases hM : lineM q with
              | some a =>
                rw [hM] at hr
                obtain rfl : a = r := hr
                obtain ⟨hka1, hpm1⟩ := pm_hit HPM.out (by omega) HNIL.out hM
                have HP2 := Lib.hid (show _ ∧ _ from ⟨hka1, hpm1⟩)
                have hk1 : k < na := by
                  have := (List.getElem?_eq_some_iff.1 hka1).1
                  have := HNA.out
                  omega
                obtain ⟨g1, o1, rfl, h1⟩ := HAC.out.resolve_left (by intro e; rw [e] at hka1; simp at hka1)
                have p0 := ext_cell H5.out.1 (h1 k a hka1 0 _ rfl)
                have p1 := ext_cell H5.out.1 (h1 k a hka1 1 _ rfl)
                have p2 := ext_cell H5.out.1 (h1 k a hka1 2 _ rfl)
                have p3 := ext_cell H5.out.1 (h1 k a hka1 3 _ rfl)
                have p4 := ext_cell H5.out.1 (h1 k a hka1 4 _ rfl)
                have p5 := ext_cell H5.out.1 (h1 k a hka1 5 _ rfl)
                have p6x := ext_cell H5.out.1 (h1 k a hka1 6 _ rfl)
                rw [Nat.add_zero] at p0
                have hx := blk_cell H5.out.2
                have q0 := hx 0
                have q1 := hx 1
                have q2 := hx 2
                have q3 := hx 3
                have q4 := hx 4
                have q5 := hx 5
                have q6 := hx 6
                simp only [List.getElem?_toArray, List.getElem?_cons_zero, List.getElem?_cons_succ] at q0 q1 q2 q3 q4 q5 q6
                have hne := act_ne a.k a.a a.b a.op a.st a.n a.app
                have t1 : decide (na ≤ k) = false := decide_eq_false (by omega)
                have t2 : decide ((na : Int) ≤ (k : Int)) = false := decide_eq_false (by omega)
                have t3 : (k : Int) < (na : Int) := by omega
                obtain rfl : ok = true := by rw [← HOK.out, hM]; rfl
                clear hM h1 hx hka1 hpm1
                go_wp2_with fail
                haveI hIq : Nonempty (Of w5) := of_some _
                have hF0 := of_cell p0
                have hF1 := of_cell p1
                have hF2 := of_cell p2
                have hF3 := of_cell p3
                have hF4 := of_cell p4
                have hF5 := of_cell p5
                have hF6 := of_cell p6x
                have hG0 := of_cell q0
                have hG1 := of_cell q1
                have hG2 := of_cell q2
                have hG3 := of_cell q3
                have hG4 := of_cell q4
                have hG5 := of_cell q5
                have hG6 := of_cell q6
                first | (refine wp_region_stay w5 (by kernel_rfl) (by kernel_rfl) (by go_grown) ?_) | (refine wp_region_stay_seq w5 (by go_grown) ?_)
                repeat (go_big_quiet_step (fail))
                refine wpQuiet_nil ?_
                intro w6 hb6
                clear hIq hF0 hG0 hF1 hG1 hF2 hG2 hF3 hG3 hF4 hG4 hF5 hG5 hF6 hG6
                have HB6 := Lib.hid (ext_trans H5.out.1 hb6)
                clear hb6 p0 p1 p2 p3 p4 p5 p6x q0 q1 q2 q3 q4 q5 q6 hne
                go_wp2
                exact ⟨⟨N + 1, I + 1, k + 1, m, K + 1, I + 1, L', by go_num, by go_num, by go_num, rfl, by go_num, by go_num, by omega, by omega, hm, by omega, by omega, by omega, HQ.out.2.1, HP2.out.2, HB6.out⟩, by simp [RowKit.intOf]; omega⟩
              | none =>
                have hop := H6.out.2 hM
                obtain ⟨hf1, hpm1⟩ := pm_none HPM.out (by omega) HNIL.out hM
                have HP2 := Lib.hid (show _ ∧ _ from ⟨hf1, hpm1⟩)
                have hm1 : m < nf := by
                  have := (List.getElem?_eq_some_iff.1 hf1).1
                  have := HNF.out
                  omega
                obtain ⟨v, hv, hfc⟩ := FErr.at2 HPQ.out.fe hf1
                simp only at hfc
                obtain ⟨eb, rfl, -, -⟩ := HEF.out.resolve_left (by rintro ⟨-, -, e⟩; rw [e] at hv; simp at hv)
                have y0 := ext_cell H5.out.1 (OwnR.at eE_len HPQ.out.ov hv 0 v rfl)
                rw [Nat.mul_one, Nat.add_zero] at y0
                have HY := Lib.hid y0
                have HFC := Lib.hid (show FC w5 (.iface 39 (.int .i64 12)) [lnm (N + 1), op] v from by rw [hop]; exact hfc.ext H5.out.1)
                have HSW := Lib.hid (HW.out.ext (ext_trans HPQ.out.bl H5.out.1))
                have hN1 : -9223372036854775808 ≤ (N : Int) + 1 ∧ (N : Int) + 1 ≤ 9223372036854775807 := by omega
                have hadd : ∀ y : World, (Op.stringOp .add ⟨#[108, 105, 110, 101, 32]⟩ (itoB ((N : Int) + 1))).run Tryz.prog y = .ok (.string (lnm (N + 1))) y := fun y => by
                  have h0 := lnm_add (N + 1) (ito_len _ (by omega)) y
                  rwa [show ((N + 1 : Nat) : Int) = (N : Int) + 1 from by omega] at h0
                have t1 : decide (nf ≤ m) = false := decide_eq_false (by omega)
                have t2 : decide ((nf : Int) ≤ (m : Int)) = false := decide_eq_false (by omega)
                have t3 : (m : Int) < (nf : Int) := by omega
                obtain rfl : ok = false := by rw [← HOK.out, hM]; rfl
                clear hM hf1 hpm1 hfc hv y0 hop hr
                go_wp2_with fail
                refine wp_region_inv_eq (J := fun A d act x => ∃ u73 u74 u75 u76 u77 u78 u79 u80 u81 u82 u83 u84 u85 u86 u87 u88 u89 : Value, act = (((((((((((((((((A.put (some 73) u73).put (some 74) u74).put (some 75) u75).put (some 76) u76).put (some 77) u77).put (some 78) u78).put (some 79) u79).put (some 80) u80).put (some 81) u81).put (some 82) u82).put (some 83) u83).put (some 84) u84).put (some 85) u85).put (some 86) u86).put (some 87) u87).put (some 88) u88).put (some 89) u89) ∧ RJ w5 (.int .i64 (m : Int)) (.slice (some ⟨eb, 0, none⟩) nf d1) (.int .i64 (nf : Int)) (.pointer (some ⟨eb, m, none⟩)) v (.int .i64 ((N : Int) + 1)) (itoB ((N : Int) + 1)) (lnm (N + 1)) op d x u73 u74 u75 u76 u77 u78 u79 u80 u81 u82 u83 u84 u85 u86 u87 u88 u89) (by simp only [Act.put, List.setIfInBounds_toArray, List.set_cons_succ, List.set_cons_zero]; rfl) (by kernel_rfl) (by kernel_rfl) ?_ ?_ ?_
                · exact ⟨_, _, _, _, _, _, _, _, _, _, _, _, _, _, _, _, _, rfl, ⟨(Below.refl _ _).drew, (fun h => by cases h), (fun h => by cases h), (fun h => by cases h), (fun h => by cases h), (fun h => by cases h), (fun h => by cases h), (fun h => by cases h), (fun h => by cases h), (fun h => by cases h), (fun h => by cases h), (fun h => by cases h), (fun h => by cases h), (fun h => by cases h), (fun h => by cases h), (fun h => by cases h), (fun h => by cases h), (fun h => by cases h)⟩⟩
                · refine stepsOk_cons (k := 0) ?_ (stepsOk_cons (k := 1) ?_ (stepsOk_cons (k := 2) ?_ (stepsOk_cons (k := 3) ?_ (stepsOk_cons (k := 4) ?_ (stepsOk_cons (k := 5) ?_ (stepsOk_cons (k := 6) ?_ (stepsOk_cons (k := 7) ?_ (stepsOk_cons (k := 8) ?_ (stepsOk_cons (k := 9) ?_ (stepsOk_cons (k := 10) ?_ (stepsOk_cons (k := 11) ?_ (stepsOk_cons (k := 12) ?_ (stepsOk_cons (k := 13) ?_ (stepsOk_cons (k := 14) ?_ (stepsOk_cons (k := 15) ?_ (stepsOk_cons (k := 16) ?_ stepsOk_nil))))))))))))))))
                  · unfold StepOk
                    rintro d act xw ⟨u73, u74, u75, u76, u77, u78, u79, u80, u81, u82, u83, u84, u85, u86, u87, u88, u89, rfl, F⟩ hd hdep Kc hKc
                    rw [if_pos (by rfl)]
                    go_big_op
                    exact hKc _ _ ⟨_, _, _, _, _, _, _, _, _, _, _, _, _, _, _, _, _, rfl, ⟨F.bl, (fun _ => rfl), (fun h => F.s1 (up h rfl)), (fun h => F.s2 (up h rfl)), (fun h => F.s3 (up h rfl)), (fun h => F.s4 (up h rfl)), (fun h => F.s5 (up h rfl)), (fun h => F.s6 (up h rfl)), (fun h => F.s7 (up h rfl)), (fun h => F.s8 (up h rfl)), (fun h => F.s9 (up h rfl)), (fun h => F.s10 (up h rfl)), (fun h => F.s11 (up h rfl)), (fun h => F.s12 (up h rfl)), (fun h => F.s14 (up h rfl)), (fun h => F.s15 (up h rfl)), (fun h => F.s16 (up h rfl)), (fun h => F.s13 (up h rfl))⟩⟩
                  · unfold StepOk
                    rintro d act xw ⟨u73, u74, u75, u76, u77, u78, u79, u80, u81, u82, u83, u84, u85, u86, u87, u88, u89, rfl, F⟩ hd hdep Kc hKc
                    rw [if_pos (by rfl)]
                    go_big_op
                    exact hKc _ _ ⟨_, _, _, _, _, _, _, _, _, _, _, _, _, _, _, _, _, rfl, ⟨F.bl, (fun h => F.s0 (up h rfl)), (fun _ => rfl), (fun h => F.s2 (up h rfl)), (fun h => F.s3 (up h rfl)), (fun h => F.s4 (up h rfl)), (fun h => F.s5 (up h rfl)), (fun h => F.s6 (up h rfl)), (fun h => F.s7 (up h rfl)), (fun h => F.s8 (up h rfl)), (fun h => F.s9 (up h rfl)), (fun h => F.s10 (up h rfl)), (fun h => F.s11 (up h rfl)), (fun h => F.s12 (up h rfl)), (fun h => F.s14 (up h rfl)), (fun h => F.s15 (up h rfl)), (fun h => F.s16 (up h rfl)), (fun h => F.s13 (up h rfl))⟩⟩
                  · unfold StepOk
                    rintro d act xw ⟨u73, u74, u75, u76, u77, u78, u79, u80, u81, u82, u83, u84, u85, u86, u87, u88, u89, rfl, F⟩ hd hdep Kc hKc
                    have h1 : d 1 = true := hdep ⟨1, .data⟩ (by simp) rfl
                    obtain rfl := F.s1 h1
                    rw [if_pos (by rfl)]
                    go_big_op
                    exact hKc _ _ ⟨_, _, _, _, _, _, _, _, _, _, _, _, _, _, _, _, _, rfl, ⟨F.bl, (fun h => F.s0 (up h rfl)), (fun h => F.s1 (up h rfl)), (fun _ => rfl), (fun h => F.s3 (up h rfl)), (fun h => F.s4 (up h rfl)), (fun h => F.s5 (up h rfl)), (fun h => F.s6 (up h rfl)), (fun h => F.s7 (up h rfl)), (fun h => F.s8 (up h rfl)), (fun h => F.s9 (up h rfl)), (fun h => F.s10 (up h rfl)), (fun h => F.s11 (up h rfl)), (fun h => F.s12 (up h rfl)), (fun h => F.s14 (up h rfl)), (fun h => F.s15 (up h rfl)), (fun h => F.s16 (up h rfl)), (fun h => F.s13 (up h rfl))⟩⟩
                  · unfold StepOk
                    rintro d act xw ⟨u73, u74, u75, u76, u77, u78, u79, u80, u81, u82, u83, u84, u85, u86, u87, u88, u89, rfl, F⟩ hd hdep Kc hKc
                    have h0 : d 0 = true := hdep ⟨0, .data⟩ (by simp) rfl
                    obtain rfl := F.s0 h0
                    have h2 : d 2 = true := hdep ⟨2, .data⟩ (by simp) rfl
                    obtain rfl := F.s2 h2
                    rw [if_pos (by rfl)]
                    go_big_op
                    exact hKc _ _ ⟨_, _, _, _, _, _, _, _, _, _, _, _, _, _, _, _, _, rfl, ⟨F.bl, (fun h => F.s0 (up h rfl)), (fun h => F.s1 (up h rfl)), (fun h => F.s2 (up h rfl)), (fun _ => rfl), (fun h => F.s4 (up h rfl)), (fun h => F.s5 (up h rfl)), (fun h => F.s6 (up h rfl)), (fun h => F.s7 (up h rfl)), (fun h => F.s8 (up h rfl)), (fun h => F.s9 (up h rfl)), (fun h => F.s10 (up h rfl)), (fun h => F.s11 (up h rfl)), (fun h => F.s12 (up h rfl)), (fun h => F.s14 (up h rfl)), (fun h => F.s15 (up h rfl)), (fun h => F.s16 (up h rfl)), (fun h => F.s13 (up h rfl))⟩⟩
                  · unfold StepOk
                    rintro d act xw ⟨u73, u74, u75, u76, u77, u78, u79, u80, u81, u82, u83, u84, u85, u86, u87, u88, u89, rfl, F⟩ hd hdep Kc hKc
                    have h3 : d 3 = true := hdep ⟨3, .data⟩ (by simp) rfl
                    obtain rfl := F.s3 h3
                    rw [if_pos (by rfl)]
                    go_big_op
                    exact hKc _ _ ⟨_, _, _, _, _, _, _, _, _, _, _, _, _, _, _, _, _, rfl, ⟨F.bl, (fun h => F.s0 (up h rfl)), (fun h => F.s1 (up h rfl)), (fun h => F.s2 (up h rfl)), (fun h => F.s3 (up h rfl)), (fun _ => rfl), (fun h => F.s5 (up h rfl)), (fun h => F.s6 (up h rfl)), (fun h => F.s7 (up h rfl)), (fun h => F.s8 (up h rfl)), (fun h => F.s9 (up h rfl)), (fun h => F.s10 (up h rfl)), (fun h => F.s11 (up h rfl)), (fun h => F.s12 (up h rfl)), (fun h => F.s14 (up h rfl)), (fun h => F.s15 (up h rfl)), (fun h => F.s16 (up h rfl)), (fun h => F.s13 (up h rfl))⟩⟩
                  · unfold StepOk
                    rintro d act xw ⟨u73, u74, u75, u76, u77, u78, u79, u80, u81, u82, u83, u84, u85, u86, u87, u88, u89, rfl, F⟩ hd hdep Kc hKc
                    have h4 : d 4 = true := hdep ⟨4, .guard⟩ (by simp) rfl
                    obtain rfl := F.s4 h4
                    rw [if_pos (by rfl)]
                    go_big_op
                    exact hKc _ _ ⟨_, _, _, _, _, _, _, _, _, _, _, _, _, _, _, _, _, rfl, ⟨F.bl, (fun h => F.s0 (up h rfl)), (fun h => F.s1 (up h rfl)), (fun h => F.s2 (up h rfl)), (fun h => F.s3 (up h rfl)), (fun h => F.s4 (up h rfl)), (fun _ => rfl), (fun h => F.s6 (up h rfl)), (fun h => F.s7 (up h rfl)), (fun h => F.s8 (up h rfl)), (fun h => F.s9 (up h rfl)), (fun h => F.s10 (up h rfl)), (fun h => F.s11 (up h rfl)), (fun h => F.s12 (up h rfl)), (fun h => F.s14 (up h rfl)), (fun h => F.s15 (up h rfl)), (fun h => F.s16 (up h rfl)), (fun h => F.s13 (up h rfl))⟩⟩
                  · unfold StepOk
                    rintro d act xw ⟨u73, u74, u75, u76, u77, u78, u79, u80, u81, u82, u83, u84, u85, u86, u87, u88, u89, rfl, F⟩ hd hdep Kc hKc
                    have h4 : d 4 = true := hdep ⟨4, .guard⟩ (by simp) rfl
                    obtain rfl := F.s4 h4
                    rw [if_pos (by rfl)]
                    go_big_op
                    exact hKc _ _ ⟨_, _, _, _, _, _, _, _, _, _, _, _, _, _, _, _, _, rfl, ⟨F.bl, (fun h => F.s0 (up h rfl)), (fun h => F.s1 (up h rfl)), (fun h => F.s2 (up h rfl)), (fun h => F.s3 (up h rfl)), (fun h => F.s4 (up h rfl)), (fun h => F.s5 (up h rfl)), (fun _ => rfl), (fun h => F.s7 (up h rfl)), (fun h => F.s8 (up h rfl)), (fun h => F.s9 (up h rfl)), (fun h => F.s10 (up h rfl)), (fun h => F.s11 (up h rfl)), (fun h => F.s12 (up h rfl)), (fun h => F.s14 (up h rfl)), (fun h => F.s15 (up h rfl)), (fun h => F.s16 (up h rfl)), (fun h => F.s13 (up h rfl))⟩⟩
                  · unfold StepOk
                    rintro d act xw ⟨u73, u74, u75, u76, u77, u78, u79, u80, u81, u82, u83, u84, u85, u86, u87, u88, u89, rfl, F⟩ hd hdep Kc hKc
                    have h5 : d 5 = true := hdep ⟨5, .data⟩ (by simp) rfl
                    obtain rfl := F.s5 h5
                    have h6 : d 6 = true := hdep ⟨6, .data⟩ (by simp) rfl
                    obtain rfl := F.s6 h6
                    have h4 : d 4 = true := hdep ⟨4, .guard⟩ (by simp) rfl
                    obtain rfl := F.s4 h4
                    rw [if_pos (by rfl)]
                    go_big_op
                    exact hKc _ _ ⟨_, _, _, _, _, _, _, _, _, _, _, _, _, _, _, _, _, rfl, ⟨F.bl, (fun h => F.s0 (up h rfl)), (fun h => F.s1 (up h rfl)), (fun h => F.s2 (up h rfl)), (fun h => F.s3 (up h rfl)), (fun h => F.s4 (up h rfl)), (fun h => F.s5 (up h rfl)), (fun h => F.s6 (up h rfl)), (fun _ => rfl), (fun h => F.s8 (up h rfl)), (fun h => F.s9 (up h rfl)), (fun h => F.s10 (up h rfl)), (fun h => F.s11 (up h rfl)), (fun h => F.s12 (up h rfl)), (fun h => F.s14 (up h rfl)), (fun h => F.s15 (up h rfl)), (fun h => F.s16 (up h rfl)), (fun h => F.s13 (up h rfl))⟩⟩
                  · unfold StepOk
                    rintro d act xw ⟨u73, u74, u75, u76, u77, u78, u79, u80, u81, u82, u83, u84, u85, u86, u87, u88, u89, rfl, F⟩ hd hdep Kc hKc
                    have h7 : d 7 = true := hdep ⟨7, .data⟩ (by simp) rfl
                    obtain rfl := F.s7 h7
                    have h4 : d 4 = true := hdep ⟨4, .guard⟩ (by simp) rfl
                    obtain rfl := F.s4 h4
                    have y := ext_cell F.bl HY.out
                    have yl := cell_lt y
                    rw [if_pos (by rfl)]
                    go_big_op
                    exact hKc _ _ ⟨_, _, _, _, _, _, _, _, _, _, _, _, _, _, _, _, _, rfl, ⟨F.bl, (fun h => F.s0 (up h rfl)), (fun h => F.s1 (up h rfl)), (fun h => F.s2 (up h rfl)), (fun h => F.s3 (up h rfl)), (fun h => F.s4 (up h rfl)), (fun h => F.s5 (up h rfl)), (fun h => F.s6 (up h rfl)), (fun h => F.s7 (up h rfl)), (fun _ => rfl), (fun h => F.s9 (up h rfl)), (fun h => F.s10 (up h rfl)), (fun h => F.s11 (up h rfl)), (fun h => F.s12 (up h rfl)), (fun h => F.s14 (up h rfl)), (fun h => F.s15 (up h rfl)), (fun h => F.s16 (up h rfl)), (fun h => F.s13 (up h rfl))⟩⟩
                  · unfold StepOk
                    rintro d act xw ⟨u73, u74, u75, u76, u77, u78, u79, u80, u81, u82, u83, u84, u85, u86, u87, u88, u89, rfl, F⟩ hd hdep Kc hKc
                    have h4 : d 4 = true := hdep ⟨4, .guard⟩ (by simp) rfl
                    obtain rfl := F.s4 h4
                    rw [if_pos (by rfl)]
                    go_big_op
                    exact hKc _ _ ⟨_, _, _, _, _, _, _, _, _, _, _, _, _, _, _, _, _, rfl, ⟨F.bl, (fun h => F.s0 (up h rfl)), (fun h => F.s1 (up h rfl)), (fun h => F.s2 (up h rfl)), (fun h => F.s3 (up h rfl)), (fun h => F.s4 (up h rfl)), (fun h => F.s5 (up h rfl)), (fun h => F.s6 (up h rfl)), (fun h => F.s7 (up h rfl)), (fun h => F.s8 (up h rfl)), (fun _ => rfl), (fun h => F.s10 (up h rfl)), (fun h => F.s11 (up h rfl)), (fun h => F.s12 (up h rfl)), (fun h => F.s14 (up h rfl)), (fun h => F.s15 (up h rfl)), (fun h => F.s16 (up h rfl)), (fun h => F.s13 (up h rfl))⟩⟩
                  · unfold StepOk
                    rintro d act xw ⟨u73, u74, u75, u76, u77, u78, u79, u80, u81, u82, u83, u84, u85, u86, u87, u88, u89, rfl, F⟩ hd hdep Kc hKc
                    have h9 : d 9 = true := hdep ⟨9, .data⟩ (by simp) rfl
                    obtain rfl := F.s9 h9
                    have h4 : d 4 = true := hdep ⟨4, .guard⟩ (by simp) rfl
                    obtain rfl := F.s4 h4
                    rw [if_pos (by rfl)]
                    go_big_op
                    refine (docNumber _ hN1 _).mono ?_
                    rintro e x1 ⟨rfl, hb1⟩
                    exact hKc _ _ ⟨_, _, _, _, _, _, _, _, _, _, _, _, _, _, _, _, _, rfl, ⟨(ext_trans F.bl hb1), (fun h => F.s0 (up h rfl)), (fun h => F.s1 (up h rfl)), (fun h => F.s2 (up h rfl)), (fun h => F.s3 (up h rfl)), (fun h => F.s4 (up h rfl)), (fun h => F.s5 (up h rfl)), (fun h => F.s6 (up h rfl)), (fun h => F.s7 (up h rfl)), (fun h => F.s8 (up h rfl)), (fun h => F.s9 (up h rfl)), (fun _ => rfl), (fun h => F.s11 (up h rfl)), (fun h => F.s12 (up h rfl)), (fun h => F.s14 (up h rfl)), (fun h => F.s15 (up h rfl)), (fun h => F.s16 (up h rfl)), (fun h => (F.s13 (up h rfl)).ext hb1)⟩⟩
                  · unfold StepOk
                    rintro d act xw ⟨u73, u74, u75, u76, u77, u78, u79, u80, u81, u82, u83, u84, u85, u86, u87, u88, u89, rfl, F⟩ hd hdep Kc hKc
                    have h10 : d 10 = true := hdep ⟨10, .data⟩ (by simp) rfl
                    obtain rfl := F.s10 h10
                    have h4 : d 4 = true := hdep ⟨4, .guard⟩ (by simp) rfl
                    obtain rfl := F.s4 h4
                    rw [if_pos (by rfl)]
                    go_big_op
                    exact hKc _ _ ⟨_, _, _, _, _, _, _, _, _, _, _, _, _, _, _, _, _, rfl, ⟨F.bl, (fun h => F.s0 (up h rfl)), (fun h => F.s1 (up h rfl)), (fun h => F.s2 (up h rfl)), (fun h => F.s3 (up h rfl)), (fun h => F.s4 (up h rfl)), (fun h => F.s5 (up h rfl)), (fun h => F.s6 (up h rfl)), (fun h => F.s7 (up h rfl)), (fun h => F.s8 (up h rfl)), (fun h => F.s9 (up h rfl)), (fun h => F.s10 (up h rfl)), (fun _ => rfl), (fun h => F.s12 (up h rfl)), (fun h => F.s14 (up h rfl)), (fun h => F.s15 (up h rfl)), (fun h => F.s16 (up h rfl)), (fun h => F.s13 (up h rfl))⟩⟩
                  · unfold StepOk
                    rintro d act xw ⟨u73, u74, u75, u76, u77, u78, u79, u80, u81, u82, u83, u84, u85, u86, u87, u88, u89, rfl, F⟩ hd hdep Kc hKc
                    have h4 : d 4 = true := hdep ⟨4, .guard⟩ (by simp) rfl
                    obtain rfl := F.s4 h4
                    rw [if_pos (by rfl)]
                    go_big_op
                    exact hKc _ _ ⟨_, _, _, _, _, _, _, _, _, _, _, _, _, _, _, _, _, rfl, ⟨F.bl, (fun h => F.s0 (up h rfl)), (fun h => F.s1 (up h rfl)), (fun h => F.s2 (up h rfl)), (fun h => F.s3 (up h rfl)), (fun h => F.s4 (up h rfl)), (fun h => F.s5 (up h rfl)), (fun h => F.s6 (up h rfl)), (fun h => F.s7 (up h rfl)), (fun h => F.s8 (up h rfl)), (fun h => F.s9 (up h rfl)), (fun h => F.s10 (up h rfl)), (fun h => F.s11 (up h rfl)), (fun _ => rfl), (fun h => F.s14 (up h rfl)), (fun h => F.s15 (up h rfl)), (fun h => F.s16 (up h rfl)), (fun h => F.s13 (up h rfl))⟩⟩
                  · unfold StepOk
                    rintro d act xw ⟨u73, u74, u75, u76, u77, u78, u79, u80, u81, u82, u83, u84, u85, u86, u87, u88, u89, rfl, F⟩ hd hdep Kc hKc
                    have h11 : d 11 = true := hdep ⟨11, .data⟩ (by simp) rfl
                    obtain rfl := F.s11 h11
                    have h12 : d 12 = true := hdep ⟨12, .data⟩ (by simp) rfl
                    obtain rfl := F.s12 h12
                    have h4 : d 4 = true := hdep ⟨4, .guard⟩ (by simp) rfl
                    obtain rfl := F.s4 h4
                    rw [if_pos (by rfl)]
                    go_big_op
                    exact hKc _ _ ⟨_, _, _, _, _, _, _, _, _, _, _, _, _, _, _, _, _, rfl, ⟨(F.bl.alloc F.bl.size _), (fun h => F.s0 (up h rfl)), (fun h => F.s1 (up h rfl)), (fun h => F.s2 (up h rfl)), (fun h => F.s3 (up h rfl)), (fun h => F.s4 (up h rfl)), (fun h => F.s5 (up h rfl)), (fun h => F.s6 (up h rfl)), (fun h => F.s7 (up h rfl)), (fun h => F.s8 (up h rfl)), (fun h => F.s9 (up h rfl)), (fun h => F.s10 (up h rfl)), (fun h => F.s11 (up h rfl)), (fun h => F.s12 (up h rfl)), (fun h => F.s14 (up h rfl)), (fun h => F.s15 (up h rfl)), (fun h => F.s16 (up h rfl)), (fun _ => tx_two _ _ _ _)⟩⟩
                  · unfold StepOk
                    rintro d act xw ⟨u73, u74, u75, u76, u77, u78, u79, u80, u81, u82, u83, u84, u85, u86, u87, u88, u89, rfl, F⟩ hd hdep Kc hKc
                    have h8 : d 8 = true := hdep ⟨8, .data⟩ (by simp) rfl
                    have e8 := (F.s8 h8).symm
                    subst e8
                    have h13 : d 13 = true := hdep ⟨13, .data⟩ (by simp) rfl
                    have h4 : d 4 = true := hdep ⟨4, .guard⟩ (by simp) rfl
                    obtain rfl := F.s4 h4
                    have htx := F.s13 h13
                    rw [if_pos (by rfl)]
                    go_big_op
                    refine (whyP [lnm (N + 1), op] v _ _ (HSW.out.ext F.bl) (HFC.out.ext F.bl) (by simp) (by simp) htx).mono ?_
                    rintro e x1 ⟨rfl, hb1⟩
                    exact hKc _ _ ⟨_, _, _, _, _, _, _, _, _, _, _, _, _, _, _, _, _, rfl, ⟨(ext_trans F.bl hb1), (fun h => F.s0 (up h rfl)), (fun h => F.s1 (up h rfl)), (fun h => F.s2 (up h rfl)), (fun h => F.s3 (up h rfl)), (fun h => F.s4 (up h rfl)), (fun h => F.s5 (up h rfl)), (fun h => F.s6 (up h rfl)), (fun h => F.s7 (up h rfl)), (fun h => F.s8 (up h rfl)), (fun h => F.s9 (up h rfl)), (fun h => F.s10 (up h rfl)), (fun h => F.s11 (up h rfl)), (fun h => F.s12 (up h rfl)), (fun _ => rfl), (fun h => F.s15 (up h rfl)), (fun h => F.s16 (up h rfl)), (fun h => (F.s13 (up h rfl)).ext hb1)⟩⟩
                  · unfold StepOk
                    rintro d act xw ⟨u73, u74, u75, u76, u77, u78, u79, u80, u81, u82, u83, u84, u85, u86, u87, u88, u89, rfl, F⟩ hd hdep Kc hKc
                    have h14 : d 14 = true := hdep ⟨14, .data⟩ (by simp) rfl
                    obtain rfl := F.s14 h14
                    have h4 : d 4 = true := hdep ⟨4, .guard⟩ (by simp) rfl
                    obtain rfl := F.s4 h4
                    rw [if_pos (by rfl)]
                    go_big_op
                    exact hKc _ _ ⟨_, _, _, _, _, _, _, _, _, _, _, _, _, _, _, _, _, rfl, ⟨F.bl, (fun h => F.s0 (up h rfl)), (fun h => F.s1 (up h rfl)), (fun h => F.s2 (up h rfl)), (fun h => F.s3 (up h rfl)), (fun h => F.s4 (up h rfl)), (fun h => F.s5 (up h rfl)), (fun h => F.s6 (up h rfl)), (fun h => F.s7 (up h rfl)), (fun h => F.s8 (up h rfl)), (fun h => F.s9 (up h rfl)), (fun h => F.s10 (up h rfl)), (fun h => F.s11 (up h rfl)), (fun h => F.s12 (up h rfl)), (fun h => F.s14 (up h rfl)), (fun _ => rfl), (fun h => F.s16 (up h rfl)), (fun h => F.s13 (up h rfl))⟩⟩
                  · unfold StepOk
                    rintro d act xw ⟨u73, u74, u75, u76, u77, u78, u79, u80, u81, u82, u83, u84, u85, u86, u87, u88, u89, rfl, F⟩ hd hdep Kc hKc
                    have h4 : d 4 = true := hdep ⟨4, .data⟩ (by simp) rfl
                    obtain rfl := F.s4 h4
                    have h15 : d 15 = true := hdep ⟨15, .data⟩ (by simp) rfl
                    obtain rfl := F.s15 h15
                    rw [if_pos (by rfl)]
                    go_big_op
                    exact hKc _ _ ⟨_, _, _, _, _, _, _, _, _, _, _, _, _, _, _, _, _, rfl, ⟨F.bl, (fun h => F.s0 (up h rfl)), (fun h => F.s1 (up h rfl)), (fun h => F.s2 (up h rfl)), (fun h => F.s3 (up h rfl)), (fun h => F.s4 (up h rfl)), (fun h => F.s5 (up h rfl)), (fun h => F.s6 (up h rfl)), (fun h => F.s7 (up h rfl)), (fun h => F.s8 (up h rfl)), (fun h => F.s9 (up h rfl)), (fun h => F.s10 (up h rfl)), (fun h => F.s11 (up h rfl)), (fun h => F.s12 (up h rfl)), (fun h => F.s14 (up h rfl)), (fun h => F.s15 (up h rfl)), (fun _ => rfl), (fun h => F.s13 (up h rfl))⟩⟩
                · rintro d act xw ⟨u73, u74, u75, u76, u77, u78, u79, u80, u81, u82, u83, u84, u85, u86, u87, u88, u89, rfl, F⟩ hall
                  have HB6 := Lib.hid F.bl
                  obtain rfl := F.s16 (hall 16 (by decide))
                  clear F hall
                  go_wp2
                  exact ⟨⟨N + 1, I + 1, k, m + 1, K + 1, I + 1, L', by go_num, by go_num, rfl, by go_num, by go_num, by go_num, by omega, hk, by omega, by omega, by omega, by omega, HQ.out.2.1, HP2.out.2, ext_trans H5.out.1 HB6.out⟩, by simp [RowKit.intOf]; omega⟩
        · have ht : (bt s I != 10) = true := by
            rw [hbc]
            have h2 : c.toNat ≠ 10 := fun e => h10 (UInt8.toNat_inj.1 e)
            simp; omega
          have HG := Lib.hid (H4.out.1.go hlt hc h10)
          clear hc hbc
          go_wp2
          exact ⟨⟨N, A0, k, m, K, I + 1, L, rfl, rfl, rfl, rfl, rfl, by go_num, by omega, hk, hm, by omega, by omega, by omega, HG.out, H4.out.2.1, H4.out.2.2⟩, by simp [RowKit.intOf]; omega⟩
      · have hIe : I = n := by omega
        have hlti : ¬ (I : Int) < (n : Int) := by omega
        have hcut : ∃ L', L = (s.data.toList.drop A0).take (I - A0) :: L' ∧ Lft s.data.toList n (I + 1) (I + 1) L' := by
          have h1 := H4.out.1
          rw [hIe] at h1 ⊢
          exact h1.fin HL.out
        clear hIe
        obtain ⟨L', hL', hL2⟩ := hcut
        obtain ⟨q, hq⟩ : ∃ q, s.extract A0 I = q := ⟨_, rfl⟩
        have hqd : q.data.toList = (s.data.toList.drop A0).take (I - A0) := by
          rw [← hq]
          simp [ByteArray.data_extract, Array.toList_extract, List.extract_eq_take_drop]
        have hqz : q.size ≤ 1048576 := by
          have h1 : q.data.toList.length = q.size := rfl
          rw [← h1, hqd, List.length_take, List.length_drop]
          have h2 : s.data.toList.length = n := HL.out
          omega
        have hA0I : A0 ≤ I := H4.out.1.in hIn
        have hsl : ∀ y : World, (Instr.slice 9 (.string s) (some (.int .i64 (A0 : Int))) (some (.int .i64 (I : Int))) none).run Tryz.prog y = .ok (.string q) y := fun y => by
          rw [run_slice_string y 9 s .i64 .i64 (A0 : Int) (I : Int) Tryz.underlying9 (by omega) (by omega) (by omega)]
          rw [← hq]
          simp
        have HQ := Lib.hid (show _ ∧ _ ∧ _ from ⟨hqd, hL2, show ∀ c ∈ q.data.toList, c ≠ 10 from by rw [hqd]; exact H4.out.1.seg hIn⟩)
        have HPM := Lib.hid (show pm (N + 1) K (q.data.toList :: L') = (A.drop k, FF.drop m) from by rw [hqd, ← hL']; exact H4.out.2.1)
        clear hq hL' hL2 hqd
        by_cases hqs : q.size = 0
        · have he : q.toList.isEmpty = true := by have := size_empty q; simp [hqs] at this; simpa using this
          have hnil : q.data.toList = [] := by
            have h1 : q.data.toList.length = q.size := rfl
            exact List.eq_nil_of_length_eq_zero (by omega)
          have HP2 := Lib.hid (pm_idle HPM.out (.inl hnil))
          clear hnil
          go_wp2
          exact ⟨⟨N + 1, I + 1, k, m, K, I + 1, L', by go_num, by go_num, rfl, rfl, rfl, by go_num, by omega, hk, hm, by omega, by omega, by omega, HQ.out.2.1, HP2.out, H4.out.2.2⟩, by simp [RowKit.intOf]; omega⟩
        · have he : q.toList.isEmpty = false := by have := size_empty q; simp [hqs] at this; simpa using this
          have hnil : q.data.toList ≠ [] := fun h => hqs (by show q.data.size = 0; rw [← Array.length_toList, h]; rfl)
          have HNIL := Lib.hid hnil
          clear hnil
          by_cases hK4 : 400 ≤ K
          · have HP2 := Lib.hid (pm_idle HPM.out (.inr hK4))
            have h40 : (400 : Int) ≤ (K : Int) := by omega
            go_wp2
            exact ⟨⟨N + 1, I + 1, k, m, K, I + 1, L', by go_num, by go_num, rfl, rfl, rfl, by go_num, by omega, hk, hm, by omega, by omega, by omega, HQ.out.2.1, HP2.out, H4.out.2.2⟩, by simp [RowKit.intOf]; omega⟩
          · have h40 : ¬ (400 : Int) ≤ (K : Int) := by omega
            go_wp2_with fail
            refine (docLine q hqz w4).mono ?_
            rintro e w6 ⟨op, rfl, hop, hb6⟩
            rw [← lineM_seg q HQ.out.2.2] at hop ⊢
            have H6 := Lib.hid (show _ ∧ _ from ⟨ext_trans H4.out.2.2 hb6, hop⟩)
            obtain ⟨r, hr⟩ : ∃ r, (lineM q).getD acZ = r := ⟨_, rfl⟩
            rw [hr]
            obtain ⟨ok, hok⟩ : ∃ o, (lineM q).isSome = o := ⟨_, rfl⟩
            rw [hok]
            have HOK := Lib.hid hok
            simp only [acC]
            clear hb6 hop hok
            go_upto_region 13 with (fail)
            have B5 := al_below w6 (.cells #[.int .i64 r.k, .int .i64 r.a, .int .i64 r.b, .int .i64 r.op, .int .i64 r.st, .int .i64 r.n, .string r.app] 29)
            have X5 := blk_new w6 #[.int .i64 r.k, .int .i64 r.a, .int .i64 r.b, .int .i64 r.op, .int .i64 r.st, .int .i64 r.n, .string r.app] 29
            have H5 := Lib.hid (show _ ∧ _ from ⟨ext_trans H6.out.1 B5, X5⟩)
            generalize (w6.alloc (.cells #[.int .i64 r.k, .int .i64 r.a, .int .i64 r.b, .int .i64 r.op, .int .i64 r.st, .int .i64 r.n, .string r.app] 29)) = w5 at *
            generalize w6.heap.size = p6 at *
            clear B5 X5
            cases hM : lineM q with
            | some a =>
              rw [hM] at hr
              obtain rfl : a = r := hr
              obtain ⟨hka1, hpm1⟩ := pm_hit HPM.out (by omega) HNIL.out hM
              have HP2 := Lib.hid (show _ ∧ _ from ⟨hka1, hpm1⟩)
              have hk1 : k < na := by
                have := (List.getElem?_eq_some_iff.1 hka1).1
                have := HNA.out
                omega
              obtain ⟨g1, o1, rfl, h1⟩ := HAC.out.resolve_left (by intro e; rw [e] at hka1; simp at hka1)
              have p0 := ext_cell H5.out.1 (h1 k a hka1 0 _ rfl)
              have p1 := ext_cell H5.out.1 (h1 k a hka1 1 _ rfl)
              have p2 := ext_cell H5.out.1 (h1 k a hka1 2 _ rfl)
              have p3 := ext_cell H5.out.1 (h1 k a hka1 3 _ rfl)
              have p4 := ext_cell H5.out.1 (h1 k a hka1 4 _ rfl)
              have p5 := ext_cell H5.out.1 (h1 k a hka1 5 _ rfl)
              have p6x := ext_cell H5.out.1 (h1 k a hka1 6 _ rfl)
              rw [Nat.add_zero] at p0
              have hx := blk_cell H5.out.2
              have q0 := hx 0
              have q1 := hx 1
              have q2 := hx 2
              have q3 := hx 3
              have q4 := hx 4
              have q5 := hx 5
              have q6 := hx 6
              simp only [List.getElem?_toArray, List.getElem?_cons_zero, List.getElem?_cons_succ] at q0 q1 q2 q3 q4 q5 q6
              have hne := act_ne a.k a.a a.b a.op a.st a.n a.app
              have t1 : decide (na ≤ k) = false := decide_eq_false (by omega)
              have t2 : decide ((na : Int) ≤ (k : Int)) = false := decide_eq_false (by omega)
              have t3 : (k : Int) < (na : Int) := by omega
              obtain rfl : ok = true := by rw [← HOK.out, hM]; rfl
              clear hM h1 hx hka1 hpm1
              go_wp2_with fail
              haveI hIq : Nonempty (Of w5) := of_some _
              have hF0 := of_cell p0
              have hF1 := of_cell p1
              have hF2 := of_cell p2
              have hF3 := of_cell p3
              have hF4 := of_cell p4
              have hF5 := of_cell p5
              have hF6 := of_cell p6x
              have hG0 := of_cell q0
              have hG1 := of_cell q1
              have hG2 := of_cell q2
              have hG3 := of_cell q3
              have hG4 := of_cell q4
              have hG5 := of_cell q5
              have hG6 := of_cell q6
              first | (refine wp_region_stay w5 (by kernel_rfl) (by kernel_rfl) (by go_grown) ?_) | (refine wp_region_stay_seq w5 (by go_grown) ?_)
              repeat (go_big_quiet_step (fail))
              refine wpQuiet_nil ?_
              intro w6 hb6
              clear hIq hF0 hG0 hF1 hG1 hF2 hG2 hF3 hG3 hF4 hG4 hF5 hG5 hF6 hG6
              have HB6 := Lib.hid (ext_trans H5.out.1 hb6)
              clear hb6 p0 p1 p2 p3 p4 p5 p6x q0 q1 q2 q3 q4 q5 q6 hne
              go_wp2
              exact ⟨⟨N + 1, I + 1, k + 1, m, K + 1, I + 1, L', by go_num, by go_num, by go_num, rfl, by go_num, by go_num, by omega, by omega, hm, by omega, by omega, by omega, HQ.out.2.1, HP2.out.2, HB6.out⟩, by simp [RowKit.intOf]; omega⟩
            | none =>
              have hop := H6.out.2 hM
              obtain ⟨hf1, hpm1⟩ := pm_none HPM.out (by omega) HNIL.out hM
              have HP2 := Lib.hid (show _ ∧ _ from ⟨hf1, hpm1⟩)
              have hm1 : m < nf := by
                have := (List.getElem?_eq_some_iff.1 hf1).1
                have := HNF.out
                omega
              obtain ⟨v, hv, hfc⟩ := FErr.at2 HPQ.out.fe hf1
              simp only at hfc
              obtain ⟨eb, rfl, -, -⟩ := HEF.out.resolve_left (by rintro ⟨-, -, e⟩; rw [e] at hv; simp at hv)
              have y0 := ext_cell H5.out.1 (OwnR.at eE_len HPQ.out.ov hv 0 v rfl)
              rw [Nat.mul_one, Nat.add_zero] at y0
              have HY := Lib.hid y0
              have HFC := Lib.hid (show FC w5 (.iface 39 (.int .i64 12)) [lnm (N + 1), op] v from by rw [hop]; exact hfc.ext H5.out.1)
              have HSW := Lib.hid (HW.out.ext (ext_trans HPQ.out.bl H5.out.1))
              have hN1 : -9223372036854775808 ≤ (N : Int) + 1 ∧ (N : Int) + 1 ≤ 9223372036854775807 := by omega
              have hadd : ∀ y : World, (Op.stringOp .add ⟨#[108, 105, 110, 101, 32]⟩ (itoB ((N : Int) + 1))).run Tryz.prog y = .ok (.string (lnm (N + 1))) y := fun y => by
                have h0 := lnm_add (N + 1) (ito_len _ (by omega)) y
                rwa [show ((N + 1 : Nat) : Int) = (N : Int) + 1 from by omega] at h0
              have t1 : decide (nf ≤ m) = false := decide_eq_false (by omega)
              have t2 : decide ((nf : Int) ≤ (m : Int)) = false := decide_eq_false (by omega)
              have t3 : (m : Int) < (nf : Int) := by omega
              obtain rfl : ok = false := by rw [← HOK.out, hM]; rfl
              clear hM hf1 hpm1 hfc hv y0 hop hr
              go_wp2_with fail
              refine wp_region_inv_eq (J := fun A d act x => ∃ u73 u74 u75 u76 u77 u78 u79 u80 u81 u82 u83 u84 u85 u86 u87 u88 u89 : Value, act = (((((((((((((((((A.put (some 73) u73).put (some 74) u74).put (some 75) u75).put (some 76) u76).put (some 77) u77).put (some 78) u78).put (some 79) u79).put (some 80) u80).put (some 81) u81).put (some 82) u82).put (some 83) u83).put (some 84) u84).put (some 85) u85).put (some 86) u86).put (some 87) u87).put (some 88) u88).put (some 89) u89) ∧ RJ w5 (.int .i64 (m : Int)) (.slice (some ⟨eb, 0, none⟩) nf d1) (.int .i64 (nf : Int)) (.pointer (some ⟨eb, m, none⟩)) v (.int .i64 ((N : Int) + 1)) (itoB ((N : Int) + 1)) (lnm (N + 1)) op d x u73 u74 u75 u76 u77 u78 u79 u80 u81 u82 u83 u84 u85 u86 u87 u88 u89) (by simp only [Act.put, List.setIfInBounds_toArray, List.set_cons_succ, List.set_cons_zero]; rfl) (by kernel_rfl) (by kernel_rfl) ?_ ?_ ?_
              · exact ⟨_, _, _, _, _, _, _, _, _, _, _, _, _, _, _, _, _, rfl, ⟨(Below.refl _ _).drew, (fun h => by cases h), (fun h => by cases h), (fun h => by cases h), (fun h => by cases h), (fun h => by cases h), (fun h => by cases h), (fun h => by cases h), (fun h => by cases h), (fun h => by cases h), (fun h => by cases h), (fun h => by cases h), (fun h => by cases h), (fun h => by cases h), (fun h => by cases h), (fun h => by cases h), (fun h => by cases h), (fun h => by cases h)⟩⟩
              · refine stepsOk_cons (k := 0) ?_ (stepsOk_cons (k := 1) ?_ (stepsOk_cons (k := 2) ?_ (stepsOk_cons (k := 3) ?_ (stepsOk_cons (k := 4) ?_ (stepsOk_cons (k := 5) ?_ (stepsOk_cons (k := 6) ?_ (stepsOk_cons (k := 7) ?_ (stepsOk_cons (k := 8) ?_ (stepsOk_cons (k := 9) ?_ (stepsOk_cons (k := 10) ?_ (stepsOk_cons (k := 11) ?_ (stepsOk_cons (k := 12) ?_ (stepsOk_cons (k := 13) ?_ (stepsOk_cons (k := 14) ?_ (stepsOk_cons (k := 15) ?_ (stepsOk_cons (k := 16) ?_ stepsOk_nil))))))))))))))))
                · unfold StepOk
                  rintro d act xw ⟨u73, u74, u75, u76, u77, u78, u79, u80, u81, u82, u83, u84, u85, u86, u87, u88, u89, rfl, F⟩ hd hdep Kc hKc
                  rw [if_pos (by rfl)]
                  go_big_op
                  exact hKc _ _ ⟨_, _, _, _, _, _, _, _, _, _, _, _, _, _, _, _, _, rfl, ⟨F.bl, (fun _ => rfl), (fun h => F.s1 (up h rfl)), (fun h => F.s2 (up h rfl)), (fun h => F.s3 (up h rfl)), (fun h => F.s4 (up h rfl)), (fun h => F.s5 (up h rfl)), (fun h => F.s6 (up h rfl)), (fun h => F.s7 (up h rfl)), (fun h => F.s8 (up h rfl)), (fun h => F.s9 (up h rfl)), (fun h => F.s10 (up h rfl)), (fun h => F.s11 (up h rfl)), (fun h => F.s12 (up h rfl)), (fun h => F.s14 (up h rfl)), (fun h => F.s15 (up h rfl)), (fun h => F.s16 (up h rfl)), (fun h => F.s13 (up h rfl))⟩⟩
                · unfold StepOk
                  rintro d act xw ⟨u73, u74, u75, u76, u77, u78, u79, u80, u81, u82, u83, u84, u85, u86, u87, u88, u89, rfl, F⟩ hd hdep Kc hKc
                  rw [if_pos (by rfl)]
                  go_big_op
                  exact hKc _ _ ⟨_, _, _, _, _, _, _, _, _, _, _, _, _, _, _, _, _, rfl, ⟨F.bl, (fun h => F.s0 (up h rfl)), (fun _ => rfl), (fun h => F.s2 (up h rfl)), (fun h => F.s3 (up h rfl)), (fun h => F.s4 (up h rfl)), (fun h => F.s5 (up h rfl)), (fun h => F.s6 (up h rfl)), (fun h => F.s7 (up h rfl)), (fun h => F.s8 (up h rfl)), (fun h => F.s9 (up h rfl)), (fun h => F.s10 (up h rfl)), (fun h => F.s11 (up h rfl)), (fun h => F.s12 (up h rfl)), (fun h => F.s14 (up h rfl)), (fun h => F.s15 (up h rfl)), (fun h => F.s16 (up h rfl)), (fun h => F.s13 (up h rfl))⟩⟩
                · unfold StepOk
                  rintro d act xw ⟨u73, u74, u75, u76, u77, u78, u79, u80, u81, u82, u83, u84, u85, u86, u87, u88, u89, rfl, F⟩ hd hdep Kc hKc
                  have h1 : d 1 = true := hdep ⟨1, .data⟩ (by simp) rfl
                  obtain rfl := F.s1 h1
                  rw [if_pos (by rfl)]
                  go_big_op
                  exact hKc _ _ ⟨_, _, _, _, _, _, _, _, _, _, _, _, _, _, _, _, _, rfl, ⟨F.bl, (fun h => F.s0 (up h rfl)), (fun h => F.s1 (up h rfl)), (fun _ => rfl), (fun h => F.s3 (up h rfl)), (fun h => F.s4 (up h rfl)), (fun h => F.s5 (up h rfl)), (fun h => F.s6 (up h rfl)), (fun h => F.s7 (up h rfl)), (fun h => F.s8 (up h rfl)), (fun h => F.s9 (up h rfl)), (fun h => F.s10 (up h rfl)), (fun h => F.s11 (up h rfl)), (fun h => F.s12 (up h rfl)), (fun h => F.s14 (up h rfl)), (fun h => F.s15 (up h rfl)), (fun h => F.s16 (up h rfl)), (fun h => F.s13 (up h rfl))⟩⟩
                · unfold StepOk
                  rintro d act xw ⟨u73, u74, u75, u76, u77, u78, u79, u80, u81, u82, u83, u84, u85, u86, u87, u88, u89, rfl, F⟩ hd hdep Kc hKc
                  have h0 : d 0 = true := hdep ⟨0, .data⟩ (by simp) rfl
                  obtain rfl := F.s0 h0
                  have h2 : d 2 = true := hdep ⟨2, .data⟩ (by simp) rfl
                  obtain rfl := F.s2 h2
                  rw [if_pos (by rfl)]
                  go_big_op
                  exact hKc _ _ ⟨_, _, _, _, _, _, _, _, _, _, _, _, _, _, _, _, _, rfl, ⟨F.bl, (fun h => F.s0 (up h rfl)), (fun h => F.s1 (up h rfl)), (fun h => F.s2 (up h rfl)), (fun _ => rfl), (fun h => F.s4 (up h rfl)), (fun h => F.s5 (up h rfl)), (fun h => F.s6 (up h rfl)), (fun h => F.s7 (up h rfl)), (fun h => F.s8 (up h rfl)), (fun h => F.s9 (up h rfl)), (fun h => F.s10 (up h rfl)), (fun h => F.s11 (up h rfl)), (fun h => F.s12 (up h rfl)), (fun h => F.s14 (up h rfl)), (fun h => F.s15 (up h rfl)), (fun h => F.s16 (up h rfl)), (fun h => F.s13 (up h rfl))⟩⟩
                · unfold StepOk
                  rintro d act xw ⟨u73, u74, u75, u76, u77, u78, u79, u80, u81, u82, u83, u84, u85, u86, u87, u88, u89, rfl, F⟩ hd hdep Kc hKc
                  have h3 : d 3 = true := hdep ⟨3, .data⟩ (by simp) rfl
                  obtain rfl := F.s3 h3
                  rw [if_pos (by rfl)]
                  go_big_op
                  exact hKc _ _ ⟨_, _, _, _, _, _, _, _, _, _, _, _, _, _, _, _, _, rfl, ⟨F.bl, (fun h => F.s0 (up h rfl)), (fun h => F.s1 (up h rfl)), (fun h => F.s2 (up h rfl)), (fun h => F.s3 (up h rfl)), (fun _ => rfl), (fun h => F.s5 (up h rfl)), (fun h => F.s6 (up h rfl)), (fun h => F.s7 (up h rfl)), (fun h => F.s8 (up h rfl)), (fun h => F.s9 (up h rfl)), (fun h => F.s10 (up h rfl)), (fun h => F.s11 (up h rfl)), (fun h => F.s12 (up h rfl)), (fun h => F.s14 (up h rfl)), (fun h => F.s15 (up h rfl)), (fun h => F.s16 (up h rfl)), (fun h => F.s13 (up h rfl))⟩⟩
                · unfold StepOk
                  rintro d act xw ⟨u73, u74, u75, u76, u77, u78, u79, u80, u81, u82, u83, u84, u85, u86, u87, u88, u89, rfl, F⟩ hd hdep Kc hKc
                  have h4 : d 4 = true := hdep ⟨4, .guard⟩ (by simp) rfl
                  obtain rfl := F.s4 h4
                  rw [if_pos (by rfl)]
                  go_big_op
                  exact hKc _ _ ⟨_, _, _, _, _, _, _, _, _, _, _, _, _, _, _, _, _, rfl, ⟨F.bl, (fun h => F.s0 (up h rfl)), (fun h => F.s1 (up h rfl)), (fun h => F.s2 (up h rfl)), (fun h => F.s3 (up h rfl)), (fun h => F.s4 (up h rfl)), (fun _ => rfl), (fun h => F.s6 (up h rfl)), (fun h => F.s7 (up h rfl)), (fun h => F.s8 (up h rfl)), (fun h => F.s9 (up h rfl)), (fun h => F.s10 (up h rfl)), (fun h => F.s11 (up h rfl)), (fun h => F.s12 (up h rfl)), (fun h => F.s14 (up h rfl)), (fun h => F.s15 (up h rfl)), (fun h => F.s16 (up h rfl)), (fun h => F.s13 (up h rfl))⟩⟩
                · unfold StepOk
                  rintro d act xw ⟨u73, u74, u75, u76, u77, u78, u79, u80, u81, u82, u83, u84, u85, u86, u87, u88, u89, rfl, F⟩ hd hdep Kc hKc
                  have h4 : d 4 = true := hdep ⟨4, .guard⟩ (by simp) rfl
                  obtain rfl := F.s4 h4
                  rw [if_pos (by rfl)]
                  go_big_op
                  exact hKc _ _ ⟨_, _, _, _, _, _, _, _, _, _, _, _, _, _, _, _, _, rfl, ⟨F.bl, (fun h => F.s0 (up h rfl)), (fun h => F.s1 (up h rfl)), (fun h => F.s2 (up h rfl)), (fun h => F.s3 (up h rfl)), (fun h => F.s4 (up h rfl)), (fun h => F.s5 (up h rfl)), (fun _ => rfl), (fun h => F.s7 (up h rfl)), (fun h => F.s8 (up h rfl)), (fun h => F.s9 (up h rfl)), (fun h => F.s10 (up h rfl)), (fun h => F.s11 (up h rfl)), (fun h => F.s12 (up h rfl)), (fun h => F.s14 (up h rfl)), (fun h => F.s15 (up h rfl)), (fun h => F.s16 (up h rfl)), (fun h => F.s13 (up h rfl))⟩⟩
                · unfold StepOk
                  rintro d act xw ⟨u73, u74, u75, u76, u77, u78, u79, u80, u81, u82, u83, u84, u85, u86, u87, u88, u89, rfl, F⟩ hd hdep Kc hKc
                  have h5 : d 5 = true := hdep ⟨5, .data⟩ (by simp) rfl
                  obtain rfl := F.s5 h5
                  have h6 : d 6 = true := hdep ⟨6, .data⟩ (by simp) rfl
                  obtain rfl := F.s6 h6
                  have h4 : d 4 = true := hdep ⟨4, .guard⟩ (by simp) rfl
                  obtain rfl := F.s4 h4
                  rw [if_pos (by rfl)]
                  go_big_op
                  exact hKc _ _ ⟨_, _, _, _, _, _, _, _, _, _, _, _, _, _, _, _, _, rfl, ⟨F.bl, (fun h => F.s0 (up h rfl)), (fun h => F.s1 (up h rfl)), (fun h => F.s2 (up h rfl)), (fun h => F.s3 (up h rfl)), (fun h => F.s4 (up h rfl)), (fun h => F.s5 (up h rfl)), (fun h => F.s6 (up h rfl)), (fun _ => rfl), (fun h => F.s8 (up h rfl)), (fun h => F.s9 (up h rfl)), (fun h => F.s10 (up h rfl)), (fun h => F.s11 (up h rfl)), (fun h => F.s12 (up h rfl)), (fun h => F.s14 (up h rfl)), (fun h => F.s15 (up h rfl)), (fun h => F.s16 (up h rfl)), (fun h => F.s13 (up h rfl))⟩⟩
                · unfold StepOk
                  rintro d act xw ⟨u73, u74, u75, u76, u77, u78, u79, u80, u81, u82, u83, u84, u85, u86, u87, u88, u89, rfl, F⟩ hd hdep Kc hKc
                  have h7 : d 7 = true := hdep ⟨7, .data⟩ (by simp) rfl
                  obtain rfl := F.s7 h7
                  have h4 : d 4 = true := hdep ⟨4, .guard⟩ (by simp) rfl
                  obtain rfl := F.s4 h4
                  have y := ext_cell F.bl HY.out
                  have yl := cell_lt y
                  rw [if_pos (by rfl)]
                  go_big_op
                  exact hKc _ _ ⟨_, _, _, _, _, _, _, _, _, _, _, _, _, _, _, _, _, rfl, ⟨F.bl, (fun h => F.s0 (up h rfl)), (fun h => F.s1 (up h rfl)), (fun h => F.s2 (up h rfl)), (fun h => F.s3 (up h rfl)), (fun h => F.s4 (up h rfl)), (fun h => F.s5 (up h rfl)), (fun h => F.s6 (up h rfl)), (fun h => F.s7 (up h rfl)), (fun _ => rfl), (fun h => F.s9 (up h rfl)), (fun h => F.s10 (up h rfl)), (fun h => F.s11 (up h rfl)), (fun h => F.s12 (up h rfl)), (fun h => F.s14 (up h rfl)), (fun h => F.s15 (up h rfl)), (fun h => F.s16 (up h rfl)), (fun h => F.s13 (up h rfl))⟩⟩
                · unfold StepOk
                  rintro d act xw ⟨u73, u74, u75, u76, u77, u78, u79, u80, u81, u82, u83, u84, u85, u86, u87, u88, u89, rfl, F⟩ hd hdep Kc hKc
                  have h4 : d 4 = true := hdep ⟨4, .guard⟩ (by simp) rfl
                  obtain rfl := F.s4 h4
                  rw [if_pos (by rfl)]
                  go_big_op
                  exact hKc _ _ ⟨_, _, _, _, _, _, _, _, _, _, _, _, _, _, _, _, _, rfl, ⟨F.bl, (fun h => F.s0 (up h rfl)), (fun h => F.s1 (up h rfl)), (fun h => F.s2 (up h rfl)), (fun h => F.s3 (up h rfl)), (fun h => F.s4 (up h rfl)), (fun h => F.s5 (up h rfl)), (fun h => F.s6 (up h rfl)), (fun h => F.s7 (up h rfl)), (fun h => F.s8 (up h rfl)), (fun _ => rfl), (fun h => F.s10 (up h rfl)), (fun h => F.s11 (up h rfl)), (fun h => F.s12 (up h rfl)), (fun h => F.s14 (up h rfl)), (fun h => F.s15 (up h rfl)), (fun h => F.s16 (up h rfl)), (fun h => F.s13 (up h rfl))⟩⟩
                · unfold StepOk
                  rintro d act xw ⟨u73, u74, u75, u76, u77, u78, u79, u80, u81, u82, u83, u84, u85, u86, u87, u88, u89, rfl, F⟩ hd hdep Kc hKc
                  have h9 : d 9 = true := hdep ⟨9, .data⟩ (by simp) rfl
                  obtain rfl := F.s9 h9
                  have h4 : d 4 = true := hdep ⟨4, .guard⟩ (by simp) rfl
                  obtain rfl := F.s4 h4
                  rw [if_pos (by rfl)]
                  go_big_op
                  refine (docNumber _ hN1 _).mono ?_
                  rintro e x1 ⟨rfl, hb1⟩
                  exact hKc _ _ ⟨_, _, _, _, _, _, _, _, _, _, _, _, _, _, _, _, _, rfl, ⟨(ext_trans F.bl hb1), (fun h => F.s0 (up h rfl)), (fun h => F.s1 (up h rfl)), (fun h => F.s2 (up h rfl)), (fun h => F.s3 (up h rfl)), (fun h => F.s4 (up h rfl)), (fun h => F.s5 (up h rfl)), (fun h => F.s6 (up h rfl)), (fun h => F.s7 (up h rfl)), (fun h => F.s8 (up h rfl)), (fun h => F.s9 (up h rfl)), (fun _ => rfl), (fun h => F.s11 (up h rfl)), (fun h => F.s12 (up h rfl)), (fun h => F.s14 (up h rfl)), (fun h => F.s15 (up h rfl)), (fun h => F.s16 (up h rfl)), (fun h => (F.s13 (up h rfl)).ext hb1)⟩⟩
                · unfold StepOk
                  rintro d act xw ⟨u73, u74, u75, u76, u77, u78, u79, u80, u81, u82, u83, u84, u85, u86, u87, u88, u89, rfl, F⟩ hd hdep Kc hKc
                  have h10 : d 10 = true := hdep ⟨10, .data⟩ (by simp) rfl
                  obtain rfl := F.s10 h10
                  have h4 : d 4 = true := hdep ⟨4, .guard⟩ (by simp) rfl
                  obtain rfl := F.s4 h4
                  rw [if_pos (by rfl)]
                  go_big_op
                  exact hKc _ _ ⟨_, _, _, _, _, _, _, _, _, _, _, _, _, _, _, _, _, rfl, ⟨F.bl, (fun h => F.s0 (up h rfl)), (fun h => F.s1 (up h rfl)), (fun h => F.s2 (up h rfl)), (fun h => F.s3 (up h rfl)), (fun h => F.s4 (up h rfl)), (fun h => F.s5 (up h rfl)), (fun h => F.s6 (up h rfl)), (fun h => F.s7 (up h rfl)), (fun h => F.s8 (up h rfl)), (fun h => F.s9 (up h rfl)), (fun h => F.s10 (up h rfl)), (fun _ => rfl), (fun h => F.s12 (up h rfl)), (fun h => F.s14 (up h rfl)), (fun h => F.s15 (up h rfl)), (fun h => F.s16 (up h rfl)), (fun h => F.s13 (up h rfl))⟩⟩
                · unfold StepOk
                  rintro d act xw ⟨u73, u74, u75, u76, u77, u78, u79, u80, u81, u82, u83, u84, u85, u86, u87, u88, u89, rfl, F⟩ hd hdep Kc hKc
                  have h4 : d 4 = true := hdep ⟨4, .guard⟩ (by simp) rfl
                  obtain rfl := F.s4 h4
                  rw [if_pos (by rfl)]
                  go_big_op
                  exact hKc _ _ ⟨_, _, _, _, _, _, _, _, _, _, _, _, _, _, _, _, _, rfl, ⟨F.bl, (fun h => F.s0 (up h rfl)), (fun h => F.s1 (up h rfl)), (fun h => F.s2 (up h rfl)), (fun h => F.s3 (up h rfl)), (fun h => F.s4 (up h rfl)), (fun h => F.s5 (up h rfl)), (fun h => F.s6 (up h rfl)), (fun h => F.s7 (up h rfl)), (fun h => F.s8 (up h rfl)), (fun h => F.s9 (up h rfl)), (fun h => F.s10 (up h rfl)), (fun h => F.s11 (up h rfl)), (fun _ => rfl), (fun h => F.s14 (up h rfl)), (fun h => F.s15 (up h rfl)), (fun h => F.s16 (up h rfl)), (fun h => F.s13 (up h rfl))⟩⟩
                · unfold StepOk
                  rintro d act xw ⟨u73, u74, u75, u76, u77, u78, u79, u80, u81, u82, u83, u84, u85, u86, u87, u88, u89, rfl, F⟩ hd hdep Kc hKc
                  have h11 : d 11 = true := hdep ⟨11, .data⟩ (by simp) rfl
                  obtain rfl := F.s11 h11
                  have h12 : d 12 = true := hdep ⟨12, .data⟩ (by simp) rfl
                  obtain rfl := F.s12 h12
                  have h4 : d 4 = true := hdep ⟨4, .guard⟩ (by simp) rfl
                  obtain rfl := F.s4 h4
                  rw [if_pos (by rfl)]
                  go_big_op
                  exact hKc _ _ ⟨_, _, _, _, _, _, _, _, _, _, _, _, _, _, _, _, _, rfl, ⟨(F.bl.alloc F.bl.size _), (fun h => F.s0 (up h rfl)), (fun h => F.s1 (up h rfl)), (fun h => F.s2 (up h rfl)), (fun h => F.s3 (up h rfl)), (fun h => F.s4 (up h rfl)), (fun h => F.s5 (up h rfl)), (fun h => F.s6 (up h rfl)), (fun h => F.s7 (up h rfl)), (fun h => F.s8 (up h rfl)), (fun h => F.s9 (up h rfl)), (fun h => F.s10 (up h rfl)), (fun h => F.s11 (up h rfl)), (fun h => F.s12 (up h rfl)), (fun h => F.s14 (up h rfl)), (fun h => F.s15 (up h rfl)), (fun h => F.s16 (up h rfl)), (fun _ => tx_two _ _ _ _)⟩⟩
                · unfold StepOk
                  rintro d act xw ⟨u73, u74, u75, u76, u77, u78, u79, u80, u81, u82, u83, u84, u85, u86, u87, u88, u89, rfl, F⟩ hd hdep Kc hKc
                  have h8 : d 8 = true := hdep ⟨8, .data⟩ (by simp) rfl
                  have e8 := (F.s8 h8).symm
                  subst e8
                  have h13 : d 13 = true := hdep ⟨13, .data⟩ (by simp) rfl
                  have h4 : d 4 = true := hdep ⟨4, .guard⟩ (by simp) rfl
                  obtain rfl := F.s4 h4
                  have htx := F.s13 h13
                  rw [if_pos (by rfl)]
                  go_big_op
                  refine (whyP [lnm (N + 1), op] v _ _ (HSW.out.ext F.bl) (HFC.out.ext F.bl) (by simp) (by simp) htx).mono ?_
                  rintro e x1 ⟨rfl, hb1⟩
                  exact hKc _ _ ⟨_, _, _, _, _, _, _, _, _, _, _, _, _, _, _, _, _, rfl, ⟨(ext_trans F.bl hb1), (fun h => F.s0 (up h rfl)), (fun h => F.s1 (up h rfl)), (fun h => F.s2 (up h rfl)), (fun h => F.s3 (up h rfl)), (fun h => F.s4 (up h rfl)), (fun h => F.s5 (up h rfl)), (fun h => F.s6 (up h rfl)), (fun h => F.s7 (up h rfl)), (fun h => F.s8 (up h rfl)), (fun h => F.s9 (up h rfl)), (fun h => F.s10 (up h rfl)), (fun h => F.s11 (up h rfl)), (fun h => F.s12 (up h rfl)), (fun _ => rfl), (fun h => F.s15 (up h rfl)), (fun h => F.s16 (up h rfl)), (fun h => (F.s13 (up h rfl)).ext hb1)⟩⟩
                · unfold StepOk
                  rintro d act xw ⟨u73, u74, u75, u76, u77, u78, u79, u80, u81, u82, u83, u84, u85, u86, u87, u88, u89, rfl, F⟩ hd hdep Kc hKc
                  have h14 : d 14 = true := hdep ⟨14, .data⟩ (by simp) rfl
                  obtain rfl := F.s14 h14
                  have h4 : d 4 = true := hdep ⟨4, .guard⟩ (by simp) rfl
                  obtain rfl := F.s4 h4
                  rw [if_pos (by rfl)]
                  go_big_op
                  exact hKc _ _ ⟨_, _, _, _, _, _, _, _, _, _, _, _, _, _, _, _, _, rfl, ⟨F.bl, (fun h => F.s0 (up h rfl)), (fun h => F.s1 (up h rfl)), (fun h => F.s2 (up h rfl)), (fun h => F.s3 (up h rfl)), (fun h => F.s4 (up h rfl)), (fun h => F.s5 (up h rfl)), (fun h => F.s6 (up h rfl)), (fun h => F.s7 (up h rfl)), (fun h => F.s8 (up h rfl)), (fun h => F.s9 (up h rfl)), (fun h => F.s10 (up h rfl)), (fun h => F.s11 (up h rfl)), (fun h => F.s12 (up h rfl)), (fun h => F.s14 (up h rfl)), (fun _ => rfl), (fun h => F.s16 (up h rfl)), (fun h => F.s13 (up h rfl))⟩⟩
                · unfold StepOk
                  rintro d act xw ⟨u73, u74, u75, u76, u77, u78, u79, u80, u81, u82, u83, u84, u85, u86, u87, u88, u89, rfl, F⟩ hd hdep Kc hKc
                  have h4 : d 4 = true := hdep ⟨4, .data⟩ (by simp) rfl
                  obtain rfl := F.s4 h4
                  have h15 : d 15 = true := hdep ⟨15, .data⟩ (by simp) rfl
                  obtain rfl := F.s15 h15
                  rw [if_pos (by rfl)]
                  go_big_op
                  exact hKc _ _ ⟨_, _, _, _, _, _, _, _, _, _, _, _, _, _, _, _, _, rfl, ⟨F.bl, (fun h => F.s0 (up h rfl)), (fun h => F.s1 (up h rfl)), (fun h => F.s2 (up h rfl)), (fun h => F.s3 (up h rfl)), (fun h => F.s4 (up h rfl)), (fun h => F.s5 (up h rfl)), (fun h => F.s6 (up h rfl)), (fun h => F.s7 (up h rfl)), (fun h => F.s8 (up h rfl)), (fun h => F.s9 (up h rfl)), (fun h => F.s10 (up h rfl)), (fun h => F.s11 (up h rfl)), (fun h => F.s12 (up h rfl)), (fun h => F.s14 (up h rfl)), (fun h => F.s15 (up h rfl)), (fun _ => rfl), (fun h => F.s13 (up h rfl))⟩⟩
              · rintro d act xw ⟨u73, u74, u75, u76, u77, u78, u79, u80, u81, u82, u83, u84, u85, u86, u87, u88, u89, rfl, F⟩ hall
                have HB6 := Lib.hid F.bl
                obtain rfl := F.s16 (hall 16 (by decide))
                clear F hall
                go_wp2
                exact ⟨⟨N + 1, I + 1, k, m + 1, K + 1, I + 1, L', by go_num, by go_num, rfl, by go_num, by go_num, by go_num, by omega, hk, by omega, by omega, by omega, by omega, HQ.out.2.1, HP2.out.2, ext_trans H5.out.1 HB6.out⟩, by simp [RowKit.intOf]; omega⟩
    · have hIe : I = n + 1 := by omega
      have hIni : ¬ (I : Int) ≤ (n : Int) := by omega
      have hLe : L = [] := by
        rcases H4.out.1 with h | h
        · omega
        · exact h.2
      have hfin := H4.out.2.1
      rw [hLe] at hfin
      have hk2 : k = na := by
        have h1 := (Prod.mk.inj hfin).1
        have h2 := congrArg List.length h1
        simp at h2
        have := HNA.out
        omega
      have hm2 : m = nf := by
        have h1 := (Prod.mk.inj hfin).2
        have h2 := congrArg List.length h1
        simp at h2
        have := HNF.out
        omega
      subst hk2
      subst hm2
      clear hfin hLe hIe
      go_wp2
      go_ret
      exact ⟨rfl, ext_trans HPQ.out.bl H4.out.2.2⟩
end Go.Proofs.YtcgembfdejjliaaGreatDoor
