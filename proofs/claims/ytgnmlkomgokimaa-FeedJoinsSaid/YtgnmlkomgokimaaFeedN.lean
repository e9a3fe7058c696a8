/- Layer 15's 'made': the walk. -/
import Derived.Test.YtgnmlkomgokimaaFeedM
namespace Go.Proofs.Ytgnmlkomgokimaa
open Go.RowKit
set_option linter.unusedVariables false
set_option linter.unusedSimpArgs false


/-- what 'made' makes -/
def MdP (w : World) (r : Ending) (w' : World) : Prop := ∃ (sb rb wb xb : Nat) (es : List En) (ks : List Ky), r = .returned (.tuple #[.pointer (some ⟨sb, 0, none⟩), .pointer (some ⟨rb, 0, none⟩), .pointer (some ⟨wb, 0, none⟩), .pointer (some ⟨xb, 0, none⟩)]) ∧ FQ w sb rb wb xb es es ks ks w' ∧ Asc es ∧ (∀ e ∈ es, KA e.c.a ∧ KI e.c.i) ∧ ks.length ≤ 29
set_option maxRecDepth 100000 in
set_option maxHeartbeats 4000000 in
theorem law15made (ra : Option Addr) (rlen rcap : Nat) (rz : List Int) (w : World) (hr : IsRow .i64 w ra rlen rcap rz) (hr8 : rlen * 8 ≤ 140737488351232) :
    Calls Try.prog 9 #[.slice ra rlen rcap] w fun r w' => MdP w r w' := by
  have D1 := Lib.hid (show Below w.heap.size w (w.alloc (.cells #[.slice ra rlen rcap, .int .i64 0] 47)) from (Below.refl _ _).alloc (Nat.le_refl _) _)
  have HT1 := Lib.hid (tapeK_new (a := ra) (len := rlen) (cap := rcap) w)
  have HR := Lib.hid hr
  have HNE := Lib.hid (rowOk_new hr (.cells #[.slice ra rlen rcap, .int .i64 0] 47)).2
  clear hr
  go_enter Try.func9, Try.ntmps9
  go_upto_region 2 with (fail)
  obtain ⟨tb, htb⟩ : ∃ tb, w.heap.size = tb := ⟨_, rfl⟩
  have HTB := Lib.hid htb
  rw [htb] at HT1 HNE
  try rw [htb]
  clear htb
  generalize (w.alloc (.cells #[.slice ra rlen rcap, .int .i64 0] 47)) = w1 at *
  go_wp2_with fail
  refine (shNew 20 _ (by omega)).mono ?_
  rintro r w2 ⟨rfl, hs2, hb⟩
  obtain ⟨sb, hsb⟩ : ∃ sb, w1.heap.size = sb := ⟨_, rfl⟩
  have HSB := Lib.hid (show w.heap.size ≤ sb from by rw [← hsb]; exact D1.out.size)
  rw [hsb] at hs2
  try rw [hsb]
  have HS2 := Lib.hid (show ShP w2 sb 20 [] from hs2)
  have HT2 := Lib.hid (HT1.out.ext hb)
  have HB2 := Lib.hid (D1.out.trans (hb.mono D1.out.size))
  clear hs2 hb hsb HT1 D1
  go_wp2_with fail
  refine (recentNew _).mono ?_
  rintro r w3 ⟨rfl, hs3, hb⟩
  obtain ⟨rb, hrb⟩ : ∃ rb, w2.heap.size = rb := ⟨_, rfl⟩
  have HRB := Lib.hid (show w.heap.size ≤ rb from by rw [← hrb]; exact HB2.out.size)
  rw [hrb] at hs3
  try rw [hrb]
  have HQ3 := Lib.hid hs3
  have HS3 := Lib.hid (HS2.out.ext hb)
  have HT3 := Lib.hid (HT2.out.ext hb)
  have HB3 := Lib.hid (HB2.out.trans (hb.mono HB2.out.size))
  clear hs3 hb hrb HT2 HS2 HB2
  go_wp2_with fail
  refine (rshNew 20 _ (by omega)).mono ?_
  rintro r w4 ⟨rfl, hs4, hb⟩
  obtain ⟨wb, hwb⟩ : ∃ wb, w3.heap.size = wb := ⟨_, rfl⟩
  have HWB := Lib.hid (show w.heap.size ≤ wb from by rw [← hwb]; exact HB3.out.size)
  rw [hwb] at hs4
  try rw [hwb]
  have HW4 := Lib.hid (show RShP w4 wb 20 [] from hs4)
  have HQ4 := Lib.hid (HQ3.out.ext hb)
  have HS4 := Lib.hid (HS3.out.ext hb)
  have HT4 := Lib.hid (HT3.out.ext hb)
  have HB4 := Lib.hid (HB3.out.trans (hb.mono HB3.out.size))
  have HX5 := Lib.hid (refNew w4)
  have D5 := Lib.hid (show Below w4.heap.size w4 (w4.alloc (.cells #[.slice none 0 0] 70)) from (Below.refl _ _).alloc (Nat.le_refl _) _)
  clear hs4 hb hwb HT3 HS3 HB3 HQ3
  go_upto_region 4 with (fail)
  obtain ⟨xb, hxb⟩ : ∃ xb, w4.heap.size = xb := ⟨_, rfl⟩
  have HXB := Lib.hid (show w.heap.size ≤ xb from by rw [← hxb]; exact HB4.out.size)
  rw [hxb] at HX5
  try rw [hxb]
  have HP5 := Lib.hid (show FQ w sb rb wb xb [] [] [] [] (w4.alloc (.cells #[.slice none 0 0] 70)) from ⟨HS4.out.ext D5.out, HQ4.out.ext D5.out, HW4.out.ext D5.out, HX5.out, HB4.out.trans (D5.out.mono HB4.out.size), HSB.out, HRB.out, HWB.out, HXB.out⟩)
  have HT5 := Lib.hid (HT4.out.ext D5.out)
  clear hxb HT4 HS4 HB4 HQ4 HW4 HX5 D5
  generalize (w4.alloc (.cells #[.slice none 0 0] 70)) = wz at *
  go_wp2_with fail
  refine (tapeNextK ra rlen rcap rz tb 30 _ HT5.out (show RowOk ra rlen rcap rz _ tb from ⟨HR.out.ext HP5.out.2.2.2.2.1, HNE.out⟩) (by omega) (by omega)).mono ?_
  rintro e w6 ⟨v, rfl, v0, v1, ht, hb⟩
  have HP6 := Lib.hid (HP5.out.t HT5.out (by have := HTB.out; omega) hb)
  have HT6 := Lib.hid ht
  obtain ⟨N0, rfl⟩ : ∃ N0 : Nat, v = (N0 : Int) := ⟨v.toNat, by omega⟩
  have hN0 : N0 ≤ 29 := by omega
  clear ht hb HP5 HT5 v0 v1
  go_wp2_with fail
  go_loopw [11] (fun n wr => ∃ (N : Nat) (es : List En) (ks : List Ky), n = .int .i64 (N : Int) ∧ ks.length + N ≤ 29 ∧ FQ w sb rb wb xb es es ks ks wr ∧ TapeK ra rlen rcap wr tb ∧ Asc es ∧ (∀ e ∈ es, KA e.c.a ∧ KI e.c.i)) (fun n _ => (intOf n).toNat)
  case atStart => exact ⟨N0, [], [], rfl, by simpa using hN0, HP6.out, HT6.out, List.Pairwise.nil, fun e he => (by cases he)⟩
  case round =>
    obtain ⟨w2, rfl⟩ : ∃ y : World, y = wr := ⟨_, rfl⟩
    obtain ⟨N, es, ks, rfl, hkl, hp, ht, has, hkk⟩ := hrel
    have HP2 := Lib.hid hp
    have HT2 := Lib.hid ht
    have HAS := Lib.hid has
    have HKK := Lib.hid hkk
    have HFEW := Lib.hid (few has hkk)
    clear hp ht has hkk HP6 HT6
    by_cases hlt : N = 0
    · subst hlt
      go_wp2_with fail
      exact bodyPost_ret (v := .tuple #[.pointer (some ⟨sb, 0, none⟩), .pointer (some ⟨rb, 0, none⟩), .pointer (some ⟨wb, 0, none⟩), .pointer (some ⟨xb, 0, none⟩)]) (by simp [results, Try.results9, go_sem]) rfl ⟨sb, rb, wb, xb, es, ks, rfl, HP2.out, HAS.out, HKK.out, by omega⟩
    · obtain ⟨N, rfl⟩ : ∃ M, N = M + 1 := ⟨N - 1, by omega⟩
      have hdN : decide (0 < ((N + 1 : Nat) : Int)) = true := decide_eq_true (by omega)
      have hN29 : N ≤ 28 := by omega
      go_wp2_with fail
      refine (tapeCardF ra rlen rcap rz tb _ HT2.out (show RowOk ra rlen rcap rz _ tb from ⟨HR.out.ext HP2.out.2.2.2.2.1, HNE.out⟩)).mono ?_
      rintro e w3 ⟨x, rfl, -, hka, hki, ht, hb⟩
      have HKA := Lib.hid hka
      have HKI := Lib.hid hki
      have HP3 := Lib.hid (HP2.out.t HT2.out (by have := HTB.out; omega) hb)
      have HX4 := Lib.hid (blk_new w3 #[.string x.a, .string x.i, .int .i64 x.s, .int .i64 x.o, .int .i64 x.l, .int .i64 x.t, .int .i64 x.k, .int .i64 x.n, .bool x.g] 43)
      have D4 := Lib.hid (show Below w3.heap.size w3 (w3.alloc (.cells #[.string x.a, .string x.i, .int .i64 x.s, .int .i64 x.o, .int .i64 x.l, .int .i64 x.t, .int .i64 x.k, .int .i64 x.n, .bool x.g] 43)) from (Below.refl _ _).alloc (Nat.le_refl _) _)
      have HP4 := Lib.hid (HP3.out.ext D4.out)
      have HT4 := Lib.hid (ht.ext D4.out)
      have hlt3 := (show sb < w3.heap.size ∧ wb < w3.heap.size ∧ rb < w3.heap.size ∧ xb < w3.heap.size from ⟨HP3.out.1.lt, HP3.out.2.2.1.lt, HP3.out.2.1.lt, HP3.out.2.2.2.1.lt⟩)
      clear hka hki ht hb HP2 HP3 HT2 D4 hdN
      go_upto_region 10 with (fail)
      obtain ⟨p, hp⟩ : ∃ p, w3.heap.size = p := ⟨_, rfl⟩
      rw [hp] at HX4 hlt3
      try rw [hp]
      have HNP := Lib.hid (show p ≠ sb ∧ p ≠ wb ∧ p ≠ rb ∧ p ≠ xb from ⟨by omega, by omega, by omega, by omega⟩)
      clear hp hlt3
      generalize (w3.alloc (.cells #[.string x.a, .string x.i, .int .i64 x.s, .int .i64 x.o, .int .i64 x.l, .int .i64 x.t, .int .i64 x.k, .int .i64 x.n, .bool x.g] 43)) = wq at *
      go_wp2_with fail
      refine (tapeNextK ra rlen rcap rz tb 5 _ HT4.out (show RowOk ra rlen rcap rz _ tb from ⟨HR.out.ext HP4.out.2.2.2.2.1, HNE.out⟩) (by omega) (by omega)).mono ?_
      rintro e w5 ⟨v, rfl, v0, v1, ht, hb⟩
      have HP5 := Lib.hid (HP4.out.t HT4.out (by have := HTB.out; omega) hb)
      have HX5 := Lib.hid (hb.blk (HT4.out.ne (by decide) HX4.out) HX4.out)
      have HT5 := Lib.hid ht
      have hk5 := blk_cell HX5.out
      have hl5 := blk_lt HX5.out
      clear ht hb HP4 HX4 HT4
      by_cases hv : v = 0
      · subst hv
        cases hin : isIn (x.a, x.i) es
        · skip
          go_wp2_with fail
          refine (shDropNo sb 20 es (x.a, x.i) _ HP5.out.1 HAS.out (by have := HFEW.out; omega) hin).mono ?_
          rintro e w6 ⟨rfl, hb⟩
          have HP6 := Lib.hid (HP5.out.ext hb)
          have HT6 := Lib.hid (HT5.out.ext hb)
          have HX6 := Lib.hid (blk_ext hb HX5.out)
          clear hb HP5 HT5 HX5 hk5 hl5
          have hk6 := blk_cell HX6.out
          have hl6 := blk_lt HX6.out
          go_wp2_with fail
          refine (rshDropNo wb 20 es (x.a, x.i) _ HP6.out.2.2.1 HAS.out (by have := HFEW.out; omega) hin).mono ?_
          rintro e w7 ⟨rfl, hb⟩
          have HP7 := Lib.hid (HP6.out.ext hb)
          have HT7 := Lib.hid (HT6.out.ext hb)
          have HX7 := Lib.hid (blk_ext hb HX6.out)
          clear hb HP6 HT6 HX6 hk6 hl6
          have hk7 := blk_cell HX7.out
          have hl7 := blk_lt HX7.out
          go_wp2
          go_roundw
          case rel => exact ⟨N, es, ks, by go_num, by omega, HP7.out, HT7.out, HAS.out, HKK.out⟩
          case measure => simp [intOf]
        · skip
          go_wp2_with fail
          refine (shDropYes sb 20 es (x.a, x.i) _ HP5.out.1 HAS.out (by have := HFEW.out; omega) hin).mono ?_
          rintro e w6 ⟨rfl, hs, hr⟩
          have HP6 := Lib.hid (HP5.out.s hs hr)
          have HT6 := Lib.hid (HT5.out.ofs HP5.out.1 hr)
          have HX6 := Lib.hid ((hr.block p HNP.out.1 (blk_lt HX5.out)).trans HX5.out)
          clear hs hr HP5 HT5 HX5 hk5 hl5
          have hk6 := blk_cell HX6.out
          have hl6 := blk_lt HX6.out
          go_wp2_with fail
          refine (rshDropYes wb 20 es (x.a, x.i) _ HP6.out.2.2.1 HAS.out (by have := HFEW.out; omega) hin).mono ?_
          rintro e w7 ⟨rfl, hs, hr⟩
          have HP7 := Lib.hid (HP6.out.wd hs hr)
          have HT7 := Lib.hid (HT6.out.ofw HP6.out.2.2.1 hr)
          have HX7 := Lib.hid ((hr.block p HNP.out.2.1 (blk_lt HX6.out)).trans HX6.out)
          clear hs hr HP6 HT6 HX6 hk6 hl6
          have hk7 := blk_cell HX7.out
          have hl7 := blk_lt HX7.out
          go_wp2
          go_roundw
          case rel => exact ⟨N, (delAt es (low (x.a, x.i) es)), ks, by go_num, by omega, HP7.out, HT7.out, asc_del HAS.out _, fun y hy => HKK.out y ((mem_del HAS.out hin).1 hy).1⟩
          case measure => simp [intOf]
      · have hv2 : (v == 0) = false := by simp [hv]
        cases hin : isIn (enK (⟨x, 0⟩ : En)) es
        · skip
          have HAS2 := Lib.hid (show Asc (insAt es (low (enK (⟨x, 0⟩ : En)) es) (⟨x, 0⟩ : En)) from asc_ins HAS.out hin)
          have HKK2 := Lib.hid (show ∀ e ∈ (insAt es (low (enK (⟨x, 0⟩ : En)) es) (⟨x, 0⟩ : En)), KA e.c.a ∧ KI e.c.i from fun y hy => by rcases (mem_ins HAS.out hin _).1 hy with rfl | hy; (· exact ⟨HKA.out, HKI.out⟩); (· exact HKK.out y hy.1))
          have HF2 := Lib.hid (show es.length + 1 ≤ 20 from by have := few HAS2.out HKK2.out; rw [insAt_len] at this; exact this)
          go_wp2_with fail
          refine (shPutNew sb 20 es (⟨x, 0⟩ : En) _ HP5.out.1 HAS.out (by have := HFEW.out; omega) hin (by have := HF2.out; omega)).mono ?_
          rintro e w6 ⟨rfl, hs, hr⟩
          have HP6 := Lib.hid (HP5.out.s hs hr)
          have HT6 := Lib.hid (HT5.out.ofs HP5.out.1 hr)
          have HX6 := Lib.hid ((hr.block p HNP.out.1 (blk_lt HX5.out)).trans HX5.out)
          clear hs hr HP5 HT5 HX5 hk5 hl5
          have hk6 := blk_cell HX6.out
          have hl6 := blk_lt HX6.out
          go_wp2_with fail
          refine (rshPutNew wb 20 es (⟨x, 0⟩ : En) _ HP6.out.2.2.1 HAS.out (by have := HFEW.out; omega) hin (by have := HF2.out; omega)).mono ?_
          rintro e w7 ⟨rfl, hs, hr⟩
          have HP7 := Lib.hid (HP6.out.wd hs hr)
          have HT7 := Lib.hid (HT6.out.ofw HP6.out.2.2.1 hr)
          have HX7 := Lib.hid ((hr.block p HNP.out.2.1 (blk_lt HX6.out)).trans HX6.out)
          clear hs hr HP6 HT6 HX6 hk6 hl6
          have hk7 := blk_cell HX7.out
          have hl7 := blk_lt HX7.out
          obtain ⟨ES, hES⟩ : ∃ ES, (insAt es (low (enK (⟨x, 0⟩ : En)) es) (⟨x, 0⟩ : En)) = ES := ⟨_, rfl⟩
          rw [hES] at HP7 HAS2 HKK2
          clear hES
          go_wp2_with fail
          refine (recentAdd rb ks.length (lastK ks ks.length) (x.a, x.i) _ HP7.out.2.1 (by rw [lastK_len _ _ (Nat.le_refl _)]; omega) (by omega)).mono ?_
          rintro e w8 ⟨rfl, hs, hr⟩
          have HP8 := Lib.hid (HP7.out.r (ks' := ks ++ [(x.a, x.i)]) (by have h9 := hs; rw [addK_all] at h9; rw [List.length_append]; rw [List.length_append] at h9; exact h9) hr)
          have HT8 := Lib.hid (HT7.out.ofr HP7.out.2.1 hr)
          have HX8 := Lib.hid (hr.blk HNP.out.2.2.1 HX7.out)
          clear hs hr HP7 HT7 HX7 hk7 hl7
          have hk8 := blk_cell HX8.out
          have hl8 := blk_lt HX8.out
          go_wp2_with fail
          refine (refAdd xb ks (x.a, x.i) _ HP8.out.2.2.2.1 (by omega)).mono ?_
          rintro e w9 ⟨rfl, hs, hr⟩
          have HP9 := Lib.hid (HP8.out.x hs hr)
          have HT9 := Lib.hid (HT8.out.ofx HP8.out.2.2.2.1 hr)
          have HX9 := Lib.hid (hr.blk HNP.out.2.2.2 HX8.out)
          clear hs hr HP8 HT8 HX8 hk8 hl8
          have hk9 := blk_cell HX9.out
          have hl9 := blk_lt HX9.out
          go_wp2
          go_roundw
          case rel => exact ⟨N, ES, (ks ++ [(x.a, x.i)]), by go_num, by rw [List.length_append]; simp only [List.length_cons, List.length_nil]; omega, HP9.out, HT9.out, HAS2.out, HKK2.out⟩
          case measure => simp [intOf]
        · skip
          have HAS2 := Lib.hid (show Asc (es.set (low (enK (⟨x, 0⟩ : En)) es) (⟨x, 0⟩ : En)) from asc_put HAS.out hin)
          have HKK2 := Lib.hid (show ∀ e ∈ (es.set (low (enK (⟨x, 0⟩ : En)) es) (⟨x, 0⟩ : En)), KA e.c.a ∧ KI e.c.i from fun y hy => by rcases (mem_set HAS.out hin).1 hy with rfl | hy; (· exact ⟨HKA.out, HKI.out⟩); (· exact HKK.out y hy.1))
          go_wp2_with fail
          refine (shPutIn sb 20 es (⟨x, 0⟩ : En) _ HP5.out.1 HAS.out (by have := HFEW.out; omega) hin).mono ?_
          rintro e w6 ⟨rfl, hs, hr⟩
          have HP6 := Lib.hid (HP5.out.s hs hr)
          have HT6 := Lib.hid (HT5.out.ofs HP5.out.1 hr)
          have HX6 := Lib.hid ((hr.block p HNP.out.1 (blk_lt HX5.out)).trans HX5.out)
          clear hs hr HP5 HT5 HX5 hk5 hl5
          have hk6 := blk_cell HX6.out
          have hl6 := blk_lt HX6.out
          go_wp2_with fail
          refine (rshPutIn wb 20 es (⟨x, 0⟩ : En) _ HP6.out.2.2.1 HAS.out (by have := HFEW.out; omega) hin).mono ?_
          rintro e w7 ⟨rfl, hs, hr⟩
          have HP7 := Lib.hid (HP6.out.wd hs hr)
          have HT7 := Lib.hid (HT6.out.ofw HP6.out.2.2.1 hr)
          have HX7 := Lib.hid ((hr.block p HNP.out.2.1 (blk_lt HX6.out)).trans HX6.out)
          clear hs hr HP6 HT6 HX6 hk6 hl6
          have hk7 := blk_cell HX7.out
          have hl7 := blk_lt HX7.out
          obtain ⟨ES, hES⟩ : ∃ ES, (es.set (low (enK (⟨x, 0⟩ : En)) es) (⟨x, 0⟩ : En)) = ES := ⟨_, rfl⟩
          rw [hES] at HP7 HAS2 HKK2
          clear hES
          go_wp2_with fail
          refine (recentAdd rb ks.length (lastK ks ks.length) (x.a, x.i) _ HP7.out.2.1 (by rw [lastK_len _ _ (Nat.le_refl _)]; omega) (by omega)).mono ?_
          rintro e w8 ⟨rfl, hs, hr⟩
          have HP8 := Lib.hid (HP7.out.r (ks' := ks ++ [(x.a, x.i)]) (by have h9 := hs; rw [addK_all] at h9; rw [List.length_append]; rw [List.length_append] at h9; exact h9) hr)
          have HT8 := Lib.hid (HT7.out.ofr HP7.out.2.1 hr)
          have HX8 := Lib.hid (hr.blk HNP.out.2.2.1 HX7.out)
          clear hs hr HP7 HT7 HX7 hk7 hl7
          have hk8 := blk_cell HX8.out
          have hl8 := blk_lt HX8.out
          go_wp2_with fail
          refine (refAdd xb ks (x.a, x.i) _ HP8.out.2.2.2.1 (by omega)).mono ?_
          rintro e w9 ⟨rfl, hs, hr⟩
          have HP9 := Lib.hid (HP8.out.x hs hr)
          have HT9 := Lib.hid (HT8.out.ofx HP8.out.2.2.2.1 hr)
          have HX9 := Lib.hid (hr.blk HNP.out.2.2.2 HX8.out)
          clear hs hr HP8 HT8 HX8 hk8 hl8
          have hk9 := blk_cell HX9.out
          have hl9 := blk_lt HX9.out
          go_wp2
          go_roundw
          case rel => exact ⟨N, ES, (ks ++ [(x.a, x.i)]), by go_num, by rw [List.length_append]; simp only [List.length_cons, List.length_nil]; omega, HP9.out, HT9.out, HAS2.out, HKK2.out⟩
          case measure => simp [intOf]

end Go.Proofs.Ytgnmlkomgokimaa
