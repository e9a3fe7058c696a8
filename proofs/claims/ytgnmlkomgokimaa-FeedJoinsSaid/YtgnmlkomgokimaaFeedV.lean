/- Layer 15's same. -/
import Derived.Test.YtgnmlkomgokimaaFeedN
import Derived.Test.YtgnmlkomgokimaaFeedD
import Derived.Test.YtgnmlkomgokimaaFeedE
namespace Go.Proofs.Ytgnmlkomgokimaa
open Go.RowKit
set_option linter.unusedVariables false
set_option linter.unusedSimpArgs false

set_option maxRecDepth 100000 in
set_option maxHeartbeats 4000000 in
theorem law15same (ra : Option Addr) (rlen rcap : Nat) (rz : List Int) (since : Int) (w : World) (hr : IsRow .i64 w ra rlen rcap rz) (hr8 : rlen * 8 ≤ 140737488351232) :
    Calls Try.prog 7 #[.slice ra rlen rcap, .int .i64 since] w fun r w' => r = .returned (.bool true) ∧ Below w.heap.size w w' := by
  go_enter Try.func7, Try.ntmps7
  go_wp2_with fail
  refine (law15made ra rlen rcap rz _ hr hr8).mono ?_
  rintro e w1 ⟨sb, rb, wb, xb, es, ks, rfl, hp, has, hka, hkl⟩
  have hn := few has hka
  have HC := Lib.hid (show ∀ x ∈ es, CdS x.c from fun x hx => ⟨by have := (hka x hx).1.size; omega, by have := (hka x hx).2.size; omega⟩)
  have HAS := Lib.hid has
  have HP1 := Lib.hid hp
  have HD1 := Lib.hid hp.2.2.2.2.1
  obtain ⟨N, hN⟩ : ∃ N, ks.length = N := ⟨_, rfl⟩
  have HN := Lib.hid hN
  have hN29 : N ≤ 29 := by omega
  obtain ⟨S, hS⟩ : ∃ S, sm (sealB (es.map (·.c))) = S := ⟨_, rfl⟩
  have HS := Lib.hid hS
  clear hp has hka hkl hN hS hr
  go_wp2_with fail
  refine (feedFull sb rb ks.length 20 es (lastK ks ks.length) _ HP1.out.1 HP1.out.2.1 hn HC.out).mono ?_
  rintro e w2 ⟨vax, kx, vcx, rfl, hk, hc2, hm2, hvat, hb⟩
  rw [HN.out, HS.out]
  have HK2 := Lib.hid hk
  have HA2 := Lib.hid hvat
  have HP2 := Lib.hid (HP1.out.ext hb)
  have HD2 := Lib.hid (ext_trans HD1.out hb)
  clear hb hk hvat HP1 HD1
  go_wp2_with fail
  refine (refFull16 wb xb 20 es ks _ HP2.out.2.2.1 HP2.out.2.2.2.1 hn HC.out).mono ?_
  rintro e w3 ⟨vbx, k'x, vdx, rfl, hk, hc3, hm3, hvat, hb⟩
  rw [HN.out, HS.out]
  obtain rfl : k'x = kx := by rw [← hk]; exact HK2.out
  have HK3 := HK2
  have HA3 := Lib.hid (HA2.out.ext hb)
  have HB3 := Lib.hid hvat
  have HP3 := Lib.hid (HP2.out.ext hb)
  have HD3 := Lib.hid (ext_trans HD2.out hb)
  clear hb hk hvat HP2 HD2 HA2 HK2
  go_wp2_with fail
  refine (msgSame true N S _ vax vbx k'x vcx vdx _ HA3.out HB3.out HK3.out hc2 hc3 hm2 hm3).mono ?_
  rintro e w4 ⟨rfl, hb⟩
  have HP4 := Lib.hid (HP3.out.ext hb)
  have HD4 := Lib.hid (ext_trans HD3.out hb)
  clear hb HP3 HD3 HA3 HB3
  by_cases hy : 0 ≤ since ∧ since ≤ (N : Int) ∧ (N : Int) - 16 ≤ since
  · skip
    obtain ⟨q, hq⟩ : ∃ q : Nat, since = (q : Int) := ⟨since.toNat, by omega⟩
    obtain ⟨m0, hm0⟩ : ∃ m0 : Nat, q + m0 = N := ⟨N - q, by omega⟩
    have hm16 : m0 ≤ 16 := by omega
    have hmN : m0 ≤ N := by omega
    have hsi : since = (N : Int) - m0 := by omega
    have HQ := Lib.hid hq
    have HM0 := Lib.hid hm0
    have HSI := Lib.hid hsi
    have HTL := Lib.hid (show (lastK ks ks.length).drop ((lastK ks ks.length).length - m0) = ks.drop q from by
      rw [lastK_tail (Nat.le_refl _) (by rw [HN.out]; exact hmN) hm16, List.take_length, HN.out, ← HM0.out, Nat.add_sub_cancel])
    have HKK := Lib.hid (show (kp (ks.drop q) (ks.drop q).length).length ≤ 16 from by
      refine Nat.le_trans (kp_len _ _) ?_
      rw [List.length_drop, HN.out]
      omega)
    clear hq hm0 hsi hy
    go_wp2_with fail
    refine (feedDelta sb rb ks.length since 20 es (lastK ks ks.length) _ HP4.out.1 HP4.out.2.1 HAS.out hn HC.out (by rw [HN.out]; omega) m0 (ks.drop q) _ (lastK_len _ _ (Nat.le_refl _)) (by rw [HN.out]; exact HSI.out) (by rw [HN.out]; exact hmN) hm16 HTL.out rfl HKK.out).mono ?_
    rintro e w5 ⟨vay, ky, vcy, rfl, hk, hc5, hm5, hvat, hb⟩
    rw [HN.out, HS.out]
    have HK5 := Lib.hid hk
    have HA5 := Lib.hid hvat
    have HP5 := Lib.hid (HP4.out.ext hb)
    have HD5 := Lib.hid (ext_trans HD4.out hb)
    clear hb hk hvat HP4 HD4
    go_wp2_with fail
    refine (ref16Delta wb xb since 20 es ks _ HP5.out.2.2.1 HP5.out.2.2.2.1 HAS.out hn HC.out (by rw [HN.out]; omega) q m0 (ks.drop q) _ (by rw [HN.out]; exact HM0.out) hm16 HQ.out rfl rfl HKK.out).mono ?_
    rintro e w6 ⟨vby, k'y, vdy, rfl, hk, hc6, hm6, hvat, hb⟩
    rw [HN.out, HS.out]
    obtain rfl : k'y = ky := by rw [← hk]; exact HK5.out
    have HK6 := HK5
    have HA6 := Lib.hid (HA5.out.ext hb)
    have HB6 := Lib.hid hvat
    have HP6 := Lib.hid (HP5.out.ext hb)
    have HD6 := Lib.hid (ext_trans HD5.out hb)
    clear hb hk hvat HP5 HD5 HA5 HK5
    go_wp2_with fail
    refine (msgSame false N S _ vay vby k'y vcy vdy _ HA6.out HB6.out HK6.out hc5 hc6 hm5 hm6).mono ?_
    rintro e w7 ⟨rfl, hb⟩
    have HP7 := Lib.hid (HP6.out.ext hb)
    have HD7 := Lib.hid (ext_trans HD6.out hb)
    clear hb HP6 HD6 HA6 HB6
    go_wp2
    go_ret
    exact ⟨rfl, HD7.out⟩
  · skip
    have HNO := Lib.hid (show since < 0 ∨ (N : Int) < since ∨ since < (N : Int) - 16 from by omega)
    clear hy
    go_wp2_with fail
    refine (feedDeltaNo sb rb ks.length since 20 es (lastK ks ks.length) _ HP4.out.1 HP4.out.2.1 HAS.out hn HC.out (by rw [HN.out]; omega) (by rw [HN.out]; exact HNO.out)).mono ?_
    rintro e w5 ⟨vay, ky, vcy, rfl, hk, hc5, hm5, hvat, hb⟩
    rw [HN.out, HS.out]
    have HK5 := Lib.hid hk
    have HA5 := Lib.hid hvat
    have HP5 := Lib.hid (HP4.out.ext hb)
    have HD5 := Lib.hid (ext_trans HD4.out hb)
    clear hb hk hvat HP4 HD4
    go_wp2_with fail
    refine (ref16DeltaNo wb xb since 20 es ks _ HP5.out.2.2.1 HP5.out.2.2.2.1 HAS.out hn HC.out (by rw [HN.out]; omega) (by rw [HN.out]; exact HNO.out)).mono ?_
    rintro e w6 ⟨vby, k'y, vdy, rfl, hk, hc6, hm6, hvat, hb⟩
    rw [HN.out, HS.out]
    obtain rfl : k'y = ky := by rw [← hk]; exact HK5.out
    have HK6 := HK5
    have HA6 := Lib.hid (HA5.out.ext hb)
    have HB6 := Lib.hid hvat
    have HP6 := Lib.hid (HP5.out.ext hb)
    have HD6 := Lib.hid (ext_trans HD5.out hb)
    clear hb hk hvat HP5 HD5 HA5 HK5
    go_wp2_with fail
    refine (msgSame true N S _ vay vby k'y vcy vdy _ HA6.out HB6.out HK6.out hc5 hc6 hm5 hm6).mono ?_
    rintro e w7 ⟨rfl, hb⟩
    have HP7 := Lib.hid (HP6.out.ext hb)
    have HD7 := Lib.hid (ext_trans HD6.out hb)
    clear hb HP6 HD6 HA6 HB6
    go_wp2
    go_ret
    exact ⟨rfl, HD7.out⟩

end Go.Proofs.Ytgnmlkomgokimaa
