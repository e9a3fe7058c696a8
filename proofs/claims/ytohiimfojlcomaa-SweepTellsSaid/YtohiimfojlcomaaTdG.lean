/- Package sweep and the document's own tell the same. -/
import Derived.Test.YtohiimfojlcomaaTdRN
namespace Go.Proofs.Ytohiimfojlcomaa
open Go.RowKit
set_option linter.unusedVariables false
set_option linter.unusedSimpArgs false

theorem pick_len' (l : List En) (now m : Int) : (pickL l now m).length = min (mostN (lives l)) (tars l now m).length := by
  unfold pickL; rw [List.length_map, List.length_take, srt_len]
theorem sweepPick (a : Option Addr) (n c : Nat) (l : List En) (now lt : Int) (w : World) (h : EAt w a l) (hl : l.length = n) (hn : n ≤ 40) (hnc : n ≤ c) :
    Calls Try.prog 14 #[.slice a n c, .int .i64 now, .int .i64 lt] w fun e w' => ∃ v', e = .returned v' ∧ OwnK w.heap.size w' v' (pickL l now (if lt < 0 then 0 else lt)) ∧ Below w.heap.size w w' := by
  by_cases h0 : lt < 0
  · rw [if_pos h0]; exact sweepPickN a n c l now lt w h hl hn hnc h0
  · rw [if_neg h0]; exact sweepPick0 a n c l now lt w h hl hn hnc (by omega)

theorem refPick (a : Option Addr) (n c : Nat) (l : List En) (now lt : Int) (w : World) (h : RE9 w a l) (hl : l.length = n) (hn : n ≤ 1000) (hnc : n ≤ c) :
    Calls Try.prog 20 #[.slice a n c, .int .i64 now, .int .i64 lt] w fun e w' => ∃ v', e = .returned v' ∧ OwnK w.heap.size w' v' (pickL l now (if lt < 0 then 0 else lt)) ∧ Below w.heap.size w w' := by
  by_cases h0 : lt < 0
  · rw [if_pos h0]; exact refPickN a n c l now lt w h hl hn hnc h0
  · rw [if_neg h0]; exact refPick0 a n c l now lt w h hl hn hnc (by omega)

set_option maxRecDepth 100000 in
set_option maxHeartbeats 2000000 in
theorem law12same (a : Option Addr) (n c : Nat) (l : List En) (now lt : Int) (w : World) (h : EAt w a l) (hl : l.length = n) (hn : n ≤ 40) (hnc : n ≤ c) :
    Calls Try.prog 12 #[.slice a n c, .int .i64 now, .int .i64 lt] w fun e w' => e = .returned (.bool true) ∧ Below w.heap.size w w' := by
  have HA := Lib.hid h
  have HN := Lib.hid hl
  obtain ⟨kp, hkp⟩ : ∃ k, pickL l now (if lt < 0 then 0 else lt) = k := ⟨_, rfl⟩
  obtain ⟨kd, hkd⟩ : ∃ k, deadL l now = k := ⟨_, rfl⟩
  have hpl : kp.length ≤ 1000 := by rw [← hkp, pick_len']; have := tars_len l now (if lt < 0 then 0 else lt); omega
  have hdl : kd.length ≤ 1000 := by rw [← hkd]; have := dead_len l now; omega
  have C1 := Lib.hid (sweepPick a n c l now lt w h hl hn hnc)
  have C2 := Lib.hid (fun a c w h hnc => refPick a n c l now lt w h hl (by omega) hnc)
  have C3 := Lib.hid (fun w h => sweepDead a n c l now w h hl (by omega) hnc)
  have C4 := Lib.hid (fun a c w h hnc => refDead a n c l now w h hl (by omega) hnc)
  rw [hkp] at C1 C2
  rw [hkd] at C3 C4
  obtain ⟨pn, hpn⟩ : ∃ q, kp.length = q := ⟨_, rfl⟩
  obtain ⟨dn, hdn⟩ : ∃ q, kd.length = q := ⟨_, rfl⟩
  have HPN := Lib.hid hpn
  have HDN := Lib.hid hdn
  rw [hpn] at hpl
  rw [hdn] at hdl
  clear h hl hkp hkd hpn hdn
  go_enter Try.func12, Try.ntmps12
  go_wp2_with fail
  refine C1.out.mono ?_
  rintro e w1 ⟨v1, rfl, ho, hb⟩
  obtain ⟨a1, c1, rfl, -, -, hat, -, -⟩ := ho.read ky_len
  rw [HPN.out]
  have HA1 := Lib.hid hat
  have HB1 := Lib.hid hb
  clear ho hb hat
  go_wp2_with fail
  refine (law12plain a n c l _ (HA.out.ext HB1.out) HN.out (by omega) hnc).mono ?_
  rintro e w2 ⟨v2, rfl, ho, hb⟩
  obtain ⟨a2, c2, rfl, hc2, -, hat, -, -⟩ := ho.read ec_len
  rw [HN.out] at hc2 ⊢
  have HA2 := Lib.hid hat
  have HE2 := Lib.hid hb
  have HB2 := Lib.hid (ext_trans HB1.out hb)
  clear ho hb hat
  go_wp2_with fail
  refine (C2.out a2 c2 _ HA2.out hc2).mono ?_
  rintro e w3 ⟨v3, rfl, ho, hb⟩
  obtain ⟨a3, c3, rfl, -, -, hat, -, -⟩ := ho.read ky_len
  rw [HPN.out]
  have HA3 := Lib.hid hat
  have HE3 := Lib.hid (ext_trans HE2.out hb)
  have HB3 := Lib.hid (ext_trans HB2.out hb)
  clear ho hb hat
  go_wp2_with fail
  refine (keys5 a1 a3 pn c1 c3 kp _ (HA1.out.ext HE3.out) HA3.out HPN.out hpl).mono ?_
  rintro e w4 ⟨rfl, hb⟩
  have HB4 := Lib.hid (ext_trans HB3.out hb)
  clear hb
  go_wp2_with fail
  refine (C3.out _ (HA.out.ext HB4.out)).mono ?_
  rintro e w5 ⟨v5, rfl, ho, hb⟩
  obtain ⟨a5, c5, rfl, -, -, hat, -, -⟩ := ho.read ky_len
  rw [HDN.out]
  have HA5 := Lib.hid hat
  have HB5 := Lib.hid (ext_trans HB4.out hb)
  clear ho hb hat
  go_wp2_with fail
  refine (law12plain a n c l _ (HA.out.ext HB5.out) HN.out (by omega) hnc).mono ?_
  rintro e w6 ⟨v6, rfl, ho, hb⟩
  obtain ⟨a6, c6, rfl, hc6, -, hat, -, -⟩ := ho.read ec_len
  rw [HN.out] at hc6 ⊢
  have HA6 := Lib.hid hat
  have HE6 := Lib.hid hb
  have HB6 := Lib.hid (ext_trans HB5.out hb)
  clear ho hb hat
  go_wp2_with fail
  refine (C4.out a6 c6 _ HA6.out hc6).mono ?_
  rintro e w7 ⟨v7, rfl, ho, hb⟩
  obtain ⟨a7, c7, rfl, -, -, hat, -, -⟩ := ho.read ky_len
  rw [HDN.out]
  have HA7 := Lib.hid hat
  have HE7 := Lib.hid (ext_trans HE6.out hb)
  have HB7 := Lib.hid (ext_trans HB6.out hb)
  clear ho hb hat
  go_wp2_with fail
  refine (keys5 a5 a7 dn c5 c7 kd _ (HA5.out.ext HE7.out) HA7.out HDN.out hdl).mono ?_
  rintro e w8 ⟨rfl, hb⟩
  have HB8 := Lib.hid (ext_trans HB7.out hb)
  clear hb
  go_wp2
  go_ret
  exact ⟨rfl, HB8.out⟩

end Go.Proofs.Ytohiimfojlcomaa
