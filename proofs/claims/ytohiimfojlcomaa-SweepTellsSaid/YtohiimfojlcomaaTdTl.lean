/- 'SweepTells': the walk. -/
import Derived.Test.YtohiimfojlcomaaTdG
import Derived.Test.YtohiimfojlcomaaTdK
import Derived.Test.YtohiimfojlcomaaMask
namespace Go.Proofs.Ytohiimfojlcomaa
open Go.RowKit
set_option linter.unusedVariables false
set_option linter.unusedSimpArgs false

set_option maxRecDepth 100000 in
set_option maxHeartbeats 2000000 in
theorem sweepTells_walk (ra : Option Addr) (rlen rcap : Nat) (rz : List Int) (za : Option Addr) (zl zc : Nat) (zs : List En) (now lt x : Int) (w : World) (hr : IsRow .i64 w ra rlen rcap rz) (hr8 : rlen * 8 ≤ 140737488351232) (hzn : zs.length = zl) (hzl : zl ≤ zc) (hzm : zc ≤ maxLen) (hz : EAt w za zs) (hw1 : (Lit.int .i64 now).wf = true) (hw2 : (Lit.int .i64 lt).wf = true) (hw3 : (Lit.int .i64 x).wf = true) :
    Calls Try.prog 4 #[.slice ra rlen rcap, .slice za zl zc, .int .i64 now, .int .i64 lt, .int .i64 x] w fun e w' => e = .returned (.bool true) ∧ Below w.heap.size w w' := by
  obtain ⟨A, hA⟩ : ∃ N, bits BinOp.and IntKind.i64 now 255 = N := ⟨_, rfl⟩
  obtain ⟨B, hB⟩ : ∃ N, bits BinOp.and IntKind.i64 lt 31 = N := ⟨_, rfl⟩
  obtain ⟨C, hC⟩ : ∃ N, bits BinOp.and IntKind.i64 x 63 = N := ⟨_, rfl⟩
  have HR := Lib.hid hr
  have HZ := Lib.hid hz
  have HZN := Lib.hid hzn
  unfold maxLen at hzm
  clear hr hz hzn hr8 hw1 hw2 hw3
  go_enter Try.func4, Try.ntmps4
  by_cases h30 : 30 < zl
  · have hd : decide ((30 : Int) < (zl : Int)) = true := by simp; omega
    obtain ⟨b, o, rfl⟩ : ∃ b o, za = some ⟨b, o, none⟩ := by
      rcases HZ.out with h | ⟨b, o, e, _⟩
      · have := HZN.out; rw [h] at this; simp at this; omega
      · exact ⟨b, o, e⟩
    have HZ30 := Lib.hid (SAt.take (enc := ec) ec_len 30 HZ.out)
    have h30c : 30 ≤ zc := by omega
    go_wp2_with fail
    refine (law12made ra rlen rcap rz _ HR.out).mono ?_
    rintro e w1 ⟨lv, es, cs, rfl, ho, -, hl19, -, hb1⟩
    obtain ⟨ea, ec_, rfl, hec, hem, heat, -, -⟩ := ho.read ec_len
    obtain ⟨n, hn⟩ : ∃ n, es.length = n := ⟨_, rfl⟩
    have HN := Lib.hid hn
    rw [hn] at hec hl19 ⊢
    have HEA := Lib.hid heat
    have HB1 := Lib.hid hb1
    clear ho hb1 heat hn
    go_wp2_with fail
    try rw [hA]
    try rw [hB]
    refine (law12same ea n ec_ es A B _ HEA.out HN.out (by omega) hec).mono ?_
    rintro e w2 ⟨rfl, hb2⟩
    have HE2 := Lib.hid (HEA.out.ext hb2)
    have HB2 := Lib.hid (ext_trans HB1.out hb2)
    clear hb2
    go_wp2_with fail
    refine (law12same ea n ec_ es now lt _ HE2.out HN.out (by omega) hec).mono ?_
    rintro e w3 ⟨rfl, hb3⟩
    have HB3 := Lib.hid (ext_trans HB2.out hb3)
    clear hb3
    go_wp2_with fail
    refine (law12same (some ⟨b, o, none⟩) 30 zc (zs.take 30) now lt _ (HZ30.out.ext HB3.out) (by rw [List.length_take]; have := HZN.out; omega) (by omega) h30c).mono ?_
    rintro e w4 ⟨rfl, hb4⟩
    have HB4 := Lib.hid (ext_trans HB3.out hb4)
    clear hb4
    go_wp2_with fail
    refine (sweepMostI x _).mono ?_
    rintro e w5 ⟨rfl, hw5⟩
    obtain rfl := hw5.symm
    go_wp2_with fail
    refine (refPartI x _).mono ?_
    rintro e w6 ⟨rfl, hw6⟩
    obtain rfl := hw6.symm
    obtain ⟨M, hM⟩ : ∃ M, mostI x = M := ⟨_, rfl⟩
    rw [hM]
    have hMM : (M == M) = true := beq_self_eq_true M
    go_wp2_with fail
    try rw [hC]
    refine (sweepMostI C _).mono ?_
    rintro e w7 ⟨rfl, hw7⟩
    obtain rfl := hw7.symm
    go_wp2_with fail
    try rw [hC]
    refine (refPartI C _).mono ?_
    rintro e w8 ⟨rfl, hw8⟩
    obtain rfl := hw8.symm
    obtain ⟨M2, hM2⟩ : ∃ M, mostI C = M := ⟨_, rfl⟩
    rw [hM2]
    have hMM2 : (M2 == M2) = true := beq_self_eq_true M2
    go_wp2_with fail
    refine (law12known _).mono ?_
    rintro e w9 ⟨rfl, hb9⟩
    have HB9 := Lib.hid (ext_trans HB4.out hb9)
    clear hb9
    go_wp2
    go_ret
    exact ⟨rfl, HB9.out⟩
  · have hd : decide ((30 : Int) < (zl : Int)) = false := by simp; omega
    go_wp2_with fail
    refine (law12made ra rlen rcap rz _ HR.out).mono ?_
    rintro e w1 ⟨lv, es, cs, rfl, ho, -, hl19, -, hb1⟩
    obtain ⟨ea, ec_, rfl, hec, hem, heat, -, -⟩ := ho.read ec_len
    obtain ⟨n, hn⟩ : ∃ n, es.length = n := ⟨_, rfl⟩
    have HN := Lib.hid hn
    rw [hn] at hec hl19 ⊢
    have HEA := Lib.hid heat
    have HB1 := Lib.hid hb1
    clear ho hb1 heat hn
    go_wp2_with fail
    try rw [hA]
    try rw [hB]
    refine (law12same ea n ec_ es A B _ HEA.out HN.out (by omega) hec).mono ?_
    rintro e w2 ⟨rfl, hb2⟩
    have HE2 := Lib.hid (HEA.out.ext hb2)
    have HB2 := Lib.hid (ext_trans HB1.out hb2)
    clear hb2
    go_wp2_with fail
    refine (law12same ea n ec_ es now lt _ HE2.out HN.out (by omega) hec).mono ?_
    rintro e w3 ⟨rfl, hb3⟩
    have HB3 := Lib.hid (ext_trans HB2.out hb3)
    clear hb3
    go_wp2_with fail
    refine (law12same za zl zc zs now lt _ (HZ.out.ext HB3.out) HZN.out (by omega) hzl).mono ?_
    rintro e w4 ⟨rfl, hb4⟩
    have HB4 := Lib.hid (ext_trans HB3.out hb4)
    clear hb4
    go_wp2_with fail
    refine (sweepMostI x _).mono ?_
    rintro e w5 ⟨rfl, hw5⟩
    obtain rfl := hw5.symm
    go_wp2_with fail
    refine (refPartI x _).mono ?_
    rintro e w6 ⟨rfl, hw6⟩
    obtain rfl := hw6.symm
    obtain ⟨M, hM⟩ : ∃ M, mostI x = M := ⟨_, rfl⟩
    rw [hM]
    have hMM : (M == M) = true := beq_self_eq_true M
    go_wp2_with fail
    try rw [hC]
    refine (sweepMostI C _).mono ?_
    rintro e w7 ⟨rfl, hw7⟩
    obtain rfl := hw7.symm
    go_wp2_with fail
    try rw [hC]
    refine (refPartI C _).mono ?_
    rintro e w8 ⟨rfl, hw8⟩
    obtain rfl := hw8.symm
    obtain ⟨M2, hM2⟩ : ∃ M, mostI C = M := ⟨_, rfl⟩
    rw [hM2]
    have hMM2 : (M2 == M2) = true := beq_self_eq_true M2
    go_wp2_with fail
    refine (law12known _).mono ?_
    rintro e w9 ⟨rfl, hb9⟩
    have HB9 := Lib.hid (ext_trans HB4.out hb9)
    clear hb9
    go_wp2
    go_ret
    exact ⟨rfl, HB9.out⟩

end Go.Proofs.Ytohiimfojlcomaa
