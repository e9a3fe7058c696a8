/- Layer 11: GuardHolds, walked. -/
import Derived.Test.YtelmalkgfikddaaGuardP
import Derived.Test.YtelmalkgfikddaaMask
namespace Go.Proofs.Ytelmalkgfikddaa
open Go.RowKit
set_option linter.unusedVariables false

set_option maxRecDepth 100000 in
set_option maxHeartbeats 4000000 in
theorem guardHolds_walk (live begin : Int) (w : World) (_ : (Lit.int .i64 live).wf = true) (_ : (Lit.int .i64 begin).wf = true) :
    Calls Try.prog 5 #[.int .i64 live, .int .i64 begin] w fun e w' => e = .returned (.bool true) ∧ Below w.heap.size w w' := by
  have hx := within_in (n := live) (lo := 1) (hi := 40) (by omega)
  have ha : 0 ≤ bits BinOp.and IntKind.i64 begin 65535 ∧ bits BinOp.and IntKind.i64 begin 65535 ≤ 65535 := by rw [and_65535]; omega
  go_enter Try.func5, Try.ntmps5
  go_wp2_with fail
  refine (bookWithin _ _ _ _ (by omega) (by omega) (by omega)).mono ?_
  rintro e u1 ⟨rfl, rfl⟩
  generalize within live 1 40 = n at *
  have n1 : needV n = n * 510 / 100 := by simp [needV]; omega
  obtain ⟨m, hm, hm1, hm2⟩ : ∃ m, needV n = m ∧ 1 ≤ m ∧ m ≤ 204 := ⟨_, rfl, by omega, by omega⟩
  have Hm := Lib.hid hm
  clear n1 hm
  go_wp2_with fail
  generalize bits BinOp.and IntKind.i64 begin 65535 = at0 at *
  go_loopw [7] (fun i wr => ∃ j : Nat, j ≤ 2 ∧ i = .int .i64 j ∧ Below w.heap.size w wr) (fun i _ => 2 - (intOf i).toNat)
  case atStart => exact ⟨0, by omega, rfl, Below.refl _ _⟩
  case round =>
    obtain ⟨j, hj, rfl, B⟩ := hrel
    by_cases hlt : j < 2
    · go_wp2_with fail
      refine (guardNew _ _).mono ?_
      rintro e u1 ⟨rfl, rfl⟩
      have hs := GIs.made at0 wr 39
      have hwn : w.heap.size ≤ wr.heap.size := B.size
      have B1 : Below w.heap.size w (wr.alloc (.cells #[.int .i64 at0, .int .i64 0, .int .i64 0] 39)) := by go_grown
      go_wp2_with fail
      refine (guardNeed _ _).mono ?_
      rintro e u2 ⟨rfl, rfl⟩
      rw [Hm.out]
      have hd : decide (m < 1) = false := by simp; omega
      go_wp2_with fail
      clear hd
      go_loopw [9] (fun i wq => ∃ k : Nat, (k : Int) ≤ m - j ∧ i = .int .i64 k ∧ Below w.heap.size w wq ∧ GIs wr.heap.size at0 0 k wq) (fun i _ => (m - intOf i).toNat)
      case atStart => exact ⟨0, by omega, rfl, B1, hs⟩
      case round =>
        clear hs B1
        rename_i wq
        obtain ⟨k, hk, rfl, B1, hs⟩ := hrel
        go_wp2_with fail
        refine (guardNeed _ _).mono ?_
        rintro e u3 ⟨rfl, rfl⟩
        rw [Hm.out]
        by_cases hq : (k : Int) < m - j
        · go_wp2_with fail
          refine (guardRenewK _ _ _ _ _ hs (by omega) (by omega)).mono ?_
          rintro e u4 ⟨t2, rfl, hk1, hs1, ht2⟩
          rw [if_pos (by omega)] at ht2
          subst ht2
          have B2 := B1.trans (hk1.below hwn)
          go_wp2
          go_roundw
          case rel => exact ⟨k + 1, by omega, by go_num, B2, by simpa using hs1⟩
          case measure => simp [intOf]; omega
        · have hmk : m = k + j := by omega
          have Hmk := Lib.hid hmk
          have hkm : (k : Int) ≤ 204 := by omega
          clear hmk hk
          go_wp2_with fail
          refine (guardTick _ _ _ _ _ _ hs (WalkArith.wf_i64 (by omega)) (WalkArith.wf_i64 (by omega))).mono ?_
          rintro e u4 ⟨rfl, hk1, hs1⟩
          rw [gT_60] at hs1
          have B2 := B1.trans (hk1.below hwn)
          clear hk1 hs B1
          go_wp2_with fail
          refine (guardProtects _ _ _ _ _ _ hs1).mono ?_
          rintro e u5 ⟨rfl, hb⟩
          have hs2 := hs1.ext hb
          have B3 := ext_trans B2 hb
          clear hb hs1 B2
          have hde : decide ((k : Int) < needV n) = decide ((0 : Int) < j) := by rw [Hm.out, Hmk.out]; simp only [decide_eq_decide]; omega
          rw [hde]
          clear hde
          go_wp2_with fail
          refine (guardTick _ _ _ _ _ _ hs2 (WalkArith.wf_i64 (by omega)) (WalkArith.wf_i64 (by omega))).mono ?_
          rintro e u6 ⟨rfl, hk1, hs3⟩
          rw [show at0 + 120 = at0 + 60 + 60 from by omega, gT_60] at hs3
          have B4 := B3.trans (hk1.below hwn)
          clear hk1 hs2 B3
          go_wp2_with fail
          refine (guardProtects _ _ _ _ _ _ hs3).mono ?_
          rintro e u7 ⟨rfl, hb⟩
          have hs4 := hs3.ext hb
          have B5 := ext_trans B4 hb
          clear hb hs3 B4
          rw [show decide ((0 : Int) < needV n) = true from by rw [Hm.out]; simp; omega]
          go_wp2_with fail
          refine (guardLast _ _ _ hs4.c1).mono ?_
          rintro e u8 ⟨rfl, rfl⟩
          go_wp2
          go_roundw
          case rel => exact ⟨j + 1, by omega, by go_num, B5⟩
          case measure => simp [intOf]; omega
    · go_wp2_with fail
      refine (law11known _).mono ?_
      rintro e u1 ⟨rfl, hb⟩
      go_wp2_with fail
      go_ret
      exact ⟨rfl, ext_trans B hb⟩

end Go.Proofs.Ytelmalkgfikddaa
