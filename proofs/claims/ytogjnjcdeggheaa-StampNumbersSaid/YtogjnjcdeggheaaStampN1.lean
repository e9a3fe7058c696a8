/- Layer 4's laws, walked: StampNumbers. -/
import Derived.Test.YtogjnjcdeggheaaStampN0
import Derived.Test.YtogjnjcdeggheaaLaw4S
import Derived.Test.YtogjnjcdeggheaaLaw4K
namespace Go.Proofs.Ytogjnjcdeggheaa
open Go.RowKit
set_option linter.unusedVariables false

set_option maxRecDepth 100000 in
set_option maxHeartbeats 4000000 in
theorem stampNumbers_walk (w : World) : Calls Try.prog 3 #[] w fun e w' => e = .returned (.bool true) ∧ Below w.heap.size w w' := by
  go_enter Try.func3, Try.ntmps3
  go_wp2_with fail
  refine (law4stamps _).mono ?_
  rintro e w1 ⟨v, j, rfl, hs, hj, B1⟩
  obtain ⟨a, cap, rfl, hrd⟩ := hs.read
  have RD := Lib.hid hrd
  clear hs hrd
  go_wp2_with fail
  go_loopw [9] (fun i wr => ∃ p : Nat, p ≤ j ∧ i = .int .i64 p ∧ Below w1.heap.size w1 wr) (fun i _ => j - (intOf i).toNat)
  case atStart => exact ⟨0, by omega, rfl, Below.refl _ _⟩
  case round =>
    obtain ⟨w2, rfl⟩ : ∃ y : World, y = wr := ⟨_, rfl⟩
    obtain ⟨p, hp, rfl, B2⟩ := hrel
    by_cases hlp : p < j
    · obtain ⟨g, rfl, hg⟩ := RD.out.resolve_left (by omega)
      obtain ⟨t, k, n, hw, c0, c1, c2⟩ := hg p hlp
      have d0 := ext_cell B2 c0
      have d1 := ext_cell B2 c1
      have d2 := ext_cell B2 c2
      have hd : decide ((p : Int) < j) = true := by simp; omega
      have HG := Lib.hid hg
      clear hg c0 c1 c2
      go_wp2_with fail
      have A0 : (w2.alloc (.cells #[.int .i64 t, .int .i64 k, .int .i64 n] 25)).heap[w2.heap.size]? = some (.cells #[.int .i64 t, .int .i64 k, .int .i64 n] 25 (0, 0)) := blk_new _ _ _
      have D0 : Below w1.heap.size w1 (w2.alloc (.cells #[.int .i64 t, .int .i64 k, .int .i64 n] 25)) := B2.alloc B2.size _
      have HA := Lib.hid A0
      clear A0 d0 d1 d2
      generalize (w2.alloc (.cells #[.int .i64 t, .int .i64 k, .int .i64 n] 25)) = w3 at *
      go_loopw [15] (fun i wr => ∃ q : Nat, q ≤ j ∧ i = .int .i64 q ∧ Below w3.heap.size w3 wr) (fun i _ => j - (intOf i).toNat)
      case atStart => exact ⟨0, by omega, rfl, Below.refl _ _⟩
      case round =>
        obtain ⟨w4, rfl⟩ : ∃ y : World, y = wr := ⟨_, rfl⟩
        obtain ⟨q, hq, rfl, B4⟩ := hrel
        have D4 := ext_trans D0 B4
        by_cases hlq : q < j
        · obtain ⟨t', k', n', hw', c0, c1, c2⟩ := HG.out q hlq
          have d0 := ext_cell D4 c0
          have d1 := ext_cell D4 c1
          have d2 := ext_cell D4 c2
          have A4 := blk_ext B4 HA.out
          have a4 := blk_cell A4
          have l4 := blk_lt A4
          have H4 := Lib.hid A4
          have hdq : decide ((q : Int) < j) = true := by simp; omega
          have hz4 := D4.size
          clear c0 c1 c2 A4
          go_wp2_with fail
          refine (law4same _ _ _ _ _ _ _ _ _ (i64_hi hw.2.2) (i64_lo hw.2.2)).mono ?_
          rintro e w5 ⟨rfl, hb⟩
          have D5 : Below w3.heap.size w3 w5 := ext_trans (B4.alloc B4.size _) hb
          clear hb d0 d1 d2 a4
          go_wp2
          go_roundw
          case rel => exact ⟨q + 1, by omega, by go_num, D5⟩
          case measure => simp [intOf]; omega
        · go_wp2
          go_roundw
          case rel => exact ⟨p + 1, by omega, by go_num, D4⟩
          case measure => simp [intOf]; omega
    · have D := ext_trans B1 B2
      go_wp2_with fail
      refine (law4known _).mono ?_
      rintro e w3 ⟨rfl, hb⟩
      have D3 := ext_trans D hb
      go_wp2_with fail
      go_ret
      exact ⟨rfl, D3⟩

end Go.Proofs.Ytogjnjcdeggheaa
