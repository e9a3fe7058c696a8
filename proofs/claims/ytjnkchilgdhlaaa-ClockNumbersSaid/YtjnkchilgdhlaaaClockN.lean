/- Layer 7: ClockNumbers, walked. -/
import Derived.Test.YtjnkchilgdhlaaaClockPA
import Derived.Test.YtjnkchilgdhlaaaOwn
namespace Go.Proofs.Ytjnkchilgdhlaaa
open Go.RowKit
set_option linter.unusedVariables false

theorem wf_of {x : Int} (h : -9223372036854775808 ≤ x ∧ x ≤ 9223372036854775807) : (Lit.int .i64 x).wf = true := WalkArith.wf_i64 (by omega)

set_option maxRecDepth 100000 in
set_option maxHeartbeats 4000000 in
theorem clockNumbers_walk (w : World) :
    Calls Try.prog 3 #[] w fun e w' => e = .returned (.bool true) ∧ Below w.heap.size w w' := by
  go_enter Try.func3, Try.ntmps3
  go_wp2_with fail
  go_loopw [1] (fun i wr => ∃ n : Int, -1 ≤ n ∧ n ≤ 9 ∧ i = .int .i64 n ∧ Below w.heap.size w wr) (fun i _ => (9 - intOf i).toNat)
  case atStart => exact ⟨-1, by omega, by omega, rfl, Below.refl _ _⟩
  case round =>
    obtain ⟨wo, rfl⟩ : ∃ wo : World, wo = wr := ⟨_, rfl⟩
    obtain ⟨n, hn, hn2, rfl, B0⟩ := hrel
    by_cases hlt : n < 9
    · go_wp2_with fail
      go_loopw [2] (fun i wr => ∃ k : Int, -1 ≤ k ∧ k ≤ 9 ∧ i = .int .i64 k ∧ Below w.heap.size w wr) (fun i _ => (9 - intOf i).toNat)
      case atStart => exact ⟨-1, by omega, by omega, rfl, B0⟩
      case round =>
        obtain ⟨wq, rfl⟩ : ∃ wq : World, wq = wr := ⟨_, rfl⟩
        obtain ⟨k, hk, hk2, rfl, B⟩ := hrel
        by_cases hk9 : k < 9
        · go_wp2_with fail
          have R1 : IsRow .i64 (wq.alloc (.cells #[.int .i64 (k), .int .i64 (k), .int .i64 (0), .int .i64 (k), .int .i64 (1)] 3)) (some ⟨wq.heap.size, 0, none⟩) 5 5 [k, k, 0, k, 1] := row_new (k := .i64) wq [k, k, 0, k, 1] 3 (by simp [maxLen]) (by intro x hx; simp at hx; rcases hx with rfl | rfl | rfl | rfl | rfl <;> first | (with_reducible assumption) | exact RowKit.wrap64_wf _ | decide | exact wf_of (by omega))
          have R2 : IsRow .i64 ((wq.alloc (.cells #[.int .i64 (k), .int .i64 (k), .int .i64 (0), .int .i64 (k), .int .i64 (1)] 3)).alloc (.cells #[.int .i64 (1), .int .i64 (1024), .int .i64 (7), .int .i64 (1025), .int .i64 (0)] 2)) (some ⟨wq.heap.size + 1, 0, none⟩) 5 5 [1, 1024, 7, 1025, 0] := by
            have h := row_new (k := .i64) (wq.alloc (.cells #[.int .i64 (k), .int .i64 (k), .int .i64 (0), .int .i64 (k), .int .i64 (1)] 3)) [1, 1024, 7, 1025, 0] 2 (by simp [maxLen]) (by intro x hx; simp at hx; rcases hx with rfl | rfl | rfl | rfl | rfl <;> first | (with_reducible assumption) | exact RowKit.wrap64_wf _ | decide | exact wf_of (by omega))
            simpa using h
          have R1 : IsRow .i64 ((wq.alloc (.cells #[.int .i64 (k), .int .i64 (k), .int .i64 (0), .int .i64 (k), .int .i64 (1)] 3)).alloc (.cells #[.int .i64 (1), .int .i64 (1024), .int .i64 (7), .int .i64 (1025), .int .i64 (0)] 2)) (some ⟨wq.heap.size, 0, none⟩) 5 5 [k, k, 0, k, 1] := R1.ext (by go_grown)
          have R1 := Lib.hid R1
          have R2 := Lib.hid R2
          have B1 : Below w.heap.size w ((wq.alloc (.cells #[.int .i64 (k), .int .i64 (k), .int .i64 (0), .int .i64 (k), .int .i64 (1)] 3)).alloc (.cells #[.int .i64 (1), .int .i64 (1024), .int .i64 (7), .int .i64 (1025), .int .i64 (0)] 2)) := by
            have := B.size
            go_grown
          refine (law7play _ _ _ _ _ _ _ _ _ _ R1.out R2.out).mono ?_
          rintro e u1 ⟨rfl, hb⟩
          have B2 := ext_trans B1 hb
          clear hb B1 R1 R2 B B0
          go_wp2
          go_roundw
          case rel => exact ⟨k + 1, by omega, by omega, rfl, B2⟩
          case measure => simp [intOf]; omega
        · clear B0
          go_wp2
          go_roundw
          case rel => exact ⟨n + 1, by omega, by omega, rfl, B⟩
          case measure => simp [intOf]; omega
    · go_wp2_with fail
      clear hlt hn hn2
      have R1 : IsRow .i64 (wo.alloc (.cells #[.int .i64 (0), .int .i64 (1), .int .i64 (4611686018427387904), .int .i64 (-9223372036854775808)] 3)) (some ⟨wo.heap.size, 0, none⟩) 4 4 [0, 1, 4611686018427387904, -9223372036854775808] := row_new (k := .i64) wo [0, 1, 4611686018427387904, -9223372036854775808] 3 (by simp [maxLen]) (by intro x hx; simp at hx; rcases hx with rfl | rfl | rfl | rfl <;> first | (with_reducible assumption) | exact RowKit.wrap64_wf _ | decide | exact wf_of (by omega))
      have R2 : IsRow .i64 ((wo.alloc (.cells #[.int .i64 (0), .int .i64 (1), .int .i64 (4611686018427387904), .int .i64 (-9223372036854775808)] 3)).alloc (.cells #[.int .i64 (-9223372036854775808), .int .i64 (9223372036854775807), .int .i64 (1), .int .i64 (1)] 2)) (some ⟨wo.heap.size + 1, 0, none⟩) 4 4 [-9223372036854775808, 9223372036854775807, 1, 1] := by
        have h := row_new (k := .i64) (wo.alloc (.cells #[.int .i64 (0), .int .i64 (1), .int .i64 (4611686018427387904), .int .i64 (-9223372036854775808)] 3)) [-9223372036854775808, 9223372036854775807, 1, 1] 2 (by simp [maxLen]) (by intro x hx; simp at hx; rcases hx with rfl | rfl | rfl | rfl <;> first | (with_reducible assumption) | exact RowKit.wrap64_wf _ | decide | exact wf_of (by omega))
        simpa using h
      have R1 : IsRow .i64 ((wo.alloc (.cells #[.int .i64 (0), .int .i64 (1), .int .i64 (4611686018427387904), .int .i64 (-9223372036854775808)] 3)).alloc (.cells #[.int .i64 (-9223372036854775808), .int .i64 (9223372036854775807), .int .i64 (1), .int .i64 (1)] 2)) (some ⟨wo.heap.size, 0, none⟩) 4 4 [0, 1, 4611686018427387904, -9223372036854775808] := R1.ext (by go_grown)
      have R1 := Lib.hid R1
      have R2 := Lib.hid R2
      have B1 : Below w.heap.size w ((wo.alloc (.cells #[.int .i64 (0), .int .i64 (1), .int .i64 (4611686018427387904), .int .i64 (-9223372036854775808)] 3)).alloc (.cells #[.int .i64 (-9223372036854775808), .int .i64 (9223372036854775807), .int .i64 (1), .int .i64 (1)] 2)) := by
        have := B0.size
        go_grown
      refine (law7play _ _ _ _ _ _ _ _ _ _ R1.out R2.out).mono ?_
      rintro e u1 ⟨rfl, hb⟩
      have B2 := ext_trans B1 hb
      clear hb B1 R1 R2 B0
      go_wp2_with fail
      refine (law7known _).mono ?_
      rintro e u2 ⟨rfl, hb⟩
      have B3 := ext_trans B2 hb
      go_wp2_with fail
      go_ret
      exact ⟨rfl, B3⟩

end Go.Proofs.Ytjnkchilgdhlaaa
