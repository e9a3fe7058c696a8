/- Layer 11: GuardNumbers, walked. -/
import Derived.Test.YtelmalkgfikddaaGuardP
import Derived.Test.YtelmalkgfikddaaOwn
namespace Go.Proofs.Ytelmalkgfikddaa
open Go.RowKit
set_option linter.unusedVariables false

theorem cap_step (j : Int) : (if j + 1 ≤ 1048576 then j + 1 else 1048576) = (if (if j ≤ 1048576 then j else 1048576) + 1 ≤ 1048576 then (if j ≤ 1048576 then j else 1048576) + 1 else 1048576) := by
  by_cases h : j ≤ 1048576
  · simp only [if_pos h]
  · simp only [if_neg h]
    rw [if_neg (by omega), if_neg (by omega)]
theorem wf_of {x : Int} (h : -9223372036854775808 ≤ x ∧ x ≤ 9223372036854775807) : (Lit.int .i64 x).wf = true := WalkArith.wf_i64 (by omega)

set_option maxRecDepth 100000 in
set_option maxHeartbeats 4000000 in
theorem guardNumbers_walk (w : World) :
    Calls Try.prog 3 #[] w fun e w' => e = .returned (.bool true) ∧ Below w.heap.size w w' := by
  go_enter Try.func3, Try.ntmps3
  go_wp2_with fail
  go_loopw [1] (fun i wr => ∃ n : Int, -2 ≤ n ∧ n ≤ 200 ∧ i = .int .i64 n ∧ Below w.heap.size w wr) (fun i _ => (200 - intOf i).toNat)
  case atStart => exact ⟨-2, by omega, by omega, rfl, Below.refl _ _⟩
  case round =>
    obtain ⟨n, hn, hn2, rfl, B⟩ := hrel
    by_cases hlt : n < 200
    · go_wp2_with fail
      refine (guardNeed _ _).mono ?_
      rintro e u1 ⟨rfl, rfl⟩
      go_wp2_with fail
      refine (refNeed _ _).mono ?_
      rintro e u1 ⟨rfl, rfl⟩
      go_wp2_with fail
      have R1 : IsRow .i64 (wr.alloc (.cells #[.int .i64 0, .int .i64 0, .int .i64 4, .int .i64 0, .int .i64 4, .int .i64 0, .int .i64 4] 3)) (some ⟨wr.heap.size, 0, none⟩) 7 7 [0, 0, 4, 0, 4, 0, 4] := row_new (k := .i64) wr [0, 0, 4, 0, 4, 0, 4] 3 (by simp [maxLen]) (by intro x hx; simp at hx; rcases hx with rfl | rfl | rfl | rfl | rfl | rfl | rfl <;> first | (with_reducible assumption) | exact RowKit.wrap64_wf _ | decide | exact wf_of (by omega))
      have R2 : IsRow .i64 ((wr.alloc (.cells #[.int .i64 0, .int .i64 0, .int .i64 4, .int .i64 0, .int .i64 4, .int .i64 0, .int .i64 4] 3)).alloc (.cells #[.int .i64 0, .int .i64 0, .int .i64 n, .int .i64 0, .int .i64 (2 * n), .int .i64 0, .int .i64 (3 * n + 7)] 2)) (some ⟨wr.heap.size + 1, 0, none⟩) 7 7 [0, 0, n, 0, (2 * n), 0, (3 * n + 7)] := by
        have h := row_new (k := .i64) (wr.alloc (.cells #[.int .i64 0, .int .i64 0, .int .i64 4, .int .i64 0, .int .i64 4, .int .i64 0, .int .i64 4] 3)) [0, 0, n, 0, (2 * n), 0, (3 * n + 7)] 2 (by simp [maxLen]) (by intro x hx; simp at hx; rcases hx with rfl | rfl | rfl | rfl | rfl | rfl | rfl <;> first | (with_reducible assumption) | exact RowKit.wrap64_wf _ | decide | exact wf_of (by omega))
        simpa using h
      have R1 : IsRow .i64 ((wr.alloc (.cells #[.int .i64 0, .int .i64 0, .int .i64 4, .int .i64 0, .int .i64 4, .int .i64 0, .int .i64 4] 3)).alloc (.cells #[.int .i64 0, .int .i64 0, .int .i64 n, .int .i64 0, .int .i64 (2 * n), .int .i64 0, .int .i64 (3 * n + 7)] 2)) (some ⟨wr.heap.size, 0, none⟩) 7 7 [0, 0, 4, 0, 4, 0, 4] := R1.ext (by go_grown)
      have R0 : Below wr.heap.size wr ((wr.alloc (.cells #[.int .i64 0, .int .i64 0, .int .i64 4, .int .i64 0, .int .i64 4, .int .i64 0, .int .i64 4] 3)).alloc (.cells #[.int .i64 0, .int .i64 0, .int .i64 n, .int .i64 0, .int .i64 (2 * n), .int .i64 0, .int .i64 (3 * n + 7)] 2)) := by go_grown
      have R1 := Lib.hid R1
      have R2 := Lib.hid R2
      have B1 : Below w.heap.size w ((wr.alloc (.cells #[.int .i64 0, .int .i64 0, .int .i64 4, .int .i64 0, .int .i64 4, .int .i64 0, .int .i64 4] 3)).alloc (.cells #[.int .i64 0, .int .i64 0, .int .i64 n, .int .i64 0, .int .i64 (2 * n), .int .i64 0, .int .i64 (3 * n + 7)] 2)) := by
        have := B.size
        go_grown
      refine (law11play _ _ _ _ _ _ _ _ _ _ (by decide) R1.out R2.out).mono ?_
      rintro e u1 ⟨rfl, hb⟩
      have B2 := ext_trans B1 hb
      clear hb B1 R0 R1 R2 B
      go_wp2
      go_roundw
      case rel => exact ⟨n + 1, by omega, by omega, rfl, B2⟩
      case measure => simp [intOf]; omega
    · go_wp2_with fail
      clear hlt hn hn2
      have C : ∀ k, k < 7 → (wr.alloc (.cells #[.int .i64 (-9223372036854775808), .int .i64 (-61), .int .i64 (-1), .int .i64 (0), .int .i64 (1099511627776), .int .i64 (9223372036854775747), .int .i64 (9223372036854775807)] 2)).cell? ⟨wr.heap.size, k, none⟩ = some (.int .i64 ([-9223372036854775808, -61, -1, 0, 1099511627776, 9223372036854775747, 9223372036854775807].getD k 0)) := by
        intro k hk
        match k, hk with
        | 0, _ => go_cell
        | 1, _ => go_cell
        | 2, _ => go_cell
        | 3, _ => go_cell
        | 4, _ => go_cell
        | 5, _ => go_cell
        | 6, _ => go_cell
      have B1 : Below w.heap.size w (wr.alloc (.cells #[.int .i64 (-9223372036854775808), .int .i64 (-61), .int .i64 (-1), .int .i64 (0), .int .i64 (1099511627776), .int .i64 (9223372036854775747), .int .i64 (9223372036854775807)] 2)) := by
        have := B.size
        go_grown
      have CH := Lib.hid C
      have hws : wr.heap.size < (wr.alloc (.cells #[.int .i64 (-9223372036854775808), .int .i64 (-61), .int .i64 (-1), .int .i64 (0), .int .i64 (1099511627776), .int .i64 (9223372036854775747), .int .i64 (9223372036854775807)] 2)).heap.size := by simp
      have hwz := B.size
      clear C B
      generalize (wr.alloc (.cells #[.int .i64 (-9223372036854775808), .int .i64 (-61), .int .i64 (-1), .int .i64 (0), .int .i64 (1099511627776), .int .i64 (9223372036854775747), .int .i64 (9223372036854775807)] 2)) = wa at *
      go_loopw [27] (fun i wq => ∃ k : Nat, k ≤ 7 ∧ i = .int .i64 k ∧ Below w.heap.size w wq ∧ Below wa.heap.size wa wq) (fun i _ => 7 - (intOf i).toNat)
      case atStart => exact ⟨0, by omega, rfl, B1, Below.refl _ _⟩
      case round =>
        obtain ⟨wq, rfl⟩ : ∃ wq : World, wq = wr := ⟨_, rfl⟩
        obtain ⟨k, hk, rfl, B, D⟩ := hrel
        by_cases hlt : k < 7
        · have hx := ext_cell D (CH.out k hlt)
          have hxw : (Lit.int .i64 ([-9223372036854775808, -61, -1, 0, 1099511627776, 9223372036854775747, 9223372036854775807].getD k 0)).wf = true := getD_wf (by decide)
          generalize [-9223372036854775808, -61, -1, 0, 1099511627776, 9223372036854775747, 9223372036854775807].getD k 0 = t at hx hxw
          have htb := bounds_i64 hxw
          go_wp2_with fail
          have R1 : IsRow .i64 (wq.alloc (.cells #[.int .i64 0, .int .i64 4, .int .i64 0, .int .i64 4, .int .i64 4, .int .i64 0, .int .i64 4] 3)) (some ⟨wq.heap.size, 0, none⟩) 7 7 [0, 4, 0, 4, 4, 0, 4] := row_new (k := .i64) wq [0, 4, 0, 4, 4, 0, 4] 3 (by simp [maxLen]) (by intro x hx; simp at hx; rcases hx with rfl | rfl | rfl | rfl | rfl | rfl | rfl <;> first | (with_reducible assumption) | exact RowKit.wrap64_wf _ | decide | exact wf_of (by omega))
          have R2 : IsRow .i64 ((wq.alloc (.cells #[.int .i64 0, .int .i64 4, .int .i64 0, .int .i64 4, .int .i64 4, .int .i64 0, .int .i64 4] 3)).alloc (.cells #[.int .i64 1, .int .i64 (wrap64 (t + 59)), .int .i64 2, .int .i64 (wrap64 (t + 60)), .int .i64 (wrap64 (t + 61)), .int .i64 3, .int .i64 9223372036854775807] 2)) (some ⟨wq.heap.size + 1, 0, none⟩) 7 7 [1, (wrap64 (t + 59)), 2, (wrap64 (t + 60)), (wrap64 (t + 61)), 3, 9223372036854775807] := by
            have h := row_new (k := .i64) (wq.alloc (.cells #[.int .i64 0, .int .i64 4, .int .i64 0, .int .i64 4, .int .i64 4, .int .i64 0, .int .i64 4] 3)) [1, (wrap64 (t + 59)), 2, (wrap64 (t + 60)), (wrap64 (t + 61)), 3, 9223372036854775807] 2 (by simp [maxLen]) (by intro x hx; simp at hx; rcases hx with rfl | rfl | rfl | rfl | rfl | rfl | rfl <;> first | (with_reducible assumption) | exact RowKit.wrap64_wf _ | decide | exact wf_of (by omega))
            simpa using h
          have R1 : IsRow .i64 ((wq.alloc (.cells #[.int .i64 0, .int .i64 4, .int .i64 0, .int .i64 4, .int .i64 4, .int .i64 0, .int .i64 4] 3)).alloc (.cells #[.int .i64 1, .int .i64 (wrap64 (t + 59)), .int .i64 2, .int .i64 (wrap64 (t + 60)), .int .i64 (wrap64 (t + 61)), .int .i64 3, .int .i64 9223372036854775807] 2)) (some ⟨wq.heap.size, 0, none⟩) 7 7 [0, 4, 0, 4, 4, 0, 4] := R1.ext (by go_grown)
          have R0 : Below wq.heap.size wq ((wq.alloc (.cells #[.int .i64 0, .int .i64 4, .int .i64 0, .int .i64 4, .int .i64 4, .int .i64 0, .int .i64 4] 3)).alloc (.cells #[.int .i64 1, .int .i64 (wrap64 (t + 59)), .int .i64 2, .int .i64 (wrap64 (t + 60)), .int .i64 (wrap64 (t + 61)), .int .i64 3, .int .i64 9223372036854775807] 2)) := by go_grown
          have R1 := Lib.hid R1
          have R2 := Lib.hid R2
          have B1 : Below w.heap.size w ((wq.alloc (.cells #[.int .i64 0, .int .i64 4, .int .i64 0, .int .i64 4, .int .i64 4, .int .i64 0, .int .i64 4] 3)).alloc (.cells #[.int .i64 1, .int .i64 (wrap64 (t + 59)), .int .i64 2, .int .i64 (wrap64 (t + 60)), .int .i64 (wrap64 (t + 61)), .int .i64 3, .int .i64 9223372036854775807] 2)) := by
            have := B.size
            go_grown
          refine (law11play _ _ _ _ _ _ _ _ _ _ hxw R1.out R2.out).mono ?_
          rintro e u1 ⟨rfl, hb⟩
          have B2 := ext_trans B1 hb
          have D2 : Below wa.heap.size wa u1 := ext_trans (ext_trans D R0) hb
          clear hb B1 R0 R1 R2 B D
          go_wp2_with fail
          refine (guardNeed _ _).mono ?_
          rintro e u2 ⟨rfl, rfl⟩
          go_wp2_with fail
          refine (refNeed _ _).mono ?_
          rintro e u2 ⟨rfl, rfl⟩
          go_wp2
          go_roundw
          case rel => exact ⟨k + 1, by omega, by go_num, B2, D2⟩
          case measure => simp [intOf]; omega
        · clear D CH B1 hws
          go_wp2_with fail
          clear hlt hk
          refine (guardNew _ _).mono ?_
          rintro e u1 ⟨rfl, rfl⟩
          have hs := GIs.made 0 wq 39
          have hwq : w.heap.size ≤ wq.heap.size := B.size
          have B1 : Below w.heap.size w (wq.alloc (.cells #[.int .i64 0, .int .i64 0, .int .i64 0] 39)) := by go_grown
          clear B
          go_wp2_with fail
          go_loopw [5] (fun i wp => ∃ j : Int, 0 ≤ j ∧ j ≤ 1048581 ∧ i = .int .i64 j ∧ Below w.heap.size w wp ∧ GIs wq.heap.size 0 0 (if j ≤ 1048576 then j else 1048576) wp) (fun i _ => (1048581 - intOf i).toNat)
          case atStart => exact ⟨0, by omega, by omega, rfl, B1, by simpa using hs⟩
          case round =>
            clear hs B1
            obtain ⟨wp, rfl⟩ : ∃ wp : World, wp = wr := ⟨_, rfl⟩
            obtain ⟨j, hj0, hj, rfl, B1, hs⟩ := hrel
            obtain ⟨t, ht⟩ : ∃ t : Int, (if j ≤ 1048576 then j else 1048576) = t := ⟨_, rfl⟩
            rw [ht] at hs
            have ht0 : 0 ≤ t := by rw [← ht]; split <;> omega
            have ht1 : t ≤ 1048576 := by rw [← ht]; split <;> omega
            by_cases hlt : j < 1048581
            · have Ht := Lib.hid ht
              clear ht
              go_wp2_with fail
              refine (guardRenewK _ _ _ _ _ hs ht0 ht1).mono ?_
              rintro e u4 ⟨t2, rfl, hk1, hs1, ht2⟩
              have B2 := B1.trans (hk1.below hwq)
              have H2 := Lib.hid ht2
              clear ht2
              go_wp2
              go_roundw
              case rel => exact ⟨j + 1, by omega, by omega, rfl, B2, by rw [show (if j + 1 ≤ 1048576 then j + 1 else 1048576) = t2 from by rw [H2.out, ← Ht.out]; exact cap_step j]; exact hs1⟩
              case measure => simp [intOf]; omega
            · rw [if_neg (by omega)] at ht
              subst ht
              go_wp2_with fail
              refine (guardThis _ _ _ hs.c2).mono ?_
              rintro e u2 ⟨rfl, rfl⟩
              go_wp2_with fail
              refine (law11known _).mono ?_
              rintro e u3 ⟨rfl, hb⟩
              have B3 := ext_trans B1 hb
              go_wp2_with fail
              go_ret
              exact ⟨rfl, B3⟩

end Go.Proofs.Ytelmalkgfikddaa
