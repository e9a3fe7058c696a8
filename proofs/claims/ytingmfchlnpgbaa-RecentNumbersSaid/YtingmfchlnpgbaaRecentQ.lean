/- Layer 13's laws, walked: RecentNumbers. -/
import Derived.Test.YtingmfchlnpgbaaRecentP
namespace Go.Proofs.Ytingmfchlnpgbaa
open Go.RowKit
set_option linter.unusedVariables false

theorem info_int : (Try.prog.info? 3).map (fun i => (i.zero, i.size, i.bytes)) = some (some (.int .i64 0), 1, 8) := by kernel_rfl
theorem mul_lo {a b : Nat} : (0 : Int) ≤ (a : Int) * b := Int.mul_nonneg (by omega) (by omega)
theorem mul_hi {a b x y : Nat} (ha : a ≤ x) (hb : b ≤ y) : (a : Int) * b ≤ (x : Int) * y := by exact_mod_cast Nat.mul_le_mul ha hb

set_option maxRecDepth 100000 in
set_option maxHeartbeats 4000000 in
theorem recentNumbers_walk (w : World) :
    Calls Try.prog 3 #[] w fun e w' => e = .returned (.bool true) ∧ Below w.heap.size w w' := by
  obtain ⟨i0, hi, hz0, hz1, hz2⟩ := info_parts info_int
  go_enter Try.func3, Try.ntmps3
  go_wp2_with fail
  go_loopw [1] (fun i wr => ∃ k : Nat, k ≤ 20 ∧ i = .int .i64 k ∧ Below w.heap.size w wr) (fun i _ => 20 - (intOf i).toNat)
  case atStart => exact ⟨0, by omega, rfl, Below.refl _ _⟩
  case round =>
    obtain ⟨w1, rfl⟩ : ∃ y : World, y = wr := ⟨_, rfl⟩
    obtain ⟨k, hk, rfl, B1⟩ := hrel
    by_cases hlk : k < 20
    · have hdk : decide ((k : Int) < 20) = true := by simp; omega
      have Z1 := B1.size
      go_wp2_with fail
      go_loopw [2, 3] (fun v i wr => ∃ (j : Nat) (xs : List Int), j ≤ 90 ∧ i = .int .i64 j ∧ xs.length = j ∧ (∀ x ∈ xs, (Lit.int .i64 x).wf = true) ∧ wr.ownsRow w1.heap.size 3 1 v j (xs.map (Value.int .i64)) ∧ Below w1.heap.size w1 wr) (fun _ i _ => 90 - (intOf i).toNat)
      case atStart => exact ⟨0, [], by omega, rfl, rfl, by simp, World.ownsRow_nil _ _ _ _, Below.refl _ _⟩
      case round =>
        obtain ⟨w2, rfl⟩ : ∃ y : World, y = wr := ⟨_, rfl⟩
        obtain ⟨j, xs, hj, rfl, hxl, hxw, hown, B2⟩ := hrel
        have HX := Lib.hid hxl
        have HW := Lib.hid hxw
        have HO := Lib.hid hown
        have Z2 := B2.size
        clear hxl hxw hown
        by_cases hlj : j < 90
        · have hdj : decide ((j : Int) < 90) = true := by simp; omega
          have m1 := mul_lo (a := j) (b := j)
          have m2 : (j : Int) * j ≤ 8100 := by have := mul_hi (a := j) (b := j) (x := 90) (y := 90) (by omega) (by omega); omega
          have m3 := mul_lo (a := j) (b := k)
          have m4 : (j : Int) * k ≤ 1800 := by have := mul_hi (a := j) (b := k) (x := 90) (y := 20) (by omega) (by omega); omega
          have hv0 : 0 ≤ ((j : Int) * j * 7 + k * 37 + j * k) % 211 := Int.emod_nonneg _ (by omega)
          have hv1 : ((j : Int) * j * 7 + k * 37 + j * k) % 211 < 211 := Int.emod_lt_of_pos _ (by omega)
          have hvw : (Lit.int .i64 (((j : Int) * j * 7 + k * 37 + j * k) % 211)).wf = true := WalkArith.wf_i64 (by omega)
          have HV := Lib.hid hvw
          clear hv0 hv1 hvw
          go_wp2_with (first | (at_builtin; refine wpList_append_own _ rfl _ _ 22 rfl (w1.heap.size) 3 i0 (.int .i64 0) 1 8 Try.underlying22 hi hz0 hz1 hz2 rfl (by decide) _ _ _ rfl (HO.out.alloc _) ⟨w2.heap.size, 0, none⟩ 1 1 [.int .i64 (((j : Int) * j * 7 + k * 37 + j * k) % 211)] rfl rfl ?c1 ?c2 ?c3 ?c4 ?c5 ?_))
          case c1 =>
            intro j' u hj'
            match j', hj' with
            | 0, hj' => simp at hj'; subst hj'; simp [Addr.add, go_sem]
          case c2 => intro u hu; simp at hu; subst hu; rfl
          case c3 => unfold maxLen; omega
          case c4 => omega
          case c5 => simp; omega
          intro v' w3 hown' hgrow _
          have B3 := (B2.alloc B2.size _).grown hgrow (by simp; omega) (fun q hq => own_ge HO.out hq)
          have O3 := Lib.hid hown'
          clear hown' hgrow
          go_wp2
          go_roundw
          case rel => exact ⟨j + 1, xs ++ [((j : Int) * j * 7 + k * 37 + j * k) % 211], by omega, by go_num, by simp [HX.out], by intro y hy; rcases List.mem_append.1 hy with h | h; (· exact HW.out y h); (· simp at h; subst h; exact HV.out), by simpa using O3.out, B3⟩
          case measure => simp [intOf]; omega
        · have hdj : decide ((j : Int) < 90) = false := by simp; omega
          obtain ⟨at_, ct, rfl, hrow⟩ := isRow_of_owns HO.out HX.out HW.out
          have HR := Lib.hid hrow
          have D2 := ext_trans B1 B2
          clear hrow
          go_wp2_with fail
          go_loopw [4] (fun i wr => ∃ n : Int, -2 ≤ n ∧ n ≤ 55 ∧ i = .int .i64 n ∧ Below w2.heap.size w2 wr) (fun i _ => (60 - intOf i).toNat)
          case atStart => exact ⟨-2, by omega, by omega, rfl, Below.refl _ _⟩
          case round =>
            obtain ⟨w4, rfl⟩ : ∃ y : World, y = wr := ⟨_, rfl⟩
            obtain ⟨n, hn0, hn1, rfl, B4⟩ := hrel
            have D4 := ext_trans D2 B4
            by_cases hln : n < 50
            · have hdn : decide (n < 50) = true := by simp; omega
              go_wp2_with fail
              refine (law13keys at_ j ct xs _ (HR.out.ext B4) (by omega)).mono ?_
              rintro e w5 ⟨v, ks, rfl, ho, hl50, B5⟩
              obtain ⟨al, cl, rfl, -, -, -, hka, -⟩ := own_read ho
              have K5 := Lib.hid hka
              have D5 := ext_trans B4 B5
              clear ho hka
              go_wp2_with fail
              have RW : IsRow .i64 (w5.alloc (.cells #[.int .i64 n, .int .i64 (n + 1), .int .i64 (n + 2), .int .i64 (n + 3), .int .i64 (n + 4), .int .i64 (n + 5), .int .i64 (-9223372036854775808), .int .i64 9223372036854775807] 2)) (some ⟨w5.heap.size, 0, none⟩) 8 8 [n, n + 1, n + 2, n + 3, n + 4, n + 5, -9223372036854775808, 9223372036854775807] := row_new (k := .i64) w5 [n, n + 1, n + 2, n + 3, n + 4, n + 5, -9223372036854775808, 9223372036854775807] 2 (by simp [maxLen]) (by intro x hx; simp at hx; rcases hx with rfl | rfl | rfl | rfl | rfl | rfl | rfl | rfl <;> first | decide | exact WalkArith.wf_i64 (by omega))
              have D6 : Below w2.heap.size w2 (w5.alloc (.cells #[.int .i64 n, .int .i64 (n + 1), .int .i64 (n + 2), .int .i64 (n + 3), .int .i64 (n + 4), .int .i64 (n + 5), .int .i64 (-9223372036854775808), .int .i64 9223372036854775807] 2)) := D5.alloc D5.size _
              have HRW := Lib.hid RW
              have K6 := Lib.hid (K5.out.ext (w' := (w5.alloc (.cells #[.int .i64 n, .int .i64 (n + 1), .int .i64 (n + 2), .int .i64 (n + 3), .int .i64 (n + 4), .int .i64 (n + 5), .int .i64 (-9223372036854775808), .int .i64 9223372036854775807] 2))) ((Below.refl _ _).alloc (Nat.le_refl _) _))
              clear RW
              refine (law13play al cl ks _ 8 8 _ _ K6.out (by unfold maxLen; omega) HRW.out).mono ?_
              rintro e w6 ⟨rfl, hb⟩
              have D7 := ext_trans D6 hb
              clear hb
              go_wp2
              go_roundw
              case rel => exact ⟨n + 6, by omega, by omega, rfl, D7⟩
              case measure => simp [intOf]; omega
            · have hdn : decide (n < 50) = false := by simp; omega
              go_wp2
              go_roundw
              case rel => exact ⟨k + 1, by omega, by go_num, D4⟩
              case measure => simp [intOf]; omega
    · have hdk : decide ((k : Int) < 20) = false := by simp; omega
      go_wp2_with fail
      refine (law13known _).mono ?_
      rintro e w2 ⟨rfl, hb⟩
      have B2 := ext_trans B1 hb
      go_wp2
      go_ret
      exact ⟨rfl, B2⟩

end Go.Proofs.Ytingmfchlnpgbaa
