/- 'SweepNumbers': the walk. -/
import Derived.Test.YtohiimfojlcomaaSweepG
import Derived.Test.YtohiimfojlcomaaSweepK
namespace Go.Proofs.Ytohiimfojlcomaa
open Go.RowKit
set_option linter.unusedVariables false
set_option linter.unusedSimpArgs false

theorem info_int : (Try.prog.info? 3).map (fun i => (i.zero, i.size, i.bytes)) = some (some (.int .i64 0), 1, 8) := by kernel_rfl
theorem mul_lo {a b : Nat} : (0 : Int) ≤ (a : Int) * b := Int.mul_nonneg (by omega) (by omega)
theorem mul_hi {a b x y : Nat} (ha : a ≤ x) (hb : b ≤ y) : (a : Int) * b ≤ (x : Int) * y := by exact_mod_cast Nat.mul_le_mul ha hb
def eLo : En := ⟨Cd.zero, -9223372036854775808⟩
def eHi : En := ⟨{ Cd.zero with g := true }, 9223372036854775807⟩

set_option maxRecDepth 100000 in
set_option maxHeartbeats 2000000 in
theorem law12tape (k : Nat) (w : World) (hk : k < 40) :
    Calls Try.prog 11 #[.int .i64 k] w fun e w' => ∃ a c xs, e = .returned (.slice a 200 c) ∧ IsRow .i64 w' a 200 c xs ∧ Below w.heap.size w w' := by
  obtain ⟨i0, hi, hz0, hz1, hz2⟩ := info_parts' info_int
  go_enter Try.func11, Try.ntmps11
  go_wp2_with fail
  go_loopw [3, 4] (fun v i wr => ∃ (j : Nat) (xs : List Int), j ≤ 200 ∧ i = .int .i64 j ∧ xs.length = j ∧ (∀ x ∈ xs, (Lit.int .i64 x).wf = true) ∧ wr.ownsRow w.heap.size 3 1 v j (xs.map (Value.int .i64)) ∧ Below w.heap.size w wr) (fun _ i _ => 200 - (intOf i).toNat)
  case atStart => exact ⟨0, [], by omega, rfl, rfl, by simp, World.ownsRow_nil _ _ _ _, Below.refl _ _⟩
  case round =>
    obtain ⟨w2, rfl⟩ : ∃ y : World, y = wr := ⟨_, rfl⟩
    obtain ⟨j, xs, hj, rfl, hxl, hxw, hown, B2⟩ := hrel
    have HX := Lib.hid hxl
    have HW := Lib.hid hxw
    have HO := Lib.hid hown
    have Z2 := B2.size
    clear hxl hxw hown
    by_cases hlj : j < 200
    · have hdj : decide ((j : Int) < 200) = true := by simp; omega
      have m1 := mul_lo (a := j) (b := j)
      have m2 : (j : Int) * j ≤ 40000 := by have := mul_hi (a := j) (b := j) (x := 200) (y := 200) (by omega) (by omega); omega
      have m3 := mul_lo (a := j) (b := k)
      have m4 : (j : Int) * k ≤ 8000 := by have := mul_hi (a := j) (b := k) (x := 200) (y := 40) (by omega) (by omega); omega
      have hv0 : 0 ≤ (((j : Int) * j * 7 + k * 31 + j * k) % 211) := Int.emod_nonneg _ (by omega)
      have hv1 : (((j : Int) * j * 7 + k * 31 + j * k) % 211) < 211 := Int.emod_lt_of_pos _ (by omega)
      have hvw : (Lit.int .i64 (((j : Int) * j * 7 + k * 31 + j * k) % 211)).wf = true := WalkArith.wf_i64 (by omega)
      have HV := Lib.hid hvw
      clear hv0 hv1 hvw
      go_wp2_with (first | (at_builtin; refine wpList_append_own _ rfl _ _ 25 rfl (w.heap.size) 3 i0 (.int .i64 0) 1 8 Try.underlying25 hi hz0 hz1 hz2 rfl (by decide) _ _ _ rfl (HO.out.alloc _) ⟨w2.heap.size, 0, none⟩ 1 1 [.int .i64 (((j : Int) * j * 7 + k * 31 + j * k) % 211)] rfl rfl ?c1 ?c2 ?c3 ?c4 ?c5 ?_))
      case c1 =>
        intro j' u hj'
        match j', hj' with
        | 0, hj' => simp at hj'; subst hj'; simp [Addr.add, go_sem]
      case c2 => intro u hu; simp at hu; subst hu; rfl
      case c3 => unfold maxLen; omega
      case c4 => omega
      case c5 => simp; omega
      intro v' w3 hown' hgrow _
      have B3 := (B2.alloc B2.size _).grown hgrow (by simp; omega) (fun q hq => own_ge HO.out hq)
      have O3 := Lib.hid hown'
      clear hown' hgrow
      go_wp2
      go_roundw
      case rel => exact ⟨j + 1, xs ++ [(((j : Int) * j * 7 + k * 31 + j * k) % 211)], by omega, by go_num, by simp [HX.out], by intro y hy; rcases List.mem_append.1 hy with h | h; (· exact HW.out y h); (· simp at h; subst h; exact HV.out), by simpa using O3.out, B3⟩
      case measure => simp [intOf]; omega
    · obtain rfl : j = 200 := by omega
      obtain ⟨at_, ct, rfl, hrow⟩ := isRow_of_owns HO.out HX.out HW.out
      go_wp2
      go_ret
      exact ⟨at_, ct, xs, rfl, hrow, B2⟩

set_option maxRecDepth 100000 in
set_option maxHeartbeats 4000000 in
theorem sweepNumbers_walk (w : World) :
    Calls Try.prog 3 #[] w fun e w' => e = .returned (.bool true) ∧ Below w.heap.size w w' := by
  go_enter Try.func3, Try.ntmps3
  go_wp2_with fail
  go_loopw [1] (fun i wr => ∃ z : Int, -3 ≤ z ∧ z ≤ 300 ∧ i = .int .i64 z ∧ Below w.heap.size w wr) (fun i _ => (300 - intOf i).toNat)
  case atStart => exact ⟨-3, by omega, by omega, rfl, Below.refl _ _⟩
  case round =>
    obtain ⟨w1, rfl⟩ : ∃ y : World, y = wr := ⟨_, rfl⟩
    obtain ⟨z, hz0, hz1, rfl, B1⟩ := hrel
    have HB1 := Lib.hid B1
    clear B1
    by_cases hlt : z < 300
    · have hdz : decide (z < 300) = true := decide_eq_true hlt
      go_wp2_with fail
      refine (sweepMostI z _).mono ?_
      rintro e w2 ⟨rfl, rfl⟩
      go_wp2_with fail
      refine (refPartI z _).mono ?_
      rintro e w2 ⟨rfl, rfl⟩
      obtain ⟨X, hX⟩ : ∃ X, mostI z = X := ⟨_, rfl⟩
      rw [hX]
      clear hX
      go_wp2
      go_roundw
      case rel => exact ⟨z + 1, by omega, by omega, by go_num, HB1.out⟩
      case measure => simp [intOf]; omega
    · have hdz : decide (z < 300) = false := decide_eq_false hlt
      go_wp2_with fail
      go_loopw [2] (fun i wr => ∃ k : Nat, k ≤ 40 ∧ i = .int .i64 k ∧ Below w.heap.size w wr) (fun i _ => 40 - (intOf i).toNat)
      case atStart => exact ⟨0, by omega, rfl, HB1.out⟩
      case round =>
        obtain ⟨w2, rfl⟩ : ∃ y : World, y = wr := ⟨_, rfl⟩
        obtain ⟨k, hk, rfl, B2⟩ := hrel
        have HB2 := Lib.hid B2
        clear B2
        by_cases hlk : k < 40
        · have hdk : decide ((k : Int) < 40) = true := decide_eq_true (by omega)
          go_wp2_with fail
          refine (law12tape k _ hlk).mono ?_
          rintro e w3 ⟨ta, tc_, xs, rfl, hrow, hb3⟩
          have HRW := Lib.hid hrow
          have HB3 := Lib.hid (ext_trans HB2.out hb3)
          clear hrow hb3
          go_wp2_with fail
          refine (law12made ta 200 tc_ xs _ HRW.out).mono ?_
          rintro e w4 ⟨lv, es, cs, rfl, ho, -, hl19, -, hb4⟩
          obtain ⟨ea, ec_, rfl, hec, hem, heat, -, -⟩ := ho.read ec_len
          obtain ⟨n, hn⟩ : ∃ n, es.length = n := ⟨_, rfl⟩
          have HN := Lib.hid hn
          rw [hn] at hec hl19 ⊢
          have HEA := Lib.hid heat
          have HB4 := Lib.hid (ext_trans HB3.out hb4)
          unfold maxLen at hem
          clear ho hb4 heat hn HRW
          go_wp2_with fail
          go_loopw [26] (fun i wr => ∃ I : Nat, I ≤ 10 ∧ i = .int .i64 (I : Int) ∧ wr.heap[w4.heap.size]? = some (.cells #[.int .i64 (-1), .int .i64 0, .int .i64 50, .int .i64 99, .int .i64 130, .int .i64 400, .int .i64 500, .int .i64 4611686018427387904, .int .i64 9223372036854775807, .int .i64 (-9223372036854775808)] 2 (0, 0)) ∧ Below w4.heap.size w4 wr) (fun i _ => 10 - (intOf i).toNat)
          case atStart => exact ⟨0, by omega, rfl, blk_new _ _ _, (Below.refl _ _).alloc (Nat.le_refl _) _⟩
          case round =>
            obtain ⟨w5, rfl⟩ : ∃ y : World, y = wr := ⟨_, rfl⟩
            obtain ⟨I, hI, rfl, ht5, B5⟩ := hrel
            have HT5 := Lib.hid ht5
            have HB5 := Lib.hid B5
            clear B5
            by_cases hlI : I < 10
            · obtain ⟨zI, hzI⟩ : ∃ z : Int, w5.cell? ⟨w4.heap.size, I, none⟩ = some (.int .i64 z) := by
                rw [blk_cell ht5]
                rcases (show I = 0 ∨ I = 1 ∨ I = 2 ∨ I = 3 ∨ I = 4 ∨ I = 5 ∨ I = 6 ∨ I = 7 ∨ I = 8 ∨ I = 9 by omega) with rfl | rfl | rfl | rfl | rfl | rfl | rfl | rfl | rfl | rfl <;> exact ⟨_, rfl⟩
              clear ht5
              have hdI : decide ((I : Int) < 10) = true := decide_eq_true (by omega)
              go_wp2_with fail
              go_loopw [7, 32] (fun _ i wr => ∃ H : Nat, H ≤ 5 ∧ i = .int .i64 (H : Int) ∧ wr.heap[w5.heap.size]? = some (.cells #[.int .i64 (-1), .int .i64 0, .int .i64 1, .int .i64 20, .int .i64 4611686018427387904] 2 (0, 0)) ∧ Below w5.heap.size w5 wr) (fun _ i _ => 5 - (intOf i).toNat)
              case atStart => exact ⟨0, by omega, rfl, blk_new _ _ _, (Below.refl _ _).alloc (Nat.le_refl _) _⟩
              case round =>
                obtain ⟨w6, rfl⟩ : ∃ y : World, y = wr := ⟨_, rfl⟩
                obtain ⟨H, hH, rfl, ht6, B6⟩ := hrel
                have HT6 := Lib.hid ht6
                have HB6 := Lib.hid B6
                clear B6 hzI
                by_cases hlH : H < 5
                · obtain ⟨zH, hzH⟩ : ∃ z : Int, w6.cell? ⟨w5.heap.size, H, none⟩ = some (.int .i64 z) := by
                    rw [blk_cell ht6]
                    rcases (show H = 0 ∨ H = 1 ∨ H = 2 ∨ H = 3 ∨ H = 4 by omega) with rfl | rfl | rfl | rfl | rfl <;> exact ⟨_, rfl⟩
                  clear ht6
                  have hdH : decide ((H : Int) < 5) = true := decide_eq_true (by omega)
                  go_wp2_with fail
                  refine (law12same ea n ec_ es zI zH _ ((HEA.out.ext HB5.out).ext HB6.out) HN.out hl19 hec).mono ?_
                  rintro e w7 ⟨rfl, hb7⟩
                  have HT7 := Lib.hid (blk_ext hb7 HT6.out)
                  have HB7 := Lib.hid (ext_trans HB6.out hb7)
                  clear hb7 hzH
                  go_wp2
                  go_roundw
                  case rel => exact ⟨H + 1, by omega, by go_num, HT7.out, HB7.out⟩
                  case measure => simp [intOf]; omega
                · obtain rfl : H = 5 := by omega
                  have HT7 := Lib.hid (blk_ext HB6.out HT5.out)
                  have HB7 := Lib.hid (ext_trans HB5.out HB6.out)
                  clear ht6
                  go_wp2
                  go_roundw
                  case rel => exact ⟨I + 1, by omega, by go_num, HT7.out, HB7.out⟩
                  case measure => simp [intOf]; omega
            · obtain rfl : I = 10 := by omega
              have HB7 := Lib.hid (ext_trans HB4.out HB5.out)
              clear ht5
              go_wp2
              go_roundw
              case rel => exact ⟨k + 1, by omega, by go_num, HB7.out⟩
              case measure => simp [intOf]; omega
        · have hdk : decide ((k : Int) < 40) = false := decide_eq_false (by omega)
          have HC := Lib.hid (show EAt (w2.alloc (.cells #[.string ⟨#[]⟩, .string ⟨#[]⟩, .int .i64 0, .int .i64 0, .int .i64 0, .int .i64 0, .int .i64 0, .int .i64 0, .bool false, .int .i64 (-9223372036854775808), .string ⟨#[]⟩, .string ⟨#[]⟩, .int .i64 0, .int .i64 0, .int .i64 0, .int .i64 0, .int .i64 0, .int .i64 0, .bool true, .int .i64 9223372036854775807] 36)) (some ⟨w2.heap.size, 0, none⟩) [eLo, eHi] from eat_lit w2 [eLo, eHi])
          have HB3 := Lib.hid (HB2.out.alloc HB2.out.size (.cells #[.string ⟨#[]⟩, .string ⟨#[]⟩, .int .i64 0, .int .i64 0, .int .i64 0, .int .i64 0, .int .i64 0, .int .i64 0, .bool false, .int .i64 (-9223372036854775808), .string ⟨#[]⟩, .string ⟨#[]⟩, .int .i64 0, .int .i64 0, .int .i64 0, .int .i64 0, .int .i64 0, .int .i64 0, .bool true, .int .i64 9223372036854775807] 36))
          go_wp2_with fail
          refine (sweepMostI 4611686018427387904 _).mono ?_
          rintro e w3 ⟨rfl, rfl⟩
          go_wp2_with fail
          refine (refPartI 4611686018427387904 _).mono ?_
          rintro e w3 ⟨rfl, rfl⟩
          obtain ⟨X, hX⟩ : ∃ X, mostI 4611686018427387904 = X := ⟨_, rfl⟩
          rw [hX]
          clear hX
          go_wp2_with fail
          refine (law12same (some ⟨w2.heap.size, 0, none⟩) 2 2 [eLo, eHi] 9223372036854775807 0 _ HC.out rfl (by omega) (by omega)).mono ?_
          rintro e w3 ⟨rfl, hb3⟩
          have HB4 := Lib.hid (ext_trans HB3.out hb3)
          clear hb3
          go_wp2_with fail
          refine (law12known _).mono ?_
          rintro e w5 ⟨rfl, hb5⟩
          have HB5 := Lib.hid (ext_trans HB4.out hb5)
          clear hb5
          go_wp2
          go_ret
          exact ⟨rfl, HB5.out⟩

end Go.Proofs.Ytohiimfojlcomaa
