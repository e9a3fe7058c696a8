/- FeedNumbers: the walk. -/
import Derived.Test.YtgnmlkomgokimaaFeedV
import Derived.Test.YtgnmlkomgokimaaFeedK
import Derived.IntWalk
import Derived.WalkArith
namespace Go.Proofs.Ytgnmlkomgokimaa
open Go.RowKit
set_option linter.unusedVariables false
set_option linter.unusedSimpArgs false

theorem info_int : (Try.prog.info? 3).map (fun i => (i.zero, i.size, i.bytes)) = some (some (.int .i64 0), 1, 8) := by kernel_rfl
theorem mul_lo {a b : Nat} : (0 : Int) ≤ (a : Int) * b := Int.mul_nonneg (by omega) (by omega)
theorem mul_hi {a b x y : Nat} (ha : a ≤ x) (hb : b ≤ y) : (a : Int) * b ≤ (x : Int) * y := by exact_mod_cast Nat.mul_le_mul ha hb
theorem isRow_none (w : World) : IsRow .i64 w none 0 0 [] := ⟨Nat.le_refl _, by simp [maxLen], rfl, by simp, .inl rfl⟩
set_option maxRecDepth 100000 in
set_option maxHeartbeats 4000000 in
theorem feedNumbers_walk (w : World) :
    Calls Try.prog 3 #[] w fun r w' => r = .returned (.bool true) ∧ Below w.heap.size w w' := by
  obtain ⟨i0, hi, hz0, hz1, hz2⟩ := info_parts info_int
  go_enter Try.func3, Try.ntmps3
  go_wp2_with fail
  go_loopw [1] (fun i wr => ∃ k : Nat, k ≤ 40 ∧ i = .int .i64 k ∧ Below w.heap.size w wr) (fun i _ => 40 - (intOf i).toNat)
  case atStart => exact ⟨0, by omega, rfl, Below.refl _ _⟩
  case round =>
    obtain ⟨w1, rfl⟩ : ∃ y : World, y = wr := ⟨_, rfl⟩
    obtain ⟨k, hk, rfl, B1⟩ := hrel
    by_cases hlk : k < 40
    · have hdk : decide ((k : Int) < 40) = true := by simp; omega
      have Z1 := B1.size
      go_wp2_with fail
      go_loopw [2, 3] (fun v i wr => ∃ (j : Nat) (xs : List Int), j ≤ 250 ∧ i = .int .i64 j ∧ xs.length = j ∧ (∀ x ∈ xs, (Lit.int .i64 x).wf = true) ∧ wr.ownsRow w1.heap.size 3 1 v j (xs.map (Value.int .i64)) ∧ Below w1.heap.size w1 wr) (fun _ i _ => 250 - (intOf i).toNat)
      case atStart => exact ⟨0, [], by omega, rfl, rfl, by simp, World.ownsRow_nil _ _ _ _, Below.refl _ _⟩
      case round =>
        obtain ⟨w2, rfl⟩ : ∃ y : World, y = wr := ⟨_, rfl⟩
        obtain ⟨j, xs, hj, rfl, hxl, hxw, hown, B2⟩ := hrel
        have HX := Lib.hid hxl
        have HW := Lib.hid hxw
        have HO := Lib.hid hown
        have Z2 := B2.size
        clear hxl hxw hown
        by_cases hlj : j < 250
        · have hdj : decide ((j : Int) < 250) = true := by simp; omega
          have m1 := mul_lo (a := j) (b := j)
          have m2 : (j : Int) * j ≤ 62500 := by have := mul_hi (a := j) (b := j) (x := 250) (y := 250) (by omega) (by omega); omega
          have m3 := mul_lo (a := j) (b := k)
          have m4 : (j : Int) * k ≤ 10000 := by have := mul_hi (a := j) (b := k) (x := 250) (y := 40) (by omega) (by omega); omega
          have hv0 : 0 ≤ (((j : Int) * j * 7 + k * 43 + j * k) % 211) := Int.emod_nonneg _ (by omega)
          have hv1 : (((j : Int) * j * 7 + k * 43 + j * k) % 211) < 211 := Int.emod_lt_of_pos _ (by omega)
          have hvw : (Lit.int .i64 (((j : Int) * j * 7 + k * 43 + j * k) % 211)).wf = true := WalkArith.wf_i64 (by omega)
          have HV := Lib.hid hvw
          clear hv0 hv1 hvw
          go_wp2_with (first | (at_builtin; refine wpList_append_own _ rfl _ _ 22 rfl (w1.heap.size) 3 i0 (.int .i64 0) 1 8 Try.underlying22 hi hz0 hz1 hz2 rfl (by decide) _ _ _ rfl (HO.out.alloc _) ⟨w2.heap.size, 0, none⟩ 1 1 [.int .i64 (((j : Int) * j * 7 + k * 43 + j * k) % 211)] rfl rfl ?c1 ?c2 ?c3 ?c4 ?c5 ?_))
          case c1 =>
            intro j' u hj'
            match j', hj' with
            | 0, hj' => simp at hj'; subst hj'; simp [Addr.add, go_sem]
          case c2 => intro u hu; simp at hu; subst hu; rfl
          case c3 => unfold maxLen; omega
          case c4 => omega
          case c5 => simp; omega
          intro v' w3 hown' hgrow _
          have B3 := (B2.alloc B2.size _).grown hgrow (by simp; omega) (fun q hq => own_ge HO.out hq)
          have O3 := Lib.hid hown'
          clear hown' hgrow
          go_wp2
          go_roundw
          case rel => exact ⟨j + 1, xs ++ [(((j : Int) * j * 7 + k * 43 + j * k) % 211)], by omega, by go_num, by simp [HX.out], by intro y hy; rcases List.mem_append.1 hy with h | h; (· exact HW.out y h); (· simp at h; subst h; exact HV.out), by simpa using O3.out, B3⟩
          case measure => simp [intOf]; omega
        · have hdj : decide ((j : Int) < 250) = false := by simp; omega
          obtain ⟨at_, ct, rfl, hrow⟩ := isRow_of_owns HO.out HX.out HW.out
          have HR := Lib.hid hrow
          have D2 := Lib.hid (ext_trans B1 B2)
          clear hrow B1 B2 HO
          go_wp2_with fail
          go_loopw [4] (fun i wr => ∃ n : Int, -2 ≤ n ∧ n ≤ 34 ∧ i = .int .i64 n ∧ Below w2.heap.size w2 wr) (fun i _ => (34 - intOf i).toNat)
          case atStart => exact ⟨-2, by omega, by omega, rfl, Below.refl _ _⟩
          case round =>
            obtain ⟨w3, rfl⟩ : ∃ y : World, y = wr := ⟨_, rfl⟩
            obtain ⟨n, hn1, hn2, rfl, hb3⟩ := hrel
            have B3 := Lib.hid hb3
            clear hb3
            by_cases hln : n < 34
            · have hdn : decide (n < 34) = true := decide_eq_true hln
              go_wp2_with fail
              refine (law15same at_ j ct xs n _ (HR.out.ext B3.out) (by omega)).mono ?_
              rintro e w5 ⟨rfl, hb⟩
              have HD5 := Lib.hid (ext_trans B3.out hb)
              clear hb
              go_wp2
              go_roundw
              case rel => exact ⟨n + 1, by omega, by omega, by go_num, HD5.out⟩
              case measure => simp [intOf]; omega
            · have hdn : decide (n < 34) = false := decide_eq_false hln
              have HD5 := Lib.hid (ext_trans D2.out B3.out)
              go_wp2
              go_roundw
              case rel => exact ⟨k + 1, by omega, by go_num, HD5.out⟩
              case measure => simp [intOf]; omega
    · have hdk : decide ((k : Int) < 40) = false := by simp; omega
      go_wp2_with fail
      refine (law15same none 0 0 [] 0 _ (isRow_none _) (by omega)).mono ?_
      rintro e w5 ⟨rfl, hb⟩
      have HD5 := Lib.hid (ext_trans B1 hb)
      clear hb
      go_wp2_with fail
      refine (law15known _).mono ?_
      rintro e w6 ⟨rfl, hb⟩
      have HD6 := Lib.hid (ext_trans HD5.out hb)
      clear hb
      go_wp2
      go_ret
      exact ⟨rfl, HD6.out⟩

end Go.Proofs.Ytgnmlkomgokimaa
