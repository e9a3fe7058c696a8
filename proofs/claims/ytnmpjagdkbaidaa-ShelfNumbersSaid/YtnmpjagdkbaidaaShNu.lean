/- 'ShelfNumbers': the walk. -/
import Derived.Test.YtnmpjagdkbaidaaPlay10
import Derived.Test.YtnmpjagdkbaidaaAsks
import Derived.Test.YtnmpjagdkbaidaaShfK
import Derived.Test.YtnmpjagdkbaidaaInts
import Derived.IntWalk
import Derived.WalkArith
namespace Go.Proofs.Ytnmpjagdkbaidaa
open Go.RowKit
set_option linter.unusedVariables false
set_option linter.unusedSimpArgs false

theorem info_int : (Try.prog.info? 3).map (fun i => (i.zero, i.size, i.bytes)) = some (some (.int .i64 0), 1, 8) := by kernel_rfl
theorem cut_is (m : Int) : ∃ M : Nat, (M : Int) = min (max m 0) 32 := ⟨(min (max m 0) 32).toNat, by omega⟩
theorem mul_lo {a b : Nat} : (0 : Int) ≤ (a : Int) * b := Int.mul_nonneg (by omega) (by omega)
theorem mul_hi {a b x y : Nat} (ha : a ≤ x) (hb : b ≤ y) : (a : Int) * b ≤ (x : Int) * y := by exact_mod_cast Nat.mul_le_mul ha hb

set_option maxRecDepth 100000 in
set_option maxHeartbeats 4000000 in
theorem shelfNumbers_walk (w : World) :
    Calls Try.prog 3 #[] w fun r w' => r = .returned (.bool true) ∧ Below w.heap.size w w' := by
  obtain ⟨i0, hi, hz0, hz1, hz2⟩ := info_parts info_int
  obtain ⟨j0, gi, gz0, gz1, gz2⟩ := info_parts' info_ak
  go_enter Try.func3, Try.ntmps3
  go_wp2_with fail
  go_loopw [1] (fun i wr => ∃ k : Nat, k ≤ 30 ∧ i = .int .i64 k ∧ Below w.heap.size w wr) (fun i _ => 30 - (intOf i).toNat)
  case atStart => exact ⟨0, by omega, rfl, Below.refl _ _⟩
  case round =>
    obtain ⟨w1, rfl⟩ : ∃ y : World, y = wr := ⟨_, rfl⟩
    obtain ⟨k, hk, rfl, B1⟩ := hrel
    by_cases hlk : k < 30
    · have hdk : decide ((k : Int) < 30) = true := by simp; omega
      have Z1 := B1.size
      go_wp2_with fail
      go_loopw [2, 3] (fun v i wr => ∃ (j : Nat) (xs : List Int), j ≤ 300 ∧ i = .int .i64 j ∧ xs.length = j ∧ (∀ x ∈ xs, (Lit.int .i64 x).wf = true) ∧ wr.ownsRow w1.heap.size 3 1 v j (xs.map (Value.int .i64)) ∧ Below w1.heap.size w1 wr) (fun _ i _ => 300 - (intOf i).toNat)
      case atStart => exact ⟨0, [], by omega, rfl, rfl, by simp, World.ownsRow_nil _ _ _ _, Below.refl _ _⟩
      case round =>
        obtain ⟨w2, rfl⟩ : ∃ y : World, y = wr := ⟨_, rfl⟩
        obtain ⟨j, xs, hj, rfl, hxl, hxw, hown, B2⟩ := hrel
        have HX := Lib.hid hxl
        have HW := Lib.hid hxw
        have HO := Lib.hid hown
        have Z2 := B2.size
        clear hxl hxw hown
        by_cases hlj : j < 300
        · have hdj : decide ((j : Int) < 300) = true := by simp; omega
          have m1 := mul_lo (a := j) (b := j)
          have m2 : (j : Int) * j ≤ 90000 := by have := mul_hi (a := j) (b := j) (x := 300) (y := 300) (by omega) (by omega); omega
          have m3 := mul_lo (a := j) (b := k)
          have m4 : (j : Int) * k ≤ 9000 := by have := mul_hi (a := j) (b := k) (x := 300) (y := 30) (by omega) (by omega); omega
          have hv0 : 0 ≤ (((j : Int) * j * 7 + k * 29 + j * k) % 211) := Int.emod_nonneg _ (by omega)
          have hv1 : (((j : Int) * j * 7 + k * 29 + j * k) % 211) < 211 := Int.emod_lt_of_pos _ (by omega)
          have hvw : (Lit.int .i64 (((j : Int) * j * 7 + k * 29 + j * k) % 211)).wf = true := WalkArith.wf_i64 (by omega)
          have HV := Lib.hid hvw
          clear hv0 hv1 hvw
          go_wp2_with (first | (at_builtin; refine wpList_append_own _ rfl _ _ 22 rfl (w1.heap.size) 3 i0 (.int .i64 0) 1 8 Try.underlying22 hi hz0 hz1 hz2 rfl (by decide) _ _ _ rfl (HO.out.alloc _) ⟨w2.heap.size, 0, none⟩ 1 1 [.int .i64 (((j : Int) * j * 7 + k * 29 + j * k) % 211)] rfl rfl ?c1 ?c2 ?c3 ?c4 ?c5 ?_))
          case c1 =>
            intro j' u hj'
            match j', hj' with
            | 0, hj' => simp at hj'; subst hj'; simp [Addr.add, go_sem]
          case c2 => intro u hu; simp at hu; subst hu; rfl
          case c3 => unfold maxLen; omega
          case c4 => omega
          case c5 => simp; omega
          intro v' w3 hown' hgrow _
          have B3 := (B2.alloc B2.size _).grown hgrow (by simp; omega) (fun q hq => own_ge HO.out hq)
          have O3 := Lib.hid hown'
          clear hown' hgrow
          go_wp2
          go_roundw
          case rel => exact ⟨j + 1, xs ++ [(((j : Int) * j * 7 + k * 29 + j * k) % 211)], by omega, by go_num, by simp [HX.out], by intro y hy; rcases List.mem_append.1 hy with h | h; (· exact HW.out y h); (· simp at h; subst h; exact HV.out), by simpa using O3.out, B3⟩
          case measure => simp [intOf]; omega
        · have hdj : decide ((j : Int) < 300) = false := by simp; omega
          obtain ⟨at_, ct, rfl, hrow⟩ := isRow_of_owns HO.out HX.out HW.out
          have HR := Lib.hid hrow
          have D2 := Lib.hid (ext_trans B1 B2)
          clear hrow B2
          obtain ⟨M, hM⟩ := cut_is ((k : Int) - 2)
          have HM := Lib.hid hM
          clear hM
          go_wp2_with fail
          refine (law10asks at_ j ct xs 60 _ HR.out (by omega) (by omega)).mono ?_
          rintro r w4 ⟨v, ls, rfl, ho, hll, hb⟩
          obtain ⟨a, c, rfl, hc, hm, hk'⟩ := OwnR.akr ho
          have HK := Lib.hid hk'
          have D4 := Lib.hid (D2.out.trans (hb.mono D2.out.size))
          clear ho hll hb hk'
          go_wp2_with fail
          refine (law10play ((k : Int) - 2) M a ls.length c ls _ HM.out HK.out rfl hc hm).mono ?_
          rintro e w5 ⟨rfl, hb⟩
          have HD5 := Lib.hid (D4.out.trans (hb.mono D4.out.size))
          clear hb
          go_wp2
          go_roundw
          case rel => exact ⟨k + 1, by omega, by go_num, HD5.out⟩
          case measure => simp [intOf]; omega
    · have hdk : decide ((k : Int) < 30) = false := by simp; omega
      obtain ⟨B, hB⟩ : ∃ B, w1.heap.size = B := ⟨_, rfl⟩
      have DA := Lib.hid (show Below w.heap.size w (w1.alloc (.cells #[.int .i64 (-9223372036854775808), .int .i64 (-1), .int .i64 0, .int .i64 1, .int .i64 32, .int .i64 33, .int .i64 4611686018427387904] 3)) from B1.alloc B1.size _)
      have HBK := Lib.hid (show (w1.alloc (.cells #[.int .i64 (-9223372036854775808), .int .i64 (-1), .int .i64 0, .int .i64 1, .int .i64 32, .int .i64 33, .int .i64 4611686018427387904] 3)).heap[B]? = some (.cells #[.int .i64 (-9223372036854775808), .int .i64 (-1), .int .i64 0, .int .i64 1, .int .i64 32, .int .i64 33, .int .i64 4611686018427387904] 3 (0, 0)) from by rw [← hB]; exact blk_new _ _ _)
      clear B1
      go_upto_region 12 with (fail)
      generalize (w1.alloc (.cells #[.int .i64 (-9223372036854775808), .int .i64 (-1), .int .i64 0, .int .i64 1, .int .i64 32, .int .i64 33, .int .i64 4611686018427387904] 3)) = wA at *
      clear hB
      go_wp2_with fail
      go_loopw [39] (fun i wr => ∃ I : Nat, I ≤ 7 ∧ i = .int .i64 (I : Int) ∧ Below wA.heap.size wA wr) (fun i _ => 7 - (intOf i).toNat)
      case atStart => exact ⟨0, by omega, rfl, Below.refl _ _⟩
      case round =>
        obtain ⟨w2, rfl⟩ : ∃ y : World, y = wr := ⟨_, rfl⟩
        obtain ⟨I, hI, rfl, hb2⟩ := hrel
        have HB2 := Lib.hid hb2
        by_cases hlI : I < 7
        · have hdI : decide ((I : Int) < 7) = true := by simp; omega
          obtain ⟨m, hm⟩ : ∃ m : Int, w2.cell? ⟨B, I, none⟩ = some (.int .i64 m) := by
            rw [blk_cell (blk_ext hb2 HBK.out) I]
            have hh : I = 0 ∨ I = 1 ∨ I = 2 ∨ I = 3 ∨ I = 4 ∨ I = 5 ∨ I = 6 := by omega
            rcases hh with rfl | rfl | rfl | rfl | rfl | rfl | rfl <;> exact ⟨_, rfl⟩
          obtain ⟨M, hM⟩ := cut_is m
          have HM := Lib.hid hM
          clear hb2 hM
          go_wp2_with fail
          go_loopw [6, 7] (fun v i wr => ∃ (j : Nat) (ls : List Ak), j ≤ 35 ∧ i = .int .i64 j ∧ ls.length = j ∧ OwnA w2.heap.size wr v ls ∧ Below w2.heap.size w2 wr) (fun _ i _ => 35 - (intOf i).toNat)
          case atStart => exact ⟨0, [], by omega, rfl, rfl, OwnR.nil _ _, Below.refl _ _⟩
          case round =>
            obtain ⟨w3, rfl⟩ : ∃ y : World, y = wr := ⟨_, rfl⟩
            obtain ⟨j, ls, hj, rfl, hll, ho, hb3⟩ := hrel
            have HLL := Lib.hid hll
            have HB3 := Lib.hid hb3
            have Z3 := hb3.size
            obtain ⟨a, c, rfl, hc, hcm, hk3⟩ := OwnR.akr ho
            have HK3 := Lib.hid hk3
            have HO3 := Lib.hid (show OwnA w2.heap.size w3 (.slice a j c) ls from by rw [← hll]; exact ho)
            rw [hll] at hc ⊢
            unfold maxLen at hcm
            clear hll ho hb3 hk3 hm
            by_cases hlj : j < 35
            · have hdj : decide ((j : Int) < 35) = true := by simp; omega
              have q0 : 0 ≤ (j : Int) * 7 % 40 := Int.emod_nonneg _ (by omega)
              have q1 : (j : Int) * 7 % 40 < 40 := Int.emod_lt_of_pos _ (by omega)
              obtain ⟨S, hS⟩ : ∃ S, Utf8.encode (97 + (j : Int) * 7 % 40) = S := ⟨_, rfl⟩
              have DB := Lib.hid (show Below w3.heap.size w3 (w3.alloc (.cells #[.int .i64 0, .string ⟨#[97]⟩, .string S, .int .i64 0, .int .i64 0, .int .i64 0, .int .i64 0, .int .i64 0, .int .i64 0, .bool false, .int .i64 0] 33)) from (Below.refl _ _).alloc (Nat.le_refl _) _)
              go_wp2_with (at_builtin; refine wpList_append_own _ rfl _ _ 24 rfl (w2.heap.size) 33 j0 _ 11 104 Try.underlying24 gi gz0 gz1 gz2 rfl (by decide) _ j (flat ea ls) rfl (by have := OwnR.ext HO3.out DB.out; unfold OwnR at this; rw [HLL.out] at this; exact this) ⟨w3.heap.size, 0, none⟩ 1 1 (ea (⟨0, ⟨⟨#[97]⟩, S, 0, 0, 0, 0, 0, 0, false⟩, 0⟩ : Ak)) rfl rfl ?c1 ?c2 ?c3 ?c4 ?c5 ?_)
              case c1 =>
                intro t u ht
                rw [add_off, Nat.zero_add, blk_cell (blk_new w3 #[.int .i64 0, .string ⟨#[97]⟩, .string S, .int .i64 0, .int .i64 0, .int .i64 0, .int .i64 0, .int .i64 0, .int .i64 0, .bool false, .int .i64 0] 33)]
                simpa [ea] using ht
              case c2 => exact ea_one _
              case c3 => unfold maxLen; omega
              case c4 => omega
              case c5 => simp; omega
              intro v4 w5 ho5 hg5 _
              have HO5 := Lib.hid (show OwnA w2.heap.size w5 v4 (ls ++ [(⟨0, ⟨⟨#[97]⟩, S, 0, 0, 0, 0, 0, 0, false⟩, 0⟩ : Ak)]) by unfold OwnA OwnR; rw [flat_snoc, List.length_append, HLL.out]; exact ho5)
              have B5 := Lib.hid ((HB3.out.trans (DB.out.mono Z3)).grown hg5 (by simp; omega) (fun q hq => own_ge HO3.out hq))
              obtain ⟨a5, c5, rfl, -, -, -⟩ := OwnR.form HO5.out
              clear ho5 hg5 HO3 HB3 DB q0 q1 hS
              go_wp2
              go_roundw
              case rel => exact ⟨j + 1, ls ++ [(⟨0, ⟨⟨#[97]⟩, S, 0, 0, 0, 0, 0, 0, false⟩, 0⟩ : Ak)], by omega, by go_num, by rw [List.length_append, HLL.out]; rfl, HO5.out, B5.out⟩
              case measure => simp [intOf]; omega
            · have hdj : decide ((j : Int) < 35) = false := by simp; omega
              go_wp2_with fail
              refine (law10play m M a j c ls _ HM.out HK3.out HLL.out hc (by unfold maxLen; omega)).mono ?_
              rintro e w5 ⟨rfl, hb⟩
              have HD5 := Lib.hid (HB2.out.trans ((HB3.out.trans (hb.mono HB3.out.size)).mono HB2.out.size))
              clear hb
              go_wp2
              go_roundw
              case rel => exact ⟨I + 1, by omega, by go_num, HD5.out⟩
              case measure => simp [intOf]; omega
        · have hdI : decide ((I : Int) < 7) = false := by simp; omega
          have D3 := Lib.hid (DA.out.trans (hb2.mono DA.out.size))
          clear hb2
          go_wp2_with fail
          refine (law10known _).mono ?_
          rintro e w5 ⟨rfl, hb⟩
          have HD5 := Lib.hid (D3.out.trans (hb.mono D3.out.size))
          clear hb
          go_wp2
          go_ret
          exact ⟨rfl, HD5.out⟩

end Go.Proofs.Ytnmpjagdkbaidaa
