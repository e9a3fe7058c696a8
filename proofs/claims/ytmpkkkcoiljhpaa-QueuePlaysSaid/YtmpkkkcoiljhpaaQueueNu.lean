/- 'QueueNumbers': the walk. -/
import Derived.Test.YtmpkkkcoiljhpaaQueueP
namespace Go.Proofs.Ytmpkkkcoiljhpaa
open Go.RowKit
set_option linter.unusedVariables false

theorem mul_lo {a b : Nat} : (0 : Int) ≤ (a : Int) * b := Int.mul_nonneg (by omega) (by omega)
theorem mul_hi {a b x y : Nat} (ha : a ≤ x) (hb : b ≤ y) : (a : Int) * b ≤ (x : Int) * y := by exact_mod_cast Nat.mul_le_mul ha hb
theorem nat_new (w : World) (xs : List Int) : NAt (w.alloc (.cells (xs.map (Value.int .i64)).toArray 3)) (some ⟨w.heap.size, 0, none⟩) xs := by
  refine .inr ⟨_, _, rfl, fun i n hi => ?_⟩
  rw [Nat.zero_add, blk_cell (blk_new w (xs.map (Value.int .i64)).toArray 3)]
  simp [hi]
theorem NAt.take {w : World} {a : Option Addr} {xs : List Int} (k : Nat) (h : NAt w a xs) : NAt w a (xs.take k) := by
  rcases h with h | ⟨b, o, e, h⟩
  · left; simp [h]
  · refine .inr ⟨b, o, e, fun i n hi => h i n ?_⟩
    rcases Nat.lt_or_ge i k with h' | h'
    · rwa [List.getElem?_take_of_lt h'] at hi
    · rw [List.getElem?_eq_none (by simp; omega)] at hi; cases hi
theorem nat_row {w : World} {a : Option Addr} {len cap : Nat} {zs : List Int} (h : IsRow .i64 w a len cap zs) : NAt w a zs := by
  obtain ⟨h1, h2, h3, h4, h5⟩ := h
  rcases h5 with h5 | ⟨b, o, e, h5⟩
  · left; exact List.eq_nil_of_length_eq_zero (by omega)
  · refine .inr ⟨b, o, e, fun i n hi => ?_⟩
    have hlt : i < zs.length := by
      rcases Nat.lt_or_ge i zs.length with h' | h'
      · exact h'
      · rw [List.getElem?_eq_none h'] at hi; cases hi
    rw [h5 i (by omega)]
    simp [List.getD, hi]

set_option maxRecDepth 100000 in
set_option maxHeartbeats 2000000 in
theorem queueNumbers_walk (w : World) :
    Calls Try.prog 3 #[] w fun e w' => e = .returned (.bool true) ∧ Below w.heap.size w w' := by
  obtain ⟨i0, hi, hz0, hz1, hz2⟩ := info_parts info_int
  go_enter Try.func3, Try.ntmps3
  go_wp2_with fail
  go_loopw [1] (fun i wr => ∃ k : Nat, k ≤ 30 ∧ i = .int .i64 k ∧ Below w.heap.size w wr) (fun i _ => 30 - (intOf i).toNat)
  case atStart => exact ⟨0, by omega, rfl, Below.refl _ _⟩
  case round =>
    obtain ⟨w1, rfl⟩ : ∃ y : World, y = wr := ⟨_, rfl⟩
    obtain ⟨k, hk, rfl, B1⟩ := hrel
    by_cases hlk : k < 30
    · have hdk : decide ((k : Int) < 30) = true := by simp; omega
      have Z1 := B1.size
      go_wp2_with fail
      go_loopw [2, 3] (fun v i wr => ∃ (j : Nat) (xs : List Int), j ≤ 900 ∧ i = .int .i64 j ∧ xs.length = j ∧ (∀ x ∈ xs, (Lit.int .i64 x).wf = true) ∧ wr.ownsRow w1.heap.size 3 1 v j (xs.map (Value.int .i64)) ∧ Below w1.heap.size w1 wr) (fun _ i _ => 900 - (intOf i).toNat)
      case atStart => exact ⟨0, [], by omega, rfl, rfl, by simp, World.ownsRow_nil _ _ _ _, Below.refl _ _⟩
      case round =>
        obtain ⟨w2, rfl⟩ : ∃ y : World, y = wr := ⟨_, rfl⟩
        obtain ⟨j, xs, hj, rfl, hxl, hxw, hown, B2⟩ := hrel
        have HX := Lib.hid hxl
        have HW := Lib.hid hxw
        have HO := Lib.hid hown
        have Z2 := B2.size
        clear hxl hxw hown
        by_cases hlj : j < 900
        · have hdj : decide ((j : Int) < 900) = true := by simp; omega
          have m1 := mul_lo (a := j) (b := j)
          have m2 : (j : Int) * j ≤ 810000 := by have := mul_hi (a := j) (b := j) (x := 900) (y := 900) (by omega) (by omega); omega
          have m3 := mul_lo (a := j) (b := k)
          have m4 : (j : Int) * k ≤ 27000 := by have := mul_hi (a := j) (b := k) (x := 900) (y := 30) (by omega) (by omega); omega
          have hv0 : 0 ≤ (((j : Int) * j * 7 + k * 53 + j * k) % 211) := Int.emod_nonneg _ (by omega)
          have hv1 : (((j : Int) * j * 7 + k * 53 + j * k) % 211) < 211 := Int.emod_lt_of_pos _ (by omega)
          have hvw : (Lit.int .i64 (((j : Int) * j * 7 + k * 53 + j * k) % 211)).wf = true := WalkArith.wf_i64 (by omega)
          have HV := Lib.hid hvw
          clear hv0 hv1 hvw
          go_wp2_with (first | (at_builtin; refine wpList_append_own _ rfl _ _ 22 rfl (w1.heap.size) 3 i0 (.int .i64 0) 1 8 Try.underlying22 hi hz0 hz1 hz2 rfl (by decide) _ _ _ rfl (HO.out.alloc _) ⟨w2.heap.size, 0, none⟩ 1 1 [.int .i64 (((j : Int) * j * 7 + k * 53 + j * k) % 211)] rfl rfl ?c1 ?c2 ?c3 ?c4 ?c5 ?_))
          case c1 =>
            intro j' u hj'
            match j', hj' with
            | 0, hj' => simp at hj'; subst hj'; simp [Addr.add, go_sem]
          case c2 => intro u hu; simp at hu; subst hu; rfl
          case c3 => unfold maxLen; omega
          case c4 => omega
          case c5 => simp; omega
          intro v' w3 hown' hgrow _
          have B3 := (B2.alloc B2.size _).grown hgrow (by simp; omega) (fun q hq => own_ge HO.out hq)
          have O3 := Lib.hid hown'
          clear hown' hgrow
          go_wp2
          go_roundw
          case rel => exact ⟨j + 1, xs ++ [(((j : Int) * j * 7 + k * 53 + j * k) % 211)], by omega, by go_num, by simp [HX.out], by intro y hy; rcases List.mem_append.1 hy with h | h; (· exact HW.out y h); (· simp at h; subst h; exact HV.out), by simpa using O3.out, B3⟩
          case measure => simp [intOf]; omega
        · have hdj : decide ((j : Int) < 900) = false := by simp; omega
          obtain ⟨at_, ct, rfl, hrow⟩ := isRow_of_owns HO.out HX.out HW.out
          have HR := Lib.hid hrow
          have D2 := ext_trans B1 B2
          clear hrow
          obtain ⟨q, hq, hq9⟩ : ∃ q : Nat, (k : Int) % 10 = (q : Int) ∧ q ≤ 9 := ⟨k % 10, by omega, by omega⟩
          have HNA := Lib.hid ((nat_new w2 [0, 1, 2, 1, 3, 4, 5, 6, 7]).take q)
          have DA : Below w2.heap.size w2 (w2.alloc (.cells #[.int .i64 0, .int .i64 1, .int .i64 2, .int .i64 1, .int .i64 3, .int .i64 4, .int .i64 5, .int .i64 6, .int .i64 7] 3)) := (Below.refl _ _).alloc (Nat.le_refl _) _
          have HR2 := Lib.hid (HR.out.ext DA)
          have HD2 := Lib.hid (ext_trans D2 DA)
          clear DA D2
          go_wp2_with fail
          refine (law17play q 9 _ ([0, 1, 2, 1, 3, 4, 5, 6, 7].take q) at_ j ct xs 0 0 none [] _ HNA.out (by rw [List.length_take]; simp; omega) hq9 (by unfold maxLen; omega) HR2.out (.inl rfl) rfl (Nat.le_refl _) (Nat.zero_le _)).mono ?_
          rintro e w5 ⟨rfl, hb⟩
          have HD5 := Lib.hid (ext_trans HD2.out hb)
          clear hb
          go_wp2
          go_roundw
          case rel => exact ⟨k + 1, by omega, by go_num, HD5.out⟩
          case measure => simp [intOf]; omega
    · have hdk : decide ((k : Int) < 30) = false := by simp; omega
      go_wp2_with fail
      refine (law17known _).mono ?_
      rintro e w5 ⟨rfl, hb⟩
      have HD5 := Lib.hid (ext_trans B1 hb)
      clear hb
      go_wp2
      go_ret
      exact ⟨rfl, HD5.out⟩

end Go.Proofs.Ytmpkkkcoiljhpaa
