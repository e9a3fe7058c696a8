/- Layer 2's laws, walked: PackNumbers. -/
import Derived.Test.YtcafmjcjhncpjaaPackT
namespace Go.Proofs.Ytcafmjcjhncpjaa
open Go.RowKit
set_option linter.unusedVariables false

set_option maxRecDepth 100000 in
set_option maxHeartbeats 2000000 in
theorem packNumbers_walk (w : World) : Calls Try.prog 3 #[] w fun e w' => e = .returned (.bool true) ∧ Below w.heap.size w w' := by
  go_enter Try.func3, Try.ntmps3
  go_wp2_with fail
  go_loopw [1, 2] (fun v i wr => ∃ (p : Nat) (s : ByteArray), p ≤ 260 ∧ i = .int .i64 (p : Int) ∧ v = .string s ∧ s.size = p ∧ Below w.heap.size w wr) (fun _ i _ => 260 - (intOf i).toNat)
  case atStart => exact ⟨0, ⟨#[]⟩, by omega, rfl, rfl, rfl, Below.refl _ _⟩
  case round =>
    obtain ⟨w1, rfl⟩ : ∃ y : World, y = wr := ⟨_, rfl⟩
    obtain ⟨p, s, hp, rfl, rfl, hs, B1⟩ := hrel
    have HS := Lib.hid hs
    have hs1 : s.size ≤ 260 := by omega
    clear hs
    by_cases hlt : p < 260
    · by_cases h5 : p < 5
      · go_wp2_with fail
        refine (law2puts (some ⟨w1.heap.size, 0, none⟩) 1 1 ((p : Int) - 2) p s [9] _ (bat_lit w1 [9]) rfl (by omega) (by unfold maxLen; omega)).mono ?_
        rintro e w2 ⟨rfl, hb⟩
        have B2 := ext_trans (B1.alloc B1.size (.cells #[.int .u8 9] 5)) hb
        clear hb
        go_wp2_with fail
        refine (packText none 0 0 s [] _ (.inl rfl) rfl (by omega) (by unfold maxLen; omega)).mono ?_
        rintro e w3 ⟨v3, rfl, ho, hb⟩
        have B3 := ext_trans B2 hb
        obtain ⟨a3, c3, rfl, -, -, -, hr, -, -⟩ := own_read ho
        have HR := Lib.hid hr
        clear ho hb hr
        have D4 := B3.alloc B3.size (.cells #[.int .i64 2, .int .i64 1] 3)
        have HR4 := Lib.hid (HR.out.ext ((Below.refl _ _).alloc (Nat.le_refl _) (.cells #[.int .i64 2, .int .i64 1] 3)))
        have HK4 : IsRow .i64 (w3.alloc (.cells #[.int .i64 2, .int .i64 1] 3)) (some ⟨w3.heap.size, 0, none⟩) 2 2 [2, 1] := row_new (k := .i64) w3 [2, 1] 3 (by unfold maxLen; simp) (by intro x hx; simp at hx; rcases hx with rfl | rfl <;> decide)
        have HK4 := Lib.hid HK4
        have hly : ([] ++ txt s).length ≤ 256 := by simp only [List.nil_append, txt_len, cut255_len]; omega
        obtain ⟨y, hy⟩ : ∃ y, y = [] ++ txt s := ⟨_, rfl⟩
        have HW := Lib.hid (show Wb y by rw [hy]; exact Wb.nil.app (txt_wb s))
        rw [← hy] at HR4 hly ⊢
        clear hy HR
        go_wp2_with fail
        refine (law2play a3 _ c3 y (some ⟨w3.heap.size, 0, none⟩) 2 2 [2, 1] _ HR4.out rfl (by omega) HW.out HK4.out).mono ?_
        rintro e w5 ⟨rfl, hb⟩
        have B5 := ext_trans D4 hb
        clear hb HR4 HK4 D4
        go_wp2
        refine ⟨⟨p + 1, _, by omega, by go_num, rfl, by have := HS.out; rw [ByteArray.size_append]; show s.size + 1 = p + 1; omega, B5⟩, by simp [intOf]; omega⟩
      · have hd5 : decide ((p : Int) < 5) = false := by simp; omega
        by_cases h250 : 250 < p
        · go_wp2_with fail
          refine (law2puts (some ⟨w1.heap.size, 0, none⟩) 1 1 ((p : Int) - 2) p s [9] _ (bat_lit w1 [9]) rfl (by omega) (by unfold maxLen; omega)).mono ?_
          rintro e w2 ⟨rfl, hb⟩
          have B2 := ext_trans (B1.alloc B1.size (.cells #[.int .u8 9] 5)) hb
          clear hb
          go_wp2_with fail
          refine (packText none 0 0 s [] _ (.inl rfl) rfl (by omega) (by unfold maxLen; omega)).mono ?_
          rintro e w3 ⟨v3, rfl, ho, hb⟩
          have B3 := ext_trans B2 hb
          obtain ⟨a3, c3, rfl, -, -, -, hr, -, -⟩ := own_read ho
          have HR := Lib.hid hr
          clear ho hb hr
          have D4 := B3.alloc B3.size (.cells #[.int .i64 2, .int .i64 1] 3)
          have HR4 := Lib.hid (HR.out.ext ((Below.refl _ _).alloc (Nat.le_refl _) (.cells #[.int .i64 2, .int .i64 1] 3)))
          have HK4 : IsRow .i64 (w3.alloc (.cells #[.int .i64 2, .int .i64 1] 3)) (some ⟨w3.heap.size, 0, none⟩) 2 2 [2, 1] := row_new (k := .i64) w3 [2, 1] 3 (by unfold maxLen; simp) (by intro x hx; simp at hx; rcases hx with rfl | rfl <;> decide)
          have HK4 := Lib.hid HK4
          have hly : ([] ++ txt s).length ≤ 256 := by simp only [List.nil_append, txt_len, cut255_len]; omega
          obtain ⟨y, hy⟩ : ∃ y, y = [] ++ txt s := ⟨_, rfl⟩
          have HW := Lib.hid (show Wb y by rw [hy]; exact Wb.nil.app (txt_wb s))
          rw [← hy] at HR4 hly ⊢
          clear hy HR
          go_wp2_with fail
          refine (law2play a3 _ c3 y (some ⟨w3.heap.size, 0, none⟩) 2 2 [2, 1] _ HR4.out rfl (by omega) HW.out HK4.out).mono ?_
          rintro e w5 ⟨rfl, hb⟩
          have B5 := ext_trans D4 hb
          clear hb HR4 HK4 D4
          go_wp2
          refine ⟨⟨p + 1, _, by omega, by go_num, rfl, by have := HS.out; rw [ByteArray.size_append]; show s.size + 1 = p + 1; omega, B5⟩, by simp [intOf]; omega⟩
        · go_wp2
          refine ⟨⟨p + 1, _, by omega, by go_num, rfl, by have := HS.out; rw [ByteArray.size_append]; show s.size + 1 = p + 1; omega, B1⟩, by simp [intOf]; omega⟩
    · have hK : IsRow .i64 (w1.alloc (.cells #[.int .i64 0, .int .i64 (-1), .int .i64 9223372036854775807, .int .i64 (-9223372036854775808), .int .i64 1099511627776] 2)) (some ⟨w1.heap.size, 0, none⟩) 5 5 [0, -1, 9223372036854775807, -9223372036854775808, 1099511627776] := row_new (k := .i64) w1 [0, -1, 9223372036854775807, -9223372036854775808, 1099511627776] 2 (by unfold maxLen; simp) (by intro x hx; simp at hx; rcases hx with rfl | rfl | rfl | rfl | rfl <;> decide)
      have D2 := B1.alloc B1.size (.cells #[.int .i64 0, .int .i64 (-1), .int .i64 9223372036854775807, .int .i64 (-9223372036854775808), .int .i64 1099511627776] 2)
      have HKK := Lib.hid hK
      have HD2 := Lib.hid D2
      clear hK D2
      go_wp2_with fail
      generalize (w1.alloc (.cells #[.int .i64 0, .int .i64 (-1), .int .i64 9223372036854775807, .int .i64 (-9223372036854775808), .int .i64 1099511627776] 2)) = w2 at *
      generalize [0, -1, 9223372036854775807, -9223372036854775808, 1099511627776] = zs at *
      have D2 := HD2.out
      clear HD2
      go_loopw [35] (fun i wr => ∃ q : Nat, q ≤ 5 ∧ i = .int .i64 (q : Int) ∧ Below w2.heap.size w2 wr) (fun i _ => 5 - (intOf i).toNat)
      case atStart => exact ⟨0, by omega, rfl, Below.refl _ _⟩
      case round =>
        obtain ⟨w3, rfl⟩ : ∃ y : World, y = wr := ⟨_, rfl⟩
        obtain ⟨q, hq, rfl, B3⟩ := hrel
        by_cases hq5 : q < 5
        · obtain ⟨nb, no, e0, hz⟩ := HKK.out.2.2.2.2.resolve_left (by omega)
          simp at e0
          obtain ⟨rfl, rfl⟩ := e0
          have hx := ext_cell B3 (hz q hq5)
          have hwx := bounds_i64 (getD_wf (j := q) HKK.out.2.2.2.1)
          generalize zs.getD q 0 = x at hx hwx
          rw [Nat.zero_add] at hx
          clear hz
          go_wp2_with fail
          refine (law2puts none 0 0 x x ⟨#[]⟩ [] _ (.inl rfl) rfl (by omega) (by decide)).mono ?_
          rintro e w4 ⟨rfl, hb⟩
          have B4 := ext_trans B3 hb
          clear hb hx
          go_wp2
          go_roundw
          case rel => exact ⟨q + 1, by omega, by go_num, B4⟩
          case measure => simp [intOf]; omega
        · obtain rfl : q = 5 := by omega
          have E0 := ext_trans D2 B3
          clear D2 B3 HKK
          go_wp2_with fail
          refine (refText none 0 0 ⟨#[97, 98, 99]⟩ [] _ (.inl rfl) rfl (by omega) (by decide)).mono ?_
          rintro e x1 ⟨v1, rfl, ho, hb⟩
          have E1 := ext_trans E0 hb
          obtain ⟨y1, hy1⟩ : ∃ y, y = [] ++ txt ⟨#[97, 98, 99]⟩ := ⟨_, rfl⟩
          rw [← hy1] at ho
          have L1 : 1 ≤ y1.length ∧ y1.length ≤ 256 := by rw [hy1]; simp only [List.nil_append, txt_len, cut255_len]; omega
          have W1 : Wb y1 := by rw [hy1]; exact Wb.nil.app (txt_wb _)
          obtain ⟨a1, c1, rfl, -, hc1, hm1, hr1, -, -⟩ := own_read ho
          have R1 := Lib.hid hr1
          clear ho hb hr1 hy1
          go_wp2_with fail
          refine (refInt a1 _ c1 (-5) y1 _ R1.out rfl (by omega)).mono ?_
          rintro e x2 ⟨v2, rfl, ho, hb⟩
          have E2 := ext_trans E1 hb
          obtain ⟨y2, hy2⟩ : ∃ y, y = y1 ++ be (-5) := ⟨_, rfl⟩
          rw [← hy2] at ho
          have L2 : 1 ≤ y2.length ∧ y2.length ≤ 264 := by rw [hy2]; simp only [List.length_append, be_len]; have := L1; omega
          have W2 : Wb y2 := by rw [hy2]; exact W1.app (be_wb _)
          obtain ⟨a2, c2, rfl, -, hc2, hm2, hr2, -, -⟩ := own_read ho
          have R2 := Lib.hid hr2
          clear ho hb hr2 hy2
          go_wp2_with fail
          refine (refByte a2 _ c2 200 y2 _ R2.out rfl (by omega)).mono ?_
          rintro e x3 ⟨v3, rfl, ho, hb⟩
          have E3 := ext_trans E2 hb
          obtain ⟨y3, hy3⟩ : ∃ y, y = y2 ++ [200 % 256] := ⟨_, rfl⟩
          rw [← hy3] at ho
          have L3 : 1 ≤ y3.length ∧ y3.length ≤ 265 := by rw [hy3]; simp only [List.length_append, List.length_cons, List.length_nil]; have := L2; omega
          have W3 : Wb y3 := by rw [hy3]; exact W2.app (Wb.one (by omega) (by omega))
          obtain ⟨a3, c3, rfl, -, hc3, hm3, hr3, -, -⟩ := own_read ho
          have R3 := Lib.hid hr3
          clear ho hb hr3 hy3
          go_wp2_with fail
          refine (refText a3 _ c3 ⟨#[]⟩ y3 _ R3.out rfl (by omega) (by decide)).mono ?_
          rintro e x4 ⟨v4, rfl, ho, hb⟩
          have E4 := ext_trans E3 hb
          obtain ⟨y4, hy4⟩ : ∃ y, y = y3 ++ txt ⟨#[]⟩ := ⟨_, rfl⟩
          rw [← hy4] at ho
          have L4 : 1 ≤ y4.length ∧ y4.length ≤ 600 := by rw [hy4]; simp only [List.length_append, txt_len, cut255_len]; have := L3; omega
          have W4 : Wb y4 := by rw [hy4]; exact W3.app (txt_wb _)
          obtain ⟨a4, c4, rfl, -, hc4, hm4, hr4, -, -⟩ := own_read ho
          have R4 := Lib.hid hr4
          clear ho hb hr4 hy4
          obtain ⟨g, o, rfl⟩ : ∃ g o, a4 = some ⟨g, o, none⟩ := by
            rcases R4.out with h | ⟨g, o, e, _⟩
            · rw [h] at L4; simp at L4
            · exact ⟨g, o, e⟩
          unfold maxLen at hm4
          clear R1 R2 R3 L1 L2 L3 W1 W2 W3 E1 E2 E3 hc1 hc2 hc3 hm1 hm2 hm3
          go_wp2_with fail
          go_loopw [6] (fun i wr => ∃ q : Nat, q ≤ y4.length + 1 ∧ i = .int .i64 (q : Int) ∧ Below x4.heap.size x4 wr) (fun i _ => y4.length + 1 - (intOf i).toNat)
          case atStart => exact ⟨0, by omega, rfl, Below.refl _ _⟩
          case round =>
            obtain ⟨u1, rfl⟩ : ∃ y : World, y = wr := ⟨_, rfl⟩
            obtain ⟨q, hq, rfl, Eq⟩ := hrel
            have Fq := Eq
            by_cases hqn : q ≤ y4.length
            · have HTL := Lib.hid (show (y4.take q).length = q by rw [List.length_take]; omega)
              have HDL := Lib.hid (show (y4.drop q).length = y4.length - q by rw [List.length_drop])
              have hqc : q ≤ c4 := by omega
              rcases Classical.propComplete (c4 = q) with hcq | hcq
              · have HKa : IsRow .i64 (u1.alloc (.cells #[.int .i64 2, .int .i64 0, .int .i64 1, .int .i64 2, .int .i64 2] 3)) (some ⟨u1.heap.size, 0, none⟩) 5 5 [2, 0, 1, 2, 2] := row_new (k := .i64) u1 [2, 0, 1, 2, 2] 3 (by unfold maxLen; simp) (by intro x hx; have h3 : x = 0 ∨ x = 1 ∨ x = 2 := (by simp at hx; omega); rcases h3 with rfl | rfl | rfl <;> decide)
                have HKa := Lib.hid HKa
                have Ea := Eq.alloc Eq.size (.cells #[.int .i64 2, .int .i64 0, .int .i64 1, .int .i64 2, .int .i64 2] 3)
                have Ra := Lib.hid ((R4.out.ext Fq).ext ((Below.refl _ _).alloc (Nat.le_refl _) (.cells #[.int .i64 2, .int .i64 0, .int .i64 1, .int .i64 2, .int .i64 2] 3)))
                go_wp2_with fail
                refine (law2play (some ⟨g, o, none⟩) q c4 (y4.take q) (some ⟨u1.heap.size, 0, none⟩) 5 5 [2, 0, 1, 2, 2] _ (Ra.out.take q) HTL.out (by omega) (W4.take q) HKa.out).mono ?_
                rintro e u2 ⟨rfl, hb⟩
                have Eb := ext_trans Ea hb
                clear hb
                have HKb : IsRow .i64 (u2.alloc (.cells #[.int .i64 0, .int .i64 1, .int .i64 2, .int .i64 1, .int .i64 0] 3)) (some ⟨u2.heap.size, 0, none⟩) 5 5 [0, 1, 2, 1, 0] := row_new (k := .i64) u2 [0, 1, 2, 1, 0] 3 (by unfold maxLen; simp) (by intro x hx; have h3 : x = 0 ∨ x = 1 ∨ x = 2 := (by simp at hx; omega); rcases h3 with rfl | rfl | rfl <;> decide)
                have HKb := Lib.hid HKb
                have Ec := Eb.alloc Eb.size (.cells #[.int .i64 0, .int .i64 1, .int .i64 2, .int .i64 1, .int .i64 0] 3)
                have Rb := Lib.hid ((R4.out.ext Eb).ext ((Below.refl _ _).alloc (Nat.le_refl _) (.cells #[.int .i64 0, .int .i64 1, .int .i64 2, .int .i64 1, .int .i64 0] 3)))
                go_wp2_with fail
                refine (law2play (some ⟨g, o, none⟩) (y4.length - q) (c4 - q) (y4.drop q) (some ⟨u2.heap.size, 0, none⟩) 5 5 [0, 1, 2, 1, 0] _ (.inl (List.drop_eq_nil_of_le (by have := of_eq_true hcq; omega))) HDL.out (by omega) (W4.drop q) HKb.out).mono ?_
                rintro e u3 ⟨rfl, hb⟩
                have Ed := ext_trans Ec hb
                clear hb
                go_wp2
                go_roundw
                case rel => exact ⟨q + 1, by omega, by go_num, Ed⟩
                case measure => simp [intOf]; omega
              · have HKa : IsRow .i64 (u1.alloc (.cells #[.int .i64 2, .int .i64 0, .int .i64 1, .int .i64 2, .int .i64 2] 3)) (some ⟨u1.heap.size, 0, none⟩) 5 5 [2, 0, 1, 2, 2] := row_new (k := .i64) u1 [2, 0, 1, 2, 2] 3 (by unfold maxLen; simp) (by intro x hx; have h3 : x = 0 ∨ x = 1 ∨ x = 2 := (by simp at hx; omega); rcases h3 with rfl | rfl | rfl <;> decide)
                have HKa := Lib.hid HKa
                have Ea := Eq.alloc Eq.size (.cells #[.int .i64 2, .int .i64 0, .int .i64 1, .int .i64 2, .int .i64 2] 3)
                have Ra := Lib.hid ((R4.out.ext Fq).ext ((Below.refl _ _).alloc (Nat.le_refl _) (.cells #[.int .i64 2, .int .i64 0, .int .i64 1, .int .i64 2, .int .i64 2] 3)))
                go_wp2_with fail
                refine (law2play (some ⟨g, o, none⟩) q c4 (y4.take q) (some ⟨u1.heap.size, 0, none⟩) 5 5 [2, 0, 1, 2, 2] _ (Ra.out.take q) HTL.out (by omega) (W4.take q) HKa.out).mono ?_
                rintro e u2 ⟨rfl, hb⟩
                have Eb := ext_trans Ea hb
                clear hb
                have HKb : IsRow .i64 (u2.alloc (.cells #[.int .i64 0, .int .i64 1, .int .i64 2, .int .i64 1, .int .i64 0] 3)) (some ⟨u2.heap.size, 0, none⟩) 5 5 [0, 1, 2, 1, 0] := row_new (k := .i64) u2 [0, 1, 2, 1, 0] 3 (by unfold maxLen; simp) (by intro x hx; have h3 : x = 0 ∨ x = 1 ∨ x = 2 := (by simp at hx; omega); rcases h3 with rfl | rfl | rfl <;> decide)
                have HKb := Lib.hid HKb
                have Ec := Eb.alloc Eb.size (.cells #[.int .i64 0, .int .i64 1, .int .i64 2, .int .i64 1, .int .i64 0] 3)
                have Rb := Lib.hid ((R4.out.ext Eb).ext ((Below.refl _ _).alloc (Nat.le_refl _) (.cells #[.int .i64 0, .int .i64 1, .int .i64 2, .int .i64 1, .int .i64 0] 3)))
                go_wp2_with fail
                refine (law2play (some ⟨g, o + q, none⟩) (y4.length - q) (c4 - q) (y4.drop q) (some ⟨u2.heap.size, 0, none⟩) 5 5 [0, 1, 2, 1, 0] _ (BAt.drop q Rb.out) HDL.out (by omega) (W4.drop q) HKb.out).mono ?_
                rintro e u3 ⟨rfl, hb⟩
                have Ed := ext_trans Ec hb
                clear hb
                go_wp2
                go_roundw
                case rel => exact ⟨q + 1, by omega, by go_num, Ed⟩
                case measure => simp [intOf]; omega
            · have E5 := ext_trans E4 Eq
              go_wp2_with fail
              refine (law2known _).mono ?_
              rintro e u2 ⟨rfl, hb⟩
              have E6 := ext_trans E5 hb
              go_wp2
              go_ret
              exact ⟨rfl, E6⟩

end Go.Proofs.Ytcafmjcjhncpjaa
