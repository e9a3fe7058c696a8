/- ScriptNumbers: the walk. -/
import Derived.Test.YtcgembfdejjliaaGreatDoorScPb
import Derived.Test.YtcgembfdejjliaaGreatDoorScK
namespace Go.Proofs.YtcgembfdejjliaaGreatDoor
open Go.RowKit
set_option linter.unusedVariables false
set_option linter.unusedSimpArgs false

def AL : List ByteArray := [⟨#[116, 105, 99, 107]⟩, ⟨#[100, 101, 108, 105, 118, 101, 114]⟩, ⟨#[100, 114, 111, 112]⟩, ⟨#[116, 119, 105, 99, 101]⟩, ⟨#[99, 117, 116]⟩, ⟨#[104, 101, 97, 108]⟩, ⟨#[99, 114, 97, 115, 104]⟩, ⟨#[114, 101, 103, 105, 115, 116, 101, 114]⟩, ⟨#[99, 97, 110, 99, 101, 108]⟩, ⟨#[111, 118, 101, 114, 114, 105, 100, 101]⟩, ⟨#[108, 111, 111, 107]⟩, ⟨#[120]⟩, ⟨#[]⟩]
def BL : List ByteArray := [⟨#[]⟩, ⟨#[32]⟩, ⟨#[32, 48]⟩, ⟨#[32, 49, 32, 50]⟩, ⟨#[32, 49, 32, 50, 32, 51]⟩, ⟨#[32, 48, 49]⟩, ⟨#[32, 45, 49]⟩, ⟨#[32, 45, 48]⟩, ⟨#[32, 49, 32, 120]⟩, ⟨#[32, 120]⟩, ⟨#[32, 32, 49]⟩, ⟨#[32, 49, 32]⟩, ⟨#[32, 57, 50, 50, 51, 51, 55, 50, 48, 51, 54, 56, 53, 52, 55, 55, 53, 56, 48, 55]⟩, ⟨#[32, 57, 50, 50, 51, 51, 55, 50, 48, 51, 54, 56, 53, 52, 55, 55, 53, 56, 48, 56]⟩, ⟨#[32, 49, 32, 45, 57, 50, 50, 51, 51, 55, 50, 48, 51, 54, 56, 53, 52, 55, 55, 53, 56, 48, 56]⟩, ⟨#[32, 43, 49]⟩, ⟨#[32, 49, 32, 49, 32, 49, 32, 49]⟩, ⟨#[10]⟩, ⟨#[32, 49, 32, 50, 10]⟩]
theorem AL_small : ∀ a ∈ AL, a.size ≤ 40 := by decide
theorem BL_small : ∀ a ∈ BL, a.size ≤ 40 := by decide
theorem cell_list {w : World} {b : Nat} {T : TypeId} {fr : Nat × Nat} {cs : Array Value} (l : List ByteArray) (hc : cs = (l.map Value.string).toArray) (h : w.heap[b]? = some (.cells cs T fr)) {i : Nat} {a : ByteArray} (hi : l[i]? = some a) : w.cell? ⟨b, i, none⟩ = some (.string a) := by
  unfold World.cell?
  simp only [h]
  rw [hc]
  simp [hi]
set_option maxRecDepth 100000 in
set_option maxHeartbeats 4000000 in
theorem scriptNumbers_walk (w : World) (hw : SW w) :
    Calls Tryz.prog 3 #[] w fun r w' => r = .returned (.bool true) ∧ Below w.heap.size w w' := by
  have HW := Lib.hid hw
  clear hw
  go_enter Tryz.func3, Tryz.ntmps3
  go_wp2_with fail
  have B1 := al_below w (.cells #[.string ⟨#[116, 105, 99, 107]⟩, .string ⟨#[100, 101, 108, 105, 118, 101, 114]⟩, .string ⟨#[100, 114, 111, 112]⟩, .string ⟨#[116, 119, 105, 99, 101]⟩, .string ⟨#[99, 117, 116]⟩, .string ⟨#[104, 101, 97, 108]⟩, .string ⟨#[99, 114, 97, 115, 104]⟩, .string ⟨#[114, 101, 103, 105, 115, 116, 101, 114]⟩, .string ⟨#[99, 97, 110, 99, 101, 108]⟩, .string ⟨#[111, 118, 101, 114, 114, 105, 100, 101]⟩, .string ⟨#[108, 111, 111, 107]⟩, .string ⟨#[120]⟩, .string ⟨#[]⟩] 9)
  have X1 := blk_new w #[.string ⟨#[116, 105, 99, 107]⟩, .string ⟨#[100, 101, 108, 105, 118, 101, 114]⟩, .string ⟨#[100, 114, 111, 112]⟩, .string ⟨#[116, 119, 105, 99, 101]⟩, .string ⟨#[99, 117, 116]⟩, .string ⟨#[104, 101, 97, 108]⟩, .string ⟨#[99, 114, 97, 115, 104]⟩, .string ⟨#[114, 101, 103, 105, 115, 116, 101, 114]⟩, .string ⟨#[99, 97, 110, 99, 101, 108]⟩, .string ⟨#[111, 118, 101, 114, 114, 105, 100, 101]⟩, .string ⟨#[108, 111, 111, 107]⟩, .string ⟨#[120]⟩, .string ⟨#[]⟩] 9
  obtain ⟨b1, hb1⟩ : ∃ q, w.heap.size = q := ⟨_, rfl⟩
  rw [hb1] at X1 ⊢
  have H1 := Lib.hid (show _ ∧ _ from ⟨B1, X1⟩)
  generalize (w.alloc (.cells #[.string ⟨#[116, 105, 99, 107]⟩, .string ⟨#[100, 101, 108, 105, 118, 101, 114]⟩, .string ⟨#[100, 114, 111, 112]⟩, .string ⟨#[116, 119, 105, 99, 101]⟩, .string ⟨#[99, 117, 116]⟩, .string ⟨#[104, 101, 97, 108]⟩, .string ⟨#[99, 114, 97, 115, 104]⟩, .string ⟨#[114, 101, 103, 105, 115, 116, 101, 114]⟩, .string ⟨#[99, 97, 110, 99, 101, 108]⟩, .string ⟨#[111, 118, 101, 114, 114, 105, 100, 101]⟩, .string ⟨#[108, 111, 111, 107]⟩, .string ⟨#[120]⟩, .string ⟨#[]⟩] 9)) = w1 at *
  clear B1 X1 hb1
  go_loopw [9] (fun iv wr => ∃ I : Nat, I ≤ 13 ∧ iv = .int .i64 (I : Int) ∧ Below w1.heap.size w1 wr) (fun iv _ => 13 - (RowKit.intOf iv).toNat)
  case atStart => exact ⟨0, by omega, rfl, Below.refl _ _⟩
  case round =>
    obtain ⟨w2, rfl⟩ : ∃ y : World, y = wr := ⟨_, rfl⟩
    obtain ⟨I, hI, rfl, hb2⟩ := hrel
    have H2 := Lib.hid hb2
    clear hb2
    by_cases hlt : I < 13
    · have hlti : (I : Int) < 13 := by omega
      obtain ⟨a, ha⟩ : ∃ a, AL[I]? = some a := ⟨_, List.getElem?_eq_getElem (by show I < 13; omega)⟩
      have x0 := ext_cell H2.out (cell_list AL rfl H1.out.2 ha)
      have xl := cell_lt x0
      have haz := AL_small a (List.mem_of_getElem? ha)
      clear ha
      go_wp2_with fail
      have B3 := al_below w2 (.cells #[.string ⟨#[]⟩, .string ⟨#[32]⟩, .string ⟨#[32, 48]⟩, .string ⟨#[32, 49, 32, 50]⟩, .string ⟨#[32, 49, 32, 50, 32, 51]⟩, .string ⟨#[32, 48, 49]⟩, .string ⟨#[32, 45, 49]⟩, .string ⟨#[32, 45, 48]⟩, .string ⟨#[32, 49, 32, 120]⟩, .string ⟨#[32, 120]⟩, .string ⟨#[32, 32, 49]⟩, .string ⟨#[32, 49, 32]⟩, .string ⟨#[32, 57, 50, 50, 51, 51, 55, 50, 48, 51, 54, 56, 53, 52, 55, 55, 53, 56, 48, 55]⟩, .string ⟨#[32, 57, 50, 50, 51, 51, 55, 50, 48, 51, 54, 56, 53, 52, 55, 55, 53, 56, 48, 56]⟩, .string ⟨#[32, 49, 32, 45, 57, 50, 50, 51, 51, 55, 50, 48, 51, 54, 56, 53, 52, 55, 55, 53, 56, 48, 56]⟩, .string ⟨#[32, 43, 49]⟩, .string ⟨#[32, 49, 32, 49, 32, 49, 32, 49]⟩, .string ⟨#[10]⟩, .string ⟨#[32, 49, 32, 50, 10]⟩] 9)
      have X3 := blk_new w2 #[.string ⟨#[]⟩, .string ⟨#[32]⟩, .string ⟨#[32, 48]⟩, .string ⟨#[32, 49, 32, 50]⟩, .string ⟨#[32, 49, 32, 50, 32, 51]⟩, .string ⟨#[32, 48, 49]⟩, .string ⟨#[32, 45, 49]⟩, .string ⟨#[32, 45, 48]⟩, .string ⟨#[32, 49, 32, 120]⟩, .string ⟨#[32, 120]⟩, .string ⟨#[32, 32, 49]⟩, .string ⟨#[32, 49, 32]⟩, .string ⟨#[32, 57, 50, 50, 51, 51, 55, 50, 48, 51, 54, 56, 53, 52, 55, 55, 53, 56, 48, 55]⟩, .string ⟨#[32, 57, 50, 50, 51, 51, 55, 50, 48, 51, 54, 56, 53, 52, 55, 55, 53, 56, 48, 56]⟩, .string ⟨#[32, 49, 32, 45, 57, 50, 50, 51, 51, 55, 50, 48, 51, 54, 56, 53, 52, 55, 55, 53, 56, 48, 56]⟩, .string ⟨#[32, 43, 49]⟩, .string ⟨#[32, 49, 32, 49, 32, 49, 32, 49]⟩, .string ⟨#[10]⟩, .string ⟨#[32, 49, 32, 50, 10]⟩] 9
      obtain ⟨b3, hb3⟩ : ∃ q, w2.heap.size = q := ⟨_, rfl⟩
      rw [hb3] at X3 ⊢
      have H3 := Lib.hid (show _ ∧ _ from ⟨ext_trans H2.out B3, X3⟩)
      generalize (w2.alloc (.cells #[.string ⟨#[]⟩, .string ⟨#[32]⟩, .string ⟨#[32, 48]⟩, .string ⟨#[32, 49, 32, 50]⟩, .string ⟨#[32, 49, 32, 50, 32, 51]⟩, .string ⟨#[32, 48, 49]⟩, .string ⟨#[32, 45, 49]⟩, .string ⟨#[32, 45, 48]⟩, .string ⟨#[32, 49, 32, 120]⟩, .string ⟨#[32, 120]⟩, .string ⟨#[32, 32, 49]⟩, .string ⟨#[32, 49, 32]⟩, .string ⟨#[32, 57, 50, 50, 51, 51, 55, 50, 48, 51, 54, 56, 53, 52, 55, 55, 53, 56, 48, 55]⟩, .string ⟨#[32, 57, 50, 50, 51, 51, 55, 50, 48, 51, 54, 56, 53, 52, 55, 55, 53, 56, 48, 56]⟩, .string ⟨#[32, 49, 32, 45, 57, 50, 50, 51, 51, 55, 50, 48, 51, 54, 56, 53, 52, 55, 55, 53, 56, 48, 56]⟩, .string ⟨#[32, 43, 49]⟩, .string ⟨#[32, 49, 32, 49, 32, 49, 32, 49]⟩, .string ⟨#[10]⟩, .string ⟨#[32, 49, 32, 50, 10]⟩] 9)) = w3 at *
      clear B3 X3 x0 xl hb3
      go_loopw [15] (fun iv wr => ∃ J : Nat, J ≤ 19 ∧ iv = .int .i64 (J : Int) ∧ Below w3.heap.size w3 wr) (fun iv _ => 19 - (RowKit.intOf iv).toNat)
      case atStart => exact ⟨0, by omega, rfl, Below.refl _ _⟩
      case round =>
        obtain ⟨w4, rfl⟩ : ∃ y : World, y = wr := ⟨_, rfl⟩
        obtain ⟨J, hJ, rfl, hb4⟩ := hrel
        have H4 := Lib.hid hb4
        clear hb4
        by_cases hjt : J < 19
        · have hjti : (J : Int) < 19 := by omega
          obtain ⟨c, hc⟩ : ∃ c, BL[J]? = some c := ⟨_, List.getElem?_eq_getElem (by show J < 19; omega)⟩
          have x0 := ext_cell H4.out (cell_list BL rfl H3.out.2 hc)
          have xl := cell_lt x0
          have hcz := BL_small c (List.mem_of_getElem? hc)
          have hadd : ∀ u : World, (Op.stringOp .add a c).run Tryz.prog u = .ok (.string (a ++ c)) u := fun u => run_string_add_sum u _ _ (by omega)
          clear hc
          go_wp2_with fail
          refine (linesP (a ++ c) (by rw [ByteArray.size_append]; omega) w4 (HW.out.ext (ext_trans H1.out.1 (ext_trans H3.out.1 H4.out)))).mono ?_
          rintro e w5 ⟨rfl, hb5⟩
          have H5 := Lib.hid (ext_trans H4.out hb5)
          clear hb5 x0 xl
          go_wp2
          exact ⟨⟨J + 1, by omega, by go_num, H5.out⟩, by simp [RowKit.intOf]; omega⟩
        · have hjt2 : decide ((J : Int) < 19) = false := decide_eq_false (by omega)
          have hjt3 : ¬ (J : Int) < 19 := by omega
          go_wp2
          exact ⟨⟨I + 1, by omega, by go_num, ext_trans H3.out.1 H4.out⟩, by simp [RowKit.intOf]; omega⟩
    · have hlt2 : decide ((I : Int) < 13) = false := decide_eq_false (by omega)
      have hlt3 : ¬ (I : Int) < 13 := by omega
      go_wp2_with fail
      go_loopw [5, 6] (fun sv iv wr => ∃ (I : Nat) (S : ByteArray), I ≤ 405 ∧ sv = .string S ∧ S.size ≤ I * 40 ∧ iv = .int .i64 (I : Int) ∧ Below w1.heap.size w1 wr) (fun _ iv _ => 405 - (RowKit.intOf iv).toNat)
      case atStart => exact ⟨0, ⟨#[]⟩, by omega, rfl, by decide, rfl, H2.out⟩
      case round =>
        obtain ⟨w4, rfl⟩ : ∃ y : World, y = wr := ⟨_, rfl⟩
        obtain ⟨J, S, hJ, rfl, hSz, rfl, hb4⟩ := hrel
        have H4 := Lib.hid hb4
        clear hb4
        by_cases hjt : J < 405
        · have hjti : (J : Int) < 405 := by omega
          have hN : -9223372036854775808 ≤ (J : Int) ∧ (J : Int) ≤ 9223372036854775807 := by omega
          have hz := ito_len _ hN
          obtain ⟨X, hX⟩ : ∃ X, itoB (J : Int) = X := ⟨_, rfl⟩
          rw [hX] at hz
          have hadd1 : ∀ u : World, (Op.stringOp .add ⟨#[100, 114, 111, 112, 32]⟩ X).run Tryz.prog u = .ok (.string (⟨#[100, 114, 111, 112, 32]⟩ ++ X)) u := fun u => run_string_add_sum u _ _ (by show 5 + X.size ≤ _; omega)
          have hadd2 : ∀ u : World, (Op.stringOp .add (⟨#[100, 114, 111, 112, 32]⟩ ++ X) ⟨#[10]⟩).run Tryz.prog u = .ok (.string (⟨#[100, 114, 111, 112, 32]⟩ ++ X ++ ⟨#[10]⟩)) u := fun u => run_string_add_sum u _ _ (by rw [ByteArray.size_append]; show 5 + X.size + 1 ≤ _; omega)
          obtain ⟨Y, hY⟩ : ∃ Y, ⟨#[100, 114, 111, 112, 32]⟩ ++ X ++ ⟨#[10]⟩ = Y := ⟨_, rfl⟩
          have hYz : Y.size ≤ 26 := by rw [← hY, ByteArray.size_append, ByteArray.size_append]; show 5 + X.size + 1 ≤ _; omega
          rw [hY] at hadd2
          have hadd3 : ∀ u : World, (Op.stringOp .add S Y).run Tryz.prog u = .ok (.string (S ++ Y)) u := fun u => run_string_add_sum u _ _ (by omega)
          have hadd4 : ∀ u : World, (Op.stringOp .add (S ++ Y) ⟨#[10, 110, 111, 10]⟩).run Tryz.prog u = .ok (.string (S ++ Y ++ ⟨#[10, 110, 111, 10]⟩)) u := fun u => run_string_add_sum u _ _ (by rw [ByteArray.size_append]; show S.size + Y.size + 4 ≤ _; omega)
          have hs1 : (S ++ Y).size ≤ (J + 1) * 40 := by rw [ByteArray.size_append]; omega
          have hs2 : (S ++ Y ++ ⟨#[10, 110, 111, 10]⟩).size ≤ (J + 1) * 40 := by rw [ByteArray.size_append, ByteArray.size_append]; show S.size + Y.size + 4 ≤ _; omega
          have hr : (J : Int).tmod 100 = ((J % 100 : Nat) : Int) := by rw [Int.tmod_eq_emod_of_nonneg (by omega)]; omega
          obtain ⟨M, hM⟩ : ∃ M, J % 100 = M := ⟨_, rfl⟩
          rw [hM] at hr
          have HY := Lib.hid (show _ ∧ _ from ⟨hs1, hs2⟩)
          have HX := Lib.hid hX
          clear hY hM hs1 hs2 hX
          by_cases h7 : M = 7
          · have ht : ((M : Int) == 7) = true := by subst h7; rfl
            go_wp2_with fail
            refine (docNumber (J : Int) hN w4).mono ?_
            rintro e w5 ⟨rfl, hb5⟩
            rw [HX.out]
            have H5 := Lib.hid (ext_trans H4.out hb5)
            clear hb5
            go_wp2
            exact ⟨⟨J + 1, _, by omega, rfl, HY.out.2, by go_num, H5.out⟩, by simp [RowKit.intOf]; omega⟩
          · have ht : ((M : Int) == 7) = false := by simp; omega
            go_wp2_with fail
            refine (docNumber (J : Int) hN w4).mono ?_
            rintro e w5 ⟨rfl, hb5⟩
            rw [HX.out]
            have H5 := Lib.hid (ext_trans H4.out hb5)
            clear hb5
            go_wp2
            exact ⟨⟨J + 1, _, by omega, rfl, HY.out.1, by go_num, H5.out⟩, by simp [RowKit.intOf]; omega⟩
        · have hjt2 : decide ((J : Int) < 405) = false := decide_eq_false (by omega)
          have hjt3 : ¬ (J : Int) < 405 := by omega
          go_wp2_with fail
          refine (parsesP S (by omega) w4 (HW.out.ext (ext_trans H1.out.1 H4.out))).mono ?_
          rintro e w5 ⟨rfl, hb5⟩
          have H5 := Lib.hid (ext_trans H1.out.1 (ext_trans H4.out hb5))
          clear hb5
          go_wp2_with fail
          refine (parsesP ⟨#[]⟩ (by decide) w5 (HW.out.ext H5.out)).mono ?_
          rintro e w6 ⟨rfl, hb6⟩
          have H6 := Lib.hid (ext_trans H5.out hb6)
          clear hb6
          go_wp2_with fail
          refine (parsesP ⟨#[10, 10]⟩ (by decide) w6 (HW.out.ext H6.out)).mono ?_
          rintro e w7 ⟨rfl, hb7⟩
          have H7 := Lib.hid (ext_trans H6.out hb7)
          clear hb7
          go_wp2_with fail
          refine (parsesP ⟨#[97, 10, 98]⟩ (by decide) w7 (HW.out.ext H7.out)).mono ?_
          rintro e w8 ⟨rfl, hb8⟩
          have H8 := Lib.hid (ext_trans H7.out hb8)
          clear hb8
          go_wp2_with fail
          refine (parsesP ⟨#[116, 105, 99, 107, 32, 48, 32, 49, 10]⟩ (by decide) w8 (HW.out.ext H8.out)).mono ?_
          rintro e w9 ⟨rfl, hb9⟩
          have H9 := Lib.hid (ext_trans H8.out hb9)
          clear hb9
          go_wp2_with fail
          refine (known25 w9 (HW.out.ext H9.out)).mono ?_
          rintro e w10 ⟨rfl, hb10⟩
          have H10 := Lib.hid (ext_trans H9.out hb10)
          clear hb10
          go_wp2
          go_ret
          exact ⟨rfl, H10.out⟩
end Go.Proofs.YtcgembfdejjliaaGreatDoor
