/- The document's own line: number, value. -/
import Derived.Test.YtcgembfdejjliaaGreatDoorScY
import Derived.Test.YtcgembfdejjliaaGreatDoorScG
namespace Go.Proofs.YtcgembfdejjliaaGreatDoor
open Go.RowKit
open Go.PlainAid (bt get_bt bt_le bt_nonneg)
set_option linter.unusedVariables false
set_option linter.unusedSimpArgs false

theorem dig_rune (D : Nat) (h : D < 10) (y : World) : (convert 2 21 (.int .i64 (48 + (D : Int)))).run Tryz.prog y = .ok (.int .i32 (48 + (D : Int))) y := by
  match D, h with
  | 0, _ | 1, _ | 2, _ | 3, _ | 4, _ | 5, _ | 6, _ | 7, _ | 8, _ | 9, _ => (show _ = _); kernel_rfl
  | n + 10, h => omega
theorem dig_text (D : Nat) (h : D < 10) (y : World) : (convert 21 9 (.int .i32 (48 + (D : Int)))).run Tryz.prog y = .ok (.string ⟨#[UInt8.ofNat (48 + D)]⟩) y := by
  match D, h with
  | 0, _ | 1, _ | 2, _ | 3, _ | 4, _ | 5, _ | 6, _ | 7, _ | 8, _ | 9, _ => (show _ = _); kernel_rfl
  | n + 10, h => omega
def dg0 (u : Nat) : List UInt8 := if u = 0 then [] else Lib.decDigits u
theorem dg0_step (u : Nat) (h : u ≠ 0) : dg0 u = dg0 (u / 10) ++ [UInt8.ofNat (48 + u % 10)] := by
  unfold dg0
  rw [if_neg h]
  conv => lhs; rw [Lib.decDigits]
  split
  · rename_i h2
    rw [if_pos (by omega), show u % 10 = u by omega]
    rfl
  · rw [if_neg (by omega)]

theorem nstep (n K : Int) (U : Nat) (S : ByteArray) (h : -9223372036854775808 ≤ K ∧ K ≤ 9223372036854775807) (hK0 : K ≠ 0) (hsg : (0 < n ∧ 0 ≤ K) ∨ (n < 0 ∧ K ≤ 0)) (hdd : Lib.decDigits U = dg0 K.natAbs ++ S.data.toList) :
    ∃ (D : Nat) (K2 : Int), D < 10 ∧ K.tdiv 10 = K2 ∧ (K.tmod 10 = (D : Int) ∨ (K.tmod 10 = -(D : Int) ∧ 0 < D)) ∧
      ((-9223372036854775808 ≤ K2 ∧ K2 ≤ 9223372036854775807) ∧ ((0 < n ∧ 0 ≤ K2) ∨ (n < 0 ∧ K2 ≤ 0)) ∧ Lib.decDigits U = dg0 K2.natAbs ++ ((⟨#[UInt8.ofNat (48 + D)]⟩ : ByteArray) ++ S).data.toList ∧ K2.natAbs < K.natAbs) := by
  have key : ∀ K2 : Int, K2.natAbs = K.natAbs / 10 → Lib.decDigits U = dg0 K2.natAbs ++ ((⟨#[UInt8.ofNat (48 + K.natAbs % 10)]⟩ : ByteArray) ++ S).data.toList := fun K2 e => by
    rw [hdd, dg0_step K.natAbs (by omega), e]
    simp
  by_cases hp : 0 ≤ K
  · have h1 : K.tdiv 10 = K / 10 := Int.tdiv_eq_ediv_of_nonneg hp
    have h2 : K.tmod 10 = K % 10 := Int.tmod_eq_emod_of_nonneg hp
    refine ⟨K.natAbs % 10, K / 10, by omega, h1, .inl (by rw [h2]; omega), by omega, by omega, key _ (by omega), by omega⟩
  · obtain ⟨m, hm⟩ : ∃ m, K = -m := ⟨-K, by omega⟩
    have h1 : K.tdiv 10 = -(m / 10) := by rw [hm, Int.neg_tdiv, Int.tdiv_eq_ediv_of_nonneg (by omega)]
    have h2 : K.tmod 10 = -(m % 10) := by rw [hm, Int.neg_tmod, Int.tmod_eq_emod_of_nonneg (by omega)]
    refine ⟨K.natAbs % 10, -(m / 10), by omega, h1, ?_, by omega, by omega, key _ (by omega), by omega⟩
    by_cases hz : K.natAbs % 10 = 0
    · left; rw [h2]; omega
    · right; exact ⟨by rw [h2]; omega, by omega⟩

set_option maxRecDepth 100000 in
set_option maxHeartbeats 400000 in
theorem docNumber (n : Int) (h : -9223372036854775808 ≤ n ∧ n ≤ 9223372036854775807) (w : World) :
    Calls Tryz.prog 7 #[.int .i64 n] w fun r w' => r = .returned (.string (itoB n)) ∧ Below w.heap.size w w' := by
  by_cases h0 : n = 0
  · subst h0
    go_enter Tryz.func7, Tryz.ntmps7
    go_wp2
    go_ret
    exact ⟨by kernel_rfl, Below.refl _ _⟩
  have hn0 : (n == 0) = false := by simpa using h0
  obtain ⟨U, hU⟩ : ∃ U, n.natAbs = U := ⟨_, rfl⟩
  have hU9 : U ≤ 9223372036854775808 := by omega
  have HU := Lib.hid (show _ ∧ _ from ⟨hU, dec_nineteen U hU9⟩)
  obtain ⟨T, hT⟩ : ∃ T, itoB n = T := ⟨_, rfl⟩
  rw [hT]
  have HT := Lib.hid hT
  have H0 := Lib.hid h0
  clear hU hT h0
  go_enter Tryz.func7, Tryz.ntmps7
  go_wp2_with fail
  go_loopw [3, 4] (fun sv kv wr => ∃ (S : ByteArray) (K : Int), sv = .string S ∧ kv = .int .i64 K ∧ (-9223372036854775808 ≤ K ∧ K ≤ 9223372036854775807) ∧ ((0 < n ∧ 0 ≤ K) ∨ (n < 0 ∧ K ≤ 0)) ∧ Lib.decDigits U = dg0 K.natAbs ++ S.data.toList ∧ Below w.heap.size w wr) (fun _ kv _ => (RowKit.intOf kv).natAbs)
  case atStart => exact ⟨⟨#[]⟩, n, rfl, rfl, h, by have := H0.out; omega, by unfold dg0; rw [if_neg (by have := H0.out; omega), HU.out.1]; simp, Below.refl _ _⟩
  case round =>
    obtain ⟨w2, rfl⟩ : ∃ y : World, y = wr := ⟨_, rfl⟩
    obtain ⟨S, K, rfl, rfl, hK, hsg, hdd, hb2⟩ := hrel
    have HB2 := Lib.hid (show _ ∧ _ from ⟨hdd, hb2⟩)
    have HSG := Lib.hid hsg
    have hsz : S.size ≤ 19 := by
      have h1 := congrArg List.length hdd
      rw [List.length_append] at h1
      have h2 : S.data.toList.length = S.size := rfl
      have := HU.out.2
      omega
    clear hdd hb2 hsg
    by_cases hK0 : K = 0
    · subst hK0
      have HE := Lib.hid (show Lib.decDigits U = S.data.toList from by have := HB2.out.1; simpa [dg0] using this)
      by_cases hneg : n < 0
      · have hd : decide (n < 0) = true := decide_eq_true hneg
        have hadd : ∀ y : World, (Op.stringOp .add ⟨#[45]⟩ S).run Tryz.prog y = .ok (.string T) y := fun y => by
          rw [run_string_add_sum y _ _ (by show 1 + S.size ≤ _; omega)]
          have e : (⟨#[45]⟩ ++ S : ByteArray) = T := by
            rw [← HT.out]
            unfold itoB Lib.itoa
            rw [if_pos hneg, HU.out.1, HE.out]
            apply ByteArray.ext
            apply Array.toList_inj.1
            simp
          rw [e]
        go_wp2
        go_ret
        exact ⟨rfl, HB2.out.2⟩
      · have hd : decide (n < 0) = false := decide_eq_false hneg
        have e : S = T := by
          rw [← HT.out]
          unfold itoB Lib.itoa
          rw [if_neg hneg, show n.toNat = U by have := HU.out.1; omega, HE.out]
        subst e
        go_wp2
        go_ret
        exact ⟨rfl, HB2.out.2⟩
    · have hk : (K != 0) = true := by simpa using hK0
      obtain ⟨D, K2, hD10, hK2, hr, hM⟩ := nstep n K U S hK hK0 HSG.out HB2.out.1
      obtain ⟨X, hX⟩ : ∃ X : ByteArray, ⟨#[UInt8.ofNat (48 + D)]⟩ = X := ⟨_, rfl⟩
      have c1 := dig_rune D hD10
      have c2 := dig_text D hD10
      rw [hX] at c2 hM
      have hadd : ∀ y : World, (Op.stringOp .add X S).run Tryz.prog y = .ok (.string (X ++ S)) y := fun y => run_string_add_sum y _ _ (by rw [← hX]; show 1 + S.size ≤ _; omega)
      have hw48 : wrap64 (48 + (D : Int)) = 48 + (D : Int) := by unfold wrap64; omega
      have HM := Lib.hid hM
      clear hX hM hK
      rcases hr with hr2 | ⟨hr2, hD0⟩
      · have hd : decide ((D : Int) < 0) = false := decide_eq_false (by omega)
        go_wp2
        go_roundw
        case rel => exact ⟨X ++ S, K2, rfl, by rw [w64 K2 HM.out.1.1 HM.out.1.2], HM.out.1, HM.out.2.1, HM.out.2.2.1, HB2.out.2⟩
        case measure => rw [w64 K2 HM.out.1.1 HM.out.1.2]; exact HM.out.2.2.2
      · have hd : decide (-(D : Int) < 0) = true := decide_eq_true (by omega)
        have hnn : wrap64 (- -(D : Int)) = (D : Int) := by unfold wrap64; omega
        go_wp2
        go_roundw
        case rel => exact ⟨X ++ S, K2, rfl, by rw [w64 K2 HM.out.1.1 HM.out.1.2], HM.out.1, HM.out.2.1, HM.out.2.2.1, HB2.out.2⟩
        case measure => rw [w64 K2 HM.out.1.1 HM.out.1.2]; exact HM.out.2.2.2
end Go.Proofs.YtcgembfdejjliaaGreatDoor
