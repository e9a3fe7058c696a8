/- The document's own line: value. -/
import Derived.Test.YtcgembfdejjliaaGreatDoorScZ
namespace Go.Proofs.YtcgembfdejjliaaGreatDoor
open Go.RowKit
open Go.PlainAid (bt get_bt bt_le bt_nonneg)
set_option linter.unusedVariables false
set_option linter.unusedSimpArgs false

theorem vst_dig (N : Int) (c : UInt8) (h : 48 ≤ c.toNat ∧ c.toNat ≤ 57) : vst N c = wrap64 (wrap64 (N * 10) - ((c.toNat : Int) - 48)) := by unfold vst; rw [if_pos h]
theorem vst_no (N : Int) (c : UInt8) (h : ¬ (48 ≤ c.toNat ∧ c.toNat ≤ 57)) : vst N c = N := by unfold vst; rw [if_neg h]
theorem fold_next (l : List UInt8) (I : Nat) (c : UInt8) (h : l[I]? = some c) : (l.take (I + 1)).foldl vst 0 = vst ((l.take I).foldl vst 0) c := by
  rw [List.take_add_one, h, List.foldl_append]
  rfl
theorem vval_head (l : List UInt8) (h : l = [] ∨ l.head? ≠ some 45) : vval l = wrap64 (-((l.take 20).foldl vst 0)) := by unfold vval vfold; rw [if_pos h]
theorem vval_neg (l : List UInt8) (h : ¬ (l = [] ∨ l.head? ≠ some 45)) : vval l = (l.take 20).foldl vst 0 := by unfold vval vfold; rw [if_neg h]
theorem take_end (l : List UInt8) (I : Nat) (h : I = 20 ∨ (I = l.length ∧ I ≤ 20)) : l.take I = l.take 20 := by
  rcases h with rfl | ⟨h, h2⟩
  · rfl
  · rw [List.take_of_length_le (by omega), List.take_of_length_le (by omega)]

set_option maxRecDepth 100000 in
set_option maxHeartbeats 1000000 in
/-- behind the loop -/
theorem docValue (s : ByteArray) (hs : s.size ≤ 1048576) (w : World) :
    Calls Tryz.prog 36 #[.string s] w fun r w' => r = .returned (.tuple #[.int .i64 (vval s.data.toList), .bool (decide (Lib.itoa (vval s.data.toList) = s.data.toList))]) ∧ Below w.heap.size w w' := by
  obtain ⟨V, hV⟩ : ∃ V, vval s.data.toList = V := ⟨_, rfl⟩
  have hVi := vval_in s.data.toList
  rw [hV] at hVi ⊢
  obtain ⟨B, hB⟩ : ∃ B, decide (Lib.itoa V = s.data.toList) = B := ⟨_, rfl⟩
  rw [hB]
  have hcmp : ((itoB V).toList == s.toList) = B := by
    rw [← hB, ByteArray.toList_eq, ByteArray.toList_eq]
    unfold itoB
    simp
    by_cases h : Lib.itoa V = s.data.toList <;> simp [h]
  have HV := Lib.hid hV
  obtain ⟨n, hn⟩ : ∃ n, s.size = n := ⟨_, rfl⟩
  have hlen : s.data.toList.length = n := hn
  have HL := Lib.hid hlen
  rw [hn] at hs
  have hb := get_bt s
  clear hV hB hlen
  go_enter Tryz.func36, Tryz.ntmps36
  go_wp2_with fail
  go_loopw [4, 5] (fun nv iv wr => ∃ (I : Nat) (N : Int), I ≤ n ∧ I ≤ 20 ∧ nv = .int .i64 N ∧ iv = .int .i64 (I : Int) ∧ (s.data.toList.take I).foldl vst 0 = N ∧ Below w.heap.size w wr) (fun _ iv _ => n - (RowKit.intOf iv).toNat)
  case atStart => exact ⟨0, 0, by omega, by omega, rfl, rfl, by simp, Below.refl _ _⟩
  case round =>
    obtain ⟨w2, rfl⟩ : ∃ y : World, y = wr := ⟨_, rfl⟩
    obtain ⟨I, N, hI, hI2, rfl, rfl, hN, hb2⟩ := hrel
    have HB2 := Lib.hid (show _ ∧ _ from ⟨hN, hb2⟩)
    clear hN hb2
    by_cases hgo : I < n ∧ I < 20
    · obtain ⟨hlt, hlt20⟩ := hgo
      have hlti : (I : Int) < (n : Int) := by omega
      have hlt20i : (I : Int) < 20 := by omega
      obtain ⟨c, hc, hbc⟩ := bt_at s I (by omega)
      have HC := Lib.hid (show _ ∧ _ from ⟨hc, hbc⟩)
      have hcb := c.toNat_lt
      clear hc
      by_cases hd : 48 ≤ c.toNat ∧ c.toNat ≤ 57
      · have t1 : decide (48 ≤ bt s I) = true := decide_eq_true (by omega)
        have t2 : decide (bt s I ≤ 57) = true := decide_eq_true (by omega)
        have e1 := vst_dig N c hd
        rw [← hbc] at e1
        have HE := Lib.hid e1
        clear e1
        have hX1 : 48 ≤ bt s I := by omega
        have hX2 : bt s I ≤ 57 := by omega
        clear hbc
        go_wp2
        exact ⟨⟨I + 1, _, by omega, by omega, rfl, by go_num, by rw [fold_next _ I c HC.out.1, HB2.out.1]; exact HE.out, HB2.out.2⟩, by simp [RowKit.intOf]; omega⟩
      · have e1 := vst_no N c hd
        have HE := Lib.hid e1
        clear e1
        by_cases h48 : 48 ≤ c.toNat
        · have t1 : decide (48 ≤ bt s I) = true := decide_eq_true (by omega)
          have t2 : decide (bt s I ≤ 57) = false := decide_eq_false (by omega)
          have hX1 : 48 ≤ bt s I := by omega
          have hX2 : ¬ bt s I ≤ 57 := by omega
          clear hbc
          go_wp2
          exact ⟨⟨I + 1, _, by omega, by omega, rfl, by go_num, by rw [fold_next _ I c HC.out.1, HB2.out.1]; exact HE.out, HB2.out.2⟩, by simp [RowKit.intOf]; omega⟩
        · have t1 : decide (48 ≤ bt s I) = false := decide_eq_false (by omega)
          have hX1 : ¬ 48 ≤ bt s I := by omega
          clear hbc
          go_wp2
          exact ⟨⟨I + 1, _, by omega, by omega, rfl, by go_num, by rw [fold_next _ I c HC.out.1, HB2.out.1]; exact HE.out, HB2.out.2⟩, by simp [RowKit.intOf]; omega⟩
    · have hfin : I = 20 ∨ (I = n ∧ I ≤ 20) := by omega
      have HF := Lib.hid (show (s.data.toList.take 20).foldl vst 0 = N from by rw [← take_end _ I (by rw [HL.out]; exact hfin)]; exact HB2.out.1)
      have hz0 : n = 0 → s.data.toList = [] := fun h => List.eq_nil_of_length_eq_zero (by rw [HL.out, h])
      by_cases hn0 : n = 0
      · have hse := hz0 hn0
        have HS := Lib.hid (show V = wrap64 (-N) from by rw [← HV.out, vval_head _ (.inl hse), HF.out])
        have hI0 : I = 0 := by omega
        subst hn0
        subst hI0
        have hlt : decide (((0 : Nat) : Int) < ((0 : Nat) : Int)) = false := by simp
        clear hz0 hse
        go_wp2_with fail
        rw [← HS.out]
        refine (docNumber V hVi w2).mono ?_
        rintro r w3 ⟨rfl, hb3⟩
        go_wp2
        go_ret2
        exact ⟨rfl, ext_trans HB2.out.2 hb3⟩
      · obtain ⟨c, hc, hbc⟩ := bt_at s 0 (by omega)
        have hn0i : ((n : Int) == 0) = false := by simp; omega
        have hhd : s.data.toList.head? = some c := by rw [List.head?_eq_getElem?]; exact hc
        have hne : s.data.toList ≠ [] := by rintro e; rw [e] at hhd; cases hhd
        by_cases hm : c = 45
        · have t1 : (bt s 0 != 45) = false := by rw [hbc, hm]; rfl
          have HS := Lib.hid (show V = N from by rw [← HV.out, vval_neg _ (by rw [hhd, hm]; simp [hne]), HF.out])
          have h0n : (0 : Int) < (n : Int) := by omega
          clear hz0 hhd hne hc hbc
          by_cases hin : I < n
          · have hI20 : I = 20 := by omega
            subst hI20
            have q1 : (20 : Int) < (n : Int) := by omega
            go_wp2_with fail
            rw [← HS.out]
            refine (docNumber V hVi w2).mono ?_
            rintro r w3 ⟨rfl, hb3⟩
            go_wp2
            go_ret2
            exact ⟨rfl, ext_trans HB2.out.2 hb3⟩
          · have q1 : decide ((I : Int) < (n : Int)) = false := decide_eq_false (by omega)
            have q2 : ¬ (I : Int) < (n : Int) := by omega
            go_wp2_with fail
            rw [← HS.out]
            refine (docNumber V hVi w2).mono ?_
            rintro r w3 ⟨rfl, hb3⟩
            go_wp2
            go_ret2
            exact ⟨rfl, ext_trans HB2.out.2 hb3⟩
        · have t1 : (bt s 0 != 45) = true := by
            rw [hbc]
            have h2 : c.toNat ≠ 45 := fun e => hm (UInt8.toNat_inj.1 e)
            simp; omega
          have HS := Lib.hid (show V = wrap64 (-N) from by rw [← HV.out, vval_head _ (by rw [hhd]; simp [hm]), HF.out])
          have h0n : (0 : Int) < (n : Int) := by omega
          clear hz0 hhd hne hc hbc
          by_cases hin : I < n
          · have hI20 : I = 20 := by omega
            subst hI20
            have q1 : (20 : Int) < (n : Int) := by omega
            go_wp2_with fail
            rw [← HS.out]
            refine (docNumber V hVi w2).mono ?_
            rintro r w3 ⟨rfl, hb3⟩
            go_wp2
            go_ret2
            exact ⟨rfl, ext_trans HB2.out.2 hb3⟩
          · have q1 : decide ((I : Int) < (n : Int)) = false := decide_eq_false (by omega)
            have q2 : ¬ (I : Int) < (n : Int) := by omega
            go_wp2_with fail
            rw [← HS.out]
            refine (docNumber V hVi w2).mono ?_
            rintro r w3 ⟨rfl, hb3⟩
            go_wp2
            go_ret2
            exact ⟨rfl, ext_trans HB2.out.2 hb3⟩
end Go.Proofs.YtcgembfdejjliaaGreatDoor
