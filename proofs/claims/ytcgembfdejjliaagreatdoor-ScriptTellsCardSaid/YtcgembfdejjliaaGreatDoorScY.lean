/- The document's own line: plain, words. -/
import Derived.Test.YtcgembfdejjliaaGreatDoorScT
import Derived.Test.YtcgembfdejjliaaGreatDoorFauI
import Derived.PlainAid
namespace Go.Proofs.YtcgembfdejjliaaGreatDoor
open Go.RowKit
open Go.PlainAid (bt get_bt bt_le bt_nonneg)
set_option linter.unusedVariables false
set_option linter.unusedSimpArgs false

theorem bt_at (s : ByteArray) (k : Nat) (h : k < s.size) : ∃ c, s.data.toList[k]? = some c ∧ bt s k = (c.toNat : Int) := by
  have h2 : k < s.data.toList.length := h
  refine ⟨s.data.toList[k], List.getElem?_eq_getElem h2, ?_⟩
  rw [← get_bt s k h]
  rfl
theorem bt_of (s : ByteArray) (k : Nat) (c : UInt8) (h : s.data.toList[k]? = some c) : bt s k = (c.toNat : Int) := by
  have h2 := (List.getElem?_eq_some_iff.1 h).1
  obtain ⟨d, h3, h4⟩ := bt_at s k h2
  rw [h3] at h
  obtain rfl := Option.some.inj h
  exact h4
theorem ib_in : ∀ (l : List UInt8) (c : UInt8), (0 ≤ Lib.indexByte l c) ↔ c ∈ l
  | [], c => by simp [Lib.indexByte]
  | b :: l, c => by
    have ih := ib_in l c
    have hge : -1 ≤ Lib.indexByte l c := by rw [← Lib.index_one]; exact Lib.index_ge _ _
    rw [← Lib.index_one] at ih hge ⊢
    unfold Lib.index
    by_cases h : c = b
    · subst h; simp
    · have h0 : ([c] : List UInt8).isPrefixOf (b :: l) = false := by simp [List.isPrefixOf, h]
      rw [h0]
      by_cases h2 : Lib.index l [c] = -1
      · rw [if_neg (by simp), if_pos (by simpa using h2)]
        rw [h2] at ih
        have h3 : ¬ c ∈ l := fun e => by have := ih.2 e; omega
        simp [h, h3]
      · rw [if_neg (by simp), if_neg (by simpa using h2)]
        have h3 : c ∈ l := ih.1 (by omega)
        simp [h3]; omega

set_option maxRecDepth 100000 in
set_option maxHeartbeats 1000000 in
theorem plainP (s : ByteArray) (hs : s.size ≤ maxLen) (w : World) :
    Calls Tryz.prog 17 #[.string s] w fun r w' => r = .returned (.bool (!decide (0 ≤ Lib.indexByte s.data.toList 10))) ∧ Below w.heap.size w w' := by
  obtain ⟨R, hR⟩ : ∃ R, (!decide (0 ≤ Lib.indexByte s.data.toList 10)) = R := ⟨_, rfl⟩
  have HR := Lib.hid (show R = !decide ((10 : UInt8) ∈ s.data.toList) from by rw [← hR]; congr 1; exact decide_eq_decide.2 (ib_in _ _))
  rw [hR]
  clear hR
  obtain ⟨n, hn⟩ : ∃ n, s.size = n := ⟨_, rfl⟩
  have HN := Lib.hid hn
  rw [hn] at hs
  unfold maxLen at hs
  have hb := get_bt s
  go_enter Tryz.func17, Tryz.ntmps17
  go_wp2_with fail
  go_loopw [3] (fun j wr => ∃ J : Nat, J ≤ n ∧ j = .int .i64 (J : Int) ∧ (∀ k c, k < J → s.data.toList[k]? = some c → c ≠ 10) ∧ Below w.heap.size w wr) (fun j _ => n - (intOf j).toNat)
  case atStart => exact ⟨0, by omega, rfl, fun k c h => by omega, Below.refl _ _⟩
  case round =>
    obtain ⟨w2, rfl⟩ : ∃ y : World, y = wr := ⟨_, rfl⟩
    obtain ⟨J, hJ, rfl, hal, hb2⟩ := hrel
    have HB2 := Lib.hid (show _ ∧ _ from ⟨hal, hb2⟩)
    clear hb2 hal
    by_cases hlt : J < n
    · have hlt2 : (J : Int) < (n : Int) := by omega
      obtain ⟨c, hc, hbc⟩ := bt_at s J (by omega)
      have HC := Lib.hid (show _ ∧ _ from ⟨hc, hbc⟩)
      clear hc hbc
      by_cases h10 : c = 10
      · have ht : (bt s J == 10) = true := by rw [HC.out.2, h10]; rfl
        go_wp2
        go_ret
        refine ⟨?_, HB2.out.2⟩
        rw [HR.out, ← h10]
        have := List.mem_of_getElem? HC.out.1
        simp [this]
      · have ht : (bt s J == 10) = false := by
          rw [HC.out.2]
          have h2 : c.toNat ≠ 10 := fun e => h10 (UInt8.toNat_inj.1 e)
          simp; omega
        go_wp2
        go_roundw
        case rel =>
          refine ⟨J + 1, by omega, by go_num, fun k d hk hd => ?_, HB2.out.2⟩
          by_cases hkJ : k = J
          · subst hkJ
            rw [HC.out.1] at hd
            obtain rfl := Option.some.inj hd
            exact h10
          · exact HB2.out.1 k d (by omega) hd
        case measure => simp [intOf]; omega
    · obtain rfl : J = n := by omega
      have hlt2 : decide ((J : Int) < (J : Int)) = false := by simp
      go_wp2
      go_ret
      refine ⟨?_, HB2.out.2⟩
      rw [HR.out]
      have h3 : ¬ (10 : UInt8) ∈ s.data.toList := fun h => by
        obtain ⟨k, hk⟩ := List.mem_iff_getElem?.1 h
        have hk2 := (List.getElem?_eq_some_iff.1 hk).1
        exact HB2.out.1 k 10 (by have : s.data.toList.length = s.size := rfl; have := HN.out; omega) hk rfl
      simp [h3]

set_option maxRecDepth 100000 in
set_option maxHeartbeats 2000000 in
theorem wordsP (s : ByteArray) (hs : s.size ≤ 1048576) (w : World) :
    Calls Tryz.prog 35 #[.string s] w fun r w' => ∃ v, r = .returned v ∧ OwnT w.heap.size w' v (wsB s) ∧ Below w.heap.size w w' := by
  obtain ⟨i0, hi, hz0, hz1, hz2⟩ := info_parts2 info_str2
  obtain ⟨n, hn⟩ : ∃ n, s.size = n := ⟨_, rfl⟩
  have HN := Lib.hid hn
  rw [hn] at hs
  have hb := get_bt s
  go_enter Tryz.func35, Tryz.ntmps35
  go_wp2_with fail
  go_loopw [3, 4, 5] (fun l a j wr => ∃ (A J : Nat) (P : List ByteArray), A ≤ J ∧ J ≤ n ∧ a = .int .i64 (A : Int) ∧ j = .int .i64 (J : Int) ∧ (∀ k c, A ≤ k → k < J → s.data.toList[k]? = some c → c ≠ 32) ∧ P.map (·.data.toList) ++ ws (s.data.toList.drop A) = ws s.data.toList ∧ P.length ≤ J ∧ OwnT w.heap.size wr l P ∧ Below w.heap.size w wr) (fun _ _ j _ => n - (intOf j).toNat)
  case atStart => exact ⟨0, 0, [], by omega, by omega, rfl, rfl, fun k c h h2 => by omega, by simp, by simp, OwnR.nil _ _, Below.refl _ _⟩
  case round =>
    obtain ⟨w2, rfl⟩ : ∃ y : World, y = wr := ⟨_, rfl⟩
    obtain ⟨A, J, P, hAJ, hJ, rfl, rfl, hal, hws, hPJ, ho, hb2⟩ := hrel
    obtain ⟨ga, gc, rfl, hgc, hgm, -⟩ := OwnR.form ho
    have HB2 := Lib.hid (show _ ∧ _ ∧ _ ∧ _ from ⟨hal, hws, ho, hb2⟩)
    obtain ⟨m, hm⟩ : ∃ m, P.length = m := ⟨_, rfl⟩
    have HM := Lib.hid hm
    rw [hm] at hPJ hgc ⊢
    unfold maxLen at hgm
    have Z2 := hb2.size
    clear hb2 hal hws ho hm
    have hseg : ∀ E, E ≤ n → (∀ k c, A ≤ k → k < E → s.data.toList[k]? = some c → c ≠ 32) → ∀ c ∈ (s.data.toList.drop A).take (E - A), c ≠ 32 := fun E hE h c hc => by
      obtain ⟨k, hk⟩ := List.mem_iff_getElem?.1 hc
      rw [List.getElem?_take] at hk
      split at hk
      · rw [List.getElem?_drop] at hk
        exact h (A + k) c (by omega) (by omega) hk
      · cases hk
    have HS := Lib.hid hseg
    clear hseg
    by_cases hlt : J < n
    · have hlt2 : (J : Int) < (n : Int) := by omega
      obtain ⟨c, hc, hbc⟩ := bt_at s J (by have := HN.out; omega)
      have HC := Lib.hid (show _ ∧ _ from ⟨hc, hbc⟩)
      clear hc hbc
      by_cases h32 : c = 32
      · have ht : (bt s J == 32) = true := by rw [HC.out.2, h32]; rfl
        have HO := Lib.hid (show w2.ownsRow w.heap.size 9 1 (.slice ga m gc) m (flat eb P) from by have := HB2.out.2.2.1; unfold OwnT OwnR at this; rw [HM.out] at this; exact this)
        obtain ⟨q, hq⟩ : ∃ q, s.extract A J = q := ⟨_, rfl⟩
        have HQ := Lib.hid hq
        have hAJi : (A : Int) ≤ (J : Int) := by omega
        have hJni : (J : Int) ≤ (n : Int) := by omega
        have hsl : ∀ y : World, (Instr.slice 9 (.string s) (some (.int .i64 (A : Int))) (some (.int .i64 (J : Int))) none).run Tryz.prog y = .ok (.string q) y := fun y => by
          rw [run_slice_string y 9 s .i64 .i64 (A : Int) (J : Int) Tryz.underlying9 (by omega) (by omega) (by omega)]
          rw [← HQ.out]
          simp
        clear hq
        go_wp2_with (at_builtin; refine wpList_append_own _ rfl _ _ 22 rfl (w.heap.size) 9 i0 (.string ⟨#[]⟩) 1 16 Tryz.underlying22 hi hz0 hz1 hz2 rfl (by decide) _ m (flat eb P) rfl (HO.out.alloc (.cells #[.string q] 9)) ⟨w2.heap.size, 0, none⟩ 1 1 (eb q) rfl rfl ?c1 ?c2 ?c3 ?c4 ?c5 ?_)
        case c1 =>
          intro j u hj
          rw [add_off, blk_cell (blk_new _ _ _)]
          simpa [eb] using hj
        case c2 => intro u hu; simp only [eb, List.mem_cons, List.not_mem_nil, or_false] at hu; subst hu; rfl
        case c3 => unfold maxLen; omega
        case c4 => omega
        case c5 => first | (simp; omega) | omega
        intro v7 w7 ho7 hg7 _
        have HB7 := Lib.hid ((HB2.out.2.2.2.alloc Z2 (.cells #[.string q] 9)).grown hg7 (by simp; omega) (fun q hq => own_ge HO.out hq))
        have HO7 := Lib.hid (show OwnT w.heap.size w7 v7 (P ++ [q]) by unfold OwnT OwnR; rw [flat_snoc, List.length_append, HM.out]; exact ho7)
        clear ho7 hg7 HO
        go_wp2
        go_roundw
        case rel =>
          refine ⟨J + 1, J + 1, P ++ [q], by omega, by omega, by go_num, by go_num, fun k d h1 h2 => by omega, ?_, by rw [List.length_append, HM.out]; simp; omega, HO7.out, HB7.out⟩
          have hd : s.data.toList.drop A = (s.data.toList.drop A).take (J - A) ++ 32 :: s.data.toList.drop (J + 1) := by
            conv => lhs; rw [← List.take_append_drop (J - A) (s.data.toList.drop A)]
            rw [List.drop_drop, show A + (J - A) = J by omega]
            obtain ⟨h1, h2⟩ := List.getElem?_eq_some_iff.1 HC.out.1
            rw [List.drop_eq_getElem_cons h1, h2, h32]
          have hqd : q.data.toList = (s.data.toList.drop A).take (J - A) := by
            rw [← HQ.out]
            simp [ByteArray.data_extract, Array.toList_extract, List.extract_eq_take_drop]
          rw [List.map_append, List.append_assoc, ← HB2.out.2.1]
          congr 1
          conv => rhs; rw [hd]
          rw [ws_hit _ _ (HS.out J (by omega) HB2.out.1), ← hqd]
          rfl
        case measure => simp [intOf]; omega
      · have ht : (bt s J == 32) = false := by
          rw [HC.out.2]
          have h2 : c.toNat ≠ 32 := fun e => h32 (UInt8.toNat_inj.1 e)
          simp; omega
        go_wp2
        go_roundw
        case rel =>
          refine ⟨A, J + 1, P, by omega, by omega, rfl, by go_num, fun k d hk hk2 hd => ?_, HB2.out.2.1, by have := HM.out; omega, by have := HB2.out.2.2.1; rw [HM.out] at this; exact this, HB2.out.2.2.2⟩
          by_cases hkJ : k = J
          · subst hkJ
            rw [HC.out.1] at hd
            obtain rfl := Option.some.inj hd
            exact h32
          · exact HB2.out.1 k d hk (by omega) hd
        case measure => simp [intOf]; omega
    · obtain rfl : J = n := by omega
      have hlt2 : decide ((J : Int) < (J : Int)) = false := by simp
      have HO := Lib.hid (show w2.ownsRow w.heap.size 9 1 (.slice ga m gc) m (flat eb P) from by have := HB2.out.2.2.1; unfold OwnT OwnR at this; rw [HM.out] at this; exact this)
      obtain ⟨q, hq⟩ : ∃ q, s.extract A s.size = q := ⟨_, rfl⟩
      have HQ := Lib.hid hq
      have hAi : (A : Int) ≤ (s.size : Int) := by omega
      have hsl : ∀ y : World, (Instr.slice 9 (.string s) (some (.int .i64 (A : Int))) none none).run Tryz.prog y = .ok (.string q) y := fun y => by
        rw [run_slice_string_l y 9 s Tryz.underlying9 .i64 (A : Int) (by omega) hAi]
        rw [← HQ.out]
        simp
      clear hq hAi
      go_wp2_with (at_builtin; refine wpList_append_own _ rfl _ _ 22 rfl (w.heap.size) 9 i0 (.string ⟨#[]⟩) 1 16 Tryz.underlying22 hi hz0 hz1 hz2 rfl (by decide) _ m (flat eb P) rfl (HO.out.alloc (.cells #[.string q] 9)) ⟨w2.heap.size, 0, none⟩ 1 1 (eb q) rfl rfl ?c1 ?c2 ?c3 ?c4 ?c5 ?_)
      case c1 =>
        intro j u hj
        rw [add_off, blk_cell (blk_new _ _ _)]
        simpa [eb] using hj
      case c2 => intro u hu; simp only [eb, List.mem_cons, List.not_mem_nil, or_false] at hu; subst hu; rfl
      case c3 => unfold maxLen; omega
      case c4 => omega
      case c5 => first | (simp; omega) | omega
      intro v7 w7 ho7 hg7 _
      have HB7 := Lib.hid ((HB2.out.2.2.2.alloc Z2 (.cells #[.string q] 9)).grown hg7 (by simp; omega) (fun q hq => own_ge HO.out hq))
      have HO7 := Lib.hid (show OwnT w.heap.size w7 v7 (P ++ [q]) by unfold OwnT OwnR; rw [flat_snoc, List.length_append, HM.out]; exact ho7)
      clear ho7 hg7 HO
      have hpw : P ++ [q] = wsB s := by
        have hqd : q.data.toList = s.data.toList.drop A := by
          rw [← HQ.out]
          exact Lib.extract_to_end _ _
        have h1 := HB2.out.2.1
        have h2 : ws (s.data.toList.drop A) = [s.data.toList.drop A] := ws_end _ fun c hc => by
          obtain ⟨k, hk⟩ := List.mem_iff_getElem?.1 hc
          rw [List.getElem?_drop] at hk
          have hk2 := (List.getElem?_eq_some_iff.1 hk).1
          exact HB2.out.1 (A + k) c (by omega) (by have : s.data.toList.length = s.size := rfl; have := HN.out; omega) hk
        rw [h2] at h1
        unfold wsB
        rw [← unmap (l := P ++ [q]) (m := ws s.data.toList) (by rw [List.map_append, ← h1, ← hqd]; rfl)]
      rw [hpw] at HO7
      go_wp2
      go_ret
      exact ⟨_, rfl, HO7.out, HB7.out⟩
end Go.Proofs.YtcgembfdejjliaaGreatDoor
