/- Package queue's walks: cards are taken; what is left is a view of the elder row. -/
import Derived.Test.YtmpkkkcoiljhpaaQueueT
namespace Go.Proofs.Ytmpkkkcoiljhpaa
open Go.RowKit
set_option linter.unusedVariables false

set_option maxRecDepth 100000 in
set_option maxHeartbeats 1000000 in
theorem queueTake2 (qb np i : Nat) (sl : List (Int × Value)) (lost k p : Int) (v : Value) (cs : List Cd) (w : World) (h : QB w qb np sl lost) (h6 : sl.length = 6) (hn : np ≤ 6) (hv : ∀ x ∈ sl, ∃ a n c, x.2 = .slice a n c) (hix : ixP k 0 (sl.take np) = (i : Int)) (hi : sl[i]? = some (p, v)) (hs : SlC w v cs) (hl : cs.length ≤ 1000) :
    Calls Try.prog 14 #[.pointer (some ⟨qb, 0, none⟩), .int .i64 k] w fun e w' => ∃ t v', e = .returned t ∧ OwnC w.heap.size w' t (cs.take 4) ∧ QB w' qb np (sl.set i (p, v')) lost ∧ SlC w' v' (cs.drop 4) ∧ Rim qb w w' ∧ ∀ W, SlC W v cs → SlC W v' (cs.drop 4) := by
  obtain ⟨a, c, rfl, hnc, hcm, hat, hfm⟩ := hs
  have hi6 : i < 6 := by
    rcases Nat.lt_or_ge i 6 with h' | h'
    · exact h'
    · rw [List.getElem?_eq_none (by omega)] at hi; cases hi
  have HB := Lib.hid h
  have H6 := Lib.hid h6
  have HV := Lib.hid hv
  have HIX := Lib.hid hix
  have HI := Lib.hid hi
  have HA := Lib.hid hat
  have hiI : (i : Int) < 6 := by omega
  obtain ⟨m, hm⟩ : ∃ m, cs.length = m := ⟨_, rfl⟩
  have HM := Lib.hid hm
  rw [hm] at HI hnc
  have hlt := h.lt
  unfold maxLen at hcm
  clear h h6 hv hix hi hm hat
  go_enter Try.func14, Try.ntmps14
  go_wp2_with fail
  refine (queueFind qb np sl lost k _ HB.out H6.out hn HV.out).mono ?_
  rintro e w1 ⟨rfl, hb⟩
  rw [HIX.out]
  have HB1 := Lib.hid (HB.out.ext hb)
  have HA1 := Lib.hid (HA.out.ext hb)
  have D1 := hb
  have hc1 : w1.cell? ⟨qb, 1 + i * 2 + 1, none⟩ = some (.slice a m c) := HB1.out.cv HI.out
  have hlq := HB1.out.lt
  clear hb HB HA
  go_upto_region 6 with (fail)
  obtain ⟨N, hN, hN1, hN2, hN3⟩ : ∃ N : Nat, min (m : Int) 4 = (N : Int) ∧ N ≤ m ∧ N ≤ 4 ∧ (N = m ∨ N = 4) := ⟨min m 4, by omega, by omega, by omega, by omega⟩
  rw [hN]
  have HT4 := Lib.hid (show cs.take N = cs.take 4 by
    rcases hN3 with h | h
    · rw [List.take_of_length_le (by have := HM.out; omega), List.take_of_length_le (by have := HM.out; omega)]
    · rw [h])
  have HD4 := Lib.hid (show cs.drop N = cs.drop 4 by
    rcases hN3 with h | h
    · rw [List.drop_of_length_le (by have := HM.out; omega), List.drop_of_length_le (by have := HM.out; omega)]
    · rw [h])
  have HTL := Lib.hid (show (cs.take N).length = N by rw [List.length_take]; have := HM.out; omega)
  have HDL := Lib.hid (show (cs.drop N).length = m - N by rw [List.length_drop]; have := HM.out; omega)
  have hl' := hl
  rw [HM.out] at hl'
  clear hN hN3 hl
  rcases hfm with ⟨rfl, rfl⟩ | ⟨b, o, rfl⟩
  · obtain rfl : m = 0 := by omega
    obtain rfl : N = 0 := by omega
    go_wp2_with fail
    refine (cloneC none 0 0 (cs.take 0) _ (HA1.out.take 0) HTL.out (by omega) (.inl ⟨rfl, rfl⟩)).mono ?_
    rintro e w2 ⟨t, rfl, ho2, hb2⟩
    have D2 := ext_trans D1 hb2
    have HB2 := Lib.hid (HB1.out.ext hb2)
    have HA2 := Lib.hid (HA1.out.ext hb2)
    have HO2 := Lib.hid (ho2.base D1.size)
    have hc2 : w2.cell? ⟨qb, 1 + i * 2 + 1, none⟩ = some (.slice none 0 0) := HB2.out.cv HI.out
    have hf2 := blk_free HB2.out.blk
    have hl2 := HB2.out.lt
    clear ho2 hb2 hc1 hlq HB1 HA1
    go_upto_region 8 with (fail)
    have hk := (Kept.refl qb w2).setCell (1 + i * 2 + 1) (.slice none 0 0)
    have HB3 := Lib.hid (show QB (w2.setCell ⟨qb, 1 + i * 2 + 1, none⟩ (.slice none 0 0)) qb np (sl.set i (p, .slice none 0 0)) lost from HB2.out.setv HI.out _)
    have HS3 := Lib.hid (HB2.out.slc (Rim.kept hk) (show SlC w2 (.slice none 0 0) (cs.drop 0) from ⟨none, 0, by rw [HDL.out], by rw [HDL.out]; omega, by unfold maxLen; omega, .inl (List.eq_nil_of_length_eq_zero (by rw [HDL.out])), .inl ⟨rfl, rfl⟩⟩))
    have HO3 := Lib.hid (show OwnC w.heap.size (w2.setCell ⟨qb, 1 + i * 2 + 1, none⟩ (.slice none 0 0)) t (cs.take 0) from HB2.out.own (Rim.kept hk) (by decide) HO2.out)
    have R3 := Lib.hid ((Rim.of (b := qb) D2).trans (Rim.kept hk))
    clear hk
    go_wp2
    go_ret
    exact ⟨_, _, rfl, by rw [← HT4.out]; exact HO3.out, HB3.out, by rw [← HD4.out]; exact HS3.out, R3.out, fun W hW => by rw [← HD4.out]; exact ⟨none, 0, by rw [HDL.out], by rw [HDL.out]; omega, by unfold maxLen; omega, .inl (List.eq_nil_of_length_eq_zero (by rw [HDL.out])), .inl ⟨rfl, rfl⟩⟩⟩
  · rcases Classical.propComplete (c = N) with hce | hce
    · go_wp2_with fail
      refine (cloneC (some ⟨b, o, none⟩) N c (cs.take N) _ (HA1.out.take N) HTL.out (by omega) (.inr ⟨b, o, rfl⟩)).mono ?_
      rintro e w2 ⟨t, rfl, ho2, hb2⟩
      have D2 := ext_trans D1 hb2
      have HB2 := Lib.hid (HB1.out.ext hb2)
      have HA2 := Lib.hid (HA1.out.ext hb2)
      have HO2 := Lib.hid (ho2.base D1.size)
      have hc2 : w2.cell? ⟨qb, 1 + i * 2 + 1, none⟩ = some (.slice (some ⟨b, o, none⟩) m c) := HB2.out.cv HI.out
      have hf2 := blk_free HB2.out.blk
      have hl2 := HB2.out.lt
      clear ho2 hb2 hc1 hlq HB1 HA1
      go_upto_region 8 with (fail)
      have hk := (Kept.refl qb w2).setCell (1 + i * 2 + 1) (.slice (some ⟨b, o, none⟩) (m - N) (c - N))
      have HB3 := Lib.hid (show QB (w2.setCell ⟨qb, 1 + i * 2 + 1, none⟩ (.slice (some ⟨b, o, none⟩) (m - N) (c - N))) qb np (sl.set i (p, .slice (some ⟨b, o, none⟩) (m - N) (c - N))) lost from HB2.out.setv HI.out _)
      have HS3 := Lib.hid (HB2.out.slc (Rim.kept hk) (show SlC w2 (.slice (some ⟨b, o, none⟩) (m - N) (c - N)) (cs.drop N) from ⟨_, c - N, by rw [HDL.out], by rw [HDL.out]; omega, by unfold maxLen; omega, .inl (List.eq_nil_of_length_eq_zero (by rw [HDL.out]; have := of_eq_true hce; omega)), .inr ⟨b, o, rfl⟩⟩))
      have HO3 := Lib.hid (show OwnC w.heap.size (w2.setCell ⟨qb, 1 + i * 2 + 1, none⟩ (.slice (some ⟨b, o, none⟩) (m - N) (c - N))) t (cs.take N) from HB2.out.own (Rim.kept hk) (by decide) HO2.out)
      have R3 := Lib.hid ((Rim.of (b := qb) D2).trans (Rim.kept hk))
      clear hk
      go_wp2
      go_ret
      exact ⟨_, _, rfl, by rw [← HT4.out]; exact HO3.out, HB3.out, by rw [← HD4.out]; exact HS3.out, R3.out, fun W hW => by rw [← HD4.out]; exact ⟨_, c - N, by rw [HDL.out], by rw [HDL.out]; omega, by unfold maxLen; omega, .inl (List.eq_nil_of_length_eq_zero (by rw [HDL.out]; have := of_eq_true hce; omega)), .inr ⟨b, o, rfl⟩⟩⟩
    · go_wp2_with fail
      refine (cloneC (some ⟨b, o, none⟩) N c (cs.take N) _ (HA1.out.take N) HTL.out (by omega) (.inr ⟨b, o, rfl⟩)).mono ?_
      rintro e w2 ⟨t, rfl, ho2, hb2⟩
      have D2 := ext_trans D1 hb2
      have HB2 := Lib.hid (HB1.out.ext hb2)
      have HA2 := Lib.hid (HA1.out.ext hb2)
      have HO2 := Lib.hid (ho2.base D1.size)
      have hc2 : w2.cell? ⟨qb, 1 + i * 2 + 1, none⟩ = some (.slice (some ⟨b, o, none⟩) m c) := HB2.out.cv HI.out
      have hf2 := blk_free HB2.out.blk
      have hl2 := HB2.out.lt
      clear ho2 hb2 hc1 hlq HB1 HA1
      go_upto_region 8 with (fail)
      have hk := (Kept.refl qb w2).setCell (1 + i * 2 + 1) (.slice (some ⟨b, o + N * 9, none⟩) (m - N) (c - N))
      have HB3 := Lib.hid (show QB (w2.setCell ⟨qb, 1 + i * 2 + 1, none⟩ (.slice (some ⟨b, o + N * 9, none⟩) (m - N) (c - N))) qb np (sl.set i (p, .slice (some ⟨b, o + N * 9, none⟩) (m - N) (c - N))) lost from HB2.out.setv HI.out _)
      have HS3 := Lib.hid (HB2.out.slc (Rim.kept hk) (show SlC w2 (.slice (some ⟨b, o + N * 9, none⟩) (m - N) (c - N)) (cs.drop N) from ⟨_, c - N, by rw [HDL.out], by rw [HDL.out]; omega, by unfold maxLen; omega, HA2.out.drop N, .inr ⟨b, o + N * 9, rfl⟩⟩))
      have HO3 := Lib.hid (show OwnC w.heap.size (w2.setCell ⟨qb, 1 + i * 2 + 1, none⟩ (.slice (some ⟨b, o + N * 9, none⟩) (m - N) (c - N))) t (cs.take N) from HB2.out.own (Rim.kept hk) (by decide) HO2.out)
      have R3 := Lib.hid ((Rim.of (b := qb) D2).trans (Rim.kept hk))
      clear hk
      go_wp2
      go_ret
      exact ⟨_, _, rfl, by rw [← HT4.out]; exact HO3.out, HB3.out, by rw [← HD4.out]; exact HS3.out, R3.out, fun W hW => by rw [← HD4.out]; exact (by obtain ⟨a9, c9, e9, -, -, hw9, -⟩ := hW; rw [HM.out] at e9; simp only [Value.slice.injEq] at e9; obtain ⟨rfl, -, rfl⟩ := e9; exact ⟨_, c - N, by rw [HDL.out], by rw [HDL.out]; omega, by unfold maxLen; omega, hw9.drop N, .inr ⟨b, o + N * 9, rfl⟩⟩)⟩

end Go.Proofs.Ytmpkkkcoiljhpaa
