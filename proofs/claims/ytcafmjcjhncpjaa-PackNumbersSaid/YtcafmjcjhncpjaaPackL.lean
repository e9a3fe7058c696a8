/- Layer 2's play: values are taken from both readers. -/
import Derived.Test.YtcafmjcjhncpjaaPackP
import Derived.Test.YtcafmjcjhncpjaaWithin
namespace Go.Proofs.Ytcafmjcjhncpjaa
open Go.RowKit
set_option linter.unusedVariables false

set_option maxRecDepth 100000 in
set_option maxHeartbeats 4000000 in
theorem law2play (a : Option Addr) (n cap : Nat) (xs : List Int) (ka : Option Addr) (kl kc : Nat) (kz : List Int) (w : World) (h : BAt w a xs) (hl : xs.length = n) (hs : n ≤ 140737488355328) (hw : Wb xs) (hk : IsRow .i64 w ka kl kc kz) :
    Calls Try.prog 8 #[.slice a n cap, .slice ka kl kc] w fun e w' => e = .returned (.bool true) ∧ Below w.heap.size w w' := by
  have HL := Lib.hid hl
  have HK := Lib.hid hk
  have HW := Lib.hid hw
  have HA := Lib.hid h
  have hk1 := hk.1
  have hk2 := hk.2.1
  unfold maxLen at hk2
  clear h hl hk hw
  obtain ⟨i0, hi, hz0, hz1, hz2⟩ := info_parts info_u8
  go_enter Try.func8, Try.ntmps8
  go_wp2_with fail
  refine (packNew a n cap xs _ HA.out HL.out (by omega) HW.out).mono ?_
  rintro e w1 ⟨rb, rfl, hrb, hP, B1⟩
  have P1 := Lib.hid hP
  have O0 : (w1.alloc (.cells #[] 5)).ownsRow w1.heap.size 5 1 (.slice (some ⟨w1.heap.size, 0, none⟩) 0 0) 0 (bc []) := World.ownsRow_made w1 #[] 0 (Nat.le_refl _) (by unfold maxLen; omega) rfl
  have B0 : Below w1.heap.size w1 (w1.alloc (.cells #[] 5)) := (Below.refl _ _).alloc (Nat.le_refl _) _
  have A0 := (HA.out.ext B1).ext B0
  clear hP
  go_wp2_with (at_builtin; refine wpList_append_bytes _ rfl _ _ 23 rfl (w1.heap.size) 5 i0 Try.underlying23 hi hz0 hz1 hz2 (.slice (some ⟨w1.heap.size, 0, none⟩) 0 0) (0) ([]) rfl (O0) (a) (n) (cap) (xs) rfl (A0) (HL.out) ?c3 ?c4 ?c5 ?_)
  case c3 => unfold maxLen; omega
  case c4 => omega
  case c5 => exact B0.size
  intro v2 w2 ho hgrow
  have B2 := B0.grown hgrow B0.size (fun q hq => own_ge O0 hq)
  have P2 := Lib.hid (P1.out.ext B2)
  have D2 := ext_trans B1 B2
  have hh : w2.ownsRow w1.heap.size 5 1 v2 xs.length (bc xs) := by rw [HL.out]; simpa using ho
  obtain ⟨a2, c2, rfl, hQ⟩ := own_made 43 hh HW.out
  have D3 := D2.alloc D2.size (.cells #[.slice a2 xs.length c2, .bool false] 43)
  have hb3 : Below w2.heap.size w2 (w2.alloc (.cells #[.slice a2 xs.length c2, .bool false] 43)) := (Below.refl _ _).alloc (Nat.le_refl _) _
  have P3 := Lib.hid (P2.out.ext hb3)
  have Q3 := Lib.hid hQ
  have hne := Lib.hid (P3.out.ne Q3.out (by decide))
  have hwb := D2.size
  have HA2 := Lib.hid (HK.out)
  clear hh ho hgrow O0 A0 B0 hQ P1 P2 hb3
  go_wp2_with fail
  generalize (w2.alloc (.cells #[.slice a2 xs.length c2, .bool false] 43)) = w3 at *
  generalize w2.heap.size = wb at *
  go_loopw [7] (fun i wr => ∃ (p : Nat) (s : Rs), p ≤ kl ∧ p ≤ 40 ∧ i = .int .i64 (p : Int) ∧ RdAt 46 wr rb s ∧ RdAt 43 wr wb s ∧ Below w.heap.size w wr) (fun i _ => 40 - (intOf i).toNat)
  case atStart => exact ⟨0, (xs, false), by omega, by omega, rfl, P3.out, Q3.out, D3⟩
  case round =>
    obtain ⟨w4, rfl⟩ : ∃ y : World, y = wr := ⟨_, rfl⟩
    obtain ⟨p, s, hp, hp40, rfl, hP, hQ, D4⟩ := hrel
    have P4 := Lib.hid hP
    have Q4 := Lib.hid hQ
    clear hP hQ P3 Q3 D3
    by_cases hpl : p < kl
    · by_cases hp41 : p < 40
      · obtain ⟨kb, ko, rfl, hz⟩ := HK.out.2.2.2.2.resolve_left (by omega)
        have hx := ext_cell D4 (hz p hpl)
        have hwx := bounds_i64 (getD_wf (j := p) HK.out.2.2.2.1)
        generalize kz.getD p 0 = x at hx hwx
        have hd2 : decide ((p : Int) < kl) = true := by simp; omega
        clear hz
        go_wp2_with fail
        refine (within_any _ _ _ _ (by omega) (by omega) (by omega) (by omega) (by omega)).mono ?_
        rintro e w5 ⟨rfl, rfl⟩
        have hy1 := win_lo x 0 2 (by omega)
        have hy2 := win_hi x 0 2 (by omega)
        generalize win x 0 2 = y at *
        clear hx hwx
        rcases (by omega : y = 0 ∨ y = 1 ∨ y = 2) with hy | hy | hy
        · obtain rfl : y = 0 := by omega
          go_wp2_with fail
          refine (packRInt rb s _ P4.out).mono ?_
          rintro e w5 ⟨rfl, hP, hK⟩
          have hQ := Q4.out.kept P4.out hK hne.out.symm
          have D5 := D4.trans (hK.below hrb)
          have P5 := Lib.hid hP
          have Q5 := Lib.hid hQ
          clear hP hQ hK
          go_wp2_with fail
          refine (refRInt wb s _ Q5.out).mono ?_
          rintro e w6 ⟨rfl, hQ, hK⟩
          have hP := P5.out.kept Q5.out hK hne.out
          have D6 := D5.trans (hK.below hwb)
          have HP := Lib.hid hP
          have HQ := Lib.hid hQ
          clear hP hQ hK D5
          have D5 := D6
          clear D6
          generalize (tInt s).2 = s2 at *
          generalize (tInt s).1 = z2 at *
          obtain ⟨zs, q⟩ := s2
          obtain ⟨ab, cb, hbk, -⟩ := HQ.out
          have HBk := Lib.hid hbk
          clear hbk
          go_wp2_with fail
          cases q
          all_goals
            haveI hIq : Nonempty (Of w6) := of_some _
            have hF0 := blk_of HBk.out
            refine wp_region_stay w6 (by kernel_rfl) (by kernel_rfl) (by go_grown) ?_
            repeat (go_big_quiet_step ((first | (go_at_call 21; refine stay_same (packRBad rb (zs, _) _ (HP.out.ext (In.h _)))) | (go_at_call 17; refine stay_same (packRDone rb (zs, _) _ (HP.out.ext (In.h _)))) | (go_at_call 26; refine stay_same (refRDone wb (zs, _) _ (HQ.out.ext (In.h _)))))))
            refine wpQuiet_nil ?_
            intro w6 hb
            have D6 := ext_trans D5 hb
            have P6 := Lib.hid (HP.out.ext hb)
            have Q6 := Lib.hid (HQ.out.ext hb)
            clear hIq hF0 hb
            go_wp2
            go_roundw
            case rel => exact ⟨p + 1, (zs, _), by omega, by omega, by go_num, P6.out, Q6.out, D6⟩
            case measure => simp [intOf]; omega
        · obtain rfl : y = 1 := by omega
          go_wp2_with fail
          refine (packRByte rb s _ P4.out).mono ?_
          rintro e w5 ⟨rfl, hP, hK⟩
          have hQ := Q4.out.kept P4.out hK hne.out.symm
          have D5 := D4.trans (hK.below hrb)
          have P5 := Lib.hid hP
          have Q5 := Lib.hid hQ
          clear hP hQ hK
          go_wp2_with fail
          refine (refRByte wb s _ Q5.out).mono ?_
          rintro e w6 ⟨rfl, hQ, hK⟩
          have hP := P5.out.kept Q5.out hK hne.out
          have D6 := D5.trans (hK.below hwb)
          have HP := Lib.hid hP
          have HQ := Lib.hid hQ
          clear hP hQ hK D5
          have D5 := D6
          clear D6
          generalize (tByte s).2 = s2 at *
          generalize (tByte s).1 = z2 at *
          obtain ⟨zs, q⟩ := s2
          obtain ⟨ab, cb, hbk, -⟩ := HQ.out
          have HBk := Lib.hid hbk
          clear hbk
          go_wp2_with fail
          cases q
          all_goals
            haveI hIq : Nonempty (Of w6) := of_some _
            have hF0 := blk_of HBk.out
            refine wp_region_stay w6 (by kernel_rfl) (by kernel_rfl) (by go_grown) ?_
            repeat (go_big_quiet_step ((first | (go_at_call 21; refine stay_same (packRBad rb (zs, _) _ (HP.out.ext (In.h _)))) | (go_at_call 17; refine stay_same (packRDone rb (zs, _) _ (HP.out.ext (In.h _)))) | (go_at_call 26; refine stay_same (refRDone wb (zs, _) _ (HQ.out.ext (In.h _)))))))
            refine wpQuiet_nil ?_
            intro w6 hb
            have D6 := ext_trans D5 hb
            have P6 := Lib.hid (HP.out.ext hb)
            have Q6 := Lib.hid (HQ.out.ext hb)
            clear hIq hF0 hb
            go_wp2
            go_roundw
            case rel => exact ⟨p + 1, (zs, _), by omega, by omega, by go_num, P6.out, Q6.out, D6⟩
            case measure => simp [intOf]; omega
        · obtain rfl : y = 2 := by omega
          go_wp2_with fail
          refine (packRText rb s _ P4.out).mono ?_
          rintro e w5 ⟨rfl, hP, hK⟩
          have hQ := Q4.out.kept P4.out hK hne.out.symm
          have D5 := D4.trans (hK.below hrb)
          have P5 := Lib.hid hP
          have Q5 := Lib.hid hQ
          clear hP hQ hK
          go_wp2_with fail
          refine (refRText wb s _ Q5.out).mono ?_
          rintro e w6 ⟨rfl, hQ, hK⟩
          have hP := P5.out.kept Q5.out hK hne.out
          have D6 := D5.trans (hK.below hwb)
          have HP := Lib.hid hP
          have HQ := Lib.hid hQ
          clear hP hQ hK D5
          have D5 := D6
          clear D6
          generalize (tText s).2 = s2 at *
          generalize (tText s).1 = z2 at *
          obtain ⟨zs, q⟩ := s2
          obtain ⟨ab, cb, hbk, -⟩ := HQ.out
          have HBk := Lib.hid hbk
          clear hbk
          go_wp2_with fail
          cases q
          all_goals
            haveI hIq : Nonempty (Of w6) := of_some _
            have hF0 := blk_of HBk.out
            refine wp_region_stay w6 (by kernel_rfl) (by kernel_rfl) (by go_grown) ?_
            repeat (go_big_quiet_step ((first | (go_at_call 21; refine stay_same (packRBad rb (zs, _) _ (HP.out.ext (In.h _)))) | (go_at_call 17; refine stay_same (packRDone rb (zs, _) _ (HP.out.ext (In.h _)))) | (go_at_call 26; refine stay_same (refRDone wb (zs, _) _ (HQ.out.ext (In.h _)))))))
            refine wpQuiet_nil ?_
            intro w6 hb
            have D6 := ext_trans D5 hb
            have P6 := Lib.hid (HP.out.ext hb)
            have Q6 := Lib.hid (HQ.out.ext hb)
            clear hIq hF0 hb
            go_wp2
            go_roundw
            case rel => exact ⟨p + 1, (zs, _), by omega, by omega, by go_num, P6.out, Q6.out, D6⟩
            case measure => simp [intOf]; omega
      · obtain rfl : p = 40 := by omega
        have hd2 : decide (((40 : Nat) : Int) < kl) = true := by simp; omega
        obtain ⟨zs, q⟩ := s
        obtain ⟨ab, cb, hbk, -⟩ := Q4.out
        have HBk := Lib.hid hbk
        clear hbk
        cases q
        all_goals
          go_wp2_with fail
          haveI hIq : Nonempty (Of w4) := of_some _
          have hF0 := blk_of HBk.out
          refine wp_region_stay w4 (by kernel_rfl) (by kernel_rfl) (by go_grown) ?_
          repeat (go_big_quiet_step ((first | (go_at_call 21; refine stay_same (packRBad rb (zs, _) _ (P4.out.ext (In.h _)))) | (go_at_call 17; refine stay_same (packRDone rb (zs, _) _ (P4.out.ext (In.h _)))) | (go_at_call 26; refine stay_same (refRDone wb (zs, _) _ (Q4.out.ext (In.h _)))))))
          refine wpQuiet_nil ?_
          intro w6 hb
          have D6 := ext_trans D4 hb
          go_wp2
          go_ret
          exact ⟨by simp, D6⟩
    · obtain rfl : p = kl := by omega
      obtain ⟨zs, q⟩ := s
      obtain ⟨ab, cb, hbk, -⟩ := Q4.out
      have HBk := Lib.hid hbk
      clear hbk
      cases q
      all_goals
        go_wp2_with fail
        haveI hIq : Nonempty (Of w4) := of_some _
        have hF0 := blk_of HBk.out
        refine wp_region_stay w4 (by kernel_rfl) (by kernel_rfl) (by go_grown) ?_
        repeat (go_big_quiet_step ((first | (go_at_call 21; refine stay_same (packRBad rb (zs, _) _ (P4.out.ext (In.h _)))) | (go_at_call 17; refine stay_same (packRDone rb (zs, _) _ (P4.out.ext (In.h _)))) | (go_at_call 26; refine stay_same (refRDone wb (zs, _) _ (Q4.out.ext (In.h _)))))))
        refine wpQuiet_nil ?_
        intro w6 hb
        have D6 := ext_trans D4 hb
        go_wp2
        go_ret
        exact ⟨by simp, D6⟩

end Go.Proofs.Ytcafmjcjhncpjaa
