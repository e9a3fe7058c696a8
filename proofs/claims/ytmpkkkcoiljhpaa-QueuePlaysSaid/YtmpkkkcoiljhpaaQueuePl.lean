/- 'QueuePlays': the walk. -/
import Derived.Test.YtmpkkkcoiljhpaaQueueNu
namespace Go.Proofs.Ytmpkkkcoiljhpaa
open Go.RowKit
set_option linter.unusedVariables false

set_option maxRecDepth 100000 in
set_option maxHeartbeats 2000000 in
theorem queuePlays_walk (a0 : Option Addr) (l0 c0 : Nat) (z0 : List Int) (a1 : Option Addr) (l1 c1 : Nat) (z1 : List Int) (a2 : Option Addr) (l2 c2 : Nat) (z2 : List Cd) (w : World) (w0 : IsRow .i64 w a0 l0 c0 z0) (wr0 : l0 * 8 ≤ 140737488351232) (w1 : IsRow .i64 w a1 l1 c1 z1) (wr1 : l1 * 8 ≤ 140737488351232) (wn2 : z2.length = l2) (wl2 : l2 ≤ c2) (wm2 : c2 ≤ maxLen) (w2 : RAt w a2 z2) :
    Calls Try.prog 4 #[.slice a0 l0 c0, .slice a1 l1 c1, .slice a2 l2 c2] w fun e w' => e = .returned (.bool true) ∧ Below w.heap.size w w' := by
  obtain ⟨i0, hi, hz0, hz1, hz2⟩ := info_parts info_int
  have H0 := Lib.hid w0
  have H1 := Lib.hid w1
  have H2 := Lib.hid w2
  have HN2 := Lib.hid wn2
  have HM2 := Lib.hid wm2
  have hl0 : z0.length = l0 := w0.2.2.1
  have hc0 := w0.1
  have hm0 := w0.2.1
  have HZ0 := Lib.hid hl0
  have HM0 := Lib.hid hm0
  have HWF := Lib.hid w0.2.2.2.1
  unfold maxLen at hm0 wm2
  clear w0 w1 w2 wn2 hl0
  go_enter Try.func4, Try.ntmps4
  go_wp2_with fail
  go_loopw [7, 11] (fun v i wr => ∃ (j : Nat) (xs : List Int), j ≤ l0 ∧ i = .int .i64 j ∧ xs.length = j ∧ wr.ownsRow w.heap.size 3 1 v j (ic xs) ∧ Below w.heap.size w wr) (fun _ i _ => l0 - (intOf i).toNat)
  case atStart => exact ⟨0, [], by omega, rfl, rfl, World.ownsRow_nil _ _ _ _, Below.refl _ _⟩
  case round =>
    obtain ⟨w3, rfl⟩ : ∃ y : World, y = wr := ⟨_, rfl⟩
    obtain ⟨j, xs, hj, rfl, hxl, hown, B3⟩ := hrel
    have HX := Lib.hid hxl
    have HO := Lib.hid hown
    have HB := Lib.hid B3
    clear hxl hown B3
    by_cases hlj : j < l0
    · obtain ⟨z, hz⟩ : ∃ z, z0[j]? = some z := ⟨_, List.getElem?_eq_getElem (by have := HZ0.out; omega)⟩
      obtain ⟨b, o, rfl, hcz⟩ : ∃ b o, a0 = some ⟨b, o, none⟩ ∧ w3.cell? ⟨b, o + j, none⟩ = some (.int .i64 z) := by
        rcases nat_row H0.out with h | ⟨b, o, e, h⟩
        · rw [h] at hz; simp at hz
        · exact ⟨b, o, e, ext_cell HB.out (h j z hz)⟩
      have hbz := bounds_i64 (HWF.out z (List.mem_of_getElem? hz))
      clear hz
      obtain ⟨va, vc, -, -, -, -, -⟩ := own_ints HO.out
      go_wp2_with fail
      refine (within_any z 0 6 _ (by omega) (by omega) (by omega) (by omega) (by omega)).mono ?_
      rintro e w4 ⟨rfl, rfl⟩
      obtain ⟨q, hq⟩ : ∃ q, win z 0 6 = q := ⟨_, rfl⟩
      rw [hq]
      clear hq hcz
      have Z3 := HB.out.size
      go_wp2_with (first | (at_builtin; refine wpList_append_own _ rfl _ _ 22 rfl (w.heap.size) 3 i0 (.int .i64 0) 1 8 Try.underlying22 hi hz0 hz1 hz2 rfl (by decide) _ _ _ rfl (HO.out.alloc _) ⟨w3.heap.size, 0, none⟩ 1 1 [.int .i64 q] rfl rfl ?c1 ?c2 ?c3 ?c4 ?c5 ?_))
      case c1 =>
        intro j' u hj'
        match j', hj' with
        | 0, hj' => simp at hj'; subst hj'; simp [Addr.add, go_sem]
      case c2 => intro u hu; simp at hu; subst hu; rfl
      case c3 => unfold maxLen; omega
      case c4 => omega
      case c5 => simp; omega
      intro v' w5 hown' hgrow _
      have B5 := Lib.hid ((HB.out.alloc Z3 _).grown hgrow (by simp; omega) (fun q hq => own_ge HO.out hq))
      have O5 := Lib.hid (show w5.ownsRow w.heap.size 3 1 v' (j + 1) (ic (xs ++ [q])) from by simpa [ic] using hown')
      clear hown' hgrow
      go_wp2
      go_roundw
      case rel => exact ⟨j + 1, xs ++ [q], by omega, by go_num, by simp [HX.out], O5.out, B5.out⟩
      case measure => simp [intOf]; omega
    · obtain rfl : j = l0 := by omega
      obtain ⟨va, vc, rfl, -, hvc, hvm, hva⟩ := own_ints HO.out
      have HVA := Lib.hid hva
      have HVM := Lib.hid hvm
      clear hva
      have key : ∀ (L : Nat) (zs : List Int), zs.length = L → NAt w a0 zs → L ≤ c0 → ∀ (K : World → Prop), True := fun _ _ _ _ _ _ => trivial
      clear key
      by_cases h12 : 12 < j
      · have hd : decide (12 < (j : Int)) = true := by simp; omega
        obtain ⟨P, hP⟩ : ∃ P, z0.take 12 = P := ⟨_, rfl⟩
        have HPL := Lib.hid (show P.length = 12 from by rw [← hP, List.length_take]; have := HZ0.out; omega)
        have HPA := Lib.hid (show NAt w a0 P from by rw [← hP]; exact (nat_row H0.out).take 12)
        obtain ⟨p12, hp12⟩ : ∃ p : Nat, p = 12 := ⟨_, rfl⟩
        clear hP
        go_wp2_with fail
        refine (law17play j vc va xs a1 l1 c1 z1 0 0 none [] _ HVA.out HX.out hvc HVM.out (H1.out.ext HB.out) (.inl rfl) rfl (Nat.le_refl _) (Nat.zero_le _)).mono ?_
        rintro e w6 ⟨rfl, hb6⟩
        have B6 := Lib.hid (ext_trans HB.out hb6)
        clear hb6
        go_wp2_with fail
        refine (law17play 12 c0 a0 P a1 l1 c1 z1 l2 c2 a2 z2 _ (HPA.out.ext B6.out) HPL.out (by omega) HM0.out (H1.out.ext B6.out) (H2.out.ext B6.out) HN2.out wl2 HM2.out).mono ?_
        rintro e w7 ⟨rfl, hb7⟩
        have B7 := Lib.hid (ext_trans B6.out hb7)
        have HNB := Lib.hid (nat_new w7 [0, 1])
        have B8 := Lib.hid (ext_trans B7.out ((Below.refl w7.heap.size w7).alloc (Nat.le_refl _) (.cells #[.int .i64 0, .int .i64 1] 3)))
        clear hb7
        go_wp2_with fail
        refine (law17play 2 2 _ [0, 1] a1 l1 c1 z1 l2 c2 a2 z2 _ HNB.out rfl (by omega) (by unfold maxLen; omega) (H1.out.ext B8.out) (H2.out.ext B8.out) HN2.out wl2 HM2.out).mono ?_
        rintro e w9 ⟨rfl, hb9⟩
        have B9 := Lib.hid (ext_trans B8.out hb9)
        clear hb9
        go_wp2_with fail
        refine (law17known _).mono ?_
        rintro e w10 ⟨rfl, hb10⟩
        have B10 := Lib.hid (ext_trans B9.out hb10)
        clear hb10
        go_wp2
        go_ret
        exact ⟨rfl, B10.out⟩
      · have hd : decide (12 < (j : Int)) = false := by simp; omega
        have HPL := HZ0
        have HPA := Lib.hid (nat_row H0.out)
        go_wp2_with fail
        refine (law17play j vc va xs a1 l1 c1 z1 0 0 none [] _ HVA.out HX.out hvc HVM.out (H1.out.ext HB.out) (.inl rfl) rfl (Nat.le_refl _) (Nat.zero_le _)).mono ?_
        rintro e w6 ⟨rfl, hb6⟩
        have B6 := Lib.hid (ext_trans HB.out hb6)
        clear hb6
        go_wp2_with fail
        refine (law17play j c0 a0 z0 a1 l1 c1 z1 l2 c2 a2 z2 _ (HPA.out.ext B6.out) HPL.out (by omega) HM0.out (H1.out.ext B6.out) (H2.out.ext B6.out) HN2.out wl2 HM2.out).mono ?_
        rintro e w7 ⟨rfl, hb7⟩
        have B7 := Lib.hid (ext_trans B6.out hb7)
        have HNB := Lib.hid (nat_new w7 [0, 1])
        have B8 := Lib.hid (ext_trans B7.out ((Below.refl w7.heap.size w7).alloc (Nat.le_refl _) (.cells #[.int .i64 0, .int .i64 1] 3)))
        clear hb7
        go_wp2_with fail
        refine (law17play 2 2 _ [0, 1] a1 l1 c1 z1 l2 c2 a2 z2 _ HNB.out rfl (by omega) (by unfold maxLen; omega) (H1.out.ext B8.out) (H2.out.ext B8.out) HN2.out wl2 HM2.out).mono ?_
        rintro e w9 ⟨rfl, hb9⟩
        have B9 := Lib.hid (ext_trans B8.out hb9)
        clear hb9
        go_wp2_with fail
        refine (law17known _).mono ?_
        rintro e w10 ⟨rfl, hb10⟩
        have B10 := Lib.hid (ext_trans B9.out hb10)
        clear hb10
        go_wp2
        go_ret
        exact ⟨rfl, B10.out⟩

end Go.Proofs.Ytmpkkkcoiljhpaa
