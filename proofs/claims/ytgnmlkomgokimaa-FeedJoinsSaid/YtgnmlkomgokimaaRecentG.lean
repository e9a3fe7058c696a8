/- Layer 13's reference, walked: Since. -/
import Derived.Test.YtgnmlkomgokimaaRecentF
namespace Go.Proofs.Ytgnmlkomgokimaa
open Go.RowKit
set_option linter.unusedVariables false

set_option maxRecDepth 100000 in
set_option maxHeartbeats 4000000 in
theorem refSince_yes (rb q m : Nat) (ks : List KyR) (w : World) (h : RefAt w rb ks) (hl : ks.length ≤ 1000) (hq : q + m = ks.length) (hm : m ≤ 16) :
    Calls Try.prog 50 #[.pointer (some ⟨rb, 0, none⟩), .int .i64 q] w (Told (ks.drop q) w) := by
  obtain ⟨a, cap, h1, h2, h3, h4, h5, h6⟩ := h
  have HK := Lib.hid h4
  have H1 := Lib.hid h1
  have hc := blk_cell h1
  have hlb := blk_lt h1
  have HQ := Lib.hid hq
  have hq1 : q ≤ ks.length := by omega
  have hq2 : ks.length ≤ q + 16 := by omega
  have hmq : m ≤ ks.length - q := by omega
  have HB : ∀ p, (ks.drop q)[p]? = ks[q + p]? := fun p => by simp
  have HBB := Lib.hid HB
  obtain ⟨i0, hi, hz0, hz1, hz2⟩ := info_partsR info_key
  have d1 : decide ((q : Int) < 0) = false := by simp <;> omega
  have d2 : decide ((ks.length : Int) < q) = false := by simp; omega
  have d3 : decide ((q : Int) < (ks.length : Int) - 16) = false := by simp; omega
  have d4 : ¬ (ks.length : Int) < q := by omega
  have d5 : ¬ (q : Int) < (ks.length : Int) - 16 := by omega
  clear h1 h4 hq HB h5 h6
  go_enter Try.func50, Try.ntmps50
  go_wp2_with fail
  go_loopw [7, 8] (fun v i wr => ∃ p I : Nat, p ≤ m ∧ I = q + p ∧ i = .int .i64 I ∧ wr.ownsRow w.heap.size 33 2 v (kp (ks.drop q) p).length (kf (kp (ks.drop q) p)) ∧ Below w.heap.size w wr) (fun _ i _ => ks.length - (intOf i).toNat)
  case atStart => exact ⟨0, q, by omega, rfl, rfl, World.ownsRow_nil _ _ _ _, Below.refl _ _⟩
  case round =>
    obtain ⟨w2, rfl⟩ : ∃ y : World, y = wr := ⟨_, rfl⟩
    obtain ⟨p, I, hp, hI, rfl, hown, B2⟩ := hrel
    have HI := Lib.hid hI
    have HO := Lib.hid hown
    have Z2 := B2.size
    have hI1 : I ≤ ks.length := by have := HQ.out; omega
    have hl2 := kp_len (ks.drop q) p
    clear hI hown
    by_cases hlp : p < m
    · have hI2 : I < ks.length := by have := HQ.out; have := HI.out; omega
      obtain ⟨⟨k1, k2⟩, hk⟩ : ∃ k, ks[I]? = some k := ⟨ks[I], by simp [hI2]⟩
      have hbk : (ks.drop q)[p]? = some (k1, k2) := by rw [HBB.out, ← HI.out]; exact hk
      have HBK := Lib.hid hbk
      rcases HK.out with h0 | ⟨b, o, rfl, hcell⟩
      · rw [h0] at hI2; simp at hI2
      · have C := Lib.hid hcell
        have HKI := Lib.hid hk
        have hdI : decide ((I : Int) < ks.length) = true := by simp; omega
        clear hcell hk hbk
        go_wp2_with fail
        go_loopw [9, 10] (fun lv jv wr => ∃ (s J : Nat) (Lb : Bool), p + 1 ≤ s ∧ s ≤ m ∧ J = q + s ∧ jv = .int .i64 J ∧ lv = .bool Lb ∧ (Lb = true ↔ (k1, k2) ∉ ((ks.drop q).take s).drop (p + 1)) ∧ Below w2.heap.size w2 wr) (fun _ jv _ => ks.length - (intOf jv).toNat)
        case atStart => exact ⟨p + 1, I + 1, true, by omega, by omega, by have := HI.out; omega, by go_num, rfl, by simp, Below.refl _ _⟩
        case round =>
          obtain ⟨w3, rfl⟩ : ∃ y : World, y = wr := ⟨_, rfl⟩
          obtain ⟨s, J, Lb, hs1, hs2, hJ, rfl, rfl, hLb, B3⟩ := hrel
          have HJ := Lib.hid hJ
          have HLb := Lib.hid hLb
          have D3 := ext_trans B2 B3
          have Z3 := D3.size
          have hJ1 : J ≤ ks.length := by have := HQ.out; omega
          clear hJ hLb
          by_cases hls : s < m
          · have hJ2 : J < ks.length := by have := HQ.out; have := HJ.out; omega
            obtain ⟨⟨y1, y2⟩, hy⟩ : ∃ k, ks[J]? = some k := ⟨ks[J], by simp [hJ2]⟩
            have hby : (ks.drop q)[s]? = some (y1, y2) := by rw [HBB.out, ← HJ.out]; exact hy
            have HT := Lib.hid (by rw [List.take_add_one, hby, List.drop_append_of_le_length (by have := HQ.out; simp; omega)]; rfl : ((ks.drop q).take (s + 1)).drop (p + 1) = ((ks.drop q).take s).drop (p + 1) ++ [(y1, y2)])
            have c0 := ext_cell D3 (C.out J _ hy).1
            have c1 := ext_cell D3 (C.out J _ hy).2
            have c2 := ext_cell D3 (C.out I _ HKI.out).1
            have c3 := ext_cell D3 (C.out I _ HKI.out).2
            have R3 := Lib.hid (blk_ext D3 H1.out)
            have hdJ : decide ((J : Int) < ks.length) = true := by simp; omega
            clear hy hby
            simp only [] at c0 c1 c2 c3
            cases Lb
            case false =>
              go_wp2_with fail
              haveI hIq : Nonempty (Of w3) := of_some _
              have hF0 := of_cell c0
              have hF1 := of_cell c1
              have hF2 := of_cell c2
              have hF3 := of_cell c3
              have hF4 := blk_of R3.out
              refine wp_region_stay w3 (by kernel_rfl) (by kernel_rfl) (by go_grown) ?_
              repeat (go_big_quiet_step (fail))
              refine wpQuiet_nil ?_
              intro w4 hb
              have B4 := ext_trans B3 hb
              clear hIq hF0 hF1 hF2 hF3 hF4 c0 c1 c2 c3 hb
              go_wp2
              go_roundw
              case rel => exact ⟨s + 1, J + 1, false, by omega, by omega, by have := HJ.out; omega, by go_num, rfl, by rw [HT.out]; have h9 := HLb.out; simp at h9 ⊢; intro h8; exact absurd h9 (by simpa using h8), B4⟩
              case measure => simp [intOf]; omega
            case true =>
              by_cases e1 : y1.toList = k1.toList
              · obtain rfl := str_injR e1
                by_cases e2 : y2.toList = k2.toList
                · obtain rfl := str_injR e2
                  clear e1 e2
                  go_wp2_with fail
                  haveI hIq : Nonempty (Of w3) := of_some _
                  have hF0 := of_cell c0
                  have hF1 := of_cell c1
                  have hF2 := of_cell c2
                  have hF3 := of_cell c3
                  have hF4 := blk_of R3.out
                  refine wp_region_stay w3 (by kernel_rfl) (by kernel_rfl) (by go_grown) ?_
                  repeat (go_big_quiet_step (fail))
                  refine wpQuiet_nil ?_
                  intro w4 hb
                  have B4 := ext_trans B3 hb
                  clear hIq hF0 hF1 hF2 hF3 hF4 c0 c1 c2 c3 hb
                  go_wp2
                  go_roundw
                  case rel => exact ⟨s + 1, J + 1, false, by omega, by omega, by have := HJ.out; omega, by go_num, rfl, by rw [HT.out]; simp, B4⟩
                  case measure => simp [intOf]; omega
                · clear e1
                  go_wp2_with fail
                  haveI hIq : Nonempty (Of w3) := of_some _
                  have hF0 := of_cell c0
                  have hF1 := of_cell c1
                  have hF2 := of_cell c2
                  have hF3 := of_cell c3
                  have hF4 := blk_of R3.out
                  refine wp_region_stay w3 (by kernel_rfl) (by kernel_rfl) (by go_grown) ?_
                  repeat (go_big_quiet_step (fail))
                  refine wpQuiet_nil ?_
                  intro w4 hb
                  have B4 := ext_trans B3 hb
                  clear hIq hF0 hF1 hF2 hF3 hF4 c0 c1 c2 c3 hb
                  go_wp2
                  go_roundw
                  case rel => exact ⟨s + 1, J + 1, true, by omega, by omega, by have := HJ.out; omega, by go_num, rfl, by rw [HT.out]; have h9 := HLb.out; simp only [true_iff] at h9; simp only [true_iff, List.mem_append, not_or, List.mem_singleton]; exact ⟨h9, fun h => e2 (congrArg (fun k : KyR => k.2.toList) h).symm⟩, B4⟩
                  case measure => simp [intOf]; omega
              · have hne := e1
                go_wp2_with fail
                haveI hIq : Nonempty (Of w3) := of_some _
                have hF0 := of_cell c0
                have hF1 := of_cell c1
                have hF2 := of_cell c2
                have hF3 := of_cell c3
                have hF4 := blk_of R3.out
                refine wp_region_stay w3 (by kernel_rfl) (by kernel_rfl) (by go_grown) ?_
                repeat (go_big_quiet_step (fail))
                refine wpQuiet_nil ?_
                intro w4 hb
                have B4 := ext_trans B3 hb
                clear hIq hF0 hF1 hF2 hF3 hF4 c0 c1 c2 c3 hb
                go_wp2
                go_roundw
                case rel => exact ⟨s + 1, J + 1, true, by omega, by omega, by have := HJ.out; omega, by go_num, rfl, by rw [HT.out]; have h9 := HLb.out; simp only [true_iff] at h9; simp only [true_iff, List.mem_append, not_or, List.mem_singleton]; exact ⟨h9, fun h => hne (congrArg (fun k : KyR => k.1.toList) h).symm⟩, B4⟩
                case measure => simp [intOf]; omega
          · have hJ2 : J = ks.length := by have := HQ.out; have := HJ.out; omega
            have hdJ : decide ((J : Int) < ks.length) = false := by simp; omega
            have hJn : ¬ J < ks.length := by omega
            have hsm : s = m := by omega
            have hmem : Lb = true ↔ (k1, k2) ∉ (ks.drop q).drop (p + 1) := by
              have h9 := HLb.out
              rwa [hsm, List.take_of_length_le (by have := HQ.out; simp; omega)] at h9
            have HM := Lib.hid hmem
            have O3 := ownsRow_extR HO.out B3
            clear hmem hJ2 hsm HLb HJ
            have R3 := Lib.hid (blk_ext D3 H1.out)
            have r3 := blk_cell R3.out
            have rl3 := blk_lt R3.out
            cases Lb
            case false =>
              have HO3 := Lib.hid O3
              have hv : hasB ((ks.drop q).drop (p + 1)) (k1, k2) = true := hasB_yes (Classical.byContradiction fun h => by have := HM.out.2 h; cases this)
              have HV := Lib.hid (kp_yes HBK.out hv)
              clear O3 hv
              go_wp2
              go_roundw
              case rel => exact ⟨p + 1, I + 1, by omega, by have := HI.out; omega, by go_num, by rw [HV.out]; exact HO3.out, D3⟩
              case measure => simp [intOf]; omega
            case true =>
              have hv : hasB ((ks.drop q).drop (p + 1)) (k1, k2) = false := hasB_no (by have h9 := HM.out; simpa using h9)
              have HV := Lib.hid (kp_no HBK.out hv)
              have c2 := ext_cell D3 (C.out I _ HKI.out).1
              have c3 := ext_cell D3 (C.out I _ HKI.out).2
              simp only [] at c2 c3
              clear hv
              go_wp2_with (first | (at_builtin; refine wpList_append_own _ rfl _ _ 36 rfl (w.heap.size) 33 i0 (.agg #[.string ⟨#[]⟩, .string ⟨#[]⟩]) 2 32 Try.underlying36 hi hz0 hz1 hz2 rfl (by decide) _ _ _ rfl (O3.alloc _) ⟨w3.heap.size, 0, none⟩ 1 1 [.string k1, .string k2] rfl rfl ?z1 ?z2 ?z3 ?z4 ?z5 ?_))
              case z2 => exact ⟨rfl, rfl⟩
              case z3 => unfold maxLen; omega
              case z4 => omega
              case z5 => first | omega | (simp; omega)
              intro v' w5 hown' hgrow _
              have B5 := (D3.alloc D3.size _).grown hgrow (by simp; omega) (fun q hq => own_ge O3 hq)
              have O5 := Lib.hid hown'
              clear hown' hgrow O3 c2 c3 r3
              go_wp2
              go_roundw
              case rel => exact ⟨p + 1, I + 1, by omega, by have := HI.out; omega, by go_num, by rw [HV.out, kf_snoc]; simpa using O5.out, B5⟩
              case measure => simp [intOf]; omega
    · have hI3 : I = ks.length := by have := HQ.out; have := HI.out; omega
      have hdI : decide ((I : Int) < ks.length) = false := by simp; omega
      have hIn : ¬ I < ks.length := by omega
      have hpm : p = (ks.drop q).length := by have := HQ.out; simp; omega
      have HP := Lib.hid hpm
      clear hI3 hpm
      go_wp2
      go_ret2
      have h9 := HO.out
      rw [HP.out] at h9
      exact ⟨_, rfl, h9, B2⟩

end Go.Proofs.Ytgnmlkomgokimaa
