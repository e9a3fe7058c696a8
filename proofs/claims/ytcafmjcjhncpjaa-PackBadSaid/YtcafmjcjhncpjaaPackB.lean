/- Layer 2's laws, walked: PackBad. -/
import Derived.Test.YtcafmjcjhncpjaaPackT
import Derived.Lib.MinMax
namespace Go.Proofs.Ytcafmjcjhncpjaa
open Go.RowKit
set_option linter.unusedVariables false

/-- numbers, one behind the other -/
def allI (l : List Int) : List Int := l.flatMap be
theorem allI_snoc (l : List Int) (z : Int) : allI (l ++ [z]) = allI l ++ be z := by simp [allI]
theorem allI_len (l : List Int) : (allI l).length = 8 * l.length := by
  induction l with
  | nil => rfl
  | cons x t ih => simp only [allI, List.flatMap_cons, List.length_append, be_len, List.length_cons] at *; omega
theorem allI_wb (l : List Int) : Wb (allI l) := by
  intro n hn
  simp only [allI, List.mem_flatMap] at hn
  obtain ⟨z, _, hz⟩ := hn
  exact be_wb z n hz
theorem allI_at (l : List Int) (p : Nat) (z : Int) (h : l[p]? = some z) : ((allI l).drop (8 * p)).take 8 = be z := by
  induction l generalizing p with
  | nil => simp at h
  | cons x t ih =>
    cases p with
    | zero =>
      simp at h; subst h
      simp only [allI, List.flatMap_cons, Nat.mul_zero, List.drop_zero]
      rw [List.take_append_of_le_length (by rw [be_len]; omega)]
      exact List.take_of_length_le (by rw [be_len]; omega)
    | succ p =>
      have h1 := ih p (by simpa using h)
      simp only [allI, List.flatMap_cons]
      rw [show 8 * (p + 1) = (be x).length + 8 * p from by rw [be_len]; omega, List.drop_append]
      simp only [Nat.add_sub_cancel_left]
      rw [show (be x).drop ((be x).length + 8 * p) = [] from List.drop_eq_nil_of_le (by omega), List.nil_append]
      exact h1
/-- what a reader of the first C bytes of numbers takes -/
theorem bad_yes (l : List Int) (p C : Nat) (z : Int) (h : l[p]? = some z) (hC : 8 * p + 8 ≤ C) (h0 : -9223372036854775808 ≤ z) (h1 : z ≤ 9223372036854775807) : tInt (((allI l).take C).drop (8 * p), false) = (z, (((allI l).take C).drop (8 * (p + 1)), false)) := by
  have hp : p < l.length := by
    rcases Nat.lt_or_ge p l.length with h' | h'
    · exact h'
    · rw [List.getElem?_eq_none h'] at h; cases h
  have hl := allI_len l
  unfold tInt
  rw [tk_ok rfl (by simp; omega)]
  simp only [List.drop_drop, Prod.mk.injEq, and_true]
  refine ⟨?_, by rw [show 8 * p + 8 = 8 * (p + 1) from by omega]⟩
  rw [List.drop_take, List.take_take, show min 8 (C - 8 * p) = 8 from by omega, allI_at l p z h]
  exact rd_be z h0 h1
theorem rd_nil : rd [] = 0 := by decide +kernel
theorem bad_no (s : Rs) (h : s.2 = true ∨ s.1.length < 8) : tInt s = (0, (s.1, true)) := by
  unfold tInt
  rw [tk_bad h]
  simp [rd_nil]

/-- the reader behind p numbers -/
def BadAt (w : World) (rb : Nat) (l : List Int) (C p : Nat) : Prop := ∃ s : Rs, RdAt 46 w rb s ∧ (8 * p ≤ C → s = (((allI l).take C).drop (8 * p), false)) ∧ (C < 8 * p → s.2 = true)

set_option maxRecDepth 100000 in
set_option maxHeartbeats 4000000 in
theorem packBad_walk (a0 : Option Addr) (len cap : Nat) (zs : List Int) (ct : Int) (w : World) (h0 : IsRow .i64 w a0 len cap zs) (hr0 : len * 8 ≤ 140737488351232) (hct : (Lit.int .i64 ct).wf = true) :
    Calls Try.prog 6 #[.slice a0 len cap, .int .i64 ct] w fun e w' => e = .returned (.bool true) ∧ Below w.heap.size w w' := by
  have H0 := Lib.hid h0
  have hc1 := bounds_i64 hct
  have hcap := h0.1
  have hmx := h0.2.1
  unfold maxLen at hmx
  have hzl := Lib.hid h0.2.2.1
  obtain ⟨m, hm, hm1, hm2⟩ : ∃ m : Nat, min (len : Int) 12 = (m : Int) ∧ m ≤ len ∧ m ≤ 12 := ⟨min len 12, by omega, by omega, by omega⟩
  clear h0 hct
  go_enter Try.func6, Try.ntmps6
  go_wp2_with fail
  go_loopw [5, 7] (fun v i wr => ∃ (p : Nat) (a : Option Addr) (c : Nat), p ≤ m ∧ i = .int .i64 (p : Int) ∧ v = .slice a (8 * p) c ∧ 8 * p ≤ c ∧ c ≤ maxLen ∧ BAt wr a (allI (zs.take p)) ∧ ((a = none ∧ c = 0 ∧ p = 0) ∨ ∃ b o, a = some ⟨b, o, none⟩) ∧ Below w.heap.size w wr) (fun _ i _ => m - (intOf i).toNat)
  case atStart => exact ⟨0, none, 0, by omega, rfl, rfl, by omega, by simp [maxLen], .inl rfl, .inl ⟨rfl, rfl, rfl⟩, Below.refl _ _⟩
  case round =>
    obtain ⟨w1, rfl⟩ : ∃ y : World, y = wr := ⟨_, rfl⟩
    obtain ⟨p, a, c, hp, rfl, rfl, hpc, hcm, hA, hform, B1⟩ := hrel
    have HA := Lib.hid hA
    have HF := Lib.hid hform
    clear hA hform
    by_cases hlt : p < m
    · obtain ⟨nb, no, rfl, hz⟩ := H0.out.2.2.2.2.resolve_left (by omega)
      have hx := ext_cell B1 (hz p (by omega))
      have hwx := bounds_i64 (getD_wf (j := p) H0.out.2.2.2.1)
      have hzp : zs[p]? = some (zs.getD p 0) := by
        have := hzl.out
        simp [List.getD, show p < zs.length by omega]
      have hsn := Lib.hid (take_snoc zs p _ hzp)
      generalize zs.getD p 0 = x at hx hwx hsn
      clear hz hzp
      go_wp2_with fail
      refine (packInt a (8 * p) c x (allI (zs.take p)) _ HA.out (by rw [allI_len, List.length_take]; have := hzl.out; omega) (by omega)).mono ?_
      rintro e w2 ⟨v2, rfl, ho, hb⟩
      have B2 := ext_trans B1 hb
      have hlen : (allI (zs.take p) ++ be x).length = 8 * (p + 1) := by rw [List.length_append, allI_len, List.length_take, be_len]; have := hzl.out; omega
      rw [hlen, ← allI_snoc, ← hsn.out] at ho
      obtain ⟨a2, c2, rfl, -, h2, h3, h4, h5, h6⟩ := own_read ho
      have hf2 : (a2 = none ∧ c2 = 0 ∧ p + 1 = 0) ∨ ∃ b o, a2 = some ⟨b, o, none⟩ := by
        obtain ⟨-, h7⟩ := ho
        rcases h7 with ⟨e, _⟩ | ⟨g, cap', cur, e, _⟩
        · simp at e
        · simp at e; exact .inr ⟨g, 0, e.1⟩
      have H4 := Lib.hid h4
      have HF2 := Lib.hid hf2
      clear ho hb hlen h4 h5 h6 hf2 hx
      go_wp2
      go_roundw
      case rel => exact ⟨p + 1, a2, c2, by omega, by go_num, rfl, h2, h3, H4.out, HF2.out, B2⟩
      case measure => simp [intOf]; omega
    · obtain rfl : p = m := by omega
      have htl : (zs.take p).length = p := by rw [List.length_take]; have := hzl.out; omega
      obtain ⟨l, hl⟩ : ∃ l, l = zs.take p := ⟨_, rfl⟩
      rw [← hl] at HA htl
      have hlz : ∀ j, j < p → l[j]? = some (zs.getD j 0) := by
        intro j hj
        rw [hl, List.getElem?_take_of_lt hj]
        have := hzl.out
        simp [List.getD, show j < zs.length by omega]
      have HLZ := Lib.hid hlz
      have HTL := Lib.hid htl
      clear hl hlz htl
      unfold maxLen at hcm
      go_wp2_with fail
      refine (within_any ct 0 (8 * (p : Int)) _ (by omega) (by omega) (by omega) (by omega) (by omega)).mono ?_
      rintro e w2 ⟨rfl, rfl⟩
      have hy1 := win_lo ct 0 (8 * (p : Int)) (by omega)
      have hy2 := win_hi ct 0 (8 * (p : Int)) (by omega)
      generalize win ct 0 (8 * (p : Int)) = y at *
      obtain ⟨C, rfl⟩ := Int.eq_ofNat_of_zero_le hy1
      have hC : C ≤ 8 * p := by omega
      have hCc : C ≤ c := by omega
      have hTk := (HA.out.take C)
      have hTl : ((allI l).take C).length = C := by rw [List.length_take, allI_len, HTL.out]; omega
      have HT := Lib.hid hTk
      have HTl := Lib.hid hTl
      clear hTk hTl
      rcases HF.out with ⟨rfl, rfl, hpz⟩ | ⟨b, o, rfl⟩
      · have hp0 : p ≤ 0 := by omega
        clear hpz
        go_wp2_with fail
        refine (packNew none 0 0 _ _ HT.out (HTl.out.trans (by omega)) (by omega) ((allI_wb l).take C)).mono ?_
        rintro e w2 ⟨rb, rfl, hrb, hP, hb⟩
        have D2 := ext_trans B1 hb
        have P2 := Lib.hid hP
        have hrb1 : w.heap.size ≤ rb := by have := B1.size; omega
        clear hP hb hrb
        go_wp2_with fail
        go_loopw [10] (fun i wr => ∃ q : Nat, q ≤ p ∧ i = .int .i64 (q : Int) ∧ BadAt wr rb l C q ∧ Below w.heap.size w wr) (fun i _ => p - (intOf i).toNat)
        case atStart => exact ⟨0, by omega, rfl, ⟨_, P2.out, fun _ => rfl, fun h => by omega⟩, D2⟩
        case round =>
          obtain ⟨w3, rfl⟩ : ∃ y : World, y = wr := ⟨_, rfl⟩
          obtain ⟨q, hq, rfl, ⟨s, hP, hs1, hs2⟩, D3⟩ := hrel
          have P3 := Lib.hid hP
          have HS1 := Lib.hid hs1
          have HS2 := Lib.hid hs2
          clear hP hs1 hs2 P2 D2
          by_cases hqp : q < p
          · obtain ⟨nb, no, rfl, hz⟩ := H0.out.2.2.2.2.resolve_left (by omega)
            have hlq := HLZ.out q hqp
            have hx0 := hz q (by omega)
            have hwx := bounds_i64 (getD_wf (j := q) H0.out.2.2.2.1)
            generalize zs.getD q 0 = x at hx0 hwx hlq
            have HX0 := Lib.hid hx0
            have HLQ := Lib.hid hlq
            clear hz hlq hx0
            by_cases hw8 : 8 * q + 8 ≤ C
            · obtain rfl := HS1.out (by omega)
              have hd8 : decide (8 * (q : Int) + 8 ≤ C) = true := by simp; omega
              have hx := ext_cell D3 HX0.out
              go_wp2_with fail
              refine (packRInt rb _ _ P3.out).mono ?_
              rintro e w4 ⟨rfl, hP, hK⟩
              rw [bad_yes l q C x HLQ.out hw8 hwx.1 hwx.2] at hP ⊢
              have D4 := D3.trans (hK.below hrb1)
              have P4 := Lib.hid hP
              have hx4 := ext_cell D4 HX0.out
              clear hP hK hx
              go_wp2_with fail
              refine (packRBad rb _ _ P4.out).mono ?_
              rintro e w5 ⟨rfl, rfl⟩
              go_wp2
              go_roundw
              case rel => exact ⟨q + 1, by omega, by go_num, ⟨_, P4.out, fun _ => rfl, fun h => by omega⟩, D4⟩
              case measure => simp [intOf]; omega
            · have hd8 : decide (8 * (q : Int) + 8 ≤ C) = false := by simp; omega
              have hbad : s.2 = true ∨ s.1.length < 8 := by
                by_cases hc8 : C < 8 * q
                · exact .inl (HS2.out hc8)
                · right; rw [HS1.out (by omega)]; simp; have := HTl.out; simp at this; omega
              have HB := Lib.hid (bad_no s hbad)
              clear hbad
              go_wp2_with fail
              refine (packRInt rb _ _ P3.out).mono ?_
              rintro e w4 ⟨rfl, hP, hK⟩
              rw [HB.out] at hP ⊢
              have D4 := D3.trans (hK.below hrb1)
              have P4 := Lib.hid hP
              clear hP hK
              go_wp2_with fail
              refine (packRBad rb _ _ P4.out).mono ?_
              rintro e w5 ⟨rfl, rfl⟩
              go_wp2
              go_roundw
              case rel => exact ⟨q + 1, by omega, by go_num, ⟨_, P4.out, fun h => by omega, fun _ => rfl⟩, D4⟩
              case measure => simp [intOf]; omega
          · obtain rfl : q = p := by omega
            by_cases hCp : C = 8 * q
            · obtain rfl := HS1.out (by omega)
              have hd1 : decide ((C : Int) < 8 * (q : Int)) = false := by simp; omega
              have hd2 : ((C : Int) == 8 * (q : Int)) = true := by simp; omega
              have hdn : dn' (((allI l).take C).drop (8 * q), false) = true := by simp [dn']; have := HTl.out; simp at this; omega
              have HD := Lib.hid hdn
              clear hdn
              go_wp2_with fail
              refine (packRBad rb _ _ P3.out).mono ?_
              rintro e w5 ⟨rfl, rfl⟩
              go_wp2_with fail
              refine (packRDone rb _ _ P3.out).mono ?_
              rintro e w5 ⟨rfl, rfl⟩
              rw [HD.out]
              go_wp2_with fail
              refine (law2known _).mono ?_
              rintro e w6 ⟨rfl, hb⟩
              have D6 := ext_trans D3 hb
              go_wp2
              go_ret
              exact ⟨rfl, D6⟩
            · have hbad := HS2.out (by omega)
              obtain ⟨sl, sq⟩ := s
              simp only [] at hbad
              subst hbad
              have hd1 : decide ((C : Int) < 8 * (q : Int)) = true := by simp; omega
              have hd2 : ((C : Int) == 8 * (q : Int)) = false := by simp; omega
              go_wp2_with fail
              refine (packRBad rb _ _ P3.out).mono ?_
              rintro e w5 ⟨rfl, rfl⟩
              go_wp2_with fail
              refine (packRDone rb _ _ P3.out).mono ?_
              rintro e w5 ⟨rfl, rfl⟩
              rw [show dn' (sl, true) = false from rfl]
              go_wp2_with fail
              refine (law2known _).mono ?_
              rintro e w6 ⟨rfl, hb⟩
              have D6 := ext_trans D3 hb
              go_wp2
              go_ret
              exact ⟨rfl, D6⟩
      · go_wp2_with fail
        refine (packNew (some ⟨b, o, none⟩) C c _ _ HT.out HTl.out (by omega) ((allI_wb l).take C)).mono ?_
        rintro e w2 ⟨rb, rfl, hrb, hP, hb⟩
        have D2 := ext_trans B1 hb
        have P2 := Lib.hid hP
        have hrb1 : w.heap.size ≤ rb := by have := B1.size; omega
        clear hP hb hrb
        go_wp2_with fail
        go_loopw [10] (fun i wr => ∃ q : Nat, q ≤ p ∧ i = .int .i64 (q : Int) ∧ BadAt wr rb l C q ∧ Below w.heap.size w wr) (fun i _ => p - (intOf i).toNat)
        case atStart => exact ⟨0, by omega, rfl, ⟨_, P2.out, fun _ => rfl, fun h => by omega⟩, D2⟩
        case round =>
          obtain ⟨w3, rfl⟩ : ∃ y : World, y = wr := ⟨_, rfl⟩
          obtain ⟨q, hq, rfl, ⟨s, hP, hs1, hs2⟩, D3⟩ := hrel
          have P3 := Lib.hid hP
          have HS1 := Lib.hid hs1
          have HS2 := Lib.hid hs2
          clear hP hs1 hs2 P2 D2
          by_cases hqp : q < p
          · obtain ⟨nb, no, rfl, hz⟩ := H0.out.2.2.2.2.resolve_left (by omega)
            have hlq := HLZ.out q hqp
            have hx0 := hz q (by omega)
            have hwx := bounds_i64 (getD_wf (j := q) H0.out.2.2.2.1)
            generalize zs.getD q 0 = x at hx0 hwx hlq
            have HX0 := Lib.hid hx0
            have HLQ := Lib.hid hlq
            clear hz hlq hx0
            by_cases hw8 : 8 * q + 8 ≤ C
            · obtain rfl := HS1.out (by omega)
              have hd8 : decide (8 * (q : Int) + 8 ≤ C) = true := by simp; omega
              have hx := ext_cell D3 HX0.out
              go_wp2_with fail
              refine (packRInt rb _ _ P3.out).mono ?_
              rintro e w4 ⟨rfl, hP, hK⟩
              rw [bad_yes l q C x HLQ.out hw8 hwx.1 hwx.2] at hP ⊢
              have D4 := D3.trans (hK.below hrb1)
              have P4 := Lib.hid hP
              have hx4 := ext_cell D4 HX0.out
              clear hP hK hx
              go_wp2_with fail
              refine (packRBad rb _ _ P4.out).mono ?_
              rintro e w5 ⟨rfl, rfl⟩
              go_wp2
              go_roundw
              case rel => exact ⟨q + 1, by omega, by go_num, ⟨_, P4.out, fun _ => rfl, fun h => by omega⟩, D4⟩
              case measure => simp [intOf]; omega
            · have hd8 : decide (8 * (q : Int) + 8 ≤ C) = false := by simp; omega
              have hbad : s.2 = true ∨ s.1.length < 8 := by
                by_cases hc8 : C < 8 * q
                · exact .inl (HS2.out hc8)
                · right; rw [HS1.out (by omega)]; simp; have := HTl.out; simp at this; omega
              have HB := Lib.hid (bad_no s hbad)
              clear hbad
              go_wp2_with fail
              refine (packRInt rb _ _ P3.out).mono ?_
              rintro e w4 ⟨rfl, hP, hK⟩
              rw [HB.out] at hP ⊢
              have D4 := D3.trans (hK.below hrb1)
              have P4 := Lib.hid hP
              clear hP hK
              go_wp2_with fail
              refine (packRBad rb _ _ P4.out).mono ?_
              rintro e w5 ⟨rfl, rfl⟩
              go_wp2
              go_roundw
              case rel => exact ⟨q + 1, by omega, by go_num, ⟨_, P4.out, fun h => by omega, fun _ => rfl⟩, D4⟩
              case measure => simp [intOf]; omega
          · obtain rfl : q = p := by omega
            by_cases hCp : C = 8 * q
            · obtain rfl := HS1.out (by omega)
              have hd1 : decide ((C : Int) < 8 * (q : Int)) = false := by simp; omega
              have hd2 : ((C : Int) == 8 * (q : Int)) = true := by simp; omega
              have hdn : dn' (((allI l).take C).drop (8 * q), false) = true := by simp [dn']; have := HTl.out; simp at this; omega
              have HD := Lib.hid hdn
              clear hdn
              go_wp2_with fail
              refine (packRBad rb _ _ P3.out).mono ?_
              rintro e w5 ⟨rfl, rfl⟩
              go_wp2_with fail
              refine (packRDone rb _ _ P3.out).mono ?_
              rintro e w5 ⟨rfl, rfl⟩
              rw [HD.out]
              go_wp2_with fail
              refine (law2known _).mono ?_
              rintro e w6 ⟨rfl, hb⟩
              have D6 := ext_trans D3 hb
              go_wp2
              go_ret
              exact ⟨rfl, D6⟩
            · have hbad := HS2.out (by omega)
              obtain ⟨sl, sq⟩ := s
              simp only [] at hbad
              subst hbad
              have hd1 : decide ((C : Int) < 8 * (q : Int)) = true := by simp; omega
              have hd2 : ((C : Int) == 8 * (q : Int)) = false := by simp; omega
              go_wp2_with fail
              refine (packRBad rb _ _ P3.out).mono ?_
              rintro e w5 ⟨rfl, rfl⟩
              go_wp2_with fail
              refine (packRDone rb _ _ P3.out).mono ?_
              rintro e w5 ⟨rfl, rfl⟩
              rw [show dn' (sl, true) = false from rfl]
              go_wp2_with fail
              refine (law2known _).mono ?_
              rintro e w6 ⟨rfl, hb⟩
              have D6 := ext_trans D3 hb
              go_wp2
              go_ret
              exact ⟨rfl, D6⟩

end Go.Proofs.Ytcafmjcjhncpjaa
