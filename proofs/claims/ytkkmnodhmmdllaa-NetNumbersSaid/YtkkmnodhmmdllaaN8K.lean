/- Layer 8's law: play. -/
import Derived.Test.YtkkmnodhmmdllaaN8J
namespace Go.Proofs.Ytkkmnodhmmdllaa
open Go.RowKit
set_option linter.unusedVariables false
set_option linter.unusedSimpArgs false

theorem RN.nou8 {w : World} {rb nodes : Nat} {bl : List ML} {p : List Bool} (h : RN w rb nodes bl p) (o : Nat) (n : Int) : ¬ w.cell? ⟨rb, o, none⟩ = some (.int .u8 n) := by
  obtain ⟨-, h2, -, a, c, h4, -⟩ := h
  intro h9
  rw [blk_cell h4.blk] at h9
  match o, h9 with
  | 0, h9 => simp [ncells] at h9
  | 1, h9 => simp [ncells] at h9
  | k + 2, h9 =>
    simp only [ncells, List.getElem?_toArray, List.getElem?_cons_succ, List.getElem?_map] at h9
    cases hq : p[k]? with
    | none => rw [hq] at h9; simp at h9
    | some b => rw [hq] at h9; simp at h9
set_option maxRecDepth 100000 in
set_option maxHeartbeats 8000000 in
theorem law8play (nd : Int) (la : Option Addr) (m c : Nat) (las : List AV) (w : World) (hs : SAt akc 5 25 w la las) (hl : las.length = m) (hmc : m ≤ c) (hcm : c ≤ maxLen) (hm : m ≤ 1000) (ht : Txt w las) :
    Calls Try.prog 6 #[.int .i64 nd, .slice la m c] w fun r w' => r = .returned (.bool true) ∧ Below w.heap.size w w' := by
  have HLA := Lib.hid hs
  have HTX := Lib.hid ht
  have HM := Lib.hid hl
  unfold maxLen at hcm
  clear hs ht hl
  by_cases hnd : 1 ≤ nd ∧ nd ≤ 6
  · obtain ⟨N, rfl⟩ := Int.eq_ofNat_of_zero_le (show 0 ≤ nd by omega)
    have d1 : decide ((N : Int) < 1) = false := decide_eq_false (by omega)
    have d2 : decide (6 < (N : Int)) = false := decide_eq_false (by omega)
    have hN1 : 1 ≤ N := by omega
    have hN6 : N ≤ 6 := by omega
    clear hnd
    go_enter Try.func6, Try.ntmps6
    go_wp2_with fail
    refine (nsNew N _ hN1 hN6).mono ?_
    rintro e w1 ⟨rfl, hns, hb⟩
    obtain ⟨nb, hnb⟩ : ∃ nb, w.heap.size = nb := ⟨_, rfl⟩
    rw [hnb] at hns
    try rw [hnb]
    have HNB := Lib.hid (show w.heap.size ≤ nb by omega)
    have HP1 := Lib.hid (show PN w1 nb N [] (List.replicate 36 false) from ⟨[], hns, Fit.nil _⟩)
    have HD1 := Lib.hid hb
    have E2 := Lib.hid (show Below w1.heap.size w1 (w1.alloc (.cells #[.int .i64 (N : Int), .slice none 0 0, .bool false, .bool false, .bool false, .bool false, .bool false, .bool false, .bool false, .bool false, .bool false, .bool false, .bool false, .bool false, .bool false, .bool false, .bool false, .bool false, .bool false, .bool false, .bool false, .bool false, .bool false, .bool false, .bool false, .bool false, .bool false, .bool false, .bool false, .bool false, .bool false, .bool false, .bool false, .bool false, .bool false, .bool false, .bool false, .bool false] 48)) from (Below.refl _ _).alloc (Nat.le_refl _) _)
    have HR2 := Lib.hid (show RN (w1.alloc (.cells #[.int .i64 (N : Int), .slice none 0 0, .bool false, .bool false, .bool false, .bool false, .bool false, .bool false, .bool false, .bool false, .bool false, .bool false, .bool false, .bool false, .bool false, .bool false, .bool false, .bool false, .bool false, .bool false, .bool false, .bool false, .bool false, .bool false, .bool false, .bool false, .bool false, .bool false, .bool false, .bool false, .bool false, .bool false, .bool false, .bool false, .bool false, .bool false, .bool false, .bool false] 48)) w1.heap.size N [] (List.replicate 36 false) from ⟨hN6, by simp, by simp, none, 0, blk_new w1 (ncells N (.slice none 0 0) (List.replicate 36 false)) 48, by simp, by simp [maxLen], .inl rfl, .inl ⟨rfl, rfl⟩⟩)
    clear hns hb hnb
    go_upto_region 5 with (fail)
    obtain ⟨rb, hrb⟩ : ∃ rb, w1.heap.size = rb := ⟨_, rfl⟩
    have HRBW := Lib.hid (show w.heap.size ≤ rb from by rw [← hrb]; exact HD1.out.size)
    rw [hrb] at HR2
    try rw [hrb]
    have HP2 := Lib.hid (HP1.out.ext E2.out)
    have HD2 := Lib.hid (ext_trans HD1.out E2.out)
    clear hrb HP1 HD1 E2
    generalize (w1.alloc (.cells #[.int .i64 (N : Int), .slice none 0 0, .bool false, .bool false, .bool false, .bool false, .bool false, .bool false, .bool false, .bool false, .bool false, .bool false, .bool false, .bool false, .bool false, .bool false, .bool false, .bool false, .bool false, .bool false, .bool false, .bool false, .bool false, .bool false, .bool false, .bool false, .bool false, .bool false, .bool false, .bool false, .bool false, .bool false, .bool false, .bool false, .bool false, .bool false, .bool false, .bool false] 48)) = w2 at *
    go_wp2_with fail
    go_loopw [7] (fun j wr => ∃ (J : Nat) (bl : List ML) (p : List Bool), J ≤ m ∧ J ≤ 120 ∧ j = .int .i64 (J : Int) ∧ PN wr nb N bl p ∧ RN wr rb N bl p ∧ Vb N bl ∧ Below w.heap.size w wr) (fun j _ => 120 - (intOf j).toNat)
    case atStart => exact ⟨0, [], _, by omega, by omega, rfl, HP2.out, HR2.out, (fun y hy => by cases hy), HD2.out⟩
    case round =>
      obtain ⟨wr, rfl⟩ : ∃ y : World, y = wr := ⟨_, rfl⟩
      obtain ⟨J, bl, p, hJm, hJ120, rfl, hp, hr, hv, hd⟩ := hrel
      have HP := Lib.hid hp
      have HR := Lib.hid hr
      have HV := Lib.hid hv
      have HD := Lib.hid hd
      clear hp hr hv hd HP2 HR2 HD2
      by_cases hlt : J < m ∧ J < 120
      · have hlt1 : (J : Int) < (m : Int) := by omega
        have hlt2 : (J : Int) < 120 := by omega
        obtain ⟨x, hx⟩ : ∃ x, las[J]? = some x := ⟨_, List.getElem?_eq_getElem (by rw [HM.out]; omega)⟩
        have HX := Lib.hid (HTX.out x (List.mem_of_getElem? hx))
        obtain ⟨b, o, rfl⟩ : ∃ b o, la = some ⟨b, o, none⟩ := by
          rcases HLA.out with h | ⟨b, o, e, _⟩
          · rw [h] at hx; simp at hx
          · exact ⟨b, o, e⟩
        have y0 := (SAt.ext HLA.out HD.out).get akc_len hx 0 _ rfl
        have y1 := (SAt.ext HLA.out HD.out).get akc_len hx 1 _ rfl
        have y2 := (SAt.ext HLA.out HD.out).get akc_len hx 2 _ rfl
        have y3 := (SAt.ext HLA.out HD.out).get akc_len hx 3 _ rfl
        have y4 := (SAt.ext HLA.out HD.out).get akc_len hx 4 _ rfl
        simp only [Nat.add_zero] at y0
        have hyl := cell_lt y0
        have E3 := Lib.hid (show Below wr.heap.size wr (wr.alloc (.cells #[.int .i64 x.k, .int .i64 x.a, .int .i64 x.b, .int .i64 x.i, .slice x.ta x.tn x.tc] 25)) from (Below.refl _ _).alloc (Nat.le_refl _) _)
        have HK3 := Lib.hid (blk_new wr #[.int .i64 x.k, .int .i64 x.a, .int .i64 x.b, .int .i64 x.i, .slice x.ta x.tn x.tc] 25)
        clear hx
        go_upto_region 9 with (fail)
        obtain ⟨p8, hp8⟩ : ∃ q, wr.heap.size = q := ⟨_, rfl⟩
        rw [hp8] at HK3
        try rw [hp8]
        have HP3 := Lib.hid (HP.out.ext E3.out)
        have HR3 := Lib.hid (HR.out.ext E3.out)
        have HD3 := Lib.hid (ext_trans HD.out E3.out)
        clear hp8 E3 HP HR HD y0 y1 y2 y3 y4 hyl
        generalize (wr.alloc (.cells #[.int .i64 x.k, .int .i64 x.a, .int .i64 x.b, .int .i64 x.i, .slice x.ta x.tn x.tc] 25)) = w3 at *
        have hee : ∀ z : Int, (z != z) = false := fun z => by simp
        obtain ⟨kk, hkk⟩ : ∃ kk, x.k = kk := ⟨_, rfl⟩
        rw [hkk] at HK3
        clear hkk
        have hkd : kk = 2 ∨ kk = 3 ∨ kk = 4 ∨ kk = 5 ∨ kk = 6 ∨ ((kk == 2) = false ∧ (kk == 3) = false ∧ (kk == 4) = false ∧ (kk == 5) = false ∧ (kk == 6) = false) := by
          by_cases h2 : kk = 2
          · exact .inl h2
          · by_cases h3 : kk = 3
            · exact .inr (.inl h3)
            · by_cases h4 : kk = 4
              · exact .inr (.inr (.inl h4))
              · by_cases h5 : kk = 5
                · exact .inr (.inr (.inr (.inl h5)))
                · by_cases h6 : kk = 6
                  · exact .inr (.inr (.inr (.inr (.inl h6))))
                  · exact .inr (.inr (.inr (.inr (.inr ⟨by simpa using h2, by simpa using h3, by simpa using h4, by simpa using h5, by simpa using h6⟩))))
        have hk := blk_cell HK3.out
        have hkl := blk_lt HK3.out
        rcases hkd with rfl | rfl | rfl | rfl | rfl | ⟨z2, z3, z4, z5, z6⟩
        · skip
          obtain ⟨co, m, BL, hres⟩ : ∃ co m BL, delM N p bl x.i = (co, m, BL) := ⟨_, _, _, rfl⟩
          have HV9 := Lib.hid (show Vb N BL from by have h := Vb.del (p := p) (i := x.i) HV.out; rw [hres] at h; exact h)
          obtain ⟨SS, hSS⟩ : ∃ SS, strOfNums m.xs = SS := ⟨_, rfl⟩
          have HSS := Lib.hid hSS
          clear hSS
          have E4 := Lib.hid (show Below w3.heap.size w3 (((w3.alloc (.cells #[.int .i64 0, .int .i64 0, .slice none 0 0] 34))).alloc (.cells #[.int .i64 0, .int .i64 0, .string ⟨#[]⟩] 50)) from ((Below.refl _ _).alloc (Nat.le_refl _) _).alloc (by simp) _)
          have HQ1 := Lib.hid (blk_alloc (blk_new w3 #[.int .i64 0, .int .i64 0, .slice none 0 0] 34) (.cells #[.int .i64 0, .int .i64 0, .string ⟨#[]⟩] 50))
          have HQ2 := Lib.hid (show (((w3.alloc (.cells #[.int .i64 0, .int .i64 0, .slice none 0 0] 34))).alloc (.cells #[.int .i64 0, .int .i64 0, .string ⟨#[]⟩] 50)).heap[w3.heap.size + 1]? = some (.cells #[.int .i64 0, .int .i64 0, .string ⟨#[]⟩] 50 (0, 0)) from blk_new_at (by simp) _ _)
          have HPA := Lib.hid (HP3.out.fresh (q := w3.heap.size) (Nat.le_refl _) E4.out)
          have HRA := Lib.hid (HR3.out.fresh (q := w3.heap.size + 1) (by omega) E4.out)
          go_upto_region 17 with (fail)
          obtain ⟨q1, hq1⟩ : ∃ q, w3.heap.size = q := ⟨_, rfl⟩
          obtain ⟨q2, hq2⟩ : ∃ q, w3.heap.size + 1 = q := ⟨_, rfl⟩
          have HQW := Lib.hid (show w.heap.size ≤ q1 ∧ w.heap.size ≤ q2 from by have := HD3.out.size; omega)
          rw [hq1] at HQ1 HPA
          rw [hq2] at HQ2 HRA
          try rw [hq2]
          try rw [hq1]
          try rw [hq1] at hq2
          try rw [hq2]
          have HK4 := Lib.hid (blk_ext E4.out HK3.out)
          have HD4 := Lib.hid (ext_trans HD3.out E4.out)
          clear hq1 hq2 E4 hk hkl HK3 HP3 HR3 HD3
          generalize (((w3.alloc (.cells #[.int .i64 0, .int .i64 0, .slice none 0 0] 34))).alloc (.cells #[.int .i64 0, .int .i64 0, .string ⟨#[]⟩] 50)) = w4 at *
          have hk := blk_cell HK4.out
          have hkl := blk_lt HK4.out
          go_wp2_with fail
          refine (pnDelA q1 nb N bl x.i p w4 HPA.out (blk_lt HQ1.out)).mono ?_
          rintro e y5 ⟨z, rfl, hz1, hz2, hz3, hz4, h5, hr5⟩
          rw [hres] at hz1 hz2 hz3 hz4 h5
          simp only [hres]
          dsimp only at hz1 hz2 hz3 hz4 h5
          rw [hz1, hz2]
          have hnb0 := HPA.out.pn.blk
          have HK5 := Lib.hid (by obtain ⟨cs, h0⟩ := hnb0; exact hr5.typ h0 HK4.out (by decide))
          have HQ15 := Lib.hid (by obtain ⟨cs, h0⟩ := hnb0; exact hr5.typ h0 HQ1.out (by decide))
          have HQ25 := Lib.hid (by obtain ⟨cs, h0⟩ := hnb0; exact hr5.typ h0 HQ2.out (by decide))
          have HRA5 := Lib.hid (by obtain ⟨cs, h0⟩ := hnb0; exact HRA.out.rim hr5 h0 (by decide) (by decide))
          have HPA5 := Lib.hid h5
          have HZT := Lib.hid (And.intro hz3 hz4)
          have HD5 := Lib.hid (HD4.out.trans (hr5.below HNB.out HD4.out.size))
          clear hz1 hz2 hz3 hz4 h5 hr5 hnb0 hk hkl HK4 HQ1 HQ2 HRA HPA HD4
          have hk := blk_cell HQ15.out
          have hkl := blk_lt HQ15.out
          have hkf := blk_free HQ15.out
          go_upto_region 18 with (fail)
          have hr6 : Rim q1 y5 (((y5.setCell ⟨q1, 0, none⟩ (.int .i64 m.f)).setCell ⟨q1, 1, none⟩ (.int .i64 m.t)).setCell ⟨q1, 2, none⟩ (.slice z.a z.n z.c)) := rim_set3 (Rim.of (Below.refl _ _))
          have HK6 := Lib.hid (hr6.typ HQ15.out HK5.out (by decide))
          have HQ16 := Lib.hid (show (((y5.setCell ⟨q1, 0, none⟩ (.int .i64 m.f)).setCell ⟨q1, 1, none⟩ (.int .i64 m.t)).setCell ⟨q1, 2, none⟩ (.slice z.a z.n z.c)).heap[q1]? = some (.cells #[.int .i64 m.f, .int .i64 m.t, .slice z.a z.n z.c] 34 (0, 0)) from (blk_fill3 (v0 := .int .i64 m.f) (v1 := .int .i64 m.t) (v2 := .slice z.a z.n z.c) HQ15.out rfl))
          have HQ26 := Lib.hid (hr6.typ HQ15.out HQ25.out (by decide))
          have HP6 := Lib.hid (HPA5.out.rimq hr6 HQ15.out)
          have HRA6 := Lib.hid (HRA5.out.rim hr6 HQ15.out (by decide) (by decide))
          have HZ6 := Lib.hid (show BAt (((y5.setCell ⟨q1, 0, none⟩ (.int .i64 m.f)).setCell ⟨q1, 1, none⟩ (.int .i64 m.t)).setCell ⟨q1, 2, none⟩ (.slice z.a z.n z.c)) z.a m.xs from by
            rcases HZT.out.1 with h | ⟨b, o, e, h⟩
            · exact .inl h
            · refine .inr ⟨b, o, e, fun i n hi => ?_⟩
              have h9 := h i n hi
              have hne : b ≠ q1 := by
                rintro rfl
                rw [blk_cell HQ15.out] at h9
                match o + i, h9 with
                | 0, h9 => simp at h9
                | 1, h9 => simp at h9
                | 2, h9 => simp at h9
                | k + 3, h9 => simp at h9
              exact (World.cell?_of_block (hr6.block b hne (cell_lt h9))).trans h9)
          have HD6 := Lib.hid (HD5.out.trans (hr6.below HQW.out.1 HD5.out.size))
          have HZL := Lib.hid HZT.out.2
          clear hr6 hk hkl hkf HK5 HQ15 HQ25 HPA5 HRA5 HZT HD5
          generalize (((y5.setCell ⟨q1, 0, none⟩ (.int .i64 m.f)).setCell ⟨q1, 1, none⟩ (.int .i64 m.t)).setCell ⟨q1, 2, none⟩ (.slice z.a z.n z.c)) = y6 at *
          have hk := blk_cell HK6.out
          have hkl := blk_lt HK6.out
          go_wp2_with fail
          refine (rnDelA q2 rb N bl x.i p y6 HRA6.out (blk_lt HQ26.out)).mono ?_
          rintro e y7 ⟨rfl, h7, hr7⟩
          rw [hres] at h7
          simp only [hres, HSS.out]
          dsimp only at h7
          have hrb0 := HRA6.out.rn.blk
          have HQ17 := Lib.hid (by obtain ⟨cs, h0⟩ := hrb0; exact hr7.typ h0 HQ16.out (by decide))
          have HQ27 := Lib.hid (by obtain ⟨cs, h0⟩ := hrb0; exact hr7.typ h0 HQ26.out (by decide))
          have HP7 := Lib.hid (by obtain ⟨cs, h0⟩ := hrb0; exact HP6.out.rim hr7 h0 (by decide) (by decide) (by decide))
          have HRA7 := Lib.hid h7
          have HZ7 := Lib.hid (show BAt y7 z.a m.xs from by
            obtain ⟨cs, h0⟩ := hrb0
            rcases HZ6.out with h | ⟨b, o, e, h⟩
            · exact .inl h
            · refine .inr ⟨b, o, e, fun i n hi => ?_⟩
              have h9 := h i n hi
              exact (World.cell?_of_block (hr7.block b (fun e => by subst e; exact absurd h9 (HRA6.out.rn.nou8 _ _)) (cell_lt h9))).trans h9)
          have HD7 := Lib.hid (HD6.out.trans (hr7.below HRBW.out HD6.out.size))
          clear h7 hr7 hrb0 hk hkl HK6 HQ16 HQ26 HP6 HRA6 HZ6 HD6
          have hk := blk_cell HQ27.out
          have hkl := blk_lt HQ27.out
          have hkf := blk_free HQ27.out
          go_upto_region 19 with (fail)
          have hr8 : Rim q2 y7 (((y7.setCell ⟨q2, 0, none⟩ (.int .i64 m.f)).setCell ⟨q2, 1, none⟩ (.int .i64 m.t)).setCell ⟨q2, 2, none⟩ (.string SS)) := rim_set3 (Rim.of (Below.refl _ _))
          have HQ18 := Lib.hid (hr8.typ HQ27.out HQ17.out (by decide))
          have HQ28 := Lib.hid (show (((y7.setCell ⟨q2, 0, none⟩ (.int .i64 m.f)).setCell ⟨q2, 1, none⟩ (.int .i64 m.t)).setCell ⟨q2, 2, none⟩ (.string SS)).heap[q2]? = some (.cells #[.int .i64 m.f, .int .i64 m.t, .string SS] 50 (0, 0)) from (blk_fill3 (v0 := .int .i64 m.f) (v1 := .int .i64 m.t) (v2 := .string SS) HQ27.out rfl))
          have HP9 := Lib.hid (HP7.out.rim hr8 HQ27.out (by decide) (by decide) (by decide))
          have HR9 := Lib.hid (HRA7.out.rimq hr8 HQ27.out)
          have HZ8 := Lib.hid (show BAt (((y7.setCell ⟨q2, 0, none⟩ (.int .i64 m.f)).setCell ⟨q2, 1, none⟩ (.int .i64 m.t)).setCell ⟨q2, 2, none⟩ (.string SS)) z.a m.xs from by
            rcases HZ7.out with h | ⟨b, o, e, h⟩
            · exact .inl h
            · refine .inr ⟨b, o, e, fun i n hi => ?_⟩
              have h9 := h i n hi
              have hne : b ≠ q2 := by
                rintro rfl
                rw [blk_cell HQ27.out] at h9
                match o + i, h9 with
                | 0, h9 => simp at h9
                | 1, h9 => simp at h9
                | 2, h9 => simp at h9
                | k + 3, h9 => simp at h9
              exact (World.cell?_of_block (hr8.block b hne (cell_lt h9))).trans h9)
          have HD9 := Lib.hid (HD7.out.trans (hr8.below HQW.out.2 HD7.out.size))
          clear hr8 hk hkl hkf HQ17 HQ27 HP7 HRA7 HZ7 HD7
          generalize (((y7.setCell ⟨q2, 0, none⟩ (.int .i64 m.f)).setCell ⟨q2, 1, none⟩ (.int .i64 m.t)).setCell ⟨q2, 2, none⟩ (.string SS)) = y8 at *
          have hk := blk_cell HQ18.out
          have hkl := blk_lt HQ18.out
          have hk2 := blk_cell HQ28.out
          have hkl2 := blk_lt HQ28.out
          have hcv := (show (convert 23 9 (.slice z.a z.n z.c)).run Try.prog y8 = .ok (.string SS) y8 from by rw [← HSS.out]; exact run_text y8 23 5 Try.underlying23 Try.underlying5 9 Try.underlying9 z.a z.n z.c m.xs HZL.out HZ8.out)
          go_upto_region 29 with (fail)
          clear hk hkl hk2 hkl2 hcv HQ18 HQ28 HZ8
          go_wp2_with fail
          refine (law8same nb rb N BL p _ HP9.out HR9.out).mono ?_
          rintro e wz ⟨rfl, hb⟩
          have HPZ := Lib.hid (HP9.out.ext hb)
          have HRZ := Lib.hid (HR9.out.ext hb)
          have HDZ := Lib.hid (ext_trans HD9.out hb)
          clear hb HP9 HR9 HD9
          go_wp2
          go_roundw
          case rel => exact ⟨J + 1, BL, p, by omega, by omega, by go_num, HPZ.out, HRZ.out, HV9.out, HDZ.out⟩
          case measure => simp [intOf]; omega
        · skip
          obtain ⟨co, BL, hres⟩ : ∃ co BL, dropM bl x.i = (co, BL) := ⟨_, _, rfl⟩
          have HV9 := Lib.hid (show Vb N BL from by have h := Vb.drop (i := x.i) HV.out; rw [hres] at h; exact h)
          go_wp2_with fail
          clear hk hkl
          haveI hIc : Nonempty (In (fun W : World => W.heap[p8]? = some (.cells #[.int .i64 3, .int .i64 x.a, .int .i64 x.b, .int .i64 x.i, .slice x.ta x.tn x.tc] 25 (0, 0)))) := ⟨⟨_, HK3.out⟩⟩
          have hF0 : ∀ g : In (fun W : World => W.heap[p8]? = some (.cells #[.int .i64 3, .int .i64 x.a, .int .i64 x.b, .int .i64 x.i, .slice x.ta x.tn x.tc] 25 (0, 0))), ∀ n, g.w.cell? ⟨p8, n, none⟩ = (#[.int .i64 3, .int .i64 x.a, .int .i64 x.b, .int .i64 x.i, .slice x.ta x.tn x.tc] : Array Value)[n]? := fun g => blk_cell g.h
          have hF1 : ∀ g : In (fun W : World => W.heap[p8]? = some (.cells #[.int .i64 3, .int .i64 x.a, .int .i64 x.b, .int .i64 x.i, .slice x.ta x.tn x.tc] 25 (0, 0))), p8 < g.w.heap.size := fun g => blk_lt g.h
          refine wp_region_chain (fun w' => ∃ g : In (fun W : World => W.heap[p8]? = some (.cells #[.int .i64 3, .int .i64 x.a, .int .i64 x.b, .int .i64 x.i, .slice x.ta x.tn x.tc] 25 (0, 0))), w' = g.w) (by kernel_rfl) (by kernel_rfl) (by kernel_rfl) ?_
          have HK4 := Lib.hid (blk_drew HK3.out)
          have HP4 := Lib.hid (HP3.out.ext (Below.refl w3.heap.size w3).drew)
          have HR4 := Lib.hid (HR3.out.ext (Below.refl w3.heap.size w3).drew)
          have HD4 := Lib.hid (ext_trans HD3.out (Below.refl w3.heap.size w3).drew)
          clear HK3 HP3 HR3 HD3
          generalize w3.drew = y4 at *
          repeat (refine wpG_plain (by rfl) (by rfl) (fun K hK => ?_); go_big_quiet_op; refine hK _ ?_; clear hK K)
          refine wpG_call (by rfl) (by rfl) ⟨⟨_, HK4.out⟩, rfl⟩ (fun K hK => ?_)
          go_big_op
          refine (pnDropG nb N bl x.i p y4 HP4.out).mono ?_
          rintro e y5 ⟨rfl, h5, hr5⟩
          rw [hres] at h5
          try simp only [hres]
          have HK5 := Lib.hid (by obtain ⟨cs, h0⟩ := HP4.out.blk; exact hr5.typ h0 HK4.out (by decide))
          have HP5 := Lib.hid h5
          have HR5 := Lib.hid (by obtain ⟨cs, h0⟩ := HP4.out.blk; exact HR4.out.rim hr5 h0 (by decide) (by decide))
          have HD5 := Lib.hid (HD4.out.trans (hr5.below HNB.out HD4.out.size))
          refine hK _ _ ?_
          clear hK K h5 hr5 HK4 HP4 HR4 HD4
          repeat (refine wpG_plain (by rfl) (by rfl) (fun K hK => ?_); go_big_quiet_op; refine hK _ ?_; clear hK K)
          refine wpG_call (by rfl) (by rfl) ⟨⟨_, HK5.out⟩, rfl⟩ (fun K hK => ?_)
          go_big_op
          refine (rnDropG rb N bl x.i p y5 HR5.out).mono ?_
          rintro e y6 ⟨rfl, h6, hr6⟩
          rw [hres] at h6
          try simp only [hres]
          have HK6 := Lib.hid (by obtain ⟨cs, h0⟩ := HR5.out.blk; exact hr6.typ h0 HK5.out (by decide))
          have HR9 := Lib.hid h6
          have HP9 := Lib.hid (by obtain ⟨cs, h0⟩ := HR5.out.blk; exact HP5.out.rim hr6 h0 (by decide) (by decide) (by decide))
          have HD9 := Lib.hid (HD5.out.trans (hr6.below HRBW.out HD5.out.size))
          refine hK _ _ ?_
          clear hK K h6 hr6 HK5 HP5 HR5 HD5
          repeat (refine wpG_plain (by rfl) (by rfl) (fun K hK => ?_); go_big_quiet_op; refine hK _ ?_; clear hK K)
          refine wpG_nil ⟨⟨_, HK6.out⟩, rfl⟩ ?_
          clear hF0 hF1 hIc HK6
          go_wp2_with fail
          refine (law8same nb rb N BL p _ HP9.out HR9.out).mono ?_
          rintro e wz ⟨rfl, hb⟩
          have HPZ := Lib.hid (HP9.out.ext hb)
          have HRZ := Lib.hid (HR9.out.ext hb)
          have HDZ := Lib.hid (ext_trans HD9.out hb)
          clear hb HP9 HR9 HD9
          go_wp2
          go_roundw
          case rel => exact ⟨J + 1, BL, p, by omega, by omega, by go_num, HPZ.out, HRZ.out, HV9.out, HDZ.out⟩
          case measure => simp [intOf]; omega
        · skip
          obtain ⟨co, BL, hres⟩ : ∃ co BL, twiceM bl x.i = (co, BL) := ⟨_, _, rfl⟩
          have HV9 := Lib.hid (show Vb N BL from by have h := Vb.twice (i := x.i) HV.out; rw [hres] at h; exact h)
          go_wp2_with fail
          clear hk hkl
          haveI hIc : Nonempty (In (fun W : World => W.heap[p8]? = some (.cells #[.int .i64 4, .int .i64 x.a, .int .i64 x.b, .int .i64 x.i, .slice x.ta x.tn x.tc] 25 (0, 0)))) := ⟨⟨_, HK3.out⟩⟩
          have hF0 : ∀ g : In (fun W : World => W.heap[p8]? = some (.cells #[.int .i64 4, .int .i64 x.a, .int .i64 x.b, .int .i64 x.i, .slice x.ta x.tn x.tc] 25 (0, 0))), ∀ n, g.w.cell? ⟨p8, n, none⟩ = (#[.int .i64 4, .int .i64 x.a, .int .i64 x.b, .int .i64 x.i, .slice x.ta x.tn x.tc] : Array Value)[n]? := fun g => blk_cell g.h
          have hF1 : ∀ g : In (fun W : World => W.heap[p8]? = some (.cells #[.int .i64 4, .int .i64 x.a, .int .i64 x.b, .int .i64 x.i, .slice x.ta x.tn x.tc] 25 (0, 0))), p8 < g.w.heap.size := fun g => blk_lt g.h
          refine wp_region_chain (fun w' => ∃ g : In (fun W : World => W.heap[p8]? = some (.cells #[.int .i64 4, .int .i64 x.a, .int .i64 x.b, .int .i64 x.i, .slice x.ta x.tn x.tc] 25 (0, 0))), w' = g.w) (by kernel_rfl) (by kernel_rfl) (by kernel_rfl) ?_
          have HK4 := Lib.hid (blk_drew HK3.out)
          have HP4 := Lib.hid (HP3.out.ext (Below.refl w3.heap.size w3).drew)
          have HR4 := Lib.hid (HR3.out.ext (Below.refl w3.heap.size w3).drew)
          have HD4 := Lib.hid (ext_trans HD3.out (Below.refl w3.heap.size w3).drew)
          clear HK3 HP3 HR3 HD3
          generalize w3.drew = y4 at *
          repeat (refine wpG_plain (by rfl) (by rfl) (fun K hK => ?_); go_big_quiet_op; refine hK _ ?_; clear hK K)
          refine wpG_call (by rfl) (by rfl) ⟨⟨_, HK4.out⟩, rfl⟩ (fun K hK => ?_)
          go_big_op
          refine (pnTwiceG nb N bl x.i p y4 HP4.out).mono ?_
          rintro e y5 ⟨rfl, h5, hr5⟩
          rw [hres] at h5
          try simp only [hres]
          have HK5 := Lib.hid (by obtain ⟨cs, h0⟩ := HP4.out.blk; exact hr5.typ h0 HK4.out (by decide))
          have HP5 := Lib.hid h5
          have HR5 := Lib.hid (by obtain ⟨cs, h0⟩ := HP4.out.blk; exact HR4.out.rim hr5 h0 (by decide) (by decide))
          have HD5 := Lib.hid (HD4.out.trans (hr5.below HNB.out HD4.out.size))
          refine hK _ _ ?_
          clear hK K h5 hr5 HK4 HP4 HR4 HD4
          repeat (refine wpG_plain (by rfl) (by rfl) (fun K hK => ?_); go_big_quiet_op; refine hK _ ?_; clear hK K)
          refine wpG_call (by rfl) (by rfl) ⟨⟨_, HK5.out⟩, rfl⟩ (fun K hK => ?_)
          go_big_op
          refine (rnTwiceG rb N bl x.i p y5 HR5.out HV.out).mono ?_
          rintro e y6 ⟨rfl, h6, hr6⟩
          rw [hres] at h6
          try simp only [hres]
          have HK6 := Lib.hid (by obtain ⟨cs, h0⟩ := HR5.out.blk; exact hr6.typ h0 HK5.out (by decide))
          have HR9 := Lib.hid h6
          have HP9 := Lib.hid (by obtain ⟨cs, h0⟩ := HR5.out.blk; exact HP5.out.rim hr6 h0 (by decide) (by decide) (by decide))
          have HD9 := Lib.hid (HD5.out.trans (hr6.below HRBW.out HD5.out.size))
          refine hK _ _ ?_
          clear hK K h6 hr6 HK5 HP5 HR5 HD5
          repeat (refine wpG_plain (by rfl) (by rfl) (fun K hK => ?_); go_big_quiet_op; refine hK _ ?_; clear hK K)
          refine wpG_nil ⟨⟨_, HK6.out⟩, rfl⟩ ?_
          clear hF0 hF1 hIc HK6
          go_wp2_with fail
          refine (law8same nb rb N BL p _ HP9.out HR9.out).mono ?_
          rintro e wz ⟨rfl, hb⟩
          have HPZ := Lib.hid (HP9.out.ext hb)
          have HRZ := Lib.hid (HR9.out.ext hb)
          have HDZ := Lib.hid (ext_trans HD9.out hb)
          clear hb HP9 HR9 HD9
          go_wp2
          go_roundw
          case rel => exact ⟨J + 1, BL, p, by omega, by omega, by go_num, HPZ.out, HRZ.out, HV9.out, HDZ.out⟩
          case measure => simp [intOf]; omega
        · skip
          obtain ⟨co, PP, hres⟩ : ∃ co PP, setM N p x.a x.b true = (co, PP) := ⟨_, _, rfl⟩
          have HV9 := Lib.hid HV.out
          go_wp2_with fail
          clear hk hkl
          haveI hIc : Nonempty (In (fun W : World => W.heap[p8]? = some (.cells #[.int .i64 5, .int .i64 x.a, .int .i64 x.b, .int .i64 x.i, .slice x.ta x.tn x.tc] 25 (0, 0)))) := ⟨⟨_, HK3.out⟩⟩
          have hF0 : ∀ g : In (fun W : World => W.heap[p8]? = some (.cells #[.int .i64 5, .int .i64 x.a, .int .i64 x.b, .int .i64 x.i, .slice x.ta x.tn x.tc] 25 (0, 0))), ∀ n, g.w.cell? ⟨p8, n, none⟩ = (#[.int .i64 5, .int .i64 x.a, .int .i64 x.b, .int .i64 x.i, .slice x.ta x.tn x.tc] : Array Value)[n]? := fun g => blk_cell g.h
          have hF1 : ∀ g : In (fun W : World => W.heap[p8]? = some (.cells #[.int .i64 5, .int .i64 x.a, .int .i64 x.b, .int .i64 x.i, .slice x.ta x.tn x.tc] 25 (0, 0))), p8 < g.w.heap.size := fun g => blk_lt g.h
          refine wp_region_chain (fun w' => ∃ g : In (fun W : World => W.heap[p8]? = some (.cells #[.int .i64 5, .int .i64 x.a, .int .i64 x.b, .int .i64 x.i, .slice x.ta x.tn x.tc] 25 (0, 0))), w' = g.w) (by kernel_rfl) (by kernel_rfl) (by kernel_rfl) ?_
          have HK4 := Lib.hid (blk_drew HK3.out)
          have HP4 := Lib.hid (HP3.out.ext (Below.refl w3.heap.size w3).drew)
          have HR4 := Lib.hid (HR3.out.ext (Below.refl w3.heap.size w3).drew)
          have HD4 := Lib.hid (ext_trans HD3.out (Below.refl w3.heap.size w3).drew)
          clear HK3 HP3 HR3 HD3
          generalize w3.drew = y4 at *
          repeat (refine wpG_plain (by rfl) (by rfl) (fun K hK => ?_); go_big_quiet_op; refine hK _ ?_; clear hK K)
          refine wpG_call (by rfl) (by rfl) ⟨⟨_, HK4.out⟩, rfl⟩ (fun K hK => ?_)
          go_big_op
          refine (pnCutG nb N bl x.a x.b p y4 HP4.out).mono ?_
          rintro e y5 ⟨rfl, h5, hr5⟩
          rw [hres] at h5
          try simp only [hres]
          have HK5 := Lib.hid (by obtain ⟨cs, h0⟩ := HP4.out.blk; exact hr5.typ h0 HK4.out (by decide))
          have HP5 := Lib.hid h5
          have HR5 := Lib.hid (by obtain ⟨cs, h0⟩ := HP4.out.blk; exact HR4.out.rim hr5 h0 (by decide) (by decide))
          have HD5 := Lib.hid (HD4.out.trans (hr5.below HNB.out HD4.out.size))
          refine hK _ _ ?_
          clear hK K h5 hr5 HK4 HP4 HR4 HD4
          repeat (refine wpG_plain (by rfl) (by rfl) (fun K hK => ?_); go_big_quiet_op; refine hK _ ?_; clear hK K)
          refine wpG_call (by rfl) (by rfl) ⟨⟨_, HK5.out⟩, rfl⟩ (fun K hK => ?_)
          go_big_op
          refine (rnSetN rb N bl x.a x.b true p y5 HR5.out).mono ?_
          rintro e y6 ⟨rfl, h6, hr6⟩
          rw [hres] at h6
          try simp only [hres]
          have HK6 := Lib.hid (by obtain ⟨cs, h0⟩ := HR5.out.blk; exact hr6.typ h0 HK5.out (by decide))
          have HR9 := Lib.hid h6
          have HP9 := Lib.hid (by obtain ⟨cs, h0⟩ := HR5.out.blk; exact HP5.out.rim hr6 h0 (by decide) (by decide) (by decide))
          have HD9 := Lib.hid (HD5.out.trans (hr6.below HRBW.out HD5.out.size))
          refine hK _ _ ?_
          clear hK K h6 hr6 HK5 HP5 HR5 HD5
          repeat (refine wpG_plain (by rfl) (by rfl) (fun K hK => ?_); go_big_quiet_op; refine hK _ ?_; clear hK K)
          refine wpG_nil ⟨⟨_, HK6.out⟩, rfl⟩ ?_
          clear hF0 hF1 hIc HK6
          go_wp2_with fail
          refine (law8same nb rb N bl PP _ HP9.out HR9.out).mono ?_
          rintro e wz ⟨rfl, hb⟩
          have HPZ := Lib.hid (HP9.out.ext hb)
          have HRZ := Lib.hid (HR9.out.ext hb)
          have HDZ := Lib.hid (ext_trans HD9.out hb)
          clear hb HP9 HR9 HD9
          go_wp2
          go_roundw
          case rel => exact ⟨J + 1, bl, PP, by omega, by omega, by go_num, HPZ.out, HRZ.out, HV9.out, HDZ.out⟩
          case measure => simp [intOf]; omega
        · skip
          obtain ⟨co, PP, hres⟩ : ∃ co PP, setM N p x.a x.b false = (co, PP) := ⟨_, _, rfl⟩
          have HV9 := Lib.hid HV.out
          go_wp2_with fail
          clear hk hkl
          haveI hIc : Nonempty (In (fun W : World => W.heap[p8]? = some (.cells #[.int .i64 6, .int .i64 x.a, .int .i64 x.b, .int .i64 x.i, .slice x.ta x.tn x.tc] 25 (0, 0)))) := ⟨⟨_, HK3.out⟩⟩
          have hF0 : ∀ g : In (fun W : World => W.heap[p8]? = some (.cells #[.int .i64 6, .int .i64 x.a, .int .i64 x.b, .int .i64 x.i, .slice x.ta x.tn x.tc] 25 (0, 0))), ∀ n, g.w.cell? ⟨p8, n, none⟩ = (#[.int .i64 6, .int .i64 x.a, .int .i64 x.b, .int .i64 x.i, .slice x.ta x.tn x.tc] : Array Value)[n]? := fun g => blk_cell g.h
          have hF1 : ∀ g : In (fun W : World => W.heap[p8]? = some (.cells #[.int .i64 6, .int .i64 x.a, .int .i64 x.b, .int .i64 x.i, .slice x.ta x.tn x.tc] 25 (0, 0))), p8 < g.w.heap.size := fun g => blk_lt g.h
          refine wp_region_chain (fun w' => ∃ g : In (fun W : World => W.heap[p8]? = some (.cells #[.int .i64 6, .int .i64 x.a, .int .i64 x.b, .int .i64 x.i, .slice x.ta x.tn x.tc] 25 (0, 0))), w' = g.w) (by kernel_rfl) (by kernel_rfl) (by kernel_rfl) ?_
          have HK4 := Lib.hid (blk_drew HK3.out)
          have HP4 := Lib.hid (HP3.out.ext (Below.refl w3.heap.size w3).drew)
          have HR4 := Lib.hid (HR3.out.ext (Below.refl w3.heap.size w3).drew)
          have HD4 := Lib.hid (ext_trans HD3.out (Below.refl w3.heap.size w3).drew)
          clear HK3 HP3 HR3 HD3
          generalize w3.drew = y4 at *
          repeat (refine wpG_plain (by rfl) (by rfl) (fun K hK => ?_); go_big_quiet_op; refine hK _ ?_; clear hK K)
          refine wpG_call (by rfl) (by rfl) ⟨⟨_, HK4.out⟩, rfl⟩ (fun K hK => ?_)
          go_big_op
          refine (pnHealG nb N bl x.a x.b p y4 HP4.out).mono ?_
          rintro e y5 ⟨rfl, h5, hr5⟩
          rw [hres] at h5
          try simp only [hres]
          have HK5 := Lib.hid (by obtain ⟨cs, h0⟩ := HP4.out.blk; exact hr5.typ h0 HK4.out (by decide))
          have HP5 := Lib.hid h5
          have HR5 := Lib.hid (by obtain ⟨cs, h0⟩ := HP4.out.blk; exact HR4.out.rim hr5 h0 (by decide) (by decide))
          have HD5 := Lib.hid (HD4.out.trans (hr5.below HNB.out HD4.out.size))
          refine hK _ _ ?_
          clear hK K h5 hr5 HK4 HP4 HR4 HD4
          repeat (refine wpG_plain (by rfl) (by rfl) (fun K hK => ?_); go_big_quiet_op; refine hK _ ?_; clear hK K)
          refine wpG_call (by rfl) (by rfl) ⟨⟨_, HK5.out⟩, rfl⟩ (fun K hK => ?_)
          go_big_op
          refine (rnSetN rb N bl x.a x.b false p y5 HR5.out).mono ?_
          rintro e y6 ⟨rfl, h6, hr6⟩
          rw [hres] at h6
          try simp only [hres]
          have HK6 := Lib.hid (by obtain ⟨cs, h0⟩ := HR5.out.blk; exact hr6.typ h0 HK5.out (by decide))
          have HR9 := Lib.hid h6
          have HP9 := Lib.hid (by obtain ⟨cs, h0⟩ := HR5.out.blk; exact HP5.out.rim hr6 h0 (by decide) (by decide) (by decide))
          have HD9 := Lib.hid (HD5.out.trans (hr6.below HRBW.out HD5.out.size))
          refine hK _ _ ?_
          clear hK K h6 hr6 HK5 HP5 HR5 HD5
          repeat (refine wpG_plain (by rfl) (by rfl) (fun K hK => ?_); go_big_quiet_op; refine hK _ ?_; clear hK K)
          refine wpG_nil ⟨⟨_, HK6.out⟩, rfl⟩ ?_
          clear hF0 hF1 hIc HK6
          go_wp2_with fail
          refine (law8same nb rb N bl PP _ HP9.out HR9.out).mono ?_
          rintro e wz ⟨rfl, hb⟩
          have HPZ := Lib.hid (HP9.out.ext hb)
          have HRZ := Lib.hid (HR9.out.ext hb)
          have HDZ := Lib.hid (ext_trans HD9.out hb)
          clear hb HP9 HR9 HD9
          go_wp2
          go_roundw
          case rel => exact ⟨J + 1, bl, PP, by omega, by omega, by go_num, HPZ.out, HRZ.out, HV9.out, HDZ.out⟩
          case measure => simp [intOf]; omega
        · skip
          obtain ⟨co, BL, hres⟩ : ∃ co BL, sendM N bl ⟨x.a, x.b, x.xs⟩ = (co, BL) := ⟨_, _, rfl⟩
          have HV9 := Lib.hid (show Vb N BL from by have h := Vb.send (y := ⟨x.a, x.b, x.xs⟩) HV.out; rw [hres] at h; exact h)
          have HXW := Lib.hid (show BAt w3 x.ta x.xs from HX.out.1.ext HD3.out)
          go_wp2_with fail
          clear hk hkl
          haveI hIc : Nonempty (In (fun W : World => W.heap[p8]? = some (.cells #[.int .i64 kk, .int .i64 x.a, .int .i64 x.b, .int .i64 x.i, .slice x.ta x.tn x.tc] 25 (0, 0)) ∧ BAt W x.ta x.xs)) := ⟨⟨_, HK3.out, HXW.out⟩⟩
          have hF0 : ∀ g : In (fun W : World => W.heap[p8]? = some (.cells #[.int .i64 kk, .int .i64 x.a, .int .i64 x.b, .int .i64 x.i, .slice x.ta x.tn x.tc] 25 (0, 0)) ∧ BAt W x.ta x.xs), ∀ n, g.w.cell? ⟨p8, n, none⟩ = (#[.int .i64 kk, .int .i64 x.a, .int .i64 x.b, .int .i64 x.i, .slice x.ta x.tn x.tc] : Array Value)[n]? := fun g => blk_cell g.h.1
          have hF1 : ∀ g : In (fun W : World => W.heap[p8]? = some (.cells #[.int .i64 kk, .int .i64 x.a, .int .i64 x.b, .int .i64 x.i, .slice x.ta x.tn x.tc] 25 (0, 0)) ∧ BAt W x.ta x.xs), p8 < g.w.heap.size := fun g => blk_lt g.h.1
          have hF2 : ∀ g : In (fun W : World => W.heap[p8]? = some (.cells #[.int .i64 kk, .int .i64 x.a, .int .i64 x.b, .int .i64 x.i, .slice x.ta x.tn x.tc] 25 (0, 0)) ∧ BAt W x.ta x.xs), (convert 23 9 (.slice x.ta x.tn x.tc)).run Try.prog g.w = .ok (.string (strOfNums x.xs)) g.w := fun g => run_text g.w 23 5 Try.underlying23 Try.underlying5 9 Try.underlying9 x.ta x.tn x.tc x.xs HX.out.2.1 g.h.2
          refine wp_region_chain (fun w' => ∃ g : In (fun W : World => W.heap[p8]? = some (.cells #[.int .i64 kk, .int .i64 x.a, .int .i64 x.b, .int .i64 x.i, .slice x.ta x.tn x.tc] 25 (0, 0)) ∧ BAt W x.ta x.xs), w' = g.w) (by kernel_rfl) (by kernel_rfl) (by kernel_rfl) ?_
          have HK4 := Lib.hid (blk_drew HK3.out)
          have HP4 := Lib.hid (HP3.out.ext (Below.refl w3.heap.size w3).drew)
          have HR4 := Lib.hid (HR3.out.ext (Below.refl w3.heap.size w3).drew)
          have HD4 := Lib.hid (ext_trans HD3.out (Below.refl w3.heap.size w3).drew)
          clear HK3 HP3 HR3 HD3
          generalize w3.drew = y4 at *
          have HX4 := Lib.hid (show BAt y4 x.ta x.xs from HX.out.1.ext HD4.out)
          clear HXW
          repeat (refine wpG_plain (by rfl) (by rfl) (fun K hK => ?_); go_big_quiet_op; refine hK _ ?_; clear hK K)
          refine wpG_call (by rfl) (by rfl) ⟨⟨_, HK4.out, HX4.out⟩, rfl⟩ (fun K hK => ?_)
          go_big_op
          refine (pnSendG nb N bl ⟨x.a, x.b, x.ta, x.tn, x.tc⟩ ⟨x.a, x.b, x.xs⟩ p y4 HP4.out rfl rfl HX4.out HX.out.2.1 HX.out.2.2).mono ?_
          rintro e y5 ⟨rfl, h5, hr5⟩
          rw [hres] at h5
          try simp only [hres]
          have HK5 := Lib.hid (by obtain ⟨cs, h0⟩ := HP4.out.blk; exact hr5.typ h0 HK4.out (by decide))
          have HP5 := Lib.hid h5
          have HR5 := Lib.hid (by obtain ⟨cs, h0⟩ := HP4.out.blk; exact HR4.out.rim hr5 h0 (by decide) (by decide))
          have HD5 := Lib.hid (HD4.out.trans (hr5.below HNB.out HD4.out.size))
          have HX5 := Lib.hid (show BAt y5 x.ta x.xs from HX.out.1.ext HD5.out)
          refine hK _ _ ?_
          clear hK K h5 hr5 HK4 HP4 HR4 HD4 HX4
          repeat (refine wpG_plain (by rfl) (by rfl) (fun K hK => ?_); go_big_quiet_op; refine hK _ ?_; clear hK K)
          refine wpG_call (by rfl) (by rfl) ⟨⟨_, HK5.out, HX5.out⟩, rfl⟩ (fun K hK => ?_)
          go_big_op
          refine (rnSendG rb N bl ⟨x.a, x.b, x.xs⟩ p y5 HR5.out).mono ?_
          rintro e y6 ⟨rfl, h6, hr6⟩
          rw [hres] at h6
          try simp only [hres]
          have HK6 := Lib.hid (by obtain ⟨cs, h0⟩ := HR5.out.blk; exact hr6.typ h0 HK5.out (by decide))
          have HR9 := Lib.hid h6
          have HP9 := Lib.hid (by obtain ⟨cs, h0⟩ := HR5.out.blk; exact HP5.out.rim hr6 h0 (by decide) (by decide) (by decide))
          have HD9 := Lib.hid (HD5.out.trans (hr6.below HRBW.out HD5.out.size))
          have HX6 := Lib.hid (show BAt y6 x.ta x.xs from HX.out.1.ext HD9.out)
          refine hK _ _ ?_
          clear hK K h6 hr6 HK5 HP5 HR5 HD5 HX5
          repeat (refine wpG_plain (by rfl) (by rfl) (fun K hK => ?_); go_big_quiet_op; refine hK _ ?_; clear hK K)
          refine wpG_nil ⟨⟨_, HK6.out, HX6.out⟩, rfl⟩ ?_
          clear hF0 hF1 hF2 hIc HK6 HX6
          go_wp2_with fail
          refine (law8same nb rb N BL p _ HP9.out HR9.out).mono ?_
          rintro e wz ⟨rfl, hb⟩
          have HPZ := Lib.hid (HP9.out.ext hb)
          have HRZ := Lib.hid (HR9.out.ext hb)
          have HDZ := Lib.hid (ext_trans HD9.out hb)
          clear hb HP9 HR9 HD9
          go_wp2
          go_roundw
          case rel => exact ⟨J + 1, BL, p, by omega, by omega, by go_num, HPZ.out, HRZ.out, HV9.out, HDZ.out⟩
          case measure => simp [intOf]; omega
      · by_cases hJ1 : J < m
        · have hJi : (J : Int) < (m : Int) := by omega
          have hJ2 : ¬ (J : Int) < 120 := by omega
          have hJ3 : decide ((J : Int) < 120) = false := decide_eq_false hJ2
          go_wp2
          go_ret
          exact ⟨rfl, HD.out⟩
        · have hJi : ¬ (J : Int) < (m : Int) := by omega
          have hJ3 : decide ((J : Int) < (m : Int)) = false := decide_eq_false hJi
          go_wp2
          go_ret
          exact ⟨rfl, HD.out⟩
  · have hno : nd < 1 ∨ 6 < nd := by omega
    go_enter Try.func6, Try.ntmps6
    go_wp2_with fail
    refine (netNew_no nd _ hno).mono ?_
    rintro e w1 ⟨rfl, hw⟩
    obtain rfl := hw
    by_cases h1 : nd < 1
    · have d1 : decide (nd < 1) = true := decide_eq_true h1
      go_wp2
      go_ret
      exact ⟨rfl, Below.refl _ _⟩
    · have d1 : decide (nd < 1) = false := decide_eq_false h1
      have d2 : decide (6 < nd) = true := decide_eq_true (by omega)
      go_wp2
      go_ret
      exact ⟨rfl, Below.refl _ _⟩

end Go.Proofs.Ytkkmnodhmmdllaa
