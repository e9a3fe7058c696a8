/- 'SweepDeads': the walk. -/
import Derived.Test.YtohiimfojlcomaaSweepF
import Derived.Test.YtohiimfojlcomaaMask
namespace Go.Proofs.Ytohiimfojlcomaa
open Go.RowKit
set_option linter.unusedVariables false
set_option linter.unusedSimpArgs false

set_option maxRecDepth 100000 in
set_option maxHeartbeats 4000000 in
theorem sweepDeads_walk (ra : Option Addr) (rlen rcap : Nat) (rz : List Int) (now : Int) (w : World) (hr : IsRow .i64 w ra rlen rcap rz) (hr8 : rlen * 8 ≤ 140737488351232) (hw1 : (Lit.int .i64 now).wf = true) :
    Calls Try.prog 7 #[.slice ra rlen rcap, .int .i64 now] w fun e w' => e = .returned (.bool true) ∧ Below w.heap.size w w' := by
  obtain ⟨N, hN⟩ : ∃ N, bits BinOp.and IntKind.i64 now 1023 = N := ⟨_, rfl⟩
  have hN0 : 0 ≤ N := by rw [← hN, and_1023]; omega
  have hN1 : N < 1024 := by rw [← hN, and_1023]; omega
  clear hr8 hw1
  go_enter Try.func7, Try.ntmps7
  go_wp2_with fail
  refine (law12made ra rlen rcap rz _ hr).mono ?_
  rintro e w1 ⟨lv, es, cs, rfl, ho, hmap, hl19, hes, hb1⟩
  have HAP := Lib.hid (keys_apart hmap)
  obtain ⟨ea, ec_, rfl, hec, hem, heat, -, -⟩ := ho.read ec_len
  obtain ⟨n, hn⟩ : ∃ n, es.length = n := ⟨_, rfl⟩
  have HN := Lib.hid hn
  rw [hn] at hec hl19 ⊢
  have HEA := Lib.hid heat
  have HES := Lib.hid hes
  have HB1 := Lib.hid hb1
  unfold maxLen at hem
  clear ho hmap hes hb1 heat hn hr
  go_wp2_with fail
  refine (sweepDead ea n ec_ es N _ HEA.out HN.out (by omega) hec).mono ?_
  rintro e w2 ⟨dv, rfl, hod, hbd⟩
  obtain ⟨da, dc, rfl, hdc, hdm, hdat, -, hdf⟩ := hod.read ky_len
  obtain ⟨D, hD⟩ : ∃ D, (deadL es N).length = D := ⟨_, rfl⟩
  have HDL := Lib.hid hD
  rw [hD] at hdc ⊢
  have hD19 : D ≤ 19 := by rw [← hD]; have := dead_len es N; have := HN.out; omega
  have HDA := Lib.hid hdat
  have HB12 := Lib.hid hbd
  have HB2 := Lib.hid (ext_trans HB1.out hbd)
  unfold maxLen at hdm
  clear hod hbd hdat hD
  go_wp2_with fail
  refine (sweepPick0 ea n ec_ es N 0 _ (HEA.out.ext HB12.out) HN.out hl19 hec (by omega)).mono ?_
  rintro e w3 ⟨pv, rfl, hop, hbp⟩
  obtain ⟨pa, pc, rfl, hpc, hpm, hpat, -, hpf⟩ := hop.read ky_len
  obtain ⟨P, hP⟩ : ∃ P, (pickL es N 0).length = P := ⟨_, rfl⟩
  have HPL := Lib.hid hP
  rw [hP] at hpc ⊢
  have hP19 : P ≤ 19 := by rw [← hP, pick_len]; have := tars_len es N 0; have := HN.out; omega
  have HPA := Lib.hid hpat
  have HB23 := Lib.hid hbp
  have HB13 := Lib.hid (ext_trans HB12.out hbp)
  have HB3 := Lib.hid (ext_trans HB2.out hbp)
  unfold maxLen at hpm
  clear hop hbp hpat hP
  go_wp2_with fail
  go_loopw [9, 28] (fun c i wr => ∃ J : Nat, J ≤ n ∧ i = .int .i64 (J : Int) ∧ c = .int .i64 (((deadL (es.take J) N).length : Nat) : Int) ∧ Below w3.heap.size w3 wr) (fun c i _ => n - (intOf i).toNat)
  case atStart => exact ⟨0, by omega, rfl, rfl, Below.refl _ _⟩
  case round =>
    obtain ⟨w4, rfl⟩ : ∃ y : World, y = wr := ⟨_, rfl⟩
    obtain ⟨J, hJ, rfl, rfl, hb4⟩ := hrel
    obtain ⟨C, hC⟩ : ∃ C, (deadL (es.take J) N).length = C := ⟨_, rfl⟩
    have HC := Lib.hid hC
    have hC19 : C ≤ 19 := by rw [← hC]; have := dead_len (es.take J) N; rw [List.length_take] at this; omega
    rw [hC]
    clear hC
    by_cases hlt : J < n
    · obtain ⟨x, hx⟩ : ∃ x, es[J]? = some x := ⟨_, List.getElem?_eq_getElem (by have := HN.out; omega)⟩
      have HST := Lib.hid (take_snoc hx)
      have HX1 := Lib.hid hx
      have HXS := Lib.hid (HES.out x (List.mem_of_getElem? hx))
      obtain ⟨tb, tof, rfl⟩ : ∃ b o, ea = some ⟨b, o, none⟩ := by
        rcases HEA.out with h | ⟨b, o, e, _⟩
        · rw [h] at hx; simp at hx
        · exact ⟨b, o, e⟩
      obtain ⟨x0, x1, x2, x3, x4, x5, x6, x7, x8, x9⟩ := EAt.at ((HEA.out.ext HB13.out).ext hb4) hx
      have D0 : Below w4.heap.size w4 (w4.alloc (.cells #[.string x.c.a, .string x.c.i, .int .i64 x.c.s, .int .i64 x.c.o, .int .i64 x.c.l, .int .i64 x.c.t, .int .i64 x.c.k, .int .i64 x.c.n, .bool x.c.g, .int .i64 x.seen] 36)) := (Below.refl _ _).alloc (Nat.le_refl _) _
      have HX := Lib.hid (blk_new w4 #[.string x.c.a, .string x.c.i, .int .i64 x.c.s, .int .i64 x.c.o, .int .i64 x.c.l, .int .i64 x.c.t, .int .i64 x.c.k, .int .i64 x.c.n, .bool x.c.g, .int .i64 x.seen] 36)
      have HB5 := Lib.hid (ext_trans hb4 D0)
      clear hb4 D0 hx
      go_upto_region 8 with (fail)
      obtain ⟨r, hrr⟩ : ∃ r, w4.heap.size = r := ⟨_, rfl⟩
      rw [hrr] at HX ⊢
      clear hrr
      generalize (w4.alloc (.cells #[.string x.c.a, .string x.c.i, .int .i64 x.c.s, .int .i64 x.c.o, .int .i64 x.c.l, .int .i64 x.c.t, .int .i64 x.c.k, .int .i64 x.c.n, .bool x.c.g, .int .i64 x.seen] 36)) = w5 at *
      clear x0 x1 x2 x3 x4 x5 x6 x7 x8 x9
      have hs0 : 0 ≤ x.seen := HXS.out.1
      have hs1 : x.seen < 120 := HXS.out.2.1
      cases hg : x.c.g
      · have HXg := Lib.hid (show w5.heap[r]? = some (.cells #[.string x.c.a, .string x.c.i, .int .i64 x.c.s, .int .i64 x.c.o, .int .i64 x.c.l, .int .i64 x.c.t, .int .i64 x.c.k, .int .i64 x.c.n, .bool false, .int .i64 x.seen] 36 (0, 0)) from by have := HX.out; rw [hg] at this; exact this)
        have hk5 := blk_cell HXg.out
        have HD := Lib.hid (dead_is HXS.out hN0 (show N < 4096 by omega))
        rw [hg] at HD
        have HDD := Lib.hid (show isDead N x = false from by rw [HD.out]; rfl)
        clear hg HX HD
        go_wp2
        go_roundw
        case rel => exact ⟨J + 1, by omega, by go_num, by rw [HST.out, dead_no HDD.out, HC.out], HB5.out⟩
        case measure => simp [intOf]; omega
      · have HXg := Lib.hid (show w5.heap[r]? = some (.cells #[.string x.c.a, .string x.c.i, .int .i64 x.c.s, .int .i64 x.c.o, .int .i64 x.c.l, .int .i64 x.c.t, .int .i64 x.c.k, .int .i64 x.c.n, .bool true, .int .i64 x.seen] 36 (0, 0)) from by have := HX.out; rw [hg] at this; exact this)
        have hk5 := blk_cell HXg.out
        have HD := Lib.hid (dead_is HXS.out hN0 (show N < 4096 by omega))
        rw [hg] at HD
        by_cases h4 : 400 < N - x.seen
        · have HDD := Lib.hid (show isDead N x = true from by rw [HD.out]; simp [h4])
          have hd4 : decide (400 < N - x.seen) = true := decide_eq_true h4
          have HAT := Lib.hid (show (deadL es N)[C]? = some (key x) from by rw [← HC.out]; exact dead_at HX1.out HDD.out)
          clear hg HX HD
          obtain ⟨db, rfl⟩ : ∃ g, da = some ⟨g, 0, none⟩ := by
            rcases hdf with ⟨_, _, e⟩ | ⟨g, e⟩
            · rw [e] at HAT; have := HAT.out; simp at this
            · exact ⟨g, e⟩
          obtain ⟨y0, y1⟩ := KyAt.at ((HDA.out.ext HB23.out).ext HB5.out) HAT.out
          simp only [Nat.zero_add, key] at y0 y1
          have hC : C < D := by have := List.getElem?_eq_some_iff.1 HAT.out; obtain ⟨h, _⟩ := this; rw [HDL.out] at h; exact h
          have hd5n : decide (D ≤ C) = false := decide_eq_false (by omega)
          have hd5 : decide ((D : Int) ≤ (C : Int)) = false := decide_eq_false (by omega)
          have z0 : w5.cell? ⟨r, 0, none⟩ = some (.string x.c.a) := by rw [blk_cell HXg.out]; rfl
          have z1 : w5.cell? ⟨r, 1, none⟩ = some (.string x.c.i) := by rw [blk_cell HXg.out]; rfl
          go_wp2_with fail
          haveI hIq : Nonempty (Of w5) := of_some _
          have hF0 := of_cell y0
          have hF1 := of_cell y1
          have hF2 := of_cell z0
          have hF3 := of_cell z1
          first | (refine wp_region_stay w5 (by kernel_rfl) (by kernel_rfl) (by go_grown) ?_) | (refine wp_region_stay_seq w5 (by go_grown) ?_)
          repeat (go_big_quiet_step (fail))
          refine wpQuiet_nil ?_
          intro w6 hb6
          have HB6 := Lib.hid (ext_trans HB5.out hb6)
          clear hIq hF0 hF1 hF2 hF3 hb6
          go_wp2
          go_roundw
          case rel => exact ⟨J + 1, by omega, by go_num, by rw [HST.out, dead_yes HDD.out, List.length_append, HC.out]; go_num, HB6.out⟩
          case measure => simp [intOf]; omega
        · have HDD := Lib.hid (show isDead N x = false from by rw [HD.out]; simp [h4])
          have hd4 : decide (400 < N - x.seen) = false := decide_eq_false h4
          clear hg HX HD
          go_wp2
          go_roundw
          case rel => exact ⟨J + 1, by omega, by go_num, by rw [HST.out, dead_no HDD.out, HC.out], HB5.out⟩
          case measure => simp [intOf]; omega
    · obtain rfl : J = n := by omega
      have hCD : C = D := by rw [← HC.out, List.take_of_length_le (by have := HN.out; omega), HDL.out]
      subst hCD
      have HB34 := Lib.hid hb4
      have HB24 := Lib.hid (ext_trans HB23.out hb4)
      have HB4 := Lib.hid (ext_trans HB3.out hb4)
      clear hb4
      go_wp2_with fail
      go_loopw [61] (fun i wr => ∃ J : Nat, J ≤ P ∧ i = .int .i64 (J : Int) ∧ Below w4.heap.size w4 wr) (fun i _ => P - (intOf i).toNat)
      case atStart => exact ⟨0, by omega, rfl, Below.refl _ _⟩
      case round =>
        obtain ⟨w5, rfl⟩ : ∃ y : World, y = wr := ⟨_, rfl⟩
        obtain ⟨J, hJ, rfl, hb5⟩ := hrel
        by_cases hlt2 : J < P
        · have hlt2' : J < (pickL es N 0).length := by rw [HPL.out]; exact hlt2
          obtain ⟨k, hk⟩ : ∃ k, (pickL es N 0)[J]? = some k := ⟨_, List.getElem?_eq_getElem hlt2'⟩
          have HK := Lib.hid hk
          obtain ⟨pb, rfl⟩ : ∃ g, pa = some ⟨g, 0, none⟩ := by
            rcases hpf with ⟨_, _, e⟩ | ⟨g, e⟩
            · rw [e] at hk; simp at hk
            · exact ⟨g, e⟩
          obtain ⟨x0, x1⟩ := KyAt.at ((HPA.out.ext HB34.out).ext hb5) hk
          simp only [Nat.zero_add] at x0 x1
          have C0 : Below w5.heap.size w5 (w5.alloc (.cells #[.string k.1, .string k.2] 30)) := (Below.refl _ _).alloc (Nat.le_refl _) _
          have HXK := Lib.hid (blk_new w5 #[.string k.1, .string k.2] 30)
          have HB6 := Lib.hid (ext_trans hb5 C0)
          clear hb5 C0 hk
          go_upto_region 16 with (fail)
          obtain ⟨r, hrr⟩ : ∃ r, w5.heap.size = r := ⟨_, rfl⟩
          rw [hrr] at HXK ⊢
          clear hrr
          generalize (w5.alloc (.cells #[.string k.1, .string k.2] 30)) = w6 at *
          clear x0 x1
          go_wp2_with fail
          go_loopw [67] (fun i wr => ∃ I : Nat, I ≤ C ∧ i = .int .i64 (I : Int) ∧ Below w6.heap.size w6 wr) (fun i _ => C - (intOf i).toNat)
          case atStart => exact ⟨0, by omega, rfl, Below.refl _ _⟩
          case round =>
            obtain ⟨w7, rfl⟩ : ∃ y : World, y = wr := ⟨_, rfl⟩
            obtain ⟨I, hI, rfl, hb7⟩ := hrel
            by_cases hlt3 : I < C
            · have hlt3' : I < (deadL es N).length := by rw [HDL.out]; exact hlt3
              obtain ⟨u, hu⟩ : ∃ u, (deadL es N)[I]? = some u := ⟨_, List.getElem?_eq_getElem hlt3'⟩
              obtain ⟨db, rfl⟩ : ∃ g, da = some ⟨g, 0, none⟩ := by
                rcases hdf with ⟨_, _, e⟩ | ⟨g, e⟩
                · rw [e] at hu; simp at hu
                · exact ⟨g, e⟩
              have hne := pick_dead HAP.out (List.mem_of_getElem? HK.out) (List.mem_of_getElem? hu)
              obtain ⟨y0, y1⟩ := KyAt.at (((HDA.out.ext HB24.out).ext HB6.out).ext hb7) hu
              simp only [Nat.zero_add] at y0 y1
              have HX7 := Lib.hid (blk_ext hb7 HXK.out)
              have hk7 := blk_cell HX7.out
              have hl7 := blk_lt HX7.out
              have HB7 := Lib.hid hb7
              clear hb7 hu
              by_cases h1 : k.1 = u.1
              · have h2 : ¬ k.2.toList = u.2.toList := fun e => hne (Prod.ext h1 (str_inj e))
                rw [← h1] at y0
                clear h1 hne
                go_wp2
                go_roundw
                case rel => exact ⟨I + 1, by omega, by go_num, HB7.out.alloc HB7.out.size _⟩
                case measure => simp [intOf]; omega
              · have h2 : ¬ k.1.toList = u.1.toList := fun e => h1 (str_inj e)
                clear h1 hne
                go_wp2
                go_roundw
                case rel => exact ⟨I + 1, by omega, by go_num, HB7.out.alloc HB7.out.size _⟩
                case measure => simp [intOf]; omega
            · obtain rfl : I = C := by omega
              have HB7 := Lib.hid (ext_trans HB6.out hb7)
              clear hb7
              go_wp2
              go_roundw
              case rel => exact ⟨J + 1, by omega, by go_num, HB7.out⟩
              case measure => simp [intOf]; omega
        · obtain rfl : J = P := by omega
          have HB7 := Lib.hid (ext_trans HB4.out hb5)
          clear hb5
          go_wp2_with fail
          refine (law12known _).mono ?_
          rintro e w7 ⟨rfl, hb7⟩
          have HB8 := Lib.hid (ext_trans HB7.out hb7)
          clear hb7
          go_wp2
          go_ret
          exact ⟨rfl, HB8.out⟩

end Go.Proofs.Ytohiimfojlcomaa
