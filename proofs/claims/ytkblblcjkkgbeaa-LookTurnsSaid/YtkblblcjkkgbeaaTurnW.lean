/- 'LookTurns': the walk. -/
import Derived.Test.YtkblblcjkkgbeaaLookK
import Derived.Test.YtkblblcjkkgbeaaTurnL
import Derived.Test.YtkblblcjkkgbeaaInv
import Derived.Test.YtkblblcjkkgbeaaMask
import Derived.Maps.RangeWalk
namespace Go.Proofs.Ytkblblcjkkgbeaa
open Go.RowKit
set_option linter.unusedVariables false
set_option linter.unusedSimpArgs false

set_option maxRecDepth 100000 in
set_option maxHeartbeats 2000000 in
theorem lookTurns_walk (ra : Option Addr) (rlen rcap : Nat) (rz : List Int) (t : Int) (w : World) (hr : IsRow .i64 w ra rlen rcap rz) (hr8 : rlen * 8 ≤ 140737488351232) (htw : (Lit.int .i64 t).wf = true) :
    Calls Try.prog 4 #[.slice ra rlen rcap, .int .i64 t] w fun e w' => e = .returned (.bool true) ∧ Below w.heap.size w w' := by
  have D0 : Below w.heap.size w (w.alloc (.cells #[.slice ra rlen rcap, .int .i64 0] 26)) := (Below.refl _ _).alloc (Nat.le_refl _) _
  have HT0 := Lib.hid (tapeK_new (a := ra) (len := rlen) (cap := rcap) w)
  have HR0 := Lib.hid (rowOk_new hr (.cells #[.slice ra rlen rcap, .int .i64 0] 26))
  have HD0 := Lib.hid D0
  clear hr D0
  obtain ⟨A, hA⟩ : ∃ A : Nat, t % 65536 = (A : Int) := ⟨(t % 65536).toNat, by omega⟩
  have hband : bits BinOp.and IntKind.i64 t 65535 = (A : Int) := by rw [and_65535]; exact hA
  have hA2 : A < 65536 := by omega
  clear hA
  go_enter Try.func4, Try.ntmps4
  go_wp2_with fail
  generalize (w.alloc (.cells #[.slice ra rlen rcap, .int .i64 0] 26)) = w0 at *
  refine (tapeCards ra rlen rcap rz w.heap.size 14 _ HT0.out HR0.out (by omega)).mono ?_
  rintro e w1 ⟨lv, cs, rfl, ho, hl, hok, -, hb⟩
  obtain ⟨ca, cc', rfl, hcc, hcm, hcat, -, -⟩ := ho.read
  have HCA := Lib.hid hcat
  have HB1 := Lib.hid (HD0.out.trans (hb.below (Nat.le_refl _) HD0.out.size))
  have HOK := Lib.hid hok
  clear ho hok hb hcat HT0 HR0 HD0
  go_wp2_with fail
  refine (onceC ca cs.length cc' cs _ HCA.out rfl (by omega) hcc).mono ?_
  rintro e w2 ⟨v2, rfl, ho2, hb2⟩
  obtain ⟨K, hK⟩ : ∃ K, (fnd ⟨#[97, 112, 112]⟩ (onc cs)).map fky = K := ⟨_, rfl⟩
  have HND := Lib.hid (show K.Nodup by rw [← hK]; exact fnd_nodup _ _)
  obtain ⟨l, hl2⟩ : ∃ l, onc cs = l := ⟨_, rfl⟩
  have HCS := Lib.hid (show ∀ x ∈ l, CdOk x from fun x hx => HOK.out x (onc_mem (by rw [hl2]; exact hx)))
  have hln : l.length ≤ 14 := by rw [← hl2]; have := onc_len cs; omega
  rw [hl2] at ho2 hK
  have HKK := Lib.hid hK
  obtain ⟨la, lc, rfl, hlc, hlm, hlat, -, -⟩ := ho2.read
  obtain ⟨n, hn⟩ : ∃ n, l.length = n := ⟨_, rfl⟩
  have HN := Lib.hid hn
  rw [hn] at hlc hln ⊢
  have HL := Lib.hid hlat
  have HB2 := Lib.hid (ext_trans HB1.out hb2)
  unfold maxLen at hlm
  clear ho2 hb2 hl2 hlat hn hK HCA HB1 HOK
  go_wp2_with fail
  refine (lookFind la n lc l ⟨#[97, 112, 112]⟩ _ HL.out HN.out (by omega) hlc).mono ?_
  rintro e w3 ⟨v3, rfl, ho3, hb3⟩
  obtain ⟨fa, fc, rfl, -, -, -, -, -⟩ := ho3.read
  obtain ⟨q, hq⟩ : ∃ q, (fnd ⟨#[97, 112, 112]⟩ l).length = q := ⟨_, rfl⟩
  have hq14 : q ≤ 14 := by have := fnd_len ⟨#[97, 112, 112]⟩ l; have := HN.out; omega
  have HQ := Lib.hid hq
  have HKL := Lib.hid (show K.length = q by rw [← HKK.out, List.length_map]; exact hq)
  rw [hq]
  have HB3 := Lib.hid (ext_trans HB2.out hb3)
  have HL3 := Lib.hid (HL.out.ext hb3)
  have HKS := Lib.hid (show ∀ k ∈ K, KyS k from by
    intro k hk
    rw [← HKK.out] at hk
    obtain ⟨x, hx, rfl⟩ := List.mem_map.1 hk
    have := HCS.out x (fnd_mem hx).1
    exact ⟨by have := this.1; show x.a.size ≤ 1000; omega, by have := this.2.1; show x.i.size ≤ 1000; omega⟩)
  have HM0 := Lib.hid (MpC.made w3)
  have HE0 := Lib.hid (show Below w3.heap.size w3 (w3.alloc (.map #[] 0)) from (Below.refl _ _).alloc (Nat.le_refl _) _)
  clear ho3 hb3 hq HL HB2
  have hmk := @run_makeMap Try.prog
  go_wp2_with fail
  clear hmk
  obtain ⟨mb, hmb⟩ : ∃ mb, w3.heap.size = mb := ⟨_, rfl⟩
  have HMB := Lib.hid hmb
  rw [hmb] at HM0 ⊢
  clear hmb
  generalize (w3.alloc (.map #[] 0)) = w4 at *
  go_loopw [9] (fun i wr => ∃ I : Nat, I ≤ 3 * q ∧ i = .int .i64 (I : Int) ∧ MpC wr mb I (pk K A I) ∧ Below w3.heap.size w3 wr) (fun i _ => 3 * q - (intOf i).toNat)
  case atStart => exact ⟨0, by omega, rfl, HM0.out, HE0.out⟩
  case round =>
    obtain ⟨w5, rfl⟩ : ∃ y : World, y = wr := ⟨_, rfl⟩
    obtain ⟨I, hI, rfl, hm5, hb5⟩ := hrel
    have HM5 := Lib.hid hm5
    have HB5 := Lib.hid hb5
    have HL5 := Lib.hid (HL3.out.ext hb5)
    clear hm5 hb5
    by_cases hlt : I < 3 * q
    · have hlt' : decide ((I : Int) < 3 * (q : Int)) = true := by simp; omega
      have hq0 : 0 < q := by omega
      go_wp2_with fail
      refine (lookPickYes la n lc q l ⟨#[97, 112, 112]⟩ ((A : Int) + (I : Int)) _ HL5.out HN.out (by omega) hlc HQ.out hq0).mono ?_
      rintro e w6 ⟨x, hx, rfl, hb6⟩
      rw [show (A : Int) + (I : Int) = ((A + I : Nat) : Int) from by omega, trn_nat _ _ hq0] at hx
      have hxm := fnd_mem (List.mem_of_getElem? hx)
      have hxk : K.getD ((A + I) % K.length) kd = fky x := by
        rw [HKL.out, List.getD_eq_getElem?_getD, ← HKK.out, List.getElem?_map, hx]
        rfl
      have hxs := HCS.out x hxm.1
      obtain ⟨xa, xi, xs, xo, xl, xt, xk, xn, xg⟩ := x
      obtain ⟨-, e1, e2, e3⟩ := hxm
      have e1' : xa = ⟨#[97, 112, 112]⟩ := e1
      have e2' : xg = false := e2
      subst e1' e2'
      have HPK := Lib.hid (show pk K A (I + 1) = pk K A I ++ [(⟨#[97, 112, 112]⟩, xi)] from by rw [pk_succ, hxk]; rfl)
      have HXS := Lib.hid (show KyS (⟨#[97, 112, 112]⟩, xi) from ⟨by have := hxs.1; show (ByteArray.mk #[97, 112, 112]).size ≤ 1000; decide, by have h1 : xi.size ≤ 4 := hxs.2.1; show xi.size ≤ 1000; omega⟩)
      have HSH := Lib.hid e3
      have HB6 := Lib.hid (ext_trans HB5.out hb6)
      have HM6 := Lib.hid (HM5.out.ext hb6)
      clear hx hxk hxs e1 e2 e3 hb6
      have D6 : Below w6.heap.size w6 (w6.alloc (.cells #[.string ⟨#[97, 112, 112]⟩, .string xi, .int .i64 xs, .int .i64 xo, .int .i64 xl, .int .i64 xt, .int .i64 xk, .int .i64 xn, .bool false] 40)) := (Below.refl _ _).alloc (Nat.le_refl _) _
      have HX7 := Lib.hid (blk_new w6 #[.string ⟨#[97, 112, 112]⟩, .string xi, .int .i64 xs, .int .i64 xo, .int .i64 xl, .int .i64 xt, .int .i64 xk, .int .i64 xn, .bool false] 40)
      have HB7 := Lib.hid (ext_trans HB6.out D6)
      have HM7 := Lib.hid (HM6.out.ext D6)
      clear D6 HM6
      go_wp2_with fail
      obtain ⟨r, hr⟩ : ∃ r, w6.heap.size = r := ⟨_, rfl⟩
      rw [hr] at HX7 ⊢
      clear hr
      generalize (w6.alloc (.cells #[.string ⟨#[97, 112, 112]⟩, .string xi, .int .i64 xs, .int .i64 xo, .int .i64 xl, .int .i64 xt, .int .i64 xk, .int .i64 xn, .bool false] 40)) = w7 at *
      go_wp2_with fail
      refine (refShows ⟨⟨#[97, 112, 112]⟩, xi, xs, xo, xl, xt, xk, xn, false⟩ _).mono ?_
      rintro e w8 ⟨rfl, hb8⟩
      rw [HSH.out]
      have HX8 := Lib.hid (blk_ext hb8 HX7.out)
      have HB8 := Lib.hid (ext_trans HB7.out hb8)
      obtain ⟨W0, hW0⟩ : ∃ W0, w8.drew = W0 := ⟨_, rfl⟩
      have HM8 := Lib.hid (show MpC W0 mb I (pk K A I) from by rw [← hW0]; exact HM7.out.ext hb8.drew)
      have HXW := Lib.hid (show W0.heap[r]? = some (.cells #[.string ⟨#[97, 112, 112]⟩, .string xi, .int .i64 xs, .int .i64 xo, .int .i64 xl, .int .i64 xt, .int .i64 xk, .int .i64 xn, .bool false] 40 (0, 0)) from by rw [← hW0]; exact HX8.out)
      have HBW := Lib.hid (show Below w3.heap.size w3 W0 from by rw [← hW0]; exact HB8.out.drew)
      obtain ⟨v0, st, W1, W2, r1, r2, r3, r4, r5, r6⟩ := HM8.out.bump (by omega) (by rw [pk_len]; omega) (⟨#[97, 112, 112]⟩, xi) HXS.out
      obtain ⟨C, hC⟩ : ∃ C : Int, (cnt (pk K A I) (⟨#[97, 112, 112]⟩, xi) : Int) = C := ⟨_, rfl⟩
      have hC0 : 0 ≤ C := by omega
      have hC1 : C ≤ 42 := by have := cnt_le (pk K A I) (⟨#[97, 112, 112]⟩, xi); rw [pk_len] at this; omega
      rw [hC] at r1 r2 r4
      have HR : Hid (((Instr.lookup 34 (.map (some mb)) (.agg #[.string ⟨#[97, 112, 112]⟩, .string xi]) false).run Try.prog W0 = .ok (.int .i64 C) W0) ∧ ((Instr.lookup 34 (.map (some mb)) (.agg #[.string ⟨#[97, 112, 112]⟩, .string xi]) false).run Try.prog W1 = .ok (.int .i64 C) W1) ∧ ((Instr.mapEntry 34 (.map (some mb)) (.agg #[.string ⟨#[97, 112, 112]⟩, .string xi])).run Try.prog W0 = .ok (.tuple #[v0, .int .i64 st]) W1) ∧ (Instr.entryStore 34 (.map (some mb)) (.int .i64 st) (.int .i64 (C + 1))).run Try.prog W1 = .ok () W2) := Lib.hid ⟨r1, r2, r3, r4⟩
      have HM9 := Lib.hid (show MpC W2 mb (I + 1) (pk K A (I + 1)) from by rw [HPK.out]; exact r5)
      have HB9 := Lib.hid (show Below w3.heap.size w3 W2 from HBW.out.grown r6 HBW.out.size (fun k hk => by have := HMB.out; simp at hk; omega))
      clear hb8 r1 r2 r3 r4 r5 r6 hC HPK HXS HSH HX7 HX8 HB7 HM7 HB8 HM8
      go_wp2_with fail
      refine wp_region_inv_eq (J := fun A d act x => ∃ u56 u57 u58 u59 u60 u61 u62 : Value, act = (((((((A.put (some 56) u56).put (some 57) u57).put (some 58) u58).put (some 59) u59).put (some 60) u60).put (some 61) u61).put (some 62) u62) ∧ (d 0 = true → u56 = .map (some mb)) ∧ (d 1 = true → u57 = .pointer (some ⟨r, 0, none⟩)) ∧ (d 2 = true → u58 = .agg #[.string ⟨#[97, 112, 112]⟩, .string xi]) ∧ (d 3 = true → u59 = .int .i64 C) ∧ (d 4 = true → u60 = .int .i64 (C + 1)) ∧ (d 5 = true → u61 = .tuple #[v0, .int .i64 st]) ∧ (d 6 = true → u62 = .int .i64 st) ∧ (d 7 = true → x = W2) ∧ (d 5 = false → x = W0) ∧ (d 5 = true → d 7 = false → x = W1) ∧ (d 5 = true → d 2 = true) ∧ (d 7 = true → d 5 = true) ∧ (d 7 = true → d 3 = true)) (by simp only [Act.put, List.setIfInBounds_toArray, List.set_cons_succ, List.set_cons_zero]; rfl) (by kernel_rfl) (by kernel_rfl) ?_ ?_ ?_
      · refine ⟨_, _, _, _, _, _, _, rfl, ?_, ?_, ?_, ?_, ?_, ?_, ?_, ?_, ?_, ?_, ?_, ?_, ?_⟩
        · intro h; cases h
        · intro h; cases h
        · intro h; cases h
        · intro h; cases h
        · intro h; cases h
        · intro h; cases h
        · intro h; cases h
        · intro h; cases h
        · exact (fun _ => hW0)
        · exact (fun h => by cases h)
        · exact (fun h => by cases h)
        · exact (fun h => by cases h)
        · exact (fun h => by cases h)
      · refine stepsOk_cons (k := 0) ?_ (stepsOk_cons (k := 1) ?_ (stepsOk_cons (k := 2) ?_ (stepsOk_cons (k := 3) ?_ (stepsOk_cons (k := 4) ?_ (stepsOk_cons (k := 5) ?_ (stepsOk_cons (k := 6) ?_ (stepsOk_cons (k := 7) ?_ stepsOk_nil)))))))
        · unfold StepOk
          rintro d act x ⟨u56, u57, u58, u59, u60, u61, u62, rfl, f0, f1, f2, f3, f4, f5, f6, f7, g0, g1, g2, g3, g4⟩ hd hdep Kc hKc
          rw [if_pos (by rfl)]
          go_big_op
          refine hKc _ _ ⟨_, _, _, _, _, _, _, rfl, ?_, ?_, ?_, ?_, ?_, ?_, ?_, ?_, ?_, ?_, ?_, ?_, ?_⟩
          · exact (fun _ => rfl)
          · exact (fun h => f1 (up h rfl))
          · exact (fun h => f2 (up h rfl))
          · exact (fun h => f3 (up h rfl))
          · exact (fun h => f4 (up h rfl))
          · exact (fun h => f5 (up h rfl))
          · exact (fun h => f6 (up h rfl))
          · exact (fun h => f7 (up h rfl))
          · exact (fun h => g0 (dn h))
          · exact (fun h k => g1 (up h rfl) (dn k))
          · exact (fun h => upl (g2 (up h rfl)))
          · exact (fun h => upl (g3 (up h rfl)))
          · exact (fun h => upl (g4 (up h rfl)))
        · unfold StepOk
          rintro d act x ⟨u56, u57, u58, u59, u60, u61, u62, rfl, f0, f1, f2, f3, f4, f5, f6, f7, g0, g1, g2, g3, g4⟩ hd hdep Kc hKc
          rw [if_pos (by rfl)]
          go_big_op
          refine hKc _ _ ⟨_, _, _, _, _, _, _, rfl, ?_, ?_, ?_, ?_, ?_, ?_, ?_, ?_, ?_, ?_, ?_, ?_, ?_⟩
          · exact (fun h => f0 (up h rfl))
          · exact (fun _ => rfl)
          · exact (fun h => f2 (up h rfl))
          · exact (fun h => f3 (up h rfl))
          · exact (fun h => f4 (up h rfl))
          · exact (fun h => f5 (up h rfl))
          · exact (fun h => f6 (up h rfl))
          · exact (fun h => f7 (up h rfl))
          · exact (fun h => g0 (dn h))
          · exact (fun h k => g1 (up h rfl) (dn k))
          · exact (fun h => upl (g2 (up h rfl)))
          · exact (fun h => upl (g3 (up h rfl)))
          · exact (fun h => upl (g4 (up h rfl)))
        · unfold StepOk
          rintro d act x ⟨u56, u57, u58, u59, u60, u61, u62, rfl, f0, f1, f2, f3, f4, f5, f6, f7, g0, g1, g2, g3, g4⟩ hd hdep Kc hKc
          have hd1 : d 1 = true := hdep ⟨1, .data⟩ (by simp) rfl
          obtain rfl := f1 hd1
          have h5 : d 5 = false := by
            cases h : d 5
            · rfl
            · exact absurd (g2 h) (by rw [hd]; simp)
          have hx := g0 h5
          subst hx
          have hk0 : x.cell? ⟨r, 0, none⟩ = some (.string ⟨#[97, 112, 112]⟩) := by rw [blk_cell HXW.out]; rfl
          have hk1 : x.cell? ⟨r, 1, none⟩ = some (.string xi) := by rw [blk_cell HXW.out]; rfl
          rw [if_pos (by rfl)]
          go_big_op
          refine hKc _ _ ⟨_, _, _, _, _, _, _, rfl, ?_, ?_, ?_, ?_, ?_, ?_, ?_, ?_, ?_, ?_, ?_, ?_, ?_⟩
          · exact (fun h => f0 (up h rfl))
          · exact (fun h => f1 (up h rfl))
          · exact (fun _ => rfl)
          · exact (fun h => f3 (up h rfl))
          · exact (fun h => f4 (up h rfl))
          · exact (fun h => f5 (up h rfl))
          · exact (fun h => f6 (up h rfl))
          · exact (fun h => f7 (up h rfl))
          · exact (fun h => g0 (dn h))
          · exact (fun h k => g1 (up h rfl) (dn k))
          · exact (fun h => upl (g2 (up h rfl)))
          · exact (fun h => upl (g3 (up h rfl)))
          · exact (fun h => upl (g4 (up h rfl)))
        · unfold StepOk
          rintro d act x ⟨u56, u57, u58, u59, u60, u61, u62, rfl, f0, f1, f2, f3, f4, f5, f6, f7, g0, g1, g2, g3, g4⟩ hd hdep Kc hKc
          have hd0 : d 0 = true := hdep ⟨0, .data⟩ (by simp) rfl
          have hd2 : d 2 = true := hdep ⟨2, .data⟩ (by simp) rfl
          obtain rfl := f0 hd0
          obtain rfl := f2 hd2
          have hlk : (Instr.lookup 34 (.map (some mb)) (.agg #[.string ⟨#[97, 112, 112]⟩, .string xi]) false).run Try.prog x = .ok (.int .i64 C) x := by
            cases h5 : d 5
            · rw [g0 h5]; exact HR.out.1
            · rw [g1 h5 (by cases h7 : d 7; rfl; exact absurd (g4 h7) (by rw [hd]; simp))]; exact HR.out.2.1
          rw [if_pos (by rfl)]
          go_big_op
          refine hKc _ _ ⟨_, _, _, _, _, _, _, rfl, ?_, ?_, ?_, ?_, ?_, ?_, ?_, ?_, ?_, ?_, ?_, ?_, ?_⟩
          · exact (fun h => f0 (up h rfl))
          · exact (fun h => f1 (up h rfl))
          · exact (fun h => f2 (up h rfl))
          · exact (fun _ => rfl)
          · exact (fun h => f4 (up h rfl))
          · exact (fun h => f5 (up h rfl))
          · exact (fun h => f6 (up h rfl))
          · exact (fun h => f7 (up h rfl))
          · exact (fun h => g0 (dn h))
          · exact (fun h k => g1 (up h rfl) (dn k))
          · exact (fun h => upl (g2 (up h rfl)))
          · exact (fun h => upl (g3 (up h rfl)))
          · exact (fun h => upl (g4 (up h rfl)))
        · unfold StepOk
          rintro d act x ⟨u56, u57, u58, u59, u60, u61, u62, rfl, f0, f1, f2, f3, f4, f5, f6, f7, g0, g1, g2, g3, g4⟩ hd hdep Kc hKc
          have hd3 : d 3 = true := hdep ⟨3, .data⟩ (by simp) rfl
          obtain rfl := f3 hd3
          rw [if_pos (by rfl)]
          go_big_op
          refine hKc _ _ ⟨_, _, _, _, _, _, _, rfl, ?_, ?_, ?_, ?_, ?_, ?_, ?_, ?_, ?_, ?_, ?_, ?_, ?_⟩
          · exact (fun h => f0 (up h rfl))
          · exact (fun h => f1 (up h rfl))
          · exact (fun h => f2 (up h rfl))
          · exact (fun h => f3 (up h rfl))
          · exact (fun _ => rfl)
          · exact (fun h => f5 (up h rfl))
          · exact (fun h => f6 (up h rfl))
          · exact (fun h => f7 (up h rfl))
          · exact (fun h => g0 (dn h))
          · exact (fun h k => g1 (up h rfl) (dn k))
          · exact (fun h => upl (g2 (up h rfl)))
          · exact (fun h => upl (g3 (up h rfl)))
          · exact (fun h => upl (g4 (up h rfl)))
        · unfold StepOk
          rintro d act x ⟨u56, u57, u58, u59, u60, u61, u62, rfl, f0, f1, f2, f3, f4, f5, f6, f7, g0, g1, g2, g3, g4⟩ hd hdep Kc hKc
          have hd0 : d 0 = true := hdep ⟨0, .data⟩ (by simp) rfl
          have hd2 : d 2 = true := hdep ⟨2, .data⟩ (by simp) rfl
          have hd0 : d 0 = true := hdep ⟨0, .phase⟩ (by simp) rfl
          have hd2 : d 2 = true := hdep ⟨2, .phase⟩ (by simp) rfl
          obtain rfl := f0 hd0
          obtain rfl := f2 hd2
          have hx := g0 hd
          subst hx
          have hrun : (Instr.mapEntry 34 (.map (some mb)) (.agg #[.string ⟨#[97, 112, 112]⟩, .string xi])).run Try.prog x = .ok (.tuple #[v0, .int .i64 st]) W1 := HR.out.2.2.1
          rw [if_pos (by rfl)]
          go_big_op
          refine hKc _ _ ⟨_, _, _, _, _, _, _, rfl, ?_, ?_, ?_, ?_, ?_, ?_, ?_, ?_, ?_, ?_, ?_, ?_, ?_⟩
          · exact (fun h => f0 (up h rfl))
          · exact (fun h => f1 (up h rfl))
          · exact (fun h => f2 (up h rfl))
          · exact (fun h => f3 (up h rfl))
          · exact (fun h => f4 (up h rfl))
          · exact (fun _ => rfl)
          · exact (fun h => f6 (up h rfl))
          · exact (fun h => absurd (g3 (up h rfl)) (by rw [hd]; simp))
          · exact (fun h => by simp at h)
          · exact (fun _ _ => rfl)
          · exact (fun _ => upl hd2)
          · exact (fun _ => by simp)
          · exact (fun h => absurd (g3 (up h rfl)) (by rw [hd]; simp))
        · unfold StepOk
          rintro d act x ⟨u56, u57, u58, u59, u60, u61, u62, rfl, f0, f1, f2, f3, f4, f5, f6, f7, g0, g1, g2, g3, g4⟩ hd hdep Kc hKc
          have hd5 : d 5 = true := hdep ⟨5, .data⟩ (by simp) rfl
          obtain rfl := f5 hd5
          rw [if_pos (by rfl)]
          go_big_op
          refine hKc _ _ ⟨_, _, _, _, _, _, _, rfl, ?_, ?_, ?_, ?_, ?_, ?_, ?_, ?_, ?_, ?_, ?_, ?_, ?_⟩
          · exact (fun h => f0 (up h rfl))
          · exact (fun h => f1 (up h rfl))
          · exact (fun h => f2 (up h rfl))
          · exact (fun h => f3 (up h rfl))
          · exact (fun h => f4 (up h rfl))
          · exact (fun h => f5 (up h rfl))
          · exact (fun _ => rfl)
          · exact (fun h => f7 (up h rfl))
          · exact (fun h => g0 (dn h))
          · exact (fun h k => g1 (up h rfl) (dn k))
          · exact (fun h => upl (g2 (up h rfl)))
          · exact (fun h => upl (g3 (up h rfl)))
          · exact (fun h => upl (g4 (up h rfl)))
        · unfold StepOk
          rintro d act x ⟨u56, u57, u58, u59, u60, u61, u62, rfl, f0, f1, f2, f3, f4, f5, f6, f7, g0, g1, g2, g3, g4⟩ hd hdep Kc hKc
          have hd0 : d 0 = true := hdep ⟨0, .data⟩ (by simp) rfl
          have hd6 : d 6 = true := hdep ⟨6, .data⟩ (by simp) rfl
          have hd4 : d 4 = true := hdep ⟨4, .data⟩ (by simp) rfl
          have hd5 : d 5 = true := hdep ⟨5, .chain⟩ (by simp) rfl
          have hd0 : d 0 = true := hdep ⟨0, .phase⟩ (by simp) rfl
          have hd3 : d 3 = true := hdep ⟨3, .phase⟩ (by simp) rfl
          have hd4 : d 4 = true := hdep ⟨4, .phase⟩ (by simp) rfl
          have hd5 : d 5 = true := hdep ⟨5, .phase⟩ (by simp) rfl
          have hd6 : d 6 = true := hdep ⟨6, .phase⟩ (by simp) rfl
          obtain rfl := f0 hd0
          obtain rfl := f6 hd6
          obtain rfl := f4 hd4
          obtain rfl := f5 hd5
          obtain rfl := f3 hd3
          have hx := g1 hd5 hd
          subst hx
          have hrun : (Instr.entryStore 34 (.map (some mb)) (.int .i64 st) (.int .i64 (C + 1))).run Try.prog x = .ok () W2 := HR.out.2.2.2
          rw [if_pos (by rfl)]
          go_big_op
          refine hKc _ _ ⟨_, _, _, _, _, _, _, rfl, ?_, ?_, ?_, ?_, ?_, ?_, ?_, ?_, ?_, ?_, ?_, ?_, ?_⟩
          · exact (fun h => f0 (up h rfl))
          · exact (fun h => f1 (up h rfl))
          · exact (fun h => f2 (up h rfl))
          · exact (fun h => f3 (up h rfl))
          · exact (fun h => f4 (up h rfl))
          · exact (fun h => f5 (up h rfl))
          · exact (fun h => f6 (up h rfl))
          · exact (fun _ => rfl)
          · exact (fun h => absurd (dn h) (by rw [hd5]; simp))
          · exact (fun _ h => by simp at h)
          · exact (fun h => upl (g2 (up h rfl)))
          · exact (fun _ => upl hd5)
          · exact (fun _ => upl hd3)
      · rintro d act x ⟨u56, u57, u58, u59, u60, u61, u62, rfl, f0, f1, f2, f3, f4, f5, f6, f7, g0, g1, g2, g3, g4⟩ hall
        obtain rfl := f7 (hall 7 (by decide))
        clear f0 f1 f2 f3 f4 f5 f6 f7 hall
        go_wp2
        go_roundw
        case rel => exact ⟨I + 1, by omega, by go_num, HM9.out, HB9.out⟩
        case measure => simp [intOf]; omega
    · have hlt2 : decide ((I : Int) < 3 * (q : Int)) = false := by simp; omega
      have hI3 : I = 3 * K.length := by rw [HKL.out]; omega
      obtain ⟨D, ho, hc⟩ := HM5.out
      rw [hI3] at hc
      have HSZ := Lib.hid (show Maps.size D = q from (hc.size ho K HND.out HKS.out (pk_mem K A)).trans HKL.out)
      have HC := Lib.hid hc
      have HI := Lib.hid hI3
      have hsz5 := HB5.out.size
      clear hc hI3 HM5
      go_wp2_with (first | (at_range; refine wpList_range_own _ rfl _ 34 rfl 36 3 keyedK Try.underlying34 _ mb I D rfl ho ?_; intro w6 hrg hg6 hs6) | go_in)
      have HB6 := Lib.hid (HB5.out.grown hg6 HB5.out.size (fun k hk => by cases hk))
      go_frame
      go_loopw [13] (fun _ wr => ∃ (left : Lit → Bool) (cn : Nat), wr.ranges Try.prog 36 (plainElem Try.prog 3) mb w5.heap.size I D left cn ∧ Hid (∀ z, left z = true → Maps.has D z = true) ∧ Hid (Below w3.heap.size w3 wr)) (fun _ wr => wr.rangeLeft mb w5.heap.size)
      case atStart => exact ⟨_, _, hrg, Lib.hid (fun z h => h), HB6⟩
      case round =>
        obtain ⟨w7, rfl⟩ : ∃ y : World, y = wr := ⟨_, rfl⟩
        obtain ⟨left, cn, hrg1, HLF, HBR⟩ := hrel
        go_wp2_with (first | (at_next; refine wpList_next_ranges _ rfl _ rfl 36 keyedK _ (fun x : Value => x) (fun c : Int => Value.int .i64 c) (fun key kl h => ⟨key, rfl⟩) (fun v y h => by obtain ⟨a, e, -⟩ := plainElem_int_inv Try.underlying3 h; exact ⟨a, e⟩) mb w5.heap.size I D _ _ rfl hrg1 ?_ ?_) | go_in)
        · intro _ hl0
          have ho7 := hrg1.owns
          have hlen : ∀ ty, (Builtin.len_ #[34] ty #[.map (some mb)]).run Try.prog w7 = .ok (.int .i64 (q : Int)) w7 := fun ty => by rw [← HSZ.out]; exact ho7.len Try.underlying34 ty
          clear hl0
          go_wp2_with fail
          refine (law23known _).mono ?_
          rintro e w8 ⟨rfl, hb8⟩
          have HB8 := Lib.hid (ext_trans HBR.out hb8)
          clear hb8
          go_wp2
          go_ret
          exact ⟨rfl, ext_trans HB3.out HB8.out⟩
        · intro k c kl y ys w8 cn1 hkey hlk hv hat hrg2 hlt3 hg2 hs2 hen
          have hv' : plainElem (H := Unit) Try.prog 3 (.int .i64 c) = some (y, ys) := hv
          obtain ⟨a', e1, hy, -⟩ := plainElem_int_inv Try.underlying3 hv'
          obtain ⟨k0, hk0, hy0⟩ := HC.out.at kl (HLF.out kl hlk) hat
          have hy1 : y = .lit (.int .i64 a') := congrArg Prod.fst hy
          rw [pk_cnt K HND.out A k0 hk0, hy1] at hy0
          have hc3 : c = 3 := by
            have h1 : c = a' := by simpa using e1
            have h2 : a' = 3 := by simpa using hy0
            omega
          subst hc3
          clear hkey hv hv' hat e1 hy hy1 hk0 hy0
          go_wp2
          go_roundw
          case rel => exact ⟨_, cn1, hrg2, Lib.hid (fun z hz => HLF.out z (by simp only [Bool.and_eq_true] at hz; exact hz.1)), Lib.hid (HBR.out.grown hg2 HBR.out.size (fun j hj => by have := HB5.out.size; simp at hj; omega))⟩
          case measure => rw [hrg2.left_eq, hrg1.left_eq]; exact hlt3

end Go.Proofs.Ytkblblcjkkgbeaa
