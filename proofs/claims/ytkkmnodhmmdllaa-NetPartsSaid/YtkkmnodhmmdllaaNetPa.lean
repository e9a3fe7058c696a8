/- Layer 8's laws, walked: NetParts. -/
import Derived.Test.YtkkmnodhmmdllaaNetK
import Derived.Test.YtkkmnodhmmdllaaWithin
import Derived.Deep.DeepCutAuto
namespace Go.Proofs.Ytkkmnodhmmdllaa
open Go.RowKit
set_option linter.unusedVariables false

theorem part_facts : ∀ X Y : Fin 4, X ≠ Y → prB 4 (partP (List.replicate 36 false) X.val Y.val true) X.val Y.val = true ∧ prB 4 (partP (List.replicate 36 false) X.val Y.val true) Y.val X.val = true ∧ prB 4 (partP (List.replicate 36 false) X.val Y.val true) X.val X.val = false ∧
    prB 4 (partP (partP (List.replicate 36 false) X.val Y.val true) Y.val X.val false) X.val Y.val = false ∧ prB 4 (partP (partP (List.replicate 36 false) X.val Y.val true) Y.val X.val false) Y.val X.val = false := by decide +kernel

set_option maxRecDepth 100000 in
set_option maxHeartbeats 4000000 in
theorem netParts_walk (a b : Int) (ra : Option Addr) (rlen rcap : Nat) (rz : List Int) (w : World) (hta : (Lit.int .i64 a).wf = true) (htb : (Lit.int .i64 b).wf = true) (hr : IsRow .u8 w ra rlen rcap rz) (hbig : rlen * 1 ≤ 140737488351232) :
    Calls Try.prog 5 #[.int .i64 a, .int .i64 b, .slice ra rlen rcap] w fun e w' => e = .returned (.bool true) ∧ Below w.heap.size w w' := by
  obtain ⟨hra, hrl, hrc, hrm, hrw⟩ := bat_row hr
  have HA := Lib.hid hra
  have HL := Lib.hid hrl
  unfold maxLen at hrm
  have ha := bounds_i64 hta
  have hb := bounds_i64 htb
  clear hr hra hrl hrw hta htb
  go_enter Try.func5, Try.ntmps5
  go_wp2_with fail
  refine (nsNew 4 w (by omega) (by omega)).mono ?_
  rintro e w1 ⟨rfl, hs1, D1⟩
  obtain ⟨nb, hnb⟩ : ∃ nb, w.heap.size = nb := ⟨_, rfl⟩
  have hnb0 : w.heap.size ≤ nb := by omega
  rw [hnb] at hs1 ⊢
  have S1 := Lib.hid hs1
  have R1 : Rim nb w w1 := Rim.of D1
  clear hs1 hnb D1
  go_wp2_with fail
  refine (within_any a 0 3 _ (by omega) (by omega) (by omega) (by omega) (by omega)).mono ?_
  rintro e w1' ⟨rfl, rfl⟩
  have hy1 := win_lo a 0 3 (by omega)
  have hy2 := win_hi a 0 3 (by omega)
  generalize win a 0 3 = x0 at *
  obtain ⟨X, rfl⟩ := Int.eq_ofNat_of_zero_le hy1
  have hX : X < 4 := by omega
  clear hy1 hy2
  go_wp2_with fail
  refine (within_any b 0 2 _ (by omega) (by omega) (by omega) (by omega) (by omega)).mono ?_
  rintro e w1' ⟨rfl, rfl⟩
  have hy1 := win_lo b 0 2 (by omega)
  have hy2 := win_hi b 0 2 (by omega)
  generalize win b 0 2 = t0 at *
  go_upto_region 6 with (fail)
  obtain ⟨Y, hY⟩ : ∃ Y : Nat, ((X : Int) + 1 + t0) % 4 = (Y : Int) := ⟨(((X : Int) + 1 + t0) % 4).toNat, by omega⟩
  have hY4 : Y < 4 := by omega
  have hXY : X ≠ Y := by omega
  rw [hY]
  have pr := part_facts ⟨X, hX⟩ ⟨Y, hY4⟩ (by simpa using hXY)
  simp only at pr
  obtain ⟨p1, hp1⟩ : ∃ p, p = partP (List.replicate 36 false) X Y true := ⟨_, rfl⟩
  obtain ⟨p2, hp2⟩ : ∃ p, p = partP p1 Y X false := ⟨_, rfl⟩
  rw [← hp1, ← hp2] at pr
  have P1 := Lib.hid pr.1
  have P2 := Lib.hid pr.2.1
  have P3 := Lib.hid pr.2.2.1
  have P4 := Lib.hid pr.2.2.2.1
  have P5 := Lib.hid pr.2.2.2.2
  have HP1 := Lib.hid hp1
  have HP2 := Lib.hid hp2
  clear hY hy1 hy2 pr hp1 hp2
  go_wp2_with fail
  refine (nsCut nb 4 [] (List.replicate 36 false) X Y _ S1.out hX hY4 hXY).mono ?_
  rintro e w2 ⟨rfl, hs, hr⟩
  rw [← HP1.out] at hs
  have S2 := Lib.hid hs
  have R2 := R1.trans hr
  clear hs hr S1
  go_wp2_with fail
  refine (nsSend nb 4 [] p1 ⟨(X : Nat), (Y : Nat), ra, rlen, rcap⟩ rz _ S2.out (by simp) (by simp) (by simp; omega) (by simp) (by simp; omega) (HA.out.ext (R2.below (by omega) (Nat.le_refl _))) HL.out (by simp; omega)).mono ?_
  rintro e w3 ⟨y1, rfl, hyf, hyt, hyb, hs, hr⟩
  have R3 := R2.trans hr
  have HFy1 := Lib.hid hyf
  have HTy1 := Lib.hid hyt
  have By13 := Lib.hid hyb
  have S3 := Lib.hid (show NS w3 nb 4 [y1] p1 from hs)
  clear hyf hyt hyb hs hr S2
  go_wp2_with fail
  refine (nsSend nb 4 [y1] p1 ⟨(Y : Nat), (X : Nat), ra, rlen, rcap⟩ rz _ S3.out (by simp) (by simp) (by simp; omega) (by simp) (by simp; omega) (HA.out.ext (R3.below (by omega) (Nat.le_refl _))) HL.out (by simp; omega)).mono ?_
  rintro e w4 ⟨y2, rfl, hyf, hyt, hyb, hs, hr⟩
  have R4 := R3.trans hr
  have HFy2 := Lib.hid hyf
  have HTy2 := Lib.hid hyt
  have By24 := Lib.hid hyb
  have By14 := Lib.hid (S3.out.bytes hr By13.out)
  have S4 := Lib.hid (show NS w4 nb 4 [y1, y2] p1 from hs)
  clear hyf hyt hyb hs hr S3 By13
  go_wp2_with fail
  refine (nsSend nb 4 [y1, y2] p1 ⟨(X : Nat), (X : Nat), ra, rlen, rcap⟩ rz _ S4.out (by simp) (by simp) (by simp; omega) (by simp) (by simp; omega) (HA.out.ext (R4.below (by omega) (Nat.le_refl _))) HL.out (by simp; omega)).mono ?_
  rintro e w5 ⟨y3, rfl, hyf, hyt, hyb, hs, hr⟩
  have R5 := R4.trans hr
  have HFy3 := Lib.hid hyf
  have HTy3 := Lib.hid hyt
  have By35 := Lib.hid hyb
  have By15 := Lib.hid (S4.out.bytes hr By14.out)
  have By25 := Lib.hid (S4.out.bytes hr By24.out)
  have S5 := Lib.hid (show NS w5 nb 4 [y1, y2, y3] p1 from hs)
  clear hyf hyt hyb hs hr S4 By14 By24
  go_wp2_with fail
  refine (nsDeliver_cut nb 4 [y1, y2, y3] p1 0 y1 _ S5.out rfl (by rw [HFy1.out, HTy1.out]; exact P1.out)).mono ?_
  rintro e w6 ⟨rfl, hs, hb⟩
  have G : Below w6.heap.size w6 (w6.alloc (.cells #[.int .i64 0, .int .i64 0, .slice none 0 0] 34)) := (Below.refl _ _).alloc (Nat.le_refl _) _
  have R7 := (R5.trans (Rim.of hb)).trans (Rim.of G)
  have S7 := Lib.hid (hs.ext G)
  have By17 := Lib.hid ((By15.out.ext hb).ext G)
  have By27 := Lib.hid ((By25.out.ext hb).ext G)
  have By37 := Lib.hid ((By35.out.ext hb).ext G)
  clear hs hb G S5 By15 By25 By35
  go_wp2_with fail
  refine (nsDeliver_cut nb 4 [y1, y2, y3] p1 1 y2 _ S7.out rfl (by rw [HFy2.out, HTy2.out]; exact P2.out)).mono ?_
  rintro e w8 ⟨rfl, hs, hb⟩
  have G : Below w8.heap.size w8 (w8.alloc (.cells #[.int .i64 0, .int .i64 0, .slice none 0 0] 34)) := (Below.refl _ _).alloc (Nat.le_refl _) _
  have R9 := (R7.trans (Rim.of hb)).trans (Rim.of G)
  have S9 := Lib.hid (hs.ext G)
  have By19 := Lib.hid ((By17.out.ext hb).ext G)
  have By29 := Lib.hid ((By27.out.ext hb).ext G)
  have By39 := Lib.hid ((By37.out.ext hb).ext G)
  clear hs hb G S7 By17 By27 By37
  go_wp2_with fail
  refine (nsDeliver nb 4 [y1, y2, y3] p1 2 y3 rz _ S9.out rfl (by rw [HFy3.out, HTy3.out]; exact P3.out) By39.out (by have := HL.out; omega)).mono ?_
  rintro e w10 ⟨z3, rfl, hzf, hzt, hzb, hs, hr⟩
  have G : Below w10.heap.size w10 (w10.alloc (.cells #[.int .i64 z3.f, .int .i64 z3.t, .slice z3.a z3.n z3.c] 34)) := (Below.refl _ _).alloc (Nat.le_refl _) _
  have R11 := (R9.trans hr).trans (Rim.of G)
  have HFz3 := Lib.hid (hzf.trans HFy3.out)
  have Bz311 := Lib.hid (OwnB.ext hzb G)
  have Cz311 := Lib.hid (blk_new w10 #[.int .i64 z3.f, .int .i64 z3.t, .slice z3.a z3.n z3.c] 34)
  have Nz3 := Lib.hid (show w10.heap.size ≠ nb from fun e => by have := NS.lt hs; omega)
  have S11 := Lib.hid (show NS (w10.alloc (.cells #[.int .i64 z3.f, .int .i64 z3.t, .slice z3.a z3.n z3.c] 34)) nb 4 [y1, y2] p1 from NS.ext hs G)
  have By111 := Lib.hid ((S9.out.bytes hr By19.out).ext G)
  have By211 := Lib.hid ((S9.out.bytes hr By29.out).ext G)
  have hlsz3 := blk_lt Cz311.out
  clear hzf hzt hzb hs hr G S9 By19 By29 By39
  go_wp2_with fail
  refine (nsParted nb 4 [y1, y2] p1 (Y : Int) (X : Int) _ S11.out).mono ?_
  rintro e w11' ⟨rfl, rfl⟩
  rw [P2.out]
  go_wp2_with fail
  refine (nsHeal nb 4 [y1, y2] p1 Y X _ S11.out hY4 hX (Ne.symm hXY)).mono ?_
  rintro e w12 ⟨rfl, hs, hr⟩
  rw [← HP2.out] at hs
  have S12 := Lib.hid hs
  have R12 := R11.trans hr
  have By112 := Lib.hid (S11.out.bytes hr By111.out)
  have By212 := Lib.hid (S11.out.bytes hr By211.out)
  clear hs hr S11 By111 By211
  go_wp2_with fail
  refine (nsParted nb 4 [y1, y2] p2 (X : Int) (Y : Int) _ S12.out).mono ?_
  rintro e w12' ⟨rfl, rfl⟩
  rw [P4.out]
  go_wp2_with fail
  refine (nsDeliver nb 4 [y1, y2] p2 0 y1 rz _ S12.out rfl (by rw [HFy1.out, HTy1.out]; exact P4.out) By112.out (by have := HL.out; omega)).mono ?_
  rintro e w13 ⟨z1, rfl, hzf, hzt, hzb, hs, hr⟩
  have G : Below w13.heap.size w13 (w13.alloc (.cells #[.int .i64 z1.f, .int .i64 z1.t, .slice z1.a z1.n z1.c] 34)) := (Below.refl _ _).alloc (Nat.le_refl _) _
  have R14 := (R12.trans hr).trans (Rim.of G)
  have HFz1 := Lib.hid (hzf.trans HFy1.out)
  have Bz114 := Lib.hid (OwnB.ext hzb G)
  have Cz114 := Lib.hid (blk_new w13 #[.int .i64 z1.f, .int .i64 z1.t, .slice z1.a z1.n z1.c] 34)
  have Nz1 := Lib.hid (show w13.heap.size ≠ nb from fun e => by have := NS.lt hs; omega)
  have S14 := Lib.hid (show NS (w13.alloc (.cells #[.int .i64 z1.f, .int .i64 z1.t, .slice z1.a z1.n z1.c] 34)) nb 4 [y2] p2 from NS.ext hs G)
  have By214 := Lib.hid ((S12.out.bytes hr By212.out).ext G)
  have hlsz1 := blk_lt Cz114.out
  clear hzf hzt hzb hs hr G S12 By112 By212
  go_wp2_with fail
  refine (nsDeliver nb 4 [y2] p2 0 y2 rz _ S14.out rfl (by rw [HFy2.out, HTy2.out]; exact P5.out) By214.out (by have := HL.out; omega)).mono ?_
  rintro e w15 ⟨z2, rfl, hzf, hzt, hzb, hs, hr⟩
  have G : Below w15.heap.size w15 (w15.alloc (.cells #[.int .i64 z2.f, .int .i64 z2.t, .slice z2.a z2.n z2.c] 34)) := (Below.refl _ _).alloc (Nat.le_refl _) _
  have R16 := (R14.trans hr).trans (Rim.of G)
  have HFz2 := Lib.hid (hzf.trans HFy2.out)
  have Bz216 := Lib.hid (OwnB.ext hzb G)
  have Cz216 := Lib.hid (blk_new w15 #[.int .i64 z2.f, .int .i64 z2.t, .slice z2.a z2.n z2.c] 34)
  have Nz2 := Lib.hid (show w15.heap.size ≠ nb from fun e => by have := NS.lt hs; omega)
  have S16 := Lib.hid (show NS (w15.alloc (.cells #[.int .i64 z2.f, .int .i64 z2.t, .slice z2.a z2.n z2.c] 34)) nb 4 [] p2 from NS.ext hs G)
  have Bz116 := Lib.hid ((S14.out.bytes hr Bz114.out).ext G)
  have Cz116 := Lib.hid (blk_alloc (hr.blk Nz1.out Cz114.out) (.cells #[.int .i64 z2.f, .int .i64 z2.t, .slice z2.a z2.n z2.c] 34))
  have hlsz2 := blk_lt Cz216.out
  clear hzf hzt hzb hs hr G S14 By214 Bz114 Cz114
  have kz1 := blk_cell Cz116.out
  have kz2 := blk_cell Cz216.out
  have hz := Bz116.out.read
  have hcv := run_text (P := Try.prog) (w15.alloc (.cells #[.int .i64 z2.f, .int .i64 z2.t, .slice z2.a z2.n z2.c] 34)) 23 5 Try.underlying23 Try.underlying5 9 Try.underlying9 z1.a z1.n z1.c rz hz.2 hz.1
  have hcv2 := run_text (P := Try.prog) (w15.alloc (.cells #[.int .i64 z2.f, .int .i64 z2.t, .slice z2.a z2.n z2.c] 34)) 23 5 Try.underlying23 Try.underlying5 9 Try.underlying9 ra rlen rcap rz HL.out (HA.out.ext (R16.below (by omega) (Nat.le_refl _)))
  have hq1 : (z1.f == (X : Int)) = true := by rw [HFz1.out]; simp
  have hq2 : (z2.f == (Y : Int)) = true := by rw [HFz2.out]; simp
  clear hz kz2
  go_wp2_with fail
  refine (nsLen nb 4 [] p2 _ S16.out).mono ?_
  rintro e w16' ⟨rfl, rfl⟩
  go_wp2_with fail
  refine (law8known _).mono ?_
  rintro e w17 ⟨rfl, hb17⟩
  have R17 := R16.trans (Rim.of hb17)
  go_wp2
  go_ret
  exact ⟨rfl, R17.below (by omega) (Nat.le_refl _)⟩

end Go.Proofs.Ytkkmnodhmmdllaa
