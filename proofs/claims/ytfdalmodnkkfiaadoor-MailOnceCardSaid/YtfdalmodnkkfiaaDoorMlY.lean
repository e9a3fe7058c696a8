/- MailOnce: the walk. -/
import Derived.Test.YtfdalmodnkkfiaaDoorMlX
import Derived.Test.YtfdalmodnkkfiaaDoorMlEZ
namespace Go.Proofs.YtfdalmodnkkfiaaDoor
open Go.RowKit
set_option linter.unusedVariables false
set_option linter.unusedSimpArgs false

theorem mailSameMg (m1 m2 : Mg) (ca : Option Addr) (cn cc : Nat) (ka : Option Addr) (kn kc : Nat) (cb : Option Addr) (cm cd : Nat) (kb : Option Addr) (km ke : Nat) (u : Bool) (w : World) (h1 : MgMem w m1 ca cn cc ka kn kc) (h2 : MgMem w m2 cb cm cd kb km ke) (o1 : MgOk m1) (o2 : MgOk m2) (hu : u = true ↔ m1 = m2) :
    Calls Tryd.prog 16 #[.agg #[.int .i64 m1.kd, .int .i64 m1.op, .int .i64 m1.st, .int .i64 m1.cod, .int .i64 m1.tag, .int .i64 m1.n, .int .i64 m1.sq, .string m1.k.1, .string m1.k.2, .bool m1.fu, .int .u32 m1.su, .slice ca cn cc, .slice ka kn kc], .agg #[.int .i64 m2.kd, .int .i64 m2.op, .int .i64 m2.st, .int .i64 m2.cod, .int .i64 m2.tag, .int .i64 m2.n, .int .i64 m2.sq, .string m2.k.1, .string m2.k.2, .bool m2.fu, .int .u32 m2.su, .slice cb cm cd, .slice kb km ke]] w fun r w' => r = .returned (.bool u) ∧ Below w.heap.size w w' := by
  obtain ⟨a1, a2, a3, a4, a5, a6, a7, a8, -, -⟩ := h1
  obtain ⟨b1, b2, b3, b4, b5, b6, b7, b8, -, -⟩ := h2
  have c1 := o1.cn
  have c2 := o2.cn
  have c3 := o1.kn
  have c4 := o2.kn
  refine (mailSame m1.kd m1.op m1.st m1.cod m1.tag m1.n m1.sq m1.k.1 m1.k.2 m1.fu m1.su m2.kd m2.op m2.st m2.cod m2.tag m2.n m2.sq m2.k.1 m2.k.2 m2.fu m2.su ca cn cc ka kn kc cb cm cd kb km ke m1.cs m2.cs m1.ks m2.ks w a1 b1 a2 b2 (by omega) (by omega) a5 b5 a6 b6 (by omega) (by omega)).mono ?_
  rintro r w' ⟨b, h1, h2, h3⟩
  have e : b = u := Bool.eq_iff_iff.2 (h2.trans hu.symm)
  rw [e] at h1
  exact ⟨h1, h3⟩
set_option maxRecDepth 100000 in
set_option maxHeartbeats 4000000 in
theorem mailOnce_walk (ra : Option Addr) (rlen rcap : Nat) (rz : List Int) (sa : Option Addr) (slen scap : Nat) (sz : List Int) (w : World) (hG : EG w) (hr : IsRow .i64 w ra rlen rcap rz) (hs : IsRow .i64 w sa slen scap sz) :
    Calls Tryd.prog 5 #[.slice ra rlen rcap, .slice sa slen scap] w fun r w' => r = .returned (.bool true) ∧ Below w.heap.size w w' := by
  have hnn := run_nil_nil
  have HG := Lib.hid hG
  have HRR := Lib.hid hr
  have HSS := Lib.hid hs
  have HNE := Lib.hid (rowOk_new hr (.cells #[.slice ra rlen rcap, .int .i64 0] 32)).2
  have hE := (Below.refl w.heap.size w).alloc (Nat.le_refl _) (.cells #[.slice ra rlen rcap, .int .i64 0] 32)
  have D1 := Lib.hid hE
  have HT1 := Lib.hid (tapeK_new (a := ra) (len := rlen) (cap := rcap) w)
  clear hG hr hs hE
  go_enter Tryd.func5, Tryd.ntmps5
  go_wp2_with fail
  obtain ⟨tb, htb⟩ : ∃ tb, w.heap.size = tb := ⟨_, rfl⟩
  have HTB := Lib.hid (show w.heap.size ≤ tb by omega)
  rw [htb] at HT1 HNE
  try rw [htb]
  clear htb
  generalize (w.alloc (.cells #[.slice ra rlen rcap, .int .i64 0] 32)) = w1 at *
  have HRW := Lib.hid (show RowOk ra rlen rcap rz w1 tb from ⟨HRR.out.ext D1.out, HNE.out⟩)
  refine (tapeMsg ra rlen rcap rz tb w1 HT1.out HRW.out).mono ?_
  rintro e w2 ⟨m1, ca, cn, cc, ka, kn, kc, rfl, hM, hok, hT2, hB2⟩
  have HM2 := Lib.hid hM
  have HOK := Lib.hid hok
  have D2 := Lib.hid (D1.out.trans (hB2.below HTB.out D1.out.size))
  clear hM hok hT2 hB2 HT1 HRW HNE D1 HTB
  have HS2 := Lib.hid (HSS.out.ext D2.out)
  have HRW := Lib.hid (rowOk_new HS2.out (.cells #[.slice sa slen scap, .int .i64 0] 32))
  have HT3 := Lib.hid (tapeK_new (a := sa) (len := slen) (cap := scap) w2)
  have HE3 := Lib.hid (show Below w2.heap.size w2 (w2.alloc (.cells #[.slice sa slen scap, .int .i64 0] 32)) from (Below.refl _ _).alloc (Nat.le_refl _) _)
  go_wp2_with fail
  obtain ⟨tb, htb⟩ : ∃ tb, w2.heap.size = tb := ⟨_, rfl⟩
  have HTB := Lib.hid (show w2.heap.size ≤ tb by omega)
  rw [htb] at HT3 HRW
  try rw [htb]
  clear htb
  generalize (w2.alloc (.cells #[.slice sa slen scap, .int .i64 0] 32)) = w3 at *
  refine (tapeMsg sa slen scap sz tb w3 HT3.out HRW.out).mono ?_
  rintro e w4 ⟨m2, cb, cm, cd, kb, km, ke, rfl, hM, hok, hT4, hB4⟩
  have HN4 := Lib.hid hM
  have HOL := Lib.hid hok
  have E4 := Lib.hid (HE3.out.trans (hB4.below HTB.out HE3.out.size))
  have HM4 := Lib.hid (MgMem.ext HM2.out E4.out)
  have D4 := Lib.hid (ext_trans D2.out E4.out)
  have HG4 := Lib.hid (HG.out.ext D4.out)
  clear hM hok hT4 hB4 HT3 HRW HE3 HTB HM2 HS2 HSS HRR D2 E4 HG
  have HB0 := Lib.hid (show Below w4.heap.size w4 ((w4.alloc (.cells #[.int .i64 m1.kd, .int .i64 m1.op, .int .i64 m1.st, .int .i64 m1.cod, .int .i64 m1.tag, .int .i64 m1.n, .int .i64 m1.sq, .string m1.k.1, .string m1.k.2, .bool m1.fu, .int .u32 m1.su, .slice ca cn cc, .slice ka kn kc] 29)).alloc (.cells #[.int .i64 m2.kd, .int .i64 m2.op, .int .i64 m2.st, .int .i64 m2.cod, .int .i64 m2.tag, .int .i64 m2.n, .int .i64 m2.sq, .string m2.k.1, .string m2.k.2, .bool m2.fu, .int .u32 m2.su, .slice cb cm cd, .slice kb km ke] 29)) from ((Below.refl _ _).alloc (Nat.le_refl _) _).alloc (by simp) _)
  have HP5 := Lib.hid (blk_alloc (blk_new w4 #[.int .i64 m1.kd, .int .i64 m1.op, .int .i64 m1.st, .int .i64 m1.cod, .int .i64 m1.tag, .int .i64 m1.n, .int .i64 m1.sq, .string m1.k.1, .string m1.k.2, .bool m1.fu, .int .u32 m1.su, .slice ca cn cc, .slice ka kn kc] 29) (.cells #[.int .i64 m2.kd, .int .i64 m2.op, .int .i64 m2.st, .int .i64 m2.cod, .int .i64 m2.tag, .int .i64 m2.n, .int .i64 m2.sq, .string m2.k.1, .string m2.k.2, .bool m2.fu, .int .u32 m2.su, .slice cb cm cd, .slice kb km ke] 29))
  have HQ5 := Lib.hid (show ((w4.alloc (.cells #[.int .i64 m1.kd, .int .i64 m1.op, .int .i64 m1.st, .int .i64 m1.cod, .int .i64 m1.tag, .int .i64 m1.n, .int .i64 m1.sq, .string m1.k.1, .string m1.k.2, .bool m1.fu, .int .u32 m1.su, .slice ca cn cc, .slice ka kn kc] 29)).alloc (.cells #[.int .i64 m2.kd, .int .i64 m2.op, .int .i64 m2.st, .int .i64 m2.cod, .int .i64 m2.tag, .int .i64 m2.n, .int .i64 m2.sq, .string m2.k.1, .string m2.k.2, .bool m2.fu, .int .u32 m2.su, .slice cb cm cd, .slice kb km ke] 29)).heap[w4.heap.size + 1]? = some (.cells #[.int .i64 m2.kd, .int .i64 m2.op, .int .i64 m2.st, .int .i64 m2.cod, .int .i64 m2.tag, .int .i64 m2.n, .int .i64 m2.sq, .string m2.k.1, .string m2.k.2, .bool m2.fu, .int .u32 m2.su, .slice cb cm cd, .slice kb km ke] 29 (0, 0)) from blk_new_at (by simp) _ _)
  have HM5 := Lib.hid (MgMem.ext HM4.out HB0.out)
  have HN5 := Lib.hid (MgMem.ext HN4.out HB0.out)
  have HG5 := Lib.hid (HG4.out.ext HB0.out)
  have HD5 := Lib.hid (ext_trans D4.out HB0.out)
  clear HM4 HN4 D4 HG4
  go_upto_region 2 with (fail)
  obtain ⟨p, hp⟩ : ∃ p, w4.heap.size = p := ⟨_, rfl⟩
  obtain ⟨r, hr⟩ : ∃ r, w4.heap.size + 1 = r := ⟨_, rfl⟩
  rw [hp] at HP5
  rw [hr] at HQ5
  try rw [hr]
  try rw [hp]
  try rw [hp] at hr
  try rw [hr]
  clear hr hp HB0
  generalize ((w4.alloc (.cells #[.int .i64 m1.kd, .int .i64 m1.op, .int .i64 m1.st, .int .i64 m1.cod, .int .i64 m1.tag, .int .i64 m1.n, .int .i64 m1.sq, .string m1.k.1, .string m1.k.2, .bool m1.fu, .int .u32 m1.su, .slice ca cn cc, .slice ka kn kc] 29)).alloc (.cells #[.int .i64 m2.kd, .int .i64 m2.op, .int .i64 m2.st, .int .i64 m2.cod, .int .i64 m2.tag, .int .i64 m2.n, .int .i64 m2.sq, .string m2.k.1, .string m2.k.2, .bool m2.fu, .int .u32 m2.su, .slice cb cm cd, .slice kb km ke] 29)) = w5 at *
  have cHP := blk_cell HP5.out
  have lHP := blk_lt HP5.out
  go_wp2_with fail
  refine (mailBytesOk m1 ca cn cc ka kn kc w5 HM5.out HOK.out).mono ?_
  rintro r w6 ⟨a1, n1, k1, rfl, hn1, ho1, hb⟩
  obtain ⟨_, _, e1, -, -, -, hat, -, -⟩ := own_read ho1
  simp only [Value.slice.injEq] at e1
  obtain ⟨rfl, -, rfl⟩ := e1
  have HAX := Lib.hid hat
  have HLN1 := Lib.hid hn1
  clear ho1 hat hn1
  have HG6 := Lib.hid (HG5.out.ext hb)
  have HD6 := Lib.hid (ext_trans HD5.out hb)
  have HM6 := Lib.hid (MgMem.ext HM5.out hb)
  have HN6 := Lib.hid (MgMem.ext HN5.out hb)
  have HP6 := Lib.hid (blk_ext hb HP5.out)
  have HQ6 := Lib.hid (blk_ext hb HQ5.out)
  clear HG5 HD5 HM5 HN5 HP5 HQ5 cHP lHP hb
  have HAx6 := Lib.hid (HAX.out)
  clear HAX
  have cHQ := blk_cell HQ6.out
  have lHQ := blk_lt HQ6.out
  go_wp2_with fail
  refine (mailBytesOk m2 cb cm cd kb km ke w6 HN6.out HOL.out).mono ?_
  rintro r w7 ⟨a2, n2, k2, rfl, hn1, ho1, hb⟩
  obtain ⟨_, _, e1, -, -, -, hat, -, -⟩ := own_read ho1
  simp only [Value.slice.injEq] at e1
  obtain ⟨rfl, -, rfl⟩ := e1
  have HAX := Lib.hid hat
  have HLN2 := Lib.hid hn1
  clear ho1 hat hn1
  have HG7 := Lib.hid (HG6.out.ext hb)
  have HD7 := Lib.hid (ext_trans HD6.out hb)
  have HM7 := Lib.hid (MgMem.ext HM6.out hb)
  have HN7 := Lib.hid (MgMem.ext HN6.out hb)
  have HP7 := Lib.hid (blk_ext hb HP6.out)
  have HQ7 := Lib.hid (blk_ext hb HQ6.out)
  have HAx7 := Lib.hid (HAx6.out.ext hb)
  clear HG6 HD6 HM6 HN6 HP6 HQ6 HAx6 cHQ lHQ hb
  have HAxx7 := Lib.hid (HAX.out)
  clear HAX
  go_upto_region 4 with (fail)
  obtain ⟨S1, hS1⟩ : ∃ S, strOfNums (mgB m1) = S := ⟨_, rfl⟩
  obtain ⟨S2, hS2⟩ : ∃ S, strOfNums (mgB m2) = S := ⟨_, rfl⟩
  have hcv1 : ∀ g : Of w7, (convert 34 9 (.slice a1 n1 k1)).run Tryd.prog g.w = .ok (.string S1) g.w := fun g => by rw [← hS1]; exact run_text g.w 34 5 Tryd.underlying34 Tryd.underlying5 9 Tryd.underlying9 a1 n1 k1 (mgB m1) HLN1.out ((HAx7.out).ext g.h)
  have hcv2 : ∀ g : Of w7, (convert 34 9 (.slice a2 n2 k2)).run Tryd.prog g.w = .ok (.string S2) g.w := fun g => by rw [← hS2]; exact run_text g.w 34 5 Tryd.underlying34 Tryd.underlying5 9 Tryd.underlying9 a2 n2 k2 (mgB m2) HLN2.out ((HAxx7.out).ext g.h)
  have hkn : ∀ g : Of w7, Calls Tryd.prog 12 #[] g.w fun r w' => r = .returned (.bool true) ∧ Below g.w.heap.size g.w w' := fun g => law6known g.w ((HG7.out).ext g.h)
  obtain ⟨u, hu⟩ : ∃ u : Bool, u = true ↔ m1 = m2 := by classical exact ⟨decide (m1 = m2), by simp⟩
  have hsm : ∀ g : Of w7, Calls Tryd.prog 16 #[.agg #[.int .i64 m1.kd, .int .i64 m1.op, .int .i64 m1.st, .int .i64 m1.cod, .int .i64 m1.tag, .int .i64 m1.n, .int .i64 m1.sq, .string m1.k.1, .string m1.k.2, .bool m1.fu, .int .u32 m1.su, .slice ca cn cc, .slice ka kn kc], .agg #[.int .i64 m2.kd, .int .i64 m2.op, .int .i64 m2.st, .int .i64 m2.cod, .int .i64 m2.tag, .int .i64 m2.n, .int .i64 m2.sq, .string m2.k.1, .string m2.k.2, .bool m2.fu, .int .u32 m2.su, .slice cb cm cd, .slice kb km ke]] g.w fun r w' => r = .returned (.bool u) ∧ Below g.w.heap.size g.w w' := fun g => mailSameMg m1 m2 ca cn cc ka kn kc cb cm cd kb km ke u g.w (MgMem.ext HM7.out g.h) (MgMem.ext HN7.out g.h) HOK.out HOL.out hu
  have HCV1 := Lib.hid hcv1
  have HCV2 := Lib.hid hcv2
  have HKNO := Lib.hid hkn
  have HSMO := Lib.hid hsm
  clear hcv1 hcv2 hkn hsm
  have hsp : (u = true ∧ S1 = S2) ∨ (u = false ∧ ¬ S1.toList = S2.toList) := by
    by_cases hE : m1 = m2
    · exact .inl ⟨hu.2 hE, by rw [← hS1, ← hS2, hE]⟩
    · refine .inr ⟨by cases u with | false => rfl | true => exact absurd (hu.1 rfl) hE, fun e => hE (mgB_inj HOK.out.w HOL.out.w (str_nums_inj (mgB_wb m1) (mgB_wb m2) (by rw [hS1, hS2]; exact str_inj e)))⟩
  clear hS1 hS2 hu
  rcases hsp with ⟨rfl, rfl⟩ | ⟨rfl, hne⟩
  · skip
    haveI hIq : Nonempty (Of w7) := of_some _
    have hF0 := HCV1.out
    have hF1 := HCV2.out
    have hG0 := blk_of HP7.out
    have hG1 := blk_of HQ7.out
    first | (refine wp_region_stay w7 (by kernel_rfl) (by kernel_rfl) (by go_grown) ?_) | (refine wp_region_stay_seq w7 (by go_grown) ?_)
    repeat (go_big_quiet_step (first | (go_at_call 16; with_reducible refine stay_bool (u := true) (HSMO.out _) rfl) | (go_at_call 12; with_reducible refine stay_bool (u := true) (HKNO.out _) rfl)))
    refine wpQuiet_nil ?_
    intro w8 hb
    clear hIq hF0 hF1 hG0 hG1
    have HDD := Lib.hid (ext_trans HD7.out hb)
    clear hb
    go_wp2
    go_ret
    exact ⟨rfl, HDD.out⟩
  · skip
    have hne2 : (S1.toList == S2.toList) = false := by first | exact beq_eq_false_iff_ne.2 hne | simpa using hne
    haveI hIq : Nonempty (Of w7) := of_some _
    have hF0 := HCV1.out
    have hF1 := HCV2.out
    have hG0 := blk_of HP7.out
    have hG1 := blk_of HQ7.out
    first | (refine wp_region_stay w7 (by kernel_rfl) (by kernel_rfl) (by go_grown) ?_) | (refine wp_region_stay_seq w7 (by go_grown) ?_)
    repeat (go_big_quiet_step (first | (go_at_call 16; with_reducible refine stay_bool (u := false) (HSMO.out _) rfl) | (go_at_call 12; with_reducible refine stay_bool (u := true) (HKNO.out _) rfl)))
    refine wpQuiet_nil ?_
    intro w8 hb
    clear hIq hF0 hF1 hG0 hG1
    have HDD := Lib.hid (ext_trans HD7.out hb)
    clear hb
    go_wp2
    go_ret
    exact ⟨rfl, HDD.out⟩

end Go.Proofs.YtfdalmodnkkfiaaDoor
