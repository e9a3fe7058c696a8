/- MailBack: the walk. -/
import Derived.Test.YtfdalmodnkkfiaaDoorMlS
import Derived.Test.YtfdalmodnkkfiaaDoorMlVa
import Derived.Test.YtfdalmodnkkfiaaDoorMlN
namespace Go.Proofs.YtfdalmodnkkfiaaDoor
open Go.RowKit
set_option linter.unusedVariables false
set_option linter.unusedSimpArgs false

theorem MgOk.kn {m : Mg} (h : MgOk m) : m.ks.length ≤ 64 := by
  rcases h.2 with ⟨_, _, _, _, _, h, _⟩ | ⟨_, _, _, h, _⟩ | ⟨_, _, h, _⟩ | ⟨_, _, _, h, _⟩
  · rw [h]; simp
  · rw [h]; simp
  · rw [h]; simp
  · exact h
theorem MgOk.cn {m : Mg} (h : MgOk m) : m.cs.length ≤ 64 := by
  rcases h.2 with ⟨_, _, _, _, h, _⟩ | ⟨_, _, _, _, _, _, _, h, _⟩ | ⟨_, _, _, h, _⟩ | ⟨_, _, h, _⟩
  · rw [h]; simp
  · exact h
  · exact h
  · rw [h]; simp
theorem mgB_len (m : Mg) (h : MgOk m) : 0 < (mgB m).length ∧ (mgB m).length ≤ 100000 := by
  have h1 := headB_len m
  have h2 := flatC_len m.cs
  have h3 := flatK_len m.ks
  have h4 := h.kn
  have h5 := h.cn
  unfold mgB cdsB kysB
  split
  · simp only [List.length_append, be_len, List.length_cons, List.length_nil]; omega
  split
  · simp only [List.length_append, be_len, List.length_cons, List.length_nil]; omega
  split
  · simp only [List.length_append, List.length_cons, List.length_nil]; omega
  split
  · simp only [List.length_append, List.length_cons, List.length_nil]; omega
  · simp
set_option maxRecDepth 100000 in
set_option maxHeartbeats 8000000 in
theorem mailBack_walk (ra : Option Addr) (rlen rcap : Nat) (rz : List Int) (cut : Int) (w : World) (hG : EG w) (hr : IsRow .i64 w ra rlen rcap rz) (hw8 : (Lit.int .i64 cut).wf = true) :
    Calls Tryd.prog 3 #[.slice ra rlen rcap, .int .i64 cut] w fun r w' => r = .returned (.bool true) ∧ Below w.heap.size w w' := by
  have hnn := neqNil
  have hnf := neqF
  obtain ⟨i0, hi, hz0, hz1, hz2⟩ := info_parts info_u8
  have HG := Lib.hid hG
  have HRR := Lib.hid hr
  have HNE := Lib.hid (rowOk_new hr (.cells #[.slice ra rlen rcap, .int .i64 0] 32)).2
  have hE := (Below.refl w.heap.size w).alloc (Nat.le_refl _) (.cells #[.slice ra rlen rcap, .int .i64 0] 32)
  have D1 := Lib.hid hE
  have HT1 := Lib.hid (tapeK_new (a := ra) (len := rlen) (cap := rcap) w)
  clear hG hr hE
  go_enter Tryd.func3, Tryd.ntmps3
  go_wp2_with fail
  obtain ⟨tb, htb⟩ : ∃ tb, w.heap.size = tb := ⟨_, rfl⟩
  have HTB := Lib.hid (show w.heap.size ≤ tb by omega)
  rw [htb] at HT1 HNE
  try rw [htb]
  clear htb
  generalize (w.alloc (.cells #[.slice ra rlen rcap, .int .i64 0] 32)) = w1 at *
  have HRW := Lib.hid (show RowOk ra rlen rcap rz w1 tb from ⟨HRR.out.ext D1.out, HNE.out⟩)
  refine (tapeMsg ra rlen rcap rz tb w1 HT1.out HRW.out).mono ?_
  rintro e w2 ⟨m, ca, cn, cc, ka, kn, kc, rfl, hM, hok, hT2, hB2⟩
  have HM2 := Lib.hid hM
  have HOK := Lib.hid hok
  have HKD := Lib.hid (show kn ≤ 64 from by have h1 := hok.kn; have h2 := hM.2.2.2.2.2.1; omega)
  have HD2 := Lib.hid (D1.out.trans (hB2.below HTB.out D1.out.size))
  have HG2 := Lib.hid (HG.out.ext HD2.out)
  obtain ⟨L, hL⟩ : ∃ L, mgB m = L := ⟨_, rfl⟩
  have HL := Lib.hid hL
  have HLW := Lib.hid (show Wb L from by rw [← hL]; exact mgB_wb m)
  have HLB := Lib.hid (show 0 < L.length ∧ L.length ≤ 100000 from by rw [← hL]; exact mgB_len m hok)
  have HLA := Lib.hid (show rM ((L, false), false) = (m, (([], false), false)) from by rw [← hL]; exact rM_all m hok.w)
  have HLC := Lib.hid (show ∀ c, c < L.length → rOk (rM ((L.take c, false), false)).2 = false from by rw [← hL]; exact rM_cut m hok.w)
  have HLM := Lib.hid (show ∀ x, rOk (rM ((L ++ [x], false), false)).2 = false from by rw [← hL]; exact rM_more m hok.w)
  clear hM hok hT2 hB2 hL HT1 HRW HNE D1 HG
  have hE : Below w2.heap.size w2 (w2.alloc (.cells #[.int .i64 m.kd, .int .i64 m.op, .int .i64 m.st, .int .i64 m.cod, .int .i64 m.tag, .int .i64 m.n, .int .i64 m.sq, .string m.k.1, .string m.k.2, .bool m.fu, .int .u32 m.su, .slice ca cn cc, .slice ka kn kc] 29)) := (Below.refl _ _).alloc (Nat.le_refl _) _
  have hX := Lib.hid (blk_new w2 #[.int .i64 m.kd, .int .i64 m.op, .int .i64 m.st, .int .i64 m.cod, .int .i64 m.tag, .int .i64 m.n, .int .i64 m.sq, .string m.k.1, .string m.k.2, .bool m.fu, .int .u32 m.su, .slice ca cn cc, .slice ka kn kc] 29)
  have HE := Lib.hid hE
  clear hE
  go_upto_region 2 with (fail)
  obtain ⟨p1, hp⟩ : ∃ p1, w2.heap.size = p1 := ⟨_, rfl⟩
  rw [hp] at hX
  try rw [hp]
  clear hp
  have hE := HE.out
  clear HE
  have HG3 := Lib.hid (HG2.out.ext hE)
  have HD3 := Lib.hid (ext_trans HD2.out hE)
  have HM3 := Lib.hid (MgMem.ext HM2.out hE)
  clear HG2 HD2 HM2 hE
  have HP3 := Lib.hid (hX.out)
  clear hX
  generalize (w2.alloc (.cells #[.int .i64 m.kd, .int .i64 m.op, .int .i64 m.st, .int .i64 m.cod, .int .i64 m.tag, .int .i64 m.n, .int .i64 m.sq, .string m.k.1, .string m.k.2, .bool m.fu, .int .u32 m.su, .slice ca cn cc, .slice ka kn kc] 29)) = w3 at *
  have cHP := blk_cell HP3.out
  have lHP := blk_lt HP3.out
  go_wp2_with fail
  refine (mailBytesOk m ca cn cc ka kn kc w3 HM3.out HOK.out).mono ?_
  rintro r w4 ⟨a1, n1, k1, rfl, hn1, ho1, hb⟩
  rw [HL.out] at hn1 ho1
  obtain ⟨_, _, e1, -, hnk, hkm, hat, -, -⟩ := own_read ho1
  simp only [Value.slice.injEq] at e1
  obtain ⟨rfl, -, rfl⟩ := e1
  have HA2 := Lib.hid hat
  have HN2 := Lib.hid hn1
  have hn1b : 0 < n1 ∧ n1 ≤ 100000 := by have := HLB.out; omega
  have HNK := Lib.hid hnk
  have HKM := Lib.hid hkm
  clear ho1 hat hn1 hnk hkm
  have HG4 := Lib.hid (HG3.out.ext hb)
  have HD4 := Lib.hid (ext_trans HD3.out hb)
  have HM4 := Lib.hid (MgMem.ext HM3.out hb)
  have HP4 := Lib.hid (blk_ext hb HP3.out)
  clear HG3 HD3 HM3 HP3 cHP lHP hb
  have HA4 := Lib.hid (HA2.out)
  clear HA2
  have hAA := HA4.out
  go_wp2_with fail
  refine (mailReadOk a1 n1 k1 L m w4 hAA HN2.out (by omega) HLW.out HLA.out HOK.out).mono ?_
  rintro r w5 ⟨cb, cm, cd, kb, km, ke, rfl, hm, hb⟩
  have HM9 := Lib.hid hm
  clear hm
  have HG5 := Lib.hid (HG4.out.ext hb)
  have HD5 := Lib.hid (ext_trans HD4.out hb)
  have HM5 := Lib.hid (MgMem.ext HM4.out hb)
  have HP5 := Lib.hid (blk_ext hb HP4.out)
  have HA5 := Lib.hid (HA4.out.ext hb)
  clear HG4 HD4 HM4 HP4 HA4 hAA hb
  have HQ25 := Lib.hid (HM9.out)
  clear HM9
  have hE : Below w5.heap.size w5 (w5.alloc (.cells #[.int .i64 m.kd, .int .i64 m.op, .int .i64 m.st, .int .i64 m.cod, .int .i64 m.tag, .int .i64 m.n, .int .i64 m.sq, .string m.k.1, .string m.k.2, .bool m.fu, .int .u32 m.su, .slice cb cm cd, .slice kb km ke] 29)) := (Below.refl _ _).alloc (Nat.le_refl _) _
  have hX := Lib.hid (blk_new w5 #[.int .i64 m.kd, .int .i64 m.op, .int .i64 m.st, .int .i64 m.cod, .int .i64 m.tag, .int .i64 m.n, .int .i64 m.sq, .string m.k.1, .string m.k.2, .bool m.fu, .int .u32 m.su, .slice cb cm cd, .slice kb km ke] 29)
  have HE := Lib.hid hE
  clear hE
  go_upto_region 4 with (fail)
  obtain ⟨p4, hp⟩ : ∃ p4, w5.heap.size = p4 := ⟨_, rfl⟩
  rw [hp] at hX
  try rw [hp]
  clear hp
  have hE := HE.out
  clear HE
  have HG6 := Lib.hid (HG5.out.ext hE)
  have HD6 := Lib.hid (ext_trans HD5.out hE)
  have HM6 := Lib.hid (MgMem.ext HM5.out hE)
  have HP6 := Lib.hid (blk_ext hE HP5.out)
  have HA6 := Lib.hid (HA5.out.ext hE)
  have HQ26 := Lib.hid (MgMem.ext HQ25.out hE)
  clear HG5 HD5 HM5 HP5 HA5 HQ25 hE
  have HQ6 := Lib.hid (hX.out)
  clear hX
  generalize (w5.alloc (.cells #[.int .i64 m.kd, .int .i64 m.op, .int .i64 m.st, .int .i64 m.cod, .int .i64 m.tag, .int .i64 m.n, .int .i64 m.sq, .string m.k.1, .string m.k.2, .bool m.fu, .int .u32 m.su, .slice cb cm cd, .slice kb km ke] 29)) = w6 at *
  have hn0 : ((n1 : Int) == 0) = false := by simpa using (show (n1 : Int) ≠ 0 by omega)
  have cHP := blk_cell HP6.out
  have lHP := blk_lt HP6.out
  have cHQ := blk_cell HQ6.out
  have lHQ := blk_lt HQ6.out
  go_wp2_with fail
  refine (msgSameMg m cb cm cd kb km ke ca cn cc ka kn kc w6 HQ26.out HM6.out (by have h1 := (HQ26.out); have h2 := (HM6.out); have h3 := HKD.out; exact (Nat.le_trans (show km ≤ kn by have := h1.2.2.2.2.2.1; have := h2.2.2.2.2.2.1; omega) (by omega)))).mono ?_
  rintro r w7 ⟨rfl, hb⟩
  have HG7 := Lib.hid (HG6.out.ext hb)
  have HD7 := Lib.hid (ext_trans HD6.out hb)
  have HM7 := Lib.hid (MgMem.ext HM6.out hb)
  have HP7 := Lib.hid (blk_ext hb HP6.out)
  have HA7 := Lib.hid (HA6.out.ext hb)
  have HQ27 := Lib.hid (MgMem.ext HQ26.out hb)
  have HQ7 := Lib.hid (blk_ext hb HQ6.out)
  clear HG6 HD6 HM6 HP6 HA6 HQ26 HQ6 cHP lHP cHQ lHQ hb hn0
  clear HM7
  clear HQ27
  clear HP7
  clear HQ7
  obtain ⟨h9, hh9⟩ : ∃ h9 : Int, (n1 : Int) - 1 = h9 := ⟨_, rfl⟩
  have hw9 : wrap64 ((n1 : Int) - 1) = h9 := by unfold wrap64; omega
  have h90 : 0 ≤ h9 ∧ h9 ≤ 100000 := by omega
  have HH9 := Lib.hid hh9
  clear hh9
  go_wp2_with fail
  first | rw [hw9] | rw [HH9.out]
  refine (within_any cut 0 h9 w7 (by omega) (by omega) (by omega) (by have := bounds_i64 hw8; omega) (by have := bounds_i64 hw8; omega)).mono ?_
  rintro r x ⟨rfl, hx⟩
  obtain rfl := hx
  have hc1 := win_lo cut 0 h9 h90.1
  have hc2 := win_hi cut 0 h9 h90.1
  obtain ⟨C, hC⟩ : ∃ C : Nat, win cut 0 h9 = (C : Int) := ⟨(win cut 0 h9).toNat, by omega⟩
  rw [hC] at hc1 hc2 ⊢
  have hCn : C < n1 := by have := HH9.out; omega
  have hCk : C ≤ k1 := by have := HNK.out; omega
  have hkm := HKM.out
  unfold maxLen at hkm
  clear hC hc1 hc2 hw9 h90
  have hAA := HA7.out
  obtain ⟨g1, o1, rfl⟩ : ∃ g o, a1 = some ⟨g, o, none⟩ := by
    rcases hAA with h | ⟨g, o, e, -⟩
    · exfalso; have := HN2.out; rw [h] at this; simp at this; omega
    · exact ⟨g, o, e⟩
  go_wp2_with fail
  refine (mailReadNo (some ⟨g1, o1, none⟩) C k1 (L.take C) w7 HG7.out (hAA.take C) (by rw [List.length_take, HN2.out]; omega) (by omega) (HLW.out.take C) (HLC.out C (by rw [HN2.out]; exact hCn))).mono ?_
  rintro r w8 ⟨e9, rfl, hf, hb⟩
  have HFOLD := Lib.hid hf
  obtain ⟨p9, _, hfe, _⟩ := id hf
  subst hfe
  clear hf
  have HG8 := Lib.hid (HG7.out.ext hb)
  have HD8 := Lib.hid (ext_trans HD7.out hb)
  have HA8 := Lib.hid (HA7.out.ext hb)
  clear HG7 HD7 HA7 hAA hb
  have HF8 := Lib.hid (HFOLD.out)
  clear HFOLD
  have hE : Below w8.heap.size w8 (w8.alloc (.cells #[.int .i64 0, .int .i64 0, .int .i64 0, .int .i64 0, .int .i64 0, .int .i64 0, .int .i64 0, .string ⟨#[]⟩, .string ⟨#[]⟩, .bool false, .int .u32 0, .slice none 0 0, .slice none 0 0] 29)) := (Below.refl _ _).alloc (Nat.le_refl _) _
  have hX := Lib.hid (blk_new w8 #[.int .i64 0, .int .i64 0, .int .i64 0, .int .i64 0, .int .i64 0, .int .i64 0, .int .i64 0, .string ⟨#[]⟩, .string ⟨#[]⟩, .bool false, .int .u32 0, .slice none 0 0, .slice none 0 0] 29)
  have HE := Lib.hid hE
  clear hE
  go_upto_region 7 with (fail)
  obtain ⟨p8, hp⟩ : ∃ p8, w8.heap.size = p8 := ⟨_, rfl⟩
  rw [hp] at hX
  try rw [hp]
  clear hp
  have hE := HE.out
  clear HE
  have HG9 := Lib.hid (HG8.out.ext hE)
  have HD9 := Lib.hid (ext_trans HD8.out hE)
  have HA9 := Lib.hid (HA8.out.ext hE)
  have HF9 := Lib.hid (FC.ext hE HF8.out)
  clear HG8 HD8 HA8 HF8 hE
  clear hX
  generalize (w8.alloc (.cells #[.int .i64 0, .int .i64 0, .int .i64 0, .int .i64 0, .int .i64 0, .int .i64 0, .int .i64 0, .string ⟨#[]⟩, .string ⟨#[]⟩, .bool false, .int .u32 0, .slice none 0 0, .slice none 0 0] 29)) = w9 at *
  have O0 : (w9.alloc (.cells #[] 5)).ownsRow w9.heap.size 5 1 (.slice (some ⟨w9.heap.size, 0, none⟩) 0 0) 0 (bc []) := World.ownsRow_made w9 #[] 0 (Nat.le_refl _) (by unfold maxLen; omega) rfl
  have B0 : Below w9.heap.size w9 (w9.alloc (.cells #[] 5)) := (Below.refl _ _).alloc (Nat.le_refl _) _
  have A0 := (HA9.out).ext B0
  go_wp2_with (at_builtin; refine wpList_append_bytes _ rfl _ _ 34 rfl (w9.heap.size) 5 i0 Tryd.underlying34 hi hz0 hz1 hz2 (.slice (some ⟨w9.heap.size, 0, none⟩) 0 0) (0) ([]) rfl (O0) (some ⟨g1, o1, none⟩) (n1) (k1) (L) rfl (A0) (HN2.out) ?c3 ?c4 ?c5 ?_)
  case c3 => unfold maxLen; omega
  case c4 => omega
  case c5 => exact B0.size
  intro u2 x2 ho2 hg2
  have B2 := B0.grown hg2 B0.size (fun q hq => own_ge O0 hq)
  have O2 := Lib.hid (show x2.ownsRow w9.heap.size 5 1 u2 n1 (bc L) by simpa using ho2)
  have Z2 := B2.size
  have A3 := bat_one x2 (cut % 256)
  have O3 := O2.out.alloc (.cells #[.int .u8 (cut % 256)] 5)
  have B3 := B2.alloc Z2 (.cells #[.int .u8 (cut % 256)] 5)
  clear ho2 hg2 O0 B0 A0
  go_wp2_with (at_builtin; refine wpList_append_bytes _ rfl _ _ 34 rfl (w9.heap.size) 5 i0 Tryd.underlying34 hi hz0 hz1 hz2 _ (n1) (L) rfl (O3) (some ⟨x2.heap.size, 0, none⟩) (1) (1) ([cut % 256]) rfl (A3) (rfl) ?c3 ?c4 ?c5 ?_)
  case c3 => unfold maxLen; omega
  case c4 => omega
  case c5 => simp; omega
  intro u4 x4 ho4 hg4
  have hb := B3.grown hg4 (by simp; omega) (fun q hq => own_ge O3 hq)
  have hL4 : (L ++ [cut % 256]).length = n1 + 1 := by rw [List.length_append, HN2.out]; rfl
  obtain ⟨a4, c4, rfl, -, -, -, hat4, -, -⟩ := own_read ho4
  obtain ⟨w10, rfl⟩ : ∃ y : World, y = x4 := ⟨_, rfl⟩
  have HA4 := Lib.hid hat4
  have HL4 := Lib.hid hL4
  clear ho4 hg4 hat4 hL4 O2 Z2 A3 O3 B2 B3
  clear HA9
  have HG10 := Lib.hid (HG9.out.ext hb)
  have HD10 := Lib.hid (ext_trans HD9.out hb)
  have HF10 := Lib.hid (FC.ext hb HF9.out)
  clear HG9 HD9 HF9 hb
  go_wp2_with fail
  refine (mailReadNo a4 (n1 + 1) c4 (L ++ [cut % 256]) w10 HG10.out HA4.out HL4.out (by omega) (HLW.out.app (Wb.one (Int.emod_nonneg _ (by omega)) (Int.emod_lt_of_pos _ (by omega)))) (HLM.out _)).mono ?_
  rintro r w11 ⟨e10, rfl, hf, hb⟩
  have HFNEW := Lib.hid hf
  obtain ⟨p10, _, hfe, _⟩ := id hf
  subst hfe
  clear hf
  have HG11 := Lib.hid (HG10.out.ext hb)
  have HD11 := Lib.hid (ext_trans HD10.out hb)
  have HF11 := Lib.hid (FC.ext hb HF10.out)
  clear HG10 HD10 HF10 hb
  have HH11 := Lib.hid (HFNEW.out)
  clear HFNEW
  have hE : Below w11.heap.size w11 (w11.alloc (.cells #[.int .i64 0, .int .i64 0, .int .i64 0, .int .i64 0, .int .i64 0, .int .i64 0, .int .i64 0, .string ⟨#[]⟩, .string ⟨#[]⟩, .bool false, .int .u32 0, .slice none 0 0, .slice none 0 0] 29)) := (Below.refl _ _).alloc (Nat.le_refl _) _
  have hX := Lib.hid (blk_new w11 #[.int .i64 0, .int .i64 0, .int .i64 0, .int .i64 0, .int .i64 0, .int .i64 0, .int .i64 0, .string ⟨#[]⟩, .string ⟨#[]⟩, .bool false, .int .u32 0, .slice none 0 0, .slice none 0 0] 29)
  have HE := Lib.hid hE
  clear hE
  go_upto_region 8 with (fail)
  obtain ⟨p9, hp⟩ : ∃ p9, w11.heap.size = p9 := ⟨_, rfl⟩
  rw [hp] at hX
  try rw [hp]
  clear hp
  have hE := HE.out
  clear HE
  have HG12 := Lib.hid (HG11.out.ext hE)
  have HD12 := Lib.hid (ext_trans HD11.out hE)
  have HF12 := Lib.hid (FC.ext hE HF11.out)
  have HH12 := Lib.hid (FC.ext hE HH11.out)
  clear HG11 HD11 HF11 HH11 hE
  clear hX
  generalize (w11.alloc (.cells #[.int .i64 0, .int .i64 0, .int .i64 0, .int .i64 0, .int .i64 0, .int .i64 0, .int .i64 0, .string ⟨#[]⟩, .string ⟨#[]⟩, .bool false, .int .u32 0, .slice none 0 0, .slice none 0 0] 29)) = w12 at *
  go_wp2_with fail
  refine (faultCode_hit [⟨#[114, 101, 97, 100]⟩, ⟨#[98, 121, 116, 101, 115]⟩] 12 _ w12 HG12.out HF12.out (by simp)).mono ?_
  rintro r w13 ⟨rfl, hb⟩
  have HG13 := Lib.hid (HG12.out.ext hb)
  have HD13 := Lib.hid (ext_trans HD12.out hb)
  have HF13 := Lib.hid (FC.ext hb HF12.out)
  have HH13 := Lib.hid (FC.ext hb HH12.out)
  clear HG12 HD12 HF12 HH12 hb
  go_wp2_with fail
  refine (faultCode_hit [⟨#[114, 101, 97, 100]⟩, ⟨#[98, 121, 116, 101, 115]⟩] 12 _ w13 HG13.out HH13.out (by simp)).mono ?_
  rintro r w14 ⟨rfl, hb⟩
  have HG14 := Lib.hid (HG13.out.ext hb)
  have HD14 := Lib.hid (ext_trans HD13.out hb)
  have HF14 := Lib.hid (FC.ext hb HF13.out)
  have HH14 := Lib.hid (FC.ext hb HH13.out)
  clear HG13 HD13 HF13 HH13 hb
  go_wp2_with fail
  refine (law6known w14 HG14.out).mono ?_
  rintro r w15 ⟨rfl, hb⟩
  have HG15 := Lib.hid (HG14.out.ext hb)
  have HD15 := Lib.hid (ext_trans HD14.out hb)
  have HF15 := Lib.hid (FC.ext hb HF14.out)
  have HH15 := Lib.hid (FC.ext hb HH14.out)
  clear HG14 HD14 HF14 HH14 hb
  go_wp2
  go_ret
  exact ⟨rfl, HD15.out⟩

end Go.Proofs.YtfdalmodnkkfiaaDoor
