/- CacheFulls: the walk. -/
import Derived.Test.YtkhcgopehmndgaaCacL
namespace Go.Proofs.Ytkhcgopehmndgaa
open Go.RowKit
set_option linter.unusedVariables false
set_option linter.unusedSimpArgs false

set_option maxRecDepth 100000 in
set_option maxHeartbeats 8000000 in
theorem cacheFulls_walk (ra : Option Addr) (rlen rcap : Nat) (rz : List Int) (seq : Int) (w : World) (hr : IsRow .i64 w ra rlen rcap rz) (hr8 : rlen * 8 ≤ 140737488351232) (hw : (Lit.int .i64 seq).wf = true) :
    Calls Try.prog 5 #[.slice ra rlen rcap, .int .i64 seq] w fun r w' => r = .returned (.bool true) ∧ Below w.heap.size w w' := by
  obtain ⟨n, hbn⟩ : ∃ n, bits BinOp.and IntKind.i64 seq 65535 = n := ⟨_, rfl⟩
  have HBN := Lib.hid hbn
  have hn0 : -1 ≤ n := by rw [← hbn, and_65535]; omega
  clear hbn
  have D1 := Lib.hid (show Below w.heap.size w (w.alloc (.cells #[.slice ra rlen rcap, .int .i64 0] 29)) from (Below.refl _ _).alloc (Nat.le_refl _) _)
  have HT1 := Lib.hid (tapeK_new (a := ra) (len := rlen) (cap := rcap) w)
  have HR := Lib.hid hr
  have HNE := Lib.hid (rowOk_new hr (.cells #[.slice ra rlen rcap, .int .i64 0] 29)).2
  clear hr
  go_enter Try.func5, Try.ntmps5
  go_upto_region 2 with (fail)
  obtain ⟨tb, htb⟩ : ∃ tb, w.heap.size = tb := ⟨_, rfl⟩
  have HTB := Lib.hid (show w.heap.size ≤ tb by omega)
  rw [htb] at HT1 HNE
  try rw [htb]
  clear htb
  generalize (w.alloc (.cells #[.slice ra rlen rcap, .int .i64 0] 29)) = w1 at *
  go_wp2_with fail
  refine (cacheNew _).mono ?_
  rintro e w2 ⟨rfl, hp, hb⟩
  obtain ⟨cb, hcb⟩ : ∃ cb, w1.heap.size = cb := ⟨_, rfl⟩
  have HCB := Lib.hid (show w.heap.size ≤ cb from by rw [← hcb]; exact D1.out.size)
  rw [hcb] at hp
  try rw [hcb]
  have HP2 := Lib.hid hp
  have HT2 := Lib.hid (HT1.out.ext hb)
  have HD2 := Lib.hid (ext_trans D1.out hb)
  clear hp hb hcb HT1 D1
  go_upto_region 6 with (fail)
  rw [HBN.out]
  clear HBN
  go_wp2_with fail
  go_loopw [8] (fun i wr => ∃ (I : Nat) (q : Int) (cs : List Cd), I ≤ 5 ∧ i = .int .i64 (I : Int) ∧ TapeK ra rlen rcap wr tb ∧ CacP wr cb q cs ∧ Below w.heap.size w wr) (fun i _ => 5 - (intOf i).toNat)
  case atStart => exact ⟨0, -1, [], by omega, rfl, HT2.out, HP2.out, HD2.out⟩
  case round =>
    obtain ⟨w3, rfl⟩ : ∃ y : World, y = wr := ⟨_, rfl⟩
    obtain ⟨I, q, cs0, hI, rfl, ht, hp, hd⟩ := hrel
    have HT3 := Lib.hid ht
    have HP3 := Lib.hid hp
    have HD3 := Lib.hid hd
    clear ht hp hd HT2 HP2 HD2
    by_cases hlt : I < 5
    · have hdI : decide ((I : Int) < 5) = true := by simp; omega
      go_wp2_with fail
      refine (tapeCardsF ra rlen rcap rz tb 9 _ HT3.out (show RowOk ra rlen rcap rz _ tb from ⟨HR.out.ext HD3.out, HNE.out⟩) (by omega)).mono ?_
      rintro e w4 ⟨v, ls, rfl, ho, hl9, hF, ht, hb⟩
      have HFF := Lib.hid hF
      obtain ⟨a4, c4, rfl, hc4, -, hat, -, -⟩ := ho.read
      obtain ⟨n4, hn4⟩ : ∃ n4, ls.length = n4 := ⟨_, rfl⟩
      have HN4 := Lib.hid hn4
      rw [hn4] at hc4 hl9 ⊢
      have HA4 := Lib.hid hat
      have HP4 := Lib.hid (HP3.out.bar HT3.out hb)
      have HT4 := Lib.hid ht
      have HD4 := Lib.hid (HD3.out.trans (hb.below HTB.out HD3.out.size))
      clear ho hF hat ht hb hn4 HT3 HP3 HD3
      go_wp2_with fail
      refine (onceC a4 n4 c4 ls _ HA4.out HN4.out (by omega) hc4).mono ?_
      rintro e w5 ⟨v, rfl, ho, hb⟩
      obtain ⟨a5, c5, rfl, hc5, -, hat, -, -⟩ := ho.read
      obtain ⟨n5, hn5⟩ : ∃ n5, (onc ls).length = n5 := ⟨_, rfl⟩
      have HN5 := Lib.hid hn5
      have hn59 : n5 ≤ 9 := by have := onc_len ls; have := HN4.out; omega
      rw [hn5] at hc5 ⊢
      have HA5 := Lib.hid hat
      have HP5 := Lib.hid (HP4.out.ext hb)
      have HT5 := Lib.hid (HT4.out.ext hb)
      have HD5 := Lib.hid (ext_trans HD4.out hb)
      clear ho hat hb hn5 HT4 HP4 HD4 HA4
      go_wp2_with fail
      refine (refSeen9 a5 n5 c5 (onc ls) _ HA5.out HN5.out (by omega) hc5).mono ?_
      rintro e w6 ⟨v, rfl, ho, hb⟩
      obtain ⟨la, lc, rfl, hlc, hlm, hat, -, -⟩ := ho.read
      obtain ⟨L, hL⟩ : ∃ L, seenL (onc ls) = L := ⟨_, rfl⟩
      obtain ⟨k, hk⟩ : ∃ k, L.length = k := ⟨_, rfl⟩
      have HK := Lib.hid hk
      have hk9 : k ≤ 9 := by rw [← hk, ← hL]; have := full_len ls; have := HN4.out; omega
      have HLR := Lib.hid (show ∀ x ∈ L, CdR x from by rw [← hL]; exact full_r HFF.out)
      have HLG := Lib.hid (show ∀ x ∈ L, x.g = false from by rw [← hL]; exact full_g ls)
      have HLP := Lib.hid (show L.Pairwise (fun x y => kc x.a x.i y.a y.i < 0) from by rw [← hL]; exact full_pw ls)
      have HLC := Lib.hid (show ∀ x ∈ L, CdS x from fun x hx => ⟨by have := (HLR.out x hx).1.2.1; omega, by have := (HLR.out x hx).2.1.2.1; omega⟩)
      rw [hL] at hlc hat ⊢
      rw [hk] at hlc ⊢
      have HA6 := Lib.hid (show CAt w6 la L from hat)
      have HP6 := Lib.hid (HP5.out.ext hb)
      have HT6 := Lib.hid (HT5.out.ext hb)
      have HD6 := Lib.hid (ext_trans HD5.out hb)
      clear ho hat hb hL hk HT5 HP5 HD5 HA5 HFF HN4 HN5
      go_wp2_with fail
      refine (refSeal9 la k lc L _ HA6.out HK.out (by omega) hlc HLC.out).mono ?_
      rintro e w10 ⟨rfl, hb⟩
      obtain ⟨S, hS⟩ : ∃ S, sm (sealB L) = S := ⟨_, rfl⟩
      have HS := Lib.hid hS
      rw [hS]
      have HA10 := Lib.hid (HA6.out.ext hb)
      have HP10 := Lib.hid (HP6.out.ext hb)
      have HT10 := Lib.hid (HT6.out.ext hb)
      have HD10 := Lib.hid (ext_trans HD6.out hb)
      have E11 := Lib.hid (show Below w10.heap.size w10 (w10.alloc (.cells #[.int .i64 2, .int .i64 5, .int .i64 0, .int .i64 0, .int .i64 0, .int .i64 0, .int .i64 n, .string ⟨#[]⟩, .string ⟨#[]⟩, .bool true, .int .u32 S, .slice la k lc, .slice none 0 0] 36)) from (Below.refl _ _).alloc (Nat.le_refl _) _)
      have HX11 := Lib.hid (blk_new w10 #[.int .i64 2, .int .i64 5, .int .i64 0, .int .i64 0, .int .i64 0, .int .i64 0, .int .i64 n, .string ⟨#[]⟩, .string ⟨#[]⟩, .bool true, .int .u32 S, .slice la k lc, .slice none 0 0] 36)
      clear hb hS HA6 HP6 HT6 HD6
      go_upto_region 11 with (fail)
      obtain ⟨p, hp⟩ : ∃ p, w10.heap.size = p := ⟨_, rfl⟩
      rw [hp] at HX11
      try rw [hp]
      have HPL := Lib.hid (show w.heap.size ≤ p from by rw [← hp]; exact HD10.out.size)
      have HA11 := Lib.hid (HA10.out.ext E11.out)
      have HP11 := Lib.hid (HP10.out.ext E11.out)
      have HT11 := Lib.hid (HT10.out.ext E11.out)
      have HD11 := Lib.hid (ext_trans HD10.out E11.out)
      clear hp HA10 HP10 HT10 HD10 E11
      generalize (w10.alloc (.cells #[.int .i64 2, .int .i64 5, .int .i64 0, .int .i64 0, .int .i64 0, .int .i64 0, .int .i64 n, .string ⟨#[]⟩, .string ⟨#[]⟩, .bool true, .int .u32 S, .slice la k lc, .slice none 0 0] 36)) = w11 at *
      have hkx := blk_cell HX11.out
      have hlx := blk_lt HX11.out
      go_wp2_with fail
      refine (applyFull cb k lc la q n S cs0 L _ HP11.out HA11.out HK.out (by omega) HLR.out HLG.out HLP.out hn0 HS.out).mono ?_
      rintro e w12 ⟨rfl, hp, hr⟩
      have HX12 := Lib.hid (HP11.out.rimS hr (by decide) HX11.out)
      have HA12 := Lib.hid (HA11.out.rimC HP11.out hr)
      have HT12 := Lib.hid (HT11.out.rimC HP11.out hr)
      have HD12 := Lib.hid (HD11.out.trans (hr.below HCB.out HD11.out.size))
      have HP12 := Lib.hid hp
      clear hp hr hkx hlx HX11 HA11 HT11 HD11 HP11
      have hee : ∀ z : Int, (z == z) = true := fun z => by simp
      go_wp2_with fail
      refine (cacheSince cb n L _ HP12.out).mono ?_
      rintro e w13 ⟨rfl, hb⟩
      have HX13 := Lib.hid (blk_ext hb HX12.out)
      have HA13 := Lib.hid (HA12.out.ext hb)
      have HT13 := Lib.hid (HT12.out.ext hb)
      have HP13 := Lib.hid (HP12.out.ext hb)
      have HD13 := Lib.hid (ext_trans HD12.out hb)
      clear hb HX12 HA12 HT12 HP12 HD12
      go_wp2_with fail
      refine (cacheCards cb n L _ HP13.out (by have := HK.out; omega)).mono ?_
      rintro e w14 ⟨v, rfl, ho, hb⟩
      obtain ⟨ga, gc, rfl, hgc, hgm, hgat, -, -⟩ := ho.read
      rw [HK.out] at hgc ⊢
      have HGA := Lib.hid hgat
      have HX14 := Lib.hid (blk_ext hb HX13.out)
      have HA14 := Lib.hid (HA13.out.ext hb)
      have HT14 := Lib.hid (HT13.out.ext hb)
      have HP14 := Lib.hid (HP13.out.ext hb)
      have HD14 := Lib.hid (ext_trans HD13.out hb)
      clear hb ho hgat HX13 HA13 HT13 HP13 HD13
      go_wp2_with fail
      refine (same5 ga la k gc lc L _ HGA.out HA14.out HK.out hgc hlc hgm hlm).mono ?_
      rintro e w16 ⟨rfl, hb⟩
      have HX16 := Lib.hid (blk_ext hb HX14.out)
      have HA16 := Lib.hid (HA14.out.ext hb)
      have HT16 := Lib.hid (HT14.out.ext hb)
      have HP16 := Lib.hid (HP14.out.ext hb)
      have HD16 := Lib.hid (ext_trans HD14.out hb)
      clear hb HGA hgc hgm HX14 HA14 HT14 HP14 HD14
      go_wp2_with fail
      refine (cacheForget cb n L _ HP16.out).mono ?_
      rintro e w15 ⟨rfl, hp, hr⟩
      have HX15 := Lib.hid (HP16.out.rimS hr (by decide) HX16.out)
      have HA15 := Lib.hid (HA16.out.rimC HP16.out hr)
      have HT15 := Lib.hid (HT16.out.rimC HP16.out hr)
      have HD15 := Lib.hid (HD16.out.trans (hr.below HCB.out HD16.out.size))
      have HP15 := Lib.hid hp
      clear hp hr HX16 HA16 HT16 HD16 HP16
      have hkx := blk_cell HX15.out
      have hlx := blk_lt HX15.out
      have hfx := blk_free HX15.out
      go_upto_region 15 with (fail)
      have hkp : Kept p w15 (w15.setCell ⟨p, 9, none⟩ (.bool false)) := (Kept.refl p w15).setCell _ _
      have HX17 := Lib.hid (show (w15.setCell ⟨p, 9, none⟩ (.bool false)).heap[p]? = some (.cells #[.int .i64 2, .int .i64 5, .int .i64 0, .int .i64 0, .int .i64 0, .int .i64 0, .int .i64 n, .string ⟨#[]⟩, .string ⟨#[]⟩, .bool false, .int .u32 S, .slice la k lc, .slice none 0 0] 36 (0, 0)) from blk_set HX15.out (by first | rfl | simp))
      have HP17 := Lib.hid (HP15.out.rimO (Rim.kept hkp) HX15.out (by decide) (by decide))
      have HA17 := Lib.hid (HA15.out.keep fun b cur hc _ => hkp.block b (fun e => by subst e; have h9 := HX15.out.symm.trans hc; simp at h9))
      have HT17 := Lib.hid (HT15.out.rimT (Rim.kept hkp) HX15.out (by decide))
      have HD17 := Lib.hid (show Below w.heap.size w (w15.setCell ⟨p, 9, none⟩ (.bool false)) from HD15.out.setCell HPL.out _)
      clear hkp hkx hlx hfx HX15 HP15 HA15 HT15 HD15
      generalize (w15.setCell ⟨p, 9, none⟩ (.bool false)) = w17 at *
      go_wp2_with fail
      refine (cacheSince cb (-1) L _ HP17.out).mono ?_
      rintro e w18 ⟨rfl, hb⟩
      have HX18 := Lib.hid (blk_ext hb HX17.out)
      have HA18 := Lib.hid (HA17.out.ext hb)
      have HT18 := Lib.hid (HT17.out.ext hb)
      have HP18 := Lib.hid (HP17.out.ext hb)
      have HD18 := Lib.hid (ext_trans HD17.out hb)
      clear hb HX17 HA17 HT17 HP17 HD17
      have hkx := blk_cell HX18.out
      have hlx := blk_lt HX18.out
      go_wp2_with fail
      refine (applyNever cb k lc la n S L L _ HP18.out HA18.out HK.out (by omega) HLR.out hn0).mono ?_
      rintro e w19 ⟨rfl, hb⟩
      have HA19 := Lib.hid (HA18.out.ext hb)
      have HT19 := Lib.hid (HT18.out.ext hb)
      have HP19 := Lib.hid (HP18.out.ext hb)
      have HD19 := Lib.hid (ext_trans HD18.out hb)
      clear hb hkx hlx HX18 HA18 HT18 HP18 HD18
      go_wp2_with fail
      refine (cacheCards cb (-1) L _ HP19.out (by have := HK.out; omega)).mono ?_
      rintro e w20 ⟨v, rfl, ho, hb⟩
      obtain ⟨ga, gc, rfl, hgc, hgm, hgat, -, -⟩ := ho.read
      rw [HK.out] at hgc ⊢
      have HGA := Lib.hid hgat
      have HA20 := Lib.hid (HA19.out.ext hb)
      have HT20 := Lib.hid (HT19.out.ext hb)
      have HP20 := Lib.hid (HP19.out.ext hb)
      have HD20 := Lib.hid (ext_trans HD19.out hb)
      clear hb ho hgat HA19 HT19 HP19 HD19
      go_wp2_with fail
      refine (same5 ga la k gc lc L _ HGA.out HA20.out HK.out hgc hlc hgm hlm).mono ?_
      rintro e w21 ⟨rfl, hb⟩
      have HT21 := Lib.hid (HT20.out.ext hb)
      have HP21 := Lib.hid (HP20.out.ext hb)
      have HD21 := Lib.hid (ext_trans HD20.out hb)
      clear hb HGA HA20 HT20 HP20 HD20
      go_wp2
      go_roundw
      case rel => exact ⟨I + 1, -1, L, by omega, by go_num, HT21.out, HP21.out, HD21.out⟩
      case measure => simp [intOf]; omega
    · have hdI : decide ((I : Int) < 5) = false := by simp; omega
      go_wp2_with fail
      refine (law21known _).mono ?_
      rintro e w4 ⟨rfl, hb⟩
      have HD4 := Lib.hid (ext_trans HD3.out hb)
      clear hb
      go_wp2
      go_ret
      exact ⟨rfl, HD4.out⟩

end Go.Proofs.Ytkhcgopehmndgaa
