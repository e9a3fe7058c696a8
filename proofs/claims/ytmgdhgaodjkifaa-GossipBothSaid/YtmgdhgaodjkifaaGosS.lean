/- 'GossipSelf': the walk. -/
import Derived.Test.YtmgdhgaodjkifaaGosK
import Derived.Test.YtmgdhgaodjkifaaGosL
namespace Go.Proofs.Ytmgdhgaodjkifaa
open Go.RowKit
set_option linter.unusedVariables false
set_option linter.unusedSimpArgs false

theorem len_kyc (l : List Cd) : (l.map kyc).length = l.length := by simp

set_option maxRecDepth 100000 in
set_option maxHeartbeats 4000000 in
theorem gossipSelf_walk (ra : Option Addr) (rlen rcap : Nat) (rz : List Int) (w : World) (hr : IsRow .i64 w ra rlen rcap rz) (hr8 : rlen * 8 ≤ 140737488351232) :
    Calls Try.prog 5 #[.slice ra rlen rcap] w fun e w' => e = .returned (.bool true) ∧ Below w.heap.size w w' := by
  have D0 : Below w.heap.size w (w.alloc (.cells #[.slice ra rlen rcap, .int .i64 0] 25)) := (Below.refl _ _).alloc (Nat.le_refl _) _
  have HT0 := Lib.hid (tapeK_new (a := ra) (len := rlen) (cap := rcap) w)
  have HR0 := Lib.hid (rowOk_new hr (.cells #[.slice ra rlen rcap, .int .i64 0] 25))
  have HD0 := Lib.hid D0
  clear hr D0
  obtain ⟨j0, gi, gz0, gz1, gz2⟩ := info_parts' info_ky
  go_enter Try.func5, Try.ntmps5
  go_wp2_with fail
  generalize (w.alloc (.cells #[.slice ra rlen rcap, .int .i64 0] 25)) = w0 at *
  refine (tapeCards ra rlen rcap rz w.heap.size 14 _ HT0.out HR0.out (by omega)).mono ?_
  rintro e w1 ⟨lv, cs, rfl, ho, hl, hok, -, hb⟩
  obtain ⟨ca, cc', rfl, hcc, hcm, hcat, -, -⟩ := ho.read
  have HCA := Lib.hid hcat
  have HB1 := Lib.hid (HD0.out.trans (hb.below (Nat.le_refl _) HD0.out.size))
  have HOK := Lib.hid hok
  clear ho hok hb hcat HT0 HR0 HD0
  go_wp2_with fail
  refine (onceC ca cs.length cc' cs _ HCA.out rfl (by omega) hcc).mono ?_
  rintro e w2 ⟨v2, rfl, ho2, hb2⟩
  obtain ⟨l, hl2⟩ : ∃ l, onc cs = l := ⟨_, rfl⟩
  have HSTR := Lib.hid (show Str l from by rw [← hl2]; exact onc_str cs)
  have HCS := Lib.hid (show ∀ x ∈ l, CdS x from fun x hx => (HOK.out x (onc_mem (by rw [hl2]; exact hx))).s)
  have hln : l.length ≤ 14 := by rw [← hl2]; have := onc_len cs; omega
  rw [hl2] at ho2
  obtain ⟨la, lc, rfl, hlc, hlm, hlat, -, hlf⟩ := ho2.read
  obtain ⟨n, hn⟩ : ∃ n, l.length = n := ⟨_, rfl⟩
  have HN := Lib.hid hn
  rw [hn] at hlc hln ⊢
  have HL := Lib.hid hlat
  have HB2 := Lib.hid (ext_trans HB1.out hb2)
  have HLF := Lib.hid (show (la = none ∧ lc = 0) ∨ ∃ b o, la = some ⟨b, o, none⟩ from by
    rcases hlf with ⟨e1, e2, _⟩ | ⟨g, e⟩
    · exact .inl ⟨e1, e2⟩
    · exact .inr ⟨g, 0, e⟩)
  unfold maxLen at hlm
  clear ho2 hb2 hl2 hlat hn HCA HB1 HOK hlf
  go_wp2_with fail
  refine (gDigest la n lc l _ HL.out HN.out (by omega) HLF.out).mono ?_
  rintro e w3 ⟨da, rfl, hda, hdf, hb3⟩
  rw [srt_ord klt l HSTR.out.ord] at hda
  have HDA := Lib.hid hda
  have HDF := Lib.hid (show (da = none ∧ n = 0) ∨ ∃ g o, da = some ⟨g, o, none⟩ from hdf)
  have HB3 := Lib.hid (ext_trans HB2.out hb3)
  have HL3 := Lib.hid (HL.out.ext hb3)
  have hfd := fun w => field_cards da n n w
  clear hda hdf hb3
  go_wp2_with fail
  clear hfd
  refine (gCompare la da n n lc n l l _ HL3.out HDA.out HN.out HN.out (by omega) (by omega) HLF.out (by
    rcases HDF.out with ⟨e1, e2⟩ | h
    · exact .inl ⟨e1, e2⟩
    · exact .inr h)).mono ?_
  rintro e w4 ⟨k4, c4, rfl, hk4, hc4, hb4⟩
  rw [onc_id HSTR.out, gk_self] at hk4
  rw [onc_id HSTR.out, gc_self] at hc4
  obtain ⟨k4a, k4c, rfl, -, -, -⟩ := OwnR.form hk4
  obtain ⟨c4a, c4c, rfl, -, -, -⟩ := OwnR.form hc4
  have HB4 := Lib.hid (ext_trans HB3.out hb4)
  have HL4 := Lib.hid (HL3.out.ext hb4)
  clear hk4 hc4 hb4
  simp only [List.length_nil]
  go_wp2_with fail
  refine (gCompare la none n 0 lc 0 l [] _ HL4.out (.inl rfl) HN.out rfl (by omega) (by omega) HLF.out (.inl ⟨rfl, rfl⟩)).mono ?_
  rintro e w5 ⟨k5, c5, rfl, hk5, hc5, hb5⟩
  rw [onc_id HSTR.out, show onc [] = [] from rfl, gk_left] at hk5
  rw [onc_id HSTR.out, show onc [] = [] from rfl, gc_left _ _ (by simp)] at hc5
  obtain ⟨k5a, k5c, rfl, -, -, -⟩ := OwnR.form hk5
  obtain ⟨c5a, c5c, rfl, h51, h52, h5t, -, -⟩ := hc5.read
  rw [HN.out] at h51 ⊢
  have HC5 := Lib.hid h5t
  have HB5 := Lib.hid (ext_trans HB4.out hb5)
  have HL5 := Lib.hid (HL4.out.ext hb5)
  clear hk5 hc5 hb5 h5t
  simp only [List.length_nil]
  go_wp2_with fail
  refine (gCompare none la 0 n 0 lc [] l _ (.inl rfl) HL5.out rfl HN.out (by omega) (by omega) (.inl ⟨rfl, rfl⟩) HLF.out).mono ?_
  rintro e w6 ⟨k6, c6, rfl, hk6, hc6, hb6⟩
  rw [onc_id HSTR.out, show onc [] = [] from rfl, gk_gc, gc_left _ _ (by simp)] at hk6
  rw [onc_id HSTR.out, show onc [] = [] from rfl, gc_right] at hc6
  obtain ⟨k6a, k6c, rfl, h61, h62, h6t, -, -⟩ := OwnR.read ky_len hk6
  obtain ⟨c6a, c6c, rfl, -, -, -⟩ := OwnR.form hc6
  rw [len_kyc, HN.out] at h61 ⊢
  have HK6 := Lib.hid h6t
  have HB6 := Lib.hid (ext_trans HB5.out hb6)
  have HL6 := Lib.hid (HL5.out.ext hb6)
  have HC6 := Lib.hid (HC5.out.ext hb6)
  clear hk6 hc6 hb6 h6t HL5 HC5
  simp only [List.length_nil]
  go_wp2_with fail
  go_loopw [10, 37] (fun o i wr => ∃ J : Nat, J ≤ n ∧ i = .int .i64 (J : Int) ∧ OwnK w6.heap.size wr o ((l.take J).map kyc) ∧ Below w6.heap.size w6 wr) (fun o i _ => n - (intOf i).toNat)
  case atStart => exact ⟨0, by omega, rfl, OwnR.nil _ _, Below.refl _ _⟩
  case round =>
    obtain ⟨w7, rfl⟩ : ∃ y : World, y = wr := ⟨_, rfl⟩
    obtain ⟨J, hJ, rfl, ho7, hb7⟩ := hrel
    obtain ⟨ga, gc_, rfl, hgc, hgm, hgat, -, -⟩ := OwnR.read ky_len ho7
    obtain ⟨K, hK⟩ : ∃ K, (l.take J).map kyc = K := ⟨_, rfl⟩
    rw [hK] at ho7 hgc hgat ⊢
    obtain ⟨p, hp⟩ : ∃ p, K.length = p := ⟨_, rfl⟩
    have hpJ : p ≤ 14 := by rw [← hp, ← hK, len_kyc, List.length_take]; omega
    have HP := Lib.hid hp
    rw [hp] at hgc ⊢
    unfold maxLen at hgm
    by_cases hlt : J < n
    · obtain ⟨x, hx⟩ : ∃ x, l[J]? = some x := ⟨_, List.getElem?_eq_getElem (by have := HN.out; omega)⟩
      have HST := Lib.hid (show (l.take (J + 1)).map kyc = K ++ [kyc x] from by rw [List.take_add_one, hx, List.map_append, hK]; rfl)
      obtain ⟨b, o, rfl⟩ : ∃ b o, la = some ⟨b, o, none⟩ := by
        rcases HL.out with h | ⟨b, o, e, _⟩
        · rw [h] at hx; simp at hx
        · exact ⟨b, o, e⟩
      obtain ⟨x0, x1, x2, x3, x4, x5, x6, x7, x8⟩ := (HL6.out.ext hb7).at hx
      have HO7 := Lib.hid (show w7.ownsRow w6.heap.size 32 2 (.slice ga p gc_) p (flat ky K) from by have := ho7; unfold OwnK OwnR at this; rw [hp] at this; exact this)
      have HB7 := Lib.hid hb7
      have Z7 := hb7.size
      clear ho7 hb7 hx hK hp hgat
      go_wp2_with (at_builtin; refine wpList_append_own _ rfl _ _ 29 rfl (w6.heap.size) 32 j0 (.agg #[.string ⟨#[]⟩, .string ⟨#[]⟩]) 2 32 Try.underlying29 gi gz0 gz1 gz2 rfl (by decide) _ p (flat ky K) rfl (HO7.out.alloc (.cells #[.string x.a, .string x.i] 32)) ⟨w7.heap.size, 0, none⟩ 1 1 (ky (kyc x)) rfl rfl ?e1 ?e2 ?e3 ?e4 ?e5 ?_)
      case e1 =>
        intro j u hj
        rw [add_off, Nat.zero_add, blk_cell (blk_new w7 #[.string x.a, .string x.i] 32)]
        simpa [ky] using hj
      case e2 => exact ky_one _
      case e3 => unfold maxLen; omega
      case e4 => omega
      case e5 => simp; omega
      intro v8 w8 ho8 hg8 _
      have HB8 := Lib.hid ((HB7.out.alloc Z7 (.cells #[.string x.a, .string x.i] 32)).grown hg8 (by simp; omega) (fun q hq => own_ge HO7.out hq))
      have HO8 := Lib.hid (show OwnK w6.heap.size w8 v8 (K ++ [kyc x]) by unfold OwnK OwnR; rw [flat_snoc, List.length_append, HP.out]; exact ho8)
      clear ho8 hg8 HO7 HB7 x0 x1 x2 x3 x4 x5 x6 x7 x8
      go_wp2
      go_roundw
      case rel => exact ⟨J + 1, by omega, by go_num, by rw [HST.out]; exact HO8.out, HB8.out⟩
      case measure => simp [intOf]; omega
    · obtain rfl : n = J := by omega
      have hKl : K = l.map kyc := by rw [← hK, List.take_of_length_le (by have := HN.out; omega)]
      have hpn : p = n := by rw [← hp, hKl, len_kyc, HN.out]
      subst hpn
      subst hKl
      have HKR := Lib.hid hgat
      have HB7 := Lib.hid (ext_trans HB6.out hb7)
      have HL7 := Lib.hid (HL6.out.ext hb7)
      have HC7 := Lib.hid (HC6.out.ext hb7)
      have HK7 := Lib.hid (SAt.ext HK6.out hb7)
      clear ho7 hgat hb7 hK hp
      go_wp2_with fail
      refine (same5 c5a la p c5c lc l _ HC7.out HL7.out HN.out h51 hlc h52 (by unfold maxLen; omega)).mono ?_
      rintro e w8 ⟨rfl, hb8⟩
      have HB8 := Lib.hid (ext_trans HB7.out hb8)
      have HL8 := Lib.hid (HL7.out.ext hb8)
      have HK8 := Lib.hid (SAt.ext HK7.out hb8)
      have HKR8 := Lib.hid (SAt.ext HKR.out hb8)
      clear hb8
      go_wp2_with fail
      refine (keys5 k6a ga p k6c gc_ (l.map kyc) _ HK8.out HKR8.out HP.out (by omega)).mono ?_
      rintro e w9 ⟨rfl, hb9⟩
      have HB9 := Lib.hid (ext_trans HB8.out hb9)
      have HL9 := Lib.hid (HL8.out.ext hb9)
      have HKR9 := Lib.hid (SAt.ext HKR8.out hb9)
      clear hb9
      go_wp2_with fail
      refine (gAnswer la p lc l ga p gc_ (l.map kyc) _ HL9.out HN.out (by omega) hlc HCS.out HKR9.out HP.out (by omega) (fun k hk => by
        obtain ⟨x, hx, rfl⟩ := List.mem_map.1 hk
        exact HCS.out x hx)).mono ?_
      rintro e w10 ⟨v10, rfl, ho10, hb10⟩
      rw [ans_sub HSTR.out (List.Sublist.refl l)] at ho10
      obtain ⟨aa, ac, rfl, hac, ham, haat, -, -⟩ := ho10.read
      rw [HN.out] at hac ⊢
      have HAA := Lib.hid haat
      have HB10 := Lib.hid (ext_trans HB9.out hb10)
      have HL10 := Lib.hid (HL9.out.ext hb10)
      clear ho10 haat hb10
      go_wp2_with fail
      refine (same5 aa la p ac lc l _ HAA.out HL10.out HN.out hac hlc ham (by unfold maxLen; omega)).mono ?_
      rintro e w11 ⟨rfl, hb11⟩
      have HB11 := Lib.hid (ext_trans HB10.out hb11)
      clear hb11
      go_wp2_with fail
      refine (law18known _).mono ?_
      rintro e w12 ⟨rfl, hb12⟩
      have HB12 := Lib.hid (ext_trans HB11.out hb12)
      clear hb12
      go_wp2
      go_ret
      exact ⟨rfl, HB12.out⟩

end Go.Proofs.Ytmgdhgaodjkifaa
