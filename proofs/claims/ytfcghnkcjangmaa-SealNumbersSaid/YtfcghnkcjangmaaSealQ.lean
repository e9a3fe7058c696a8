/- 'SealSame': the walk. -/
import Derived.Test.YtfcghnkcjangmaaSealM
namespace Go.Proofs.Ytfcghnkcjangmaa
open Go.RowKit
set_option linter.unusedVariables false
set_option linter.unusedSimpArgs false

theorem rowOk_of {a : Option Addr} {len cap : Nat} {zs : List Int} {w W : World} {tb : Nat} (h : IsRow .i64 w a len cap zs) (hb : Below w.heap.size w W) (ht : w.heap.size ≤ tb) : RowOk a len cap zs W tb := by
  refine ⟨h.ext hb, ?_⟩
  obtain ⟨i1, i2, i3, i4, i5⟩ := h
  rcases i5 with i5 | ⟨c, o, e, i5⟩
  · exact .inl i5
  · by_cases h0 : len = 0
    · exact .inl h0
    · right
      intro c' o' e'
      have := cell_lt (i5 0 (by omega))
      rw [e] at e'
      simp at e'
      omega
theorem TapeK.cat {a0 : Option Addr} {len cap b : Nat} {w w' : World} (h : TapeK a0 len cap w b) (hr : Bar b w w') {a : Option Addr} {cs : List Cd} (ho : CAt w a cs) : CAt w' a cs :=
  ho.keep (fun k cur hc _ => hr.block k (h.ne (by decide) hc) (blk_lt hc))
theorem flat_over (v : List Cd) (k : Nat) (y : Cd) (o : Int) (hk : v[k]? = some y) : (flat cc v).set (k * 9 + 3) (.int .i64 o) = flat cc (v.set k (over y o)) := by
  have hlt : k < v.length := by
    rcases Nat.lt_or_ge k v.length with h' | h'
    · exact h'
    · rw [List.getElem?_eq_none h'] at hk; cases hk
  have hl := flat_len cc_len v
  have hkl : k * 9 + 9 ≤ v.length * 9 := by omega
  rw [flat_set cc_len v k _ hlt]
  apply List.ext_getElem?
  intro q
  have ht : ((flat cc v).take (k * 9)).length = k * 9 := by rw [List.length_take]; omega
  rcases Nat.lt_or_ge q (k * 9) with h1 | h1
  · rw [List.getElem?_set_ne (by omega), List.append_assoc, List.getElem?_append_left (by omega), List.getElem?_take_of_lt h1]
  · rcases Nat.lt_or_ge q (k * 9 + 9) with h2 | h2
    · rw [List.append_assoc, List.getElem?_append_right (by omega), ht, List.getElem?_append_left (by rw [cc_len]; omega)]
      obtain ⟨j, hj⟩ : ∃ j, q - k * 9 = j := ⟨_, rfl⟩
      have hq : q = k * 9 + j := by omega
      have hj9 : j < 9 := by omega
      rw [hj]
      by_cases h3 : j = 3
      · subst h3
        rw [hq, List.getElem?_set_self (by omega)]
        rfl
      · rw [List.getElem?_set_ne (by omega), hq, flat_at cc_len v k y hk j hj9]
        have : j = 0 ∨ j = 1 ∨ j = 2 ∨ j = 4 ∨ j = 5 ∨ j = 6 ∨ j = 7 ∨ j = 8 := by omega
        rcases this with rfl | rfl | rfl | rfl | rfl | rfl | rfl | rfl <;> rfl
    · rw [List.getElem?_set_ne (by omega), List.getElem?_append_right (by rw [List.length_append, ht, cc_len]; exact h2), List.length_append, ht, cc_len, List.getElem?_drop]
      congr 1
      omega
theorem own_over {base g n c k : Nat} {w : World} {v : List Cd} {y : Cd} (h : OwnC base w (.slice (some ⟨g, 0, none⟩) n c) v) (hk : v[k]? = some y) (o : Int) : OwnC base (w.setCell ⟨g, k * 9 + 3, none⟩ (.int .i64 o)) (.slice (some ⟨g, 0, none⟩) n c) (v.set k (over y o)) := by
  have h1 := own_set1 (o := k * 9 + 3) h (.int .i64 o)
  rw [flat_over v k y o hk] at h1
  unfold OwnC OwnR
  rwa [List.length_set]
theorem other_len (t k n : Int) (l : List Cd) : (other t k n l).length = l.length + 1 := by simp [other]
theorem other_s (t k n : Int) (l : List Cd) (h : ∀ x ∈ l, CdS x) : ∀ x ∈ other t k n l, CdS x := by
  intro x hx
  unfold other at hx
  rcases List.mem_append.1 hx with hx | hx
  · obtain ⟨y, hy, rfl⟩ := List.mem_map.1 hx
    exact h y (by simpa using hy)
  · simp at hx; subst hx; exact ⟨by decide, by decide⟩
theorem seen_seen (l : List Cd) : seenL (seenL l) = seenL l := by
  have h : (seenL l).filter (fun c => !c.g) = seenL l := List.filter_eq_self.2 (fun x hx => by simp [(seenL_mem hx).2])
  show srt klt ((seenL l).filter _) = _
  rw [h]
  exact srt_ord klt _ (srt_is klt klt_weak _)
theorem seal_seen (l : List Cd) : sealB (seenL l) = sealB l := by unfold sealB; rw [seen_seen]
theorem clash_same (X : List Int) : clash X X = false := by simp [clash]

set_option maxRecDepth 100000 in
set_option maxHeartbeats 4000000 in
theorem sealSame_walk (ra : Option Addr) (rlen rcap : Nat) (rz : List Int) (st sk sn : Int) (w : World) (hr : IsRow .i64 w ra rlen rcap rz) (hr8 : rlen * 8 ≤ 140737488351232) (hst : (Lit.int .i64 st).wf = true ∧ (Lit.int .i64 sk).wf = true ∧ (Lit.int .i64 sn).wf = true) :
    Calls Try.prog 4 #[.slice ra rlen rcap, .agg #[.int .i64 st, .int .i64 sk, .int .i64 sn]] w fun e w' => e = .returned (.bool true) ∧ Below w.heap.size w w' := by
  obtain ⟨i0, hi, hz0, hz1, hz2⟩ := info_parts' info_card
  have HRW := Lib.hid hr
  have D0 : Below w.heap.size w ((w.alloc (.cells #[.int .i64 st, .int .i64 sk, .int .i64 sn] 31)).alloc (.cells #[.slice ra rlen rcap, .int .i64 0] 25)) := ((Below.refl _ _).alloc (Nat.le_refl _) _).alloc (by simp) _
  have HT0 := Lib.hid (tapeK_new (a := ra) (len := rlen) (cap := rcap) (w.alloc (.cells #[.int .i64 st, .int .i64 sk, .int .i64 sn] 31)))
  have HP0 := Lib.hid (show ((w.alloc (.cells #[.int .i64 st, .int .i64 sk, .int .i64 sn] 31)).alloc (.cells #[.slice ra rlen rcap, .int .i64 0] 25)).heap[w.heap.size]? = some (.cells #[.int .i64 st, .int .i64 sk, .int .i64 sn] 31 (0, 0)) from blk_alloc (blk_new _ _ _) _)
  have HD0 := Lib.hid D0
  clear hr D0 hst hr8
  go_enter Try.func4, Try.ntmps4
  go_wp2_with fail
  obtain ⟨tb, htb⟩ : ∃ tb, (w.alloc (.cells #[.int .i64 st, .int .i64 sk, .int .i64 sn] 31)).heap.size = tb := ⟨_, rfl⟩
  have htb' : w.heap.size + 1 = tb := by simpa using htb
  have HTB := Lib.hid (show w.heap.size ≤ tb by omega)
  rw [htb] at HT0
  rw [show w.heap.size + 1 = tb from htb']
  obtain ⟨sp, hsp⟩ : ∃ sp, w.heap.size = sp := ⟨_, rfl⟩
  have HSP := Lib.hid hsp
  rw [hsp] at HP0 ⊢
  generalize ((w.alloc (.cells #[.int .i64 st, .int .i64 sk, .int .i64 sn] 31)).alloc (.cells #[.slice ra rlen rcap, .int .i64 0] 25)) = w0 at *
  have hne : sp ≠ tb := by omega
  clear htb htb' hsp
  refine (tapeCards ra rlen rcap rz tb 9 _ HT0.out (rowOk_of HRW.out HD0.out HTB.out) (by omega)).mono ?_
  rintro e w1 ⟨lv, cs, rfl, ho, hl, hok, hT1, hb⟩
  obtain ⟨ca, cc', rfl, hcc, hcm, hcat, -, -⟩ := ho.read
  have HCA := Lib.hid hcat
  have HB1 := Lib.hid (HD0.out.trans (hb.below HTB.out HD0.out.size))
  have HOK := Lib.hid hok
  have HT1 := Lib.hid hT1
  have HP1 := Lib.hid (hb.blk hne HP0.out)
  clear ho hok hb hcat HT0 HD0 HP0 hT1 hne
  go_wp2_with fail
  refine (onceC ca cs.length cc' cs _ HCA.out rfl (by omega) hcc).mono ?_
  rintro e w2 ⟨v2, rfl, ho2, hb2⟩
  obtain ⟨l, hl2⟩ : ∃ l, onc cs = l := ⟨_, rfl⟩
  have HSTR := Lib.hid (show Str l from by rw [← hl2]; exact onc_str cs)
  have HOKL := Lib.hid (show ∀ x ∈ l, CdOk x from fun x hx => HOK.out x (onc_mem (by rw [hl2]; exact hx)))
  have HCS := Lib.hid (show ∀ x ∈ l, CdS x from fun x hx => (HOKL.out x hx).s)
  have hln : l.length ≤ 9 := by rw [← hl2]; have := onc_len cs; omega
  rw [hl2] at ho2
  obtain ⟨la, lc, rfl, hlc, hlm, hlat, -, hlf⟩ := ho2.read
  obtain ⟨n, hn⟩ : ∃ n, l.length = n := ⟨_, rfl⟩
  have HN := Lib.hid hn
  rw [hn] at hlc hln ⊢
  have HL2 := Lib.hid hlat
  have HB2 := Lib.hid (ext_trans HB1.out hb2)
  have HT2 := Lib.hid (HT1.out.ext hb2)
  have HP2 := Lib.hid (blk_ext hb2 HP1.out)
  have HLF := Lib.hid hlf
  unfold maxLen at hlm
  clear ho2 hb2 hl2 hlat hn HCA HB1 HOK HT1 HP1 hlf
  go_wp2_with fail
  go_loopw [7, 20] (fun g i wr => ∃ J : Nat, J ≤ n ∧ i = .int .i64 (J : Int) ∧ OwnC w2.heap.size wr g (((l.reverse).take J).map (setS st sk sn)) ∧ Below w2.heap.size w2 wr) (fun g i _ => n - (intOf i).toNat)
  case atStart => exact ⟨0, by omega, rfl, OwnR.nil _ _, Below.refl _ _⟩
  case round =>
    obtain ⟨w3, rfl⟩ : ∃ y : World, y = wr := ⟨_, rfl⟩
    obtain ⟨J, hJ, rfl, ho3, hb3⟩ := hrel
    obtain ⟨ga, gc, hgv, hgc, hgm, hgat, hgb, hgf⟩ := ho3.read
    obtain ⟨S, hS⟩ : ∃ S, ((l.reverse).take J).map (setS st sk sn) = S := ⟨_, rfl⟩
    rw [hS] at ho3 hgc hgat hgf hgv
    obtain ⟨m, hm⟩ : ∃ m, S.length = m := ⟨_, rfl⟩
    have hmJ : m = J := by rw [← hm, ← hS, List.length_map, List.length_take, List.length_reverse]; have := HN.out; omega
    have HM := Lib.hid hm
    have HMJ := Lib.hid hmJ
    have hm9 : m ≤ 9 := by omega
    rw [hm] at hgc hgv
    subst hgv
    unfold maxLen at hgm
    have HO3 := Lib.hid ho3
    have HB3 := Lib.hid hb3
    have HSS := Lib.hid hS
    have HGA := Lib.hid hgat
    clear ho3 hb3 hS hm hgat hgb hgf hmJ
    by_cases hlt : J < n
    · obtain ⟨q, hq⟩ : ∃ q : Nat, (n : Int) - 1 - (J : Int) = (q : Int) := ⟨n - 1 - J, by omega⟩
      have hqn : q < n := by omega
      have hqn' : (q : Int) < (n : Int) := by omega
      obtain ⟨x, hx⟩ : ∃ x, l[q]? = some x := ⟨_, List.getElem?_eq_getElem (by have := HN.out; omega)⟩
      have HST := Lib.hid (show ((l.reverse).take (J + 1)).map (setS st sk sn) = S ++ [setS st sk sn x] from by
        have h1 : l.reverse[J]? = some x := by rw [List.getElem?_reverse (by have := HN.out; omega), ← hx]; congr 1; have := HN.out; omega
        rw [List.take_add_one, h1, List.map_append, HSS.out]; rfl)
      obtain ⟨b, o, rfl⟩ : ∃ b o, la = some ⟨b, o, none⟩ := by
        rcases HL2.out with h | ⟨b, o, e, _⟩
        · rw [h] at hx; simp at hx
        · exact ⟨b, o, e⟩
      obtain ⟨x0, x1, x2, x3, x4, x5, x6, x7, x8⟩ := (HL2.out.ext HB3.out).at hx
      have hp3 := blk_cell (blk_ext HB3.out HP2.out)
      have hlp3 := blk_lt (blk_ext HB3.out HP2.out)
      have D3 : Below w3.heap.size w3 (w3.alloc (.cells #[.string x.a, .string x.i, .int .i64 x.s, .int .i64 x.o, .int .i64 x.l, .int .i64 st, .int .i64 sk, .int .i64 sn, .bool x.g] 33)) := (Below.refl _ _).alloc (Nat.le_refl _) _
      have HX := Lib.hid (blk_new w3 #[.string x.a, .string x.i, .int .i64 x.s, .int .i64 x.o, .int .i64 x.l, .int .i64 st, .int .i64 sk, .int .i64 sn, .bool x.g] 33)
      have HO4 := Lib.hid (HO3.out.ext D3)
      have HB4 := Lib.hid (ext_trans HB3.out D3)
      clear hx D3 HO3 HB3
      go_upto_region 9 with (fail)
      obtain ⟨r, hrr⟩ : ∃ r, w3.heap.size = r := ⟨_, rfl⟩
      rw [hrr] at HX ⊢
      clear hrr
      generalize (w3.alloc (.cells #[.string x.a, .string x.i, .int .i64 x.s, .int .i64 x.o, .int .i64 x.l, .int .i64 st, .int .i64 sk, .int .i64 sn, .bool x.g] 33)) = w4 at *
      clear x0 x1 x2 x3 x4 x5 x6 x7 x8 hp3 hlp3 hq
      have hk4 := blk_cell HX.out
      have hl4 := blk_lt HX.out
      have Z4 := HB4.out.size
      have HO4' := Lib.hid (show w4.ownsRow w2.heap.size 33 9 (.slice ga m gc) m (flat cc S) from by have := HO4.out; unfold OwnR at this; rw [HM.out] at this; exact this)
      go_wp2_with (at_builtin; refine wpList_append_own _ rfl _ _ 26 rfl (w2.heap.size) 33 i0 Cd.zero.v 9 88 Try.underlying26 hi hz0 hz1 hz2 rfl (by decide) _ m (flat cc S) rfl (HO4'.out.alloc (.cells #[.string x.a, .string x.i, .int .i64 x.s, .int .i64 x.o, .int .i64 x.l, .int .i64 st, .int .i64 sk, .int .i64 sn, .bool x.g] 33)) ⟨w4.heap.size, 0, none⟩ 1 1 (cc (setS st sk sn x)) rfl rfl ?c1 ?c2 ?c3 ?c4 ?c5 ?_)
      case c1 =>
        intro j u hj
        rw [add_off, Nat.zero_add, blk_cell (blk_new w4 #[.string x.a, .string x.i, .int .i64 x.s, .int .i64 x.o, .int .i64 x.l, .int .i64 st, .int .i64 sk, .int .i64 sn, .bool x.g] 33)]
        simpa [cc, setS] using hj
      case c2 => exact cc_one _
      case c3 => unfold maxLen; omega
      case c4 => omega
      case c5 => simp; omega
      intro v7 w7 ho7 hg7 _
      have HB7 := Lib.hid ((HB4.out.alloc Z4 (.cells #[.string x.a, .string x.i, .int .i64 x.s, .int .i64 x.o, .int .i64 x.l, .int .i64 st, .int .i64 sk, .int .i64 sn, .bool x.g] 33)).grown hg7 (by simp; omega) (fun q hq => own_ge HO4'.out hq))
      have HO7 := Lib.hid (show OwnC w2.heap.size w7 v7 (S ++ [setS st sk sn x]) by unfold OwnC OwnR; rw [flat_snoc, List.length_append, HM.out]; exact ho7)
      clear ho7 hg7 HO4 HO4' HX HB4 hk4 hl4 HGA
      go_wp2
      go_roundw
      case rel => exact ⟨J + 1, by omega, by go_num, by rw [HST.out]; exact HO7.out, HB7.out⟩
      case measure => simp [intOf]; omega
    · obtain rfl : J = n := by omega
      obtain rfl : m = J := HMJ.out
      have HOT := Lib.hid (show S ++ [cGone] = other st sk sn l from by rw [← HSS.out, List.take_of_length_le (by rw [List.length_reverse]; have := HN.out; omega)]; rfl)
      have Z3 := HB3.out.size
      have HO3' := Lib.hid (show w3.ownsRow w2.heap.size 33 9 (.slice ga m gc) m (flat cc S) from by have := HO3.out; unfold OwnC OwnR at this; rw [HM.out] at this; exact this)
      go_wp2_with (at_builtin; refine wpList_append_own _ rfl _ _ 26 rfl (w2.heap.size) 33 i0 Cd.zero.v 9 88 Try.underlying26 hi hz0 hz1 hz2 rfl (by decide) _ m (flat cc S) rfl (HO3'.out.alloc (.cells #[.string ⟨#[103, 111, 110, 101]⟩, .string ⟨#[103, 111, 110, 101]⟩, .int .i64 0, .int .i64 0, .int .i64 0, .int .i64 0, .int .i64 0, .int .i64 0, .bool true] 33)) ⟨w3.heap.size, 0, none⟩ 1 1 (cc cGone) rfl rfl ?c1 ?c2 ?c3 ?c4 ?c5 ?_)
      case c1 =>
        intro j u hj
        first
          | (rw [add_off, Nat.zero_add, blk_cell (blk_new w3 #[.string ⟨#[103, 111, 110, 101]⟩, .string ⟨#[103, 111, 110, 101]⟩, .int .i64 0, .int .i64 0, .int .i64 0, .int .i64 0, .int .i64 0, .int .i64 0, .bool true] 33)]; simpa [cc, cGone] using hj)
          | exact hj
          | simpa [cc, cGone] using hj
      case c2 => exact cc_one _
      case c3 => unfold maxLen; omega
      case c4 => omega
      case c5 => first | omega | (simp; omega)
      intro v7 w7 ho7 hg7 _
      have HB7' := Lib.hid ((HB3.out.alloc Z3 (.cells #[.string ⟨#[103, 111, 110, 101]⟩, .string ⟨#[103, 111, 110, 101]⟩, .int .i64 0, .int .i64 0, .int .i64 0, .int .i64 0, .int .i64 0, .int .i64 0, .bool true] 33)).grown hg7 (by simp; omega) (fun q hq => own_ge HO3'.out hq))
      obtain ⟨ma, mc, rfl, hmc, hmm, hmat, -, -⟩ := OwnC.read (show OwnC w2.heap.size w7 v7 (S ++ [cGone]) by unfold OwnC OwnR; rw [flat_snoc, List.length_append, HM.out]; exact ho7)
      rw [List.length_append, HM.out] at hmc ⊢
      simp only [List.length_cons, List.length_nil, Nat.zero_add] at hmc ⊢
      rw [HOT.out] at hmat
      have HMA := Lib.hid hmat
      have HML := Lib.hid (show (other st sk sn l).length = m + 1 from by rw [other_len, HN.out])
      have HMS := Lib.hid (other_s st sk sn l HCS.out)
      have HSL := Lib.hid (seal_other st sk sn l HSTR.out)
      have HL7 := Lib.hid (HL2.out.ext HB7'.out)
      have HB7 := Lib.hid (ext_trans HB2.out HB7'.out)
      have HT7 := Lib.hid (HT2.out.ext HB7'.out)
      clear ho7 hg7 HO3 HO3' HB3 hmat HSS HOT HGA
      go_wp2_with fail
      refine (sealOf la m lc l _ HL7.out HN.out (by omega) hlc HCS.out).mono ?_
      rintro e w8 ⟨rfl, hb8⟩
      have HB8 := Lib.hid (ext_trans HB7.out hb8)
      have HL8 := Lib.hid (HL7.out.ext hb8)
      
      have HT8 := Lib.hid (HT7.out.ext hb8)
      have HMA8 := Lib.hid (HMA.out.ext hb8)
      clear hb8
      go_wp2_with fail
      refine (sealOf ma (m + 1) mc (other st sk sn l) _ HMA8.out HML.out (by omega) hmc HMS.out).mono ?_
      rintro e w9 ⟨rfl, hb9⟩
      have HB9 := Lib.hid (ext_trans HB8.out hb9)
      have HL9 := Lib.hid (HL8.out.ext hb9)
      
      have HT9 := Lib.hid (HT8.out.ext hb9)
      have HMA9 := Lib.hid (HMA8.out.ext hb9)
      rw [HSL.out]
      clear hb9
      obtain ⟨X, hX⟩ : ∃ X, sealB l = X := ⟨_, rfl⟩
      have HXX := Lib.hid hX
      rw [hX] at HSL ⊢
      obtain ⟨sx, hsx⟩ : ∃ s, sm X = s := ⟨_, rfl⟩
      have HSX := Lib.hid hsx
      rw [hsx]
      clear hX hsx
      go_wp2_with fail
      refine (sealClash la ma m (m + 1) lc mc l (other st sk sn l) _ HL9.out HMA9.out HN.out HML.out (by omega) (by omega) hlc hmc HCS.out HMS.out).mono ?_
      rintro e w10 ⟨rfl, hb10⟩
      rw [HSL.out, HXX.out, clash_same]
      have HB10 := Lib.hid (ext_trans HB9.out hb10)
      have HL10 := Lib.hid (HL9.out.ext hb10)
      have HT10 := Lib.hid (HT9.out.ext hb10)
      clear hb10
      go_wp2_with fail
      refine (sealSeen la m lc l _ HL10.out HN.out (by omega) hlc).mono ?_
      rintro e w11 ⟨v11, rfl, ho11, hb11⟩
      have HB11 := Lib.hid (ext_trans HB10.out hb11)
      have HL11 := Lib.hid (HL10.out.ext hb11)
      have HT11 := Lib.hid (HT10.out.ext hb11)
      obtain ⟨v, hv⟩ : ∃ v, seenL l = v := ⟨_, rfl⟩
      rw [hv] at ho11
      obtain ⟨va, vc, rfl, hvc, hvm, hvat, hvb, hvf⟩ := ho11.read
      obtain ⟨N, hN⟩ : ∃ N, v.length = N := ⟨_, rfl⟩
      have HNV := Lib.hid hN
      have HVV := Lib.hid hv
      have hN9 : N ≤ 9 := by rw [← hN, ← hv]; have := seenL_len l; rw [HN.out] at this; omega
      rw [hN] at hvc ⊢
      have Z10 := HB10.out.size
      unfold maxLen at hvm
      by_cases hN0 : N = 0
      · subst hN0
        have HS17 := Lib.hid (show sx = 17 from by rw [← HSX.out, ← HXX.out, seen_empty (by rw [HVV.out]; exact HNV.out)]; rfl)
        clear ho11 hvat hvb hvf hv hN hb11
        go_wp2_with fail
        refine (sealOf la m lc l _ HL11.out HN.out (by omega) hlc HCS.out).mono ?_
        rintro e w12 ⟨rfl, hb12⟩
        rw [HXX.out, HSX.out, HS17.out]
        have HB12 := Lib.hid (ext_trans HB11.out hb12)
        clear hb12
        go_wp2_with fail
        refine (law14known _).mono ?_
        rintro e w13 ⟨rfl, hb13⟩
        have HB13 := Lib.hid (ext_trans HB12.out hb13)
        clear hb13
        go_wp2
        go_ret
        exact ⟨rfl, HB13.out⟩
      · have hNd : ((N : Int) == 0) = false := by simp; omega
        obtain ⟨g, rfl⟩ : ∃ g, va = some ⟨g, 0, none⟩ := by
          rcases hvf with ⟨_, _, e⟩ | ⟨g, e⟩
          · exfalso; rw [e] at hN; simp at hN; omega
          · exact ⟨g, e⟩
        rw [hN] at ho11
        have HO11 := Lib.hid ho11
        have HGE := Lib.hid (hvb g 0 rfl)
        clear ho11 hvat hvb hvf hv hN hb11
        go_wp2_with fail
        refine (tapeNextK _ _ _ rz _ (N : Int) _ HT11.out (rowOk_of HRW.out HB11.out HTB.out) (by omega) (by omega)).mono ?_
        rintro e w12 ⟨kI, rfl, hk0, hk1, hT12, hb12⟩
        obtain ⟨k, rfl⟩ : ∃ k : Nat, kI = (k : Int) := ⟨kI.toNat, by omega⟩
        have hkN : k < N := by omega
        have HO12 := Lib.hid (show OwnC w10.heap.size w12 (.slice (some ⟨g, 0, none⟩) N vc) v from by have := HT11.out.own hb12 (by decide) HO11.out; exact this)
        have HL12 := Lib.hid (HT11.out.cat hb12 HL11.out)
        have HB12 := Lib.hid (HB11.out.trans (hb12.below HTB.out HB11.out.size))
        obtain ⟨y, hy⟩ : ∃ y, v[k]? = some y := ⟨_, List.getElem?_eq_getElem (by have := HNV.out; omega)⟩
        have hym := seenL_mem (ls := l) (c := y) (by rw [HVV.out]; exact List.mem_of_getElem? hy)
        have hys := shw_ok (HOKL.out y hym.1) hym.2
        have HY := Lib.hid hy
        obtain ⟨Q, hQ⟩ : ∃ Q, shw y = Q := ⟨_, rfl⟩
        have HQ := Lib.hid hQ
        rw [hQ] at hys
        obtain ⟨y0, y1, y2, y3, y4, y5, y6, y7, y8⟩ := (OwnC.cat HO12.out).at hy
        simp only [Nat.zero_add] at y0 y1 y2 y3 y4 y5 y6 y7 y8
        clear hT12 hb12 hy hym hQ hk0
        go_wp2_with fail
        refine (refShows y _).mono ?_
        rintro e w13 ⟨rfl, hb13⟩
        rw [HQ.out]
        have HO13 := Lib.hid (HO12.out.ext hb13)
        have HL13 := Lib.hid (HL12.out.ext hb13)
        have HB13 := Lib.hid (ext_trans HB12.out hb13)
        obtain ⟨R, hR⟩ : ∃ R, 1 + Q % 3 = R := ⟨_, rfl⟩
        have HR := Lib.hid hR
        have hR0 : 1 ≤ R ∧ R ≤ 3 ∧ R ≠ Q := by omega
        obtain ⟨-, -, -, cur13, hcur13, hcs13, hbg13⟩ := OwnR.num HO13.out
        have hf13 := blk_free hcur13
        have hl13 := blk_lt hcur13
        have hc13 : w13.cell? ⟨g, k * 9 + 3, none⟩ = some (.int .i64 y.o) := by
          have := ((OwnC.cat HO13.out).at HY.out).2.2.2.1
          rw [Nat.zero_add] at this
          exact this
        have HKP := Lib.hid ((Kept.refl g w13).setCell (k * 9 + 3) (.int .i64 R))
        have HO14 := Lib.hid (own_over HO13.out HY.out R)
        clear y0 y1 y2 y3 y4 y5 y6 y7 y8 hb13 hcur13 hcs13
        have HORD := Lib.hid (show Ord klt v from by rw [← HVV.out]; exact srt_is klt klt_weak _)
        have HGV := Lib.hid (show ∀ x ∈ v, x.g = false from fun x hx => (seenL_mem (ls := l) (by rw [HVV.out]; exact hx)).2)
        have HV2 := Lib.hid (show ∀ x ∈ v.set k (over y R), CdS x from fun x hx => by
          rcases List.mem_or_eq_of_mem_set hx with hx | rfl
          · exact HCS.out x (seenL_mem (ls := l) (by rw [HVV.out]; exact hx)).1
          · exact HCS.out y (seenL_mem (ls := l) (by rw [HVV.out]; exact List.mem_of_getElem? HY.out)).1)
        have HTURN := Lib.hid (show sm (sealB (v.set k (over y R))) ≠ sx from by
          rw [← HSX.out, ← HXX.out, ← seal_seen l, HVV.out]
          exact seal_turn v k y R HY.out HORD.out HGV.out (by omega) (by rw [HQ.out]; omega) (by rw [HQ.out]; omega) (by omega) (by omega) (by rw [HQ.out]; exact hR0.2.2))
        have HL14 := Lib.hid (show CAt (w13.setCell ⟨g, k * 9 + 3, none⟩ (.int .i64 R)) la l from by
          rcases HL10.out with h | ⟨b, o, e, ⟨cur, hb⟩, _⟩
          · exact .inl h
          · exact HL13.out.keep (fun k' cur' hc' he' => HKP.out.block k' (by
              obtain ⟨o', e'⟩ := he'
              rw [e] at e'
              simp at e'
              have := blk_lt hb
              have := HGE.out
              omega)))
        have HB14 := Lib.hid (HB13.out.trans ((Rim.kept HKP.out).below (by have := HGE.out; have := HB10.out.size; omega) HB13.out.size))
        have HVL := Lib.hid (show (v.set k (over y R)).length = N from by rw [List.length_set, HNV.out])
        go_wp2_with fail
        generalize (w13.setCell ⟨g, k * 9 + 3, none⟩ (.int .i64 R)) = w14 at *
        clear hf13 hl13 hc13
        refine (sealOf (some ⟨g, 0, none⟩) N vc (v.set k (over y R)) _ (OwnC.cat HO14.out) HVL.out (by omega) hvc HV2.out).mono ?_
        rintro e w15 ⟨rfl, hb15⟩
        obtain ⟨sz, hsz⟩ : ∃ sz, sm (sealB (v.set k (over y R))) = sz := ⟨_, rfl⟩
        rw [hsz] at HTURN ⊢
        have HL15 := Lib.hid (HL14.out.ext hb15)
        have HB15 := Lib.hid (ext_trans HB14.out hb15)
        clear hb15 hsz
        go_wp2_with fail
        refine (sealOf la m lc l _ HL15.out HN.out (by omega) hlc HCS.out).mono ?_
        rintro e w16 ⟨rfl, hb16⟩
        rw [HXX.out, HSX.out]
        have HB16 := Lib.hid (ext_trans HB15.out hb16)
        have hdz : (sz == sx) = false := by have := HTURN.out; simp [this]
        have hbz : (sz != sx) = true := by have := HTURN.out; simp [this]
        have HBZ := Lib.hid hbz
        clear hb16
        go_wp2_with fail
        refine (law14known _).mono ?_
        rintro e w17 ⟨rfl, hb17⟩
        have HB17 := Lib.hid (ext_trans HB16.out hb17)
        clear hb17
        go_wp2
        go_ret
        exact ⟨by first | rfl | (show Ending.returned (Value.bool (sz != sx)) = _; rw [HBZ.out]), HB17.out⟩

end Go.Proofs.Ytfcghnkcjangmaa
