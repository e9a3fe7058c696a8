/- The document's own gossip: what is told. -/
import Derived.Test.YtmgdhgaodjkifaaGosO
import Derived.Test.YtmgdhgaodjkifaaGosP
namespace Go.Proofs.Ytmgdhgaodjkifaa
open Go.RowKit
set_option linter.unusedVariables false
set_option linter.unusedSimpArgs false

/-- what two rows are told of one another -/
def CmR (H T : List Cd) (w : World) (e : Ending) (w' : World) : Prop := ∃ v1 v2, e = .returned (.tuple #[v1, v2]) ∧ OwnK w.heap.size w' v1 ((T.filter (tell H)).map kyc) ∧ OwnC w.heap.size w' v2 (H.filter (tell T)) ∧ Below w.heap.size w w'
set_option maxRecDepth 100000 in
set_option maxHeartbeats 2000000 in
theorem refCompare (a b : Option Addr) (n m c d : Nat) (xs ys : List Cd) (w : World) (h : CAt w a xs) (h' : CAt w b ys) (hl : xs.length = n) (hl' : ys.length = m) (hn : n ≤ 1000) (hm : m ≤ 1000) (hnc : n ≤ c) (hmd : m ≤ d) :
    Calls Try.prog 18 #[.slice a n c, .slice b m d] w (CmR (onc xs) (onc ys) w) := by
  obtain ⟨i0, hi, hz0, hz1, hz2⟩ := info_parts' info_card
  obtain ⟨j0, gi, gz0, gz1, gz2⟩ := info_parts' info_ky
  have HA := Lib.hid h
  have HN := Lib.hid hl
  have HD := Lib.hid h'
  have HM := Lib.hid hl'
  clear h h' hl hl'
  go_enter Try.func18, Try.ntmps18
  go_wp2_with fail
  refine (refLast a n c xs _ HA.out HN.out hn hnc).mono ?_
  rintro e w1 ⟨v1, rfl, ho1, hb1⟩
  have HD1 := Lib.hid (HD.out.ext hb1)
  go_wp2_with fail
  refine (refLast b m d ys _ HD1.out HM.out hm hmd).mono ?_
  rintro e w2 ⟨v2, rfl, ho2, hb2⟩
  have hl0 : (onc xs).length ≤ 1000 := by have := onc_len xs; have := HN.out; omega
  have hl1 : (onc ys).length ≤ 1000 := by have := onc_len ys; have := HM.out; omega
  obtain ⟨H, hH⟩ : ∃ H0, onc xs = H0 := ⟨_, rfl⟩
  obtain ⟨T, hT⟩ : ∃ T0, onc ys = T0 := ⟨_, rfl⟩
  rw [hH] at hl0 ho1
  rw [hT] at hl1 ho2
  have HH := Lib.hid hH
  have HTT := Lib.hid hT
  obtain ⟨ha, hc, rfl, hhc, hhm, hhat, -, -⟩ := (show OwnC _ w2 _ _ from OwnR.ext ho1 hb2).read
  obtain ⟨ta, tc, rfl, htc, htm, htat, -, -⟩ := ho2.read
  obtain ⟨nh, hnh'⟩ : ∃ q, H.length = q := ⟨_, rfl⟩
  obtain ⟨nt, hnt'⟩ : ∃ q, T.length = q := ⟨_, rfl⟩
  rw [hnh'] at hhc hl0 ⊢
  rw [hnt'] at htc hl1 ⊢
  have hnh : nh ≤ 1000 := hl0
  have hnt : nt ≤ 1000 := hl1
  have HHN := Lib.hid hnh'
  have HTN := Lib.hid hnt'
  have HHA := Lib.hid (show CAt w2 ha H from hhat)
  have HTA := Lib.hid htat
  have HB2 := Lib.hid (ext_trans hb1 hb2)
  unfold maxLen at hhm htm
  clear ho1 ho2 hb1 hb2 hH hT hhat htat hnh' hnt' HA HD HD1 hl0 hl1
  go_wp2_with fail
  go_loopw [8, 24] (fun kv j wr => ∃ J : Nat, J ≤ nt ∧ j = .int .i64 (J : Int) ∧ OwnK w2.heap.size wr kv (((T.take J).filter (tell H)).map kyc) ∧ Below w2.heap.size w2 wr) (fun kv j _ => nt - (intOf j).toNat)
  case atStart => exact ⟨0, by omega, rfl, OwnR.nil _ _, Below.refl _ _⟩
  case round =>
    obtain ⟨w3, rfl⟩ : ∃ y : World, y = wr := ⟨_, rfl⟩
    obtain ⟨J, hJ, rfl, ho, hb⟩ := hrel
    obtain ⟨S, hS⟩ : ∃ S, (((T.take J).filter (tell H)).map kyc) = S := ⟨_, rfl⟩
    rw [hS] at ho
    obtain ⟨ka, kc_, rfl, hkc, hkm, hkf⟩ := OwnR.form ho
    obtain ⟨p, hp⟩ : ∃ p, S.length = p := ⟨_, rfl⟩
    have hp1 : p ≤ 1000 := by
      rw [← hp, ← hS]
      have h1 := List.length_filter_le (tell H) (T.take J)
      rw [List.length_take] at h1
      first | (rw [List.length_map]; omega) | omega
    have HP := Lib.hid hp
    rw [hp] at hkc ho ⊢
    unfold maxLen at hkm
    by_cases hlt : J < nt
    · obtain ⟨x, hx⟩ : ∃ x, T[J]? = some x := ⟨_, List.getElem?_eq_getElem (by have := HTN.out; omega)⟩
      have HST := Lib.hid (show (((T.take (J + 1)).filter (tell H)).map kyc) = S ++ (if tell H x then [kyc x] else []) from by
        rw [List.take_add_one, hx, ← hS, Option.toList_some, List.filter_append]
        cases ht : tell H x <;> simp [List.filter, ht])
      obtain ⟨rb, ro, eT⟩ : ∃ b o, ta = some ⟨b, o, none⟩ := by
        rcases HTA.out with h | ⟨b, o, e, _⟩
        · rw [h] at hx; simp at hx
        · exact ⟨b, o, e⟩
      have HRR := Lib.hid (show CAt w2 (some ⟨rb, ro, none⟩) T from by rw [← eT]; exact HTA.out)
      obtain ⟨x0, x1, x2, x3, x4, x5, x6, x7, x8⟩ := (HRR.out.ext hb).at hx
      have D0 : Below w3.heap.size w3 (w3.alloc (.cells #[.string x.a, .string x.i, .int .i64 x.s, .int .i64 x.o, .int .i64 x.l, .int .i64 x.t, .int .i64 x.k, .int .i64 x.n, .bool x.g] 36)) := (Below.refl _ _).alloc (Nat.le_refl _) _
      have HX := Lib.hid (blk_new w3 #[.string x.a, .string x.i, .int .i64 x.s, .int .i64 x.o, .int .i64 x.l, .int .i64 x.t, .int .i64 x.k, .int .i64 x.n, .bool x.g] 36)
      have HOw4 := Lib.hid (ho.ext D0)
      have HBw4 := Lib.hid (ext_trans hb D0)

      clear ho hb hx hS hp D0 hkf 
      rw [eT]
      go_upto_region 7 with (fail)
      obtain ⟨r, hr⟩ : ∃ r, w3.heap.size = r := ⟨_, rfl⟩
      rw [hr] at HX ⊢
      clear hr
      generalize (w3.alloc (.cells #[.string x.a, .string x.i, .int .i64 x.s, .int .i64 x.o, .int .i64 x.l, .int .i64 x.t, .int .i64 x.k, .int .i64 x.n, .bool x.g] 36)) = w4 at *
      clear x0 x1 x2 x3 x4 x5 x6 x7 x8
      have hk4 := blk_cell HX.out
      have hl4 := blk_lt HX.out
      go_wp2_with fail
      refine (refFind ha nh hc H (kyc x) _ (HHA.out.ext HBw4.out) HHN.out hnh).mono ?_
      rintro e w5 ⟨rfl, hb5⟩
      have HX5 := Lib.hid (blk_ext hb5 HX.out)
      have HOw5 := Lib.hid (OwnR.ext HOw4.out hb5)
      have HBw5 := Lib.hid (ext_trans HBw4.out hb5)

      clear hb5 hk4 hl4 HX HOw4 HBw4 
      cases hlk : look H (kyc x) with
      | none =>
        have HT1 := Lib.hid (show (((T.take (J + 1)).filter (tell H)).map kyc) = S ++ [kyc x] from by rw [HST.out]; simp [tell, hlk])
        rw [show lookV none = .tuple #[.agg #[.string ⟨#[]⟩, .string ⟨#[]⟩, .int .i64 0, .int .i64 0, .int .i64 0, .int .i64 0, .int .i64 0, .int .i64 0, .bool false], .bool false] from rfl]
        clear HST hlk
        have D6 : Below w5.heap.size w5 (w5.alloc (.cells #[.string ⟨#[]⟩, .string ⟨#[]⟩, .int .i64 0, .int .i64 0, .int .i64 0, .int .i64 0, .int .i64 0, .int .i64 0, .bool false] 36)) := (Below.refl _ _).alloc (Nat.le_refl _) _
        have HY := Lib.hid (blk_new w5 #[.string ⟨#[]⟩, .string ⟨#[]⟩, .int .i64 0, .int .i64 0, .int .i64 0, .int .i64 0, .int .i64 0, .int .i64 0, .bool false] 36)
        have HX6 := Lib.hid (blk_ext D6 HX5.out)
        have HOw6 := Lib.hid (OwnR.ext HOw5.out D6)
        have HBw6 := Lib.hid (ext_trans HBw5.out D6)
        have hk5 := blk_cell HX5.out
        have hl5 := blk_lt HX5.out
        clear D6
        go_upto_region 8 with (fail)
        clear hk5 hl5
        obtain ⟨r6, hr6⟩ : ∃ r, w5.heap.size = r := ⟨_, rfl⟩
        rw [hr6] at HY ⊢
        clear hr6 HX5 HOw5 HBw5 
        generalize (w5.alloc (.cells #[.string ⟨#[]⟩, .string ⟨#[]⟩, .int .i64 0, .int .i64 0, .int .i64 0, .int .i64 0, .int .i64 0, .int .i64 0, .bool false] 36)) = w6 at *
        have hk6 := blk_cell HX6.out
        have hl6 := blk_lt HX6.out
        have HOa := Lib.hid (show w6.ownsRow w2.heap.size 32 2 (.slice ka p kc_) p (flat ky S) from by have := HOw6.out; unfold OwnK OwnR at this; rw [HP.out] at this; exact this)
        have ZA := HBw6.out.size
        go_wp2_with (at_builtin; refine wpList_append_own _ rfl _ _ 29 rfl (w2.heap.size) 32 j0 (.agg #[.string ⟨#[]⟩, .string ⟨#[]⟩]) 2 32 Try.underlying29 gi gz0 gz1 gz2 rfl (by decide) _ p (flat ky S) rfl (HOa.out.alloc (.cells #[.string x.a, .string x.i] 32)) ⟨w6.heap.size, 0, none⟩ 1 1 (ky (kyc x)) rfl rfl ?e1 ?e2 ?e3 ?e4 ?e5 ?_)
        case e1 =>
          intro j u hj
          rw [add_off, Nat.zero_add, blk_cell (blk_new w6 #[.string x.a, .string x.i] 32)]
          simpa [ky] using hj
        case e2 => exact ky_one _
        case e3 => unfold maxLen; omega
        case e4 => omega
        case e5 => simp; omega
        intro v9 w9 ho9 hg9 _
        have HG9 := Lib.hid ((World.grownBy_alloc w6 (.cells #[.string x.a, .string x.i] 32) none).but _ |>.andThen hg9 (fun j hj => .inr hj))
        have HB9 := Lib.hid (HBw6.out.grown HG9.out ZA (fun q hq => own_ge HOa.out hq))
        have HO9 := Lib.hid (show OwnK w2.heap.size w9 v9 (S ++ [kyc x]) by unfold OwnK OwnR; rw [flat_snoc, List.length_append, HP.out]; exact ho9)
        clear ho9 hg9 HOa ZA HG9
        go_wp2
        go_roundw
        case rel => exact ⟨J + 1, by omega, by go_num, by rw [HT1.out]; exact HO9.out, HB9.out⟩
        case measure => simp [intOf] <;> omega
      | some y =>
        rw [show lookV (some y) = .tuple #[.agg #[.string y.a, .string y.i, .int .i64 y.s, .int .i64 y.o, .int .i64 y.l, .int .i64 y.t, .int .i64 y.k, .int .i64 y.n, .bool y.g], .bool true] from rfl]
        have D6 : Below w5.heap.size w5 (w5.alloc (.cells #[.string y.a, .string y.i, .int .i64 y.s, .int .i64 y.o, .int .i64 y.l, .int .i64 y.t, .int .i64 y.k, .int .i64 y.n, .bool y.g] 36)) := (Below.refl _ _).alloc (Nat.le_refl _) _
        have HY := Lib.hid (blk_new w5 #[.string y.a, .string y.i, .int .i64 y.s, .int .i64 y.o, .int .i64 y.l, .int .i64 y.t, .int .i64 y.k, .int .i64 y.n, .bool y.g] 36)
        have HX6 := Lib.hid (blk_ext D6 HX5.out)
        have HOw6 := Lib.hid (OwnR.ext HOw5.out D6)
        have HBw6 := Lib.hid (ext_trans HBw5.out D6)
        have hk5 := blk_cell HX5.out
        have hl5 := blk_lt HX5.out
        clear D6
        go_upto_region 8 with (fail)
        clear hk5 hl5
        obtain ⟨r6, hr6⟩ : ∃ r, w5.heap.size = r := ⟨_, rfl⟩
        rw [hr6] at HY ⊢
        clear hr6 HX5 HOw5 HBw5 
        generalize (w5.alloc (.cells #[.string y.a, .string y.i, .int .i64 y.s, .int .i64 y.o, .int .i64 y.l, .int .i64 y.t, .int .i64 y.k, .int .i64 y.n, .bool y.g] 36)) = w6 at *
        have hk6 := blk_cell HX6.out
        have hl6 := blk_lt HX6.out
        have hy6 := blk_cell HY.out
        have hly := blk_lt HY.out
        go_wp2_with fail
        refine (refLess y.t y.k y.n x.t x.k x.n _).mono ?_
        rintro e w7 ⟨rfl, hb7⟩
        have HX7 := Lib.hid (blk_ext hb7 HX6.out)
        have HOw7 := Lib.hid (OwnR.ext HOw6.out hb7)
        have HBw7 := Lib.hid (ext_trans HBw6.out hb7)

        have hk7 := blk_cell HX7.out
        have hl7 := blk_lt HX7.out
        clear hb7 hk6 hl6 hy6 hly HX6 HOw6 HBw6 HY 
        cases hs : sLess y.t y.k y.n x.t x.k x.n with
        | true =>
          have HT1 := Lib.hid (show (((T.take (J + 1)).filter (tell H)).map kyc) = S ++ [kyc x] from by rw [HST.out]; simp [tell, hlk, stl, hs])
          clear HST hlk hs
          have HOa := Lib.hid (show w7.ownsRow w2.heap.size 32 2 (.slice ka p kc_) p (flat ky S) from by have := HOw7.out; unfold OwnK OwnR at this; rw [HP.out] at this; exact this)
          have ZA := HBw7.out.size
          go_wp2_with (at_builtin; refine wpList_append_own _ rfl _ _ 29 rfl (w2.heap.size) 32 j0 (.agg #[.string ⟨#[]⟩, .string ⟨#[]⟩]) 2 32 Try.underlying29 gi gz0 gz1 gz2 rfl (by decide) _ p (flat ky S) rfl (HOa.out.alloc (.cells #[.string x.a, .string x.i] 32)) ⟨w7.heap.size, 0, none⟩ 1 1 (ky (kyc x)) rfl rfl ?e1 ?e2 ?e3 ?e4 ?e5 ?_)
          case e1 =>
            intro j u hj
            rw [add_off, Nat.zero_add, blk_cell (blk_new w7 #[.string x.a, .string x.i] 32)]
            simpa [ky] using hj
          case e2 => exact ky_one _
          case e3 => unfold maxLen; omega
          case e4 => omega
          case e5 => simp; omega
          intro v9 w9 ho9 hg9 _
          have HG9 := Lib.hid ((World.grownBy_alloc w7 (.cells #[.string x.a, .string x.i] 32) none).but _ |>.andThen hg9 (fun j hj => .inr hj))
          have HB9 := Lib.hid (HBw7.out.grown HG9.out ZA (fun q hq => own_ge HOa.out hq))
          have HO9 := Lib.hid (show OwnK w2.heap.size w9 v9 (S ++ [kyc x]) by unfold OwnK OwnR; rw [flat_snoc, List.length_append, HP.out]; exact ho9)
          clear ho9 hg9 HOa ZA HG9
          go_wp2
          go_roundw
          case rel => exact ⟨J + 1, by omega, by go_num, by rw [HT1.out]; exact HO9.out, HB9.out⟩
          case measure => simp [intOf] <;> omega
        | false =>
          have HT1 := Lib.hid (show (((T.take (J + 1)).filter (tell H)).map kyc) = S from by rw [HST.out]; simp [tell, hlk, stl, hs])
          clear HST hlk hs
          go_wp2
          go_roundw
          case rel => exact ⟨J + 1, by omega, by go_num, by rw [HT1.out]; exact HOw7.out, HBw7.out⟩
          case measure => simp [intOf] <;> omega
    · obtain rfl : nt = J := by omega
      have HF := Lib.hid (show S = ((T.filter (tell H)).map kyc) from by rw [← hS, List.take_of_length_le (by have := HTN.out; omega)])
      have hok := ho
      have hbk := hb
      obtain ⟨KK, hKK⟩ : ∃ q, ((T.filter (tell H)).map kyc) = q := ⟨_, rfl⟩
      have HKK := Lib.hid hKK.symm
      rw [HF.out, hKK] at hok
      obtain ⟨qa, rfl⟩ : ∃ q, q = ka := ⟨ka, rfl⟩
      obtain ⟨qn, rfl⟩ : ∃ q, q = p := ⟨p, rfl⟩
      obtain ⟨qc, rfl⟩ : ∃ q, q = kc_ := ⟨kc_, rfl⟩
      clear ho hb HF hkm hkc hp HP hS hKK
      go_wp2_with fail
      go_loopw [9, 52] (fun kv j wr => ∃ J : Nat, J ≤ nh ∧ j = .int .i64 (J : Int) ∧ OwnC w2.heap.size wr kv ((H.take J).filter (tell T)) ∧ Below w2.heap.size w2 wr ∧ OwnK w2.heap.size wr (.slice qa qn qc) KK) (fun kv j _ => nh - (intOf j).toNat)
      case atStart => exact ⟨0, by omega, rfl, OwnR.nil _ _, hbk, hok⟩
      case round =>
        obtain ⟨w3, rfl⟩ : ∃ y : World, y = wr := ⟨_, rfl⟩
        obtain ⟨J, hJ, rfl, ho, hb, hkk⟩ := hrel
        obtain ⟨S, hS⟩ : ∃ S, ((H.take J).filter (tell T)) = S := ⟨_, rfl⟩
        rw [hS] at ho
        obtain ⟨ka, kc_, rfl, hkc, hkm, hkf⟩ := OwnR.form ho
        obtain ⟨p, hp⟩ : ∃ p, S.length = p := ⟨_, rfl⟩
        have hp1 : p ≤ 1000 := by
          rw [← hp, ← hS]
          have h1 := List.length_filter_le (tell T) (H.take J)
          rw [List.length_take] at h1
          first | (rw [List.length_map]; omega) | omega
        have HP := Lib.hid hp
        rw [hp] at hkc ho ⊢
        unfold maxLen at hkm
        by_cases hlt : J < nh
        · obtain ⟨x, hx⟩ : ∃ x, H[J]? = some x := ⟨_, List.getElem?_eq_getElem (by have := HHN.out; omega)⟩
          have HST := Lib.hid (show ((H.take (J + 1)).filter (tell T)) = S ++ (if tell T x then [x] else []) from by
            rw [List.take_add_one, hx, ← hS, Option.toList_some, List.filter_append]
            cases ht : tell T x <;> simp [List.filter, ht])
          obtain ⟨rb, ro, eH⟩ : ∃ b o, ha = some ⟨b, o, none⟩ := by
            rcases HHA.out with h | ⟨b, o, e, _⟩
            · rw [h] at hx; simp at hx
            · exact ⟨b, o, e⟩
          have HRR := Lib.hid (show CAt w2 (some ⟨rb, ro, none⟩) H from by rw [← eH]; exact HHA.out)
          obtain ⟨x0, x1, x2, x3, x4, x5, x6, x7, x8⟩ := (HRR.out.ext hb).at hx
          have D0 : Below w3.heap.size w3 (w3.alloc (.cells #[.string x.a, .string x.i, .int .i64 x.s, .int .i64 x.o, .int .i64 x.l, .int .i64 x.t, .int .i64 x.k, .int .i64 x.n, .bool x.g] 36)) := (Below.refl _ _).alloc (Nat.le_refl _) _
          have HX := Lib.hid (blk_new w3 #[.string x.a, .string x.i, .int .i64 x.s, .int .i64 x.o, .int .i64 x.l, .int .i64 x.t, .int .i64 x.k, .int .i64 x.n, .bool x.g] 36)
          have HOw4 := Lib.hid (ho.ext D0)
          have HBw4 := Lib.hid (ext_trans hb D0)
          have HKw4 := Lib.hid (OwnR.ext hkk D0)
          clear ho hb hx hS hp D0 hkf hkk
          rw [eH]
          go_upto_region 14 with (fail)
          obtain ⟨r, hr⟩ : ∃ r, w3.heap.size = r := ⟨_, rfl⟩
          rw [hr] at HX ⊢
          clear hr
          generalize (w3.alloc (.cells #[.string x.a, .string x.i, .int .i64 x.s, .int .i64 x.o, .int .i64 x.l, .int .i64 x.t, .int .i64 x.k, .int .i64 x.n, .bool x.g] 36)) = w4 at *
          clear x0 x1 x2 x3 x4 x5 x6 x7 x8
          have hk4 := blk_cell HX.out
          have hl4 := blk_lt HX.out
          go_wp2_with fail
          refine (refFind ta nt tc T (kyc x) _ (HTA.out.ext HBw4.out) HTN.out hnt).mono ?_
          rintro e w5 ⟨rfl, hb5⟩
          have HX5 := Lib.hid (blk_ext hb5 HX.out)
          have HOw5 := Lib.hid (OwnR.ext HOw4.out hb5)
          have HBw5 := Lib.hid (ext_trans HBw4.out hb5)
          have HKw5 := Lib.hid (OwnR.ext HKw4.out hb5)
          clear hb5 hk4 hl4 HX HOw4 HBw4 HKw4
          cases hlk : look T (kyc x) with
          | none =>
            have HT1 := Lib.hid (show ((H.take (J + 1)).filter (tell T)) = S ++ [x] from by rw [HST.out]; simp [tell, hlk])
            rw [show lookV none = .tuple #[.agg #[.string ⟨#[]⟩, .string ⟨#[]⟩, .int .i64 0, .int .i64 0, .int .i64 0, .int .i64 0, .int .i64 0, .int .i64 0, .bool false], .bool false] from rfl]
            clear HST hlk
            have D6 : Below w5.heap.size w5 (w5.alloc (.cells #[.string ⟨#[]⟩, .string ⟨#[]⟩, .int .i64 0, .int .i64 0, .int .i64 0, .int .i64 0, .int .i64 0, .int .i64 0, .bool false] 36)) := (Below.refl _ _).alloc (Nat.le_refl _) _
            have HY := Lib.hid (blk_new w5 #[.string ⟨#[]⟩, .string ⟨#[]⟩, .int .i64 0, .int .i64 0, .int .i64 0, .int .i64 0, .int .i64 0, .int .i64 0, .bool false] 36)
            have HX6 := Lib.hid (blk_ext D6 HX5.out)
            have HOw6 := Lib.hid (OwnR.ext HOw5.out D6)
            have HBw6 := Lib.hid (ext_trans HBw5.out D6)
            have HKw6 := Lib.hid (OwnR.ext HKw5.out D6)
            have hk5 := blk_cell HX5.out
            have hl5 := blk_lt HX5.out
            clear D6
            go_upto_region 15 with (fail)
            clear hk5 hl5
            obtain ⟨r6, hr6⟩ : ∃ r, w5.heap.size = r := ⟨_, rfl⟩
            rw [hr6] at HY ⊢
            clear hr6 HX5 HOw5 HBw5 HKw5
            generalize (w5.alloc (.cells #[.string ⟨#[]⟩, .string ⟨#[]⟩, .int .i64 0, .int .i64 0, .int .i64 0, .int .i64 0, .int .i64 0, .int .i64 0, .bool false] 36)) = w6 at *
            have hk6 := blk_cell HX6.out
            have hl6 := blk_lt HX6.out
            have HOa := Lib.hid (show w6.ownsRow w2.heap.size 36 9 (.slice ka p kc_) p (flat cc S) from by have := HOw6.out; unfold OwnC OwnR at this; rw [HP.out] at this; exact this)
            have ZA := HBw6.out.size
            go_wp2_with (at_builtin; refine wpList_append_own _ rfl _ _ 27 rfl (w2.heap.size) 36 i0 Cd.zero.v 9 88 Try.underlying27 hi hz0 hz1 hz2 rfl (by decide) _ p (flat cc S) rfl (HOa.out.alloc (.cells #[.string x.a, .string x.i, .int .i64 x.s, .int .i64 x.o, .int .i64 x.l, .int .i64 x.t, .int .i64 x.k, .int .i64 x.n, .bool x.g] 36)) ⟨w6.heap.size, 0, none⟩ 1 1 (cc x) rfl rfl ?e1 ?e2 ?e3 ?e4 ?e5 ?_)
            case e1 =>
              intro j u hj
              rw [add_off, Nat.zero_add, blk_cell (blk_new w6 #[.string x.a, .string x.i, .int .i64 x.s, .int .i64 x.o, .int .i64 x.l, .int .i64 x.t, .int .i64 x.k, .int .i64 x.n, .bool x.g] 36)]
              simpa [cc] using hj
            case e2 => exact cc_one x
            case e3 => unfold maxLen; omega
            case e4 => omega
            case e5 => simp; omega
            intro v9 w9 ho9 hg9 _
            have HG9 := Lib.hid ((World.grownBy_alloc w6 (.cells #[.string x.a, .string x.i, .int .i64 x.s, .int .i64 x.o, .int .i64 x.l, .int .i64 x.t, .int .i64 x.k, .int .i64 x.n, .bool x.g] 36) none).but _ |>.andThen hg9 (fun j hj => .inr hj))
            have HB9 := Lib.hid (HBw6.out.grown HG9.out ZA (fun q hq => own_ge HOa.out hq))
            have HO9 := Lib.hid (show OwnC w2.heap.size w9 v9 (S ++ [x]) by unfold OwnC OwnR; rw [flat_snoc, List.length_append, HP.out]; exact ho9)
            have HK9 := Lib.hid (show OwnK w2.heap.size w9 (.slice qa qn qc) KK from own_blocks HKw6.out (fun k cur hc => HG9.out.block k (blk_lt hc) (own_ne HOa.out hc (by decide))))
            clear ho9 hg9 HOa ZA HG9
            go_wp2
            go_roundw
            case rel => exact ⟨J + 1, by omega, by go_num, by rw [HT1.out]; exact HO9.out, HB9.out, HK9.out⟩
            case measure => simp [intOf] <;> omega
          | some y =>
            rw [show lookV (some y) = .tuple #[.agg #[.string y.a, .string y.i, .int .i64 y.s, .int .i64 y.o, .int .i64 y.l, .int .i64 y.t, .int .i64 y.k, .int .i64 y.n, .bool y.g], .bool true] from rfl]
            have D6 : Below w5.heap.size w5 (w5.alloc (.cells #[.string y.a, .string y.i, .int .i64 y.s, .int .i64 y.o, .int .i64 y.l, .int .i64 y.t, .int .i64 y.k, .int .i64 y.n, .bool y.g] 36)) := (Below.refl _ _).alloc (Nat.le_refl _) _
            have HY := Lib.hid (blk_new w5 #[.string y.a, .string y.i, .int .i64 y.s, .int .i64 y.o, .int .i64 y.l, .int .i64 y.t, .int .i64 y.k, .int .i64 y.n, .bool y.g] 36)
            have HX6 := Lib.hid (blk_ext D6 HX5.out)
            have HOw6 := Lib.hid (OwnR.ext HOw5.out D6)
            have HBw6 := Lib.hid (ext_trans HBw5.out D6)
            have HKw6 := Lib.hid (OwnR.ext HKw5.out D6)
            have hk5 := blk_cell HX5.out
            have hl5 := blk_lt HX5.out
            clear D6
            go_upto_region 15 with (fail)
            clear hk5 hl5
            obtain ⟨r6, hr6⟩ : ∃ r, w5.heap.size = r := ⟨_, rfl⟩
            rw [hr6] at HY ⊢
            clear hr6 HX5 HOw5 HBw5 HKw5
            generalize (w5.alloc (.cells #[.string y.a, .string y.i, .int .i64 y.s, .int .i64 y.o, .int .i64 y.l, .int .i64 y.t, .int .i64 y.k, .int .i64 y.n, .bool y.g] 36)) = w6 at *
            have hk6 := blk_cell HX6.out
            have hl6 := blk_lt HX6.out
            have hy6 := blk_cell HY.out
            have hly := blk_lt HY.out
            go_wp2_with fail
            refine (refLess y.t y.k y.n x.t x.k x.n _).mono ?_
            rintro e w7 ⟨rfl, hb7⟩
            have HX7 := Lib.hid (blk_ext hb7 HX6.out)
            have HOw7 := Lib.hid (OwnR.ext HOw6.out hb7)
            have HBw7 := Lib.hid (ext_trans HBw6.out hb7)
            have HKw7 := Lib.hid (OwnR.ext HKw6.out hb7)
            have hk7 := blk_cell HX7.out
            have hl7 := blk_lt HX7.out
            clear hb7 hk6 hl6 hy6 hly HX6 HOw6 HBw6 HY HKw6
            cases hs : sLess y.t y.k y.n x.t x.k x.n with
            | true =>
              have HT1 := Lib.hid (show ((H.take (J + 1)).filter (tell T)) = S ++ [x] from by rw [HST.out]; simp [tell, hlk, stl, hs])
              clear HST hlk hs
              have HOa := Lib.hid (show w7.ownsRow w2.heap.size 36 9 (.slice ka p kc_) p (flat cc S) from by have := HOw7.out; unfold OwnC OwnR at this; rw [HP.out] at this; exact this)
              have ZA := HBw7.out.size
              go_wp2_with (at_builtin; refine wpList_append_own _ rfl _ _ 27 rfl (w2.heap.size) 36 i0 Cd.zero.v 9 88 Try.underlying27 hi hz0 hz1 hz2 rfl (by decide) _ p (flat cc S) rfl (HOa.out.alloc (.cells #[.string x.a, .string x.i, .int .i64 x.s, .int .i64 x.o, .int .i64 x.l, .int .i64 x.t, .int .i64 x.k, .int .i64 x.n, .bool x.g] 36)) ⟨w7.heap.size, 0, none⟩ 1 1 (cc x) rfl rfl ?e1 ?e2 ?e3 ?e4 ?e5 ?_)
              case e1 =>
                intro j u hj
                rw [add_off, Nat.zero_add, blk_cell (blk_new w7 #[.string x.a, .string x.i, .int .i64 x.s, .int .i64 x.o, .int .i64 x.l, .int .i64 x.t, .int .i64 x.k, .int .i64 x.n, .bool x.g] 36)]
                simpa [cc] using hj
              case e2 => exact cc_one x
              case e3 => unfold maxLen; omega
              case e4 => omega
              case e5 => simp; omega
              intro v9 w9 ho9 hg9 _
              have HG9 := Lib.hid ((World.grownBy_alloc w7 (.cells #[.string x.a, .string x.i, .int .i64 x.s, .int .i64 x.o, .int .i64 x.l, .int .i64 x.t, .int .i64 x.k, .int .i64 x.n, .bool x.g] 36) none).but _ |>.andThen hg9 (fun j hj => .inr hj))
              have HB9 := Lib.hid (HBw7.out.grown HG9.out ZA (fun q hq => own_ge HOa.out hq))
              have HO9 := Lib.hid (show OwnC w2.heap.size w9 v9 (S ++ [x]) by unfold OwnC OwnR; rw [flat_snoc, List.length_append, HP.out]; exact ho9)
              have HK9 := Lib.hid (show OwnK w2.heap.size w9 (.slice qa qn qc) KK from own_blocks HKw7.out (fun k cur hc => HG9.out.block k (blk_lt hc) (own_ne HOa.out hc (by decide))))
              clear ho9 hg9 HOa ZA HG9
              go_wp2
              go_roundw
              case rel => exact ⟨J + 1, by omega, by go_num, by rw [HT1.out]; exact HO9.out, HB9.out, HK9.out⟩
              case measure => simp [intOf] <;> omega
            | false =>
              have HT1 := Lib.hid (show ((H.take (J + 1)).filter (tell T)) = S from by rw [HST.out]; simp [tell, hlk, stl, hs])
              clear HST hlk hs
              go_wp2
              go_roundw
              case rel => exact ⟨J + 1, by omega, by go_num, by rw [HT1.out]; exact HOw7.out, HBw7.out, HKw7.out⟩
              case measure => simp [intOf] <;> omega
        · obtain rfl : nh = J := by omega
          have HF := Lib.hid (show S = (H.filter (tell T)) from by rw [← hS, List.take_of_length_le (by have := HHN.out; omega)])
          go_wp2
          exact bodyPost_ret (v := .tuple #[.slice qa qn qc, .slice ka p kc_]) (by simp [results, Try.results18, go_sem]) rfl ⟨_, _, rfl, by rw [HH.out, HTT.out, ← HKK.out]; exact OwnR.base hkk HB2.out.size, by rw [HH.out, HTT.out, ← HF.out, ← hS]; rw [hS]; exact OwnR.base ho HB2.out.size, ext_trans HB2.out hb⟩

end Go.Proofs.Ytmgdhgaodjkifaa
