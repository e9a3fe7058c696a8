/- Package look's walks: who is found. -/
import Derived.Test.YtkblblcjkkgbeaaShows
namespace Go.Proofs.Ytkblblcjkkgbeaa
open Go.RowKit
set_option linter.unusedVariables false
set_option linter.unusedSimpArgs false

def upC (app : ByteArray) (c : Cd) : Bool := decide (c.a = app) && !c.g && decide (shw c = 1)
def fnd (app : ByteArray) (ls : List Cd) : List Cd := srt klt (ls.filter (upC app))
theorem fnd_seen (app : ByteArray) (ls : List Cd) : (seenL ls).filter (fun c => decide (c.a = app) && decide (shw c = 1)) = fnd app ls := by
  unfold seenL fnd
  rw [srt_filter klt klt_weak, List.filter_filter]
  congr 1
  apply List.filter_congr
  intro c _
  unfold upC
  cases c.g <;> simp
theorem filt_snocP (p : Cd → Bool) (ls : List Cd) (x : Cd) : (ls ++ [x]).filter p = ls.filter p ++ (if p x then [x] else []) := by
  rw [List.filter_append]
  cases h : p x <;> simp [List.filter, h]
theorem fnd_len (app : ByteArray) (ls : List Cd) : (fnd app ls).length ≤ ls.length := by unfold fnd; rw [srt_len]; exact List.length_filter_le _ _

set_option maxRecDepth 100000 in
set_option maxHeartbeats 2000000 in
theorem lookFind (a : Option Addr) (n c : Nat) (ls : List Cd) (app : ByteArray) (w : World) (h : CAt w a ls) (hl : ls.length = n) (hn : n ≤ 19) (hnc : n ≤ c) :
    Calls Try.prog 10 #[.slice a n c, .string app] w fun e w' => ∃ v', e = .returned v' ∧ OwnC w.heap.size w' v' (fnd app ls) ∧ Below w.heap.size w w' := by
  obtain ⟨i0, hi, hz0, hz1, hz2⟩ := info_parts' info_card
  have HA := Lib.hid h
  have HN := Lib.hid hl
  clear h hl
  go_enter Try.func10, Try.ntmps10
  go_wp2_with fail
  go_loopw [5, 10] (fun o j wr => ∃ J : Nat, J ≤ n ∧ j = .int .i64 (J : Int) ∧ OwnC w.heap.size wr o ((ls.take J).filter (upC app)) ∧ Below w.heap.size w wr) (fun o j _ => n - (intOf j).toNat)
  case atStart => exact ⟨0, by omega, rfl, OwnR.nil _ _, Below.refl _ _⟩
  case round =>
    obtain ⟨w2, rfl⟩ : ∃ y : World, y = wr := ⟨_, rfl⟩
    obtain ⟨J, hJ, rfl, ho2, hb2⟩ := hrel
    obtain ⟨ga, gc, rfl, hgc, hgm, hgat, hgb, hgf⟩ := ho2.read
    obtain ⟨S, hS⟩ : ∃ S, (ls.take J).filter (upC app) = S := ⟨_, rfl⟩
    rw [hS] at ho2 hgc hgat hgf ⊢
    obtain ⟨m, hm⟩ : ∃ m, S.length = m := ⟨_, rfl⟩
    have hm1 : m ≤ 19 := by rw [← hm, ← hS]; have := List.length_filter_le (upC app) (ls.take J); rw [List.length_take] at this; omega
    have HM := Lib.hid hm
    rw [hm] at hgc ⊢
    by_cases hlt : J < n
    · obtain ⟨x, hx⟩ : ∃ x, ls[J]? = some x := ⟨_, List.getElem?_eq_getElem (by have := HN.out; omega)⟩
      have HST := Lib.hid (show (ls.take (J + 1)).filter (upC app) = S ++ (if (upC app) x then [x] else []) from by rw [List.take_add_one, hx]; show (ls.take J ++ [x]).filter _ = _; rw [filt_snocP, hS])
      obtain ⟨b, o, rfl⟩ : ∃ b o, a = some ⟨b, o, none⟩ := by
        rcases HA.out with h | ⟨b, o, e, _⟩
        · rw [h] at hx; simp at hx
        · exact ⟨b, o, e⟩
      obtain ⟨x0, x1, x2, x3, x4, x5, x6, x7, x8⟩ := (HA.out.ext hb2).at hx
      obtain ⟨xa, xi, xs, xo, xl, xt, xk, xn, xg⟩ := x
      have D0 : Below w2.heap.size w2 (w2.alloc (.cells #[.string xa, .string xi, .int .i64 xs, .int .i64 xo, .int .i64 xl, .int .i64 xt, .int .i64 xk, .int .i64 xn, .bool xg] 40)) := (Below.refl _ _).alloc (Nat.le_refl _) _
      have HX := Lib.hid (blk_new w2 #[.string xa, .string xi, .int .i64 xs, .int .i64 xo, .int .i64 xl, .int .i64 xt, .int .i64 xk, .int .i64 xn, .bool xg] 40)
      have HO3 := Lib.hid (show OwnC w.heap.size (w2.alloc (.cells #[.string xa, .string xi, .int .i64 xs, .int .i64 xo, .int .i64 xl, .int .i64 xt, .int .i64 xk, .int .i64 xn, .bool xg] 40)) (.slice ga m gc) S from by have := OwnR.ext ho2 D0; rw [hm] at this; exact this)
      have HB3 := Lib.hid (ext_trans hb2 D0)
      unfold maxLen at hgm
      clear ho2 hb2 hx hS hm D0 hgat hgb hgf
      go_upto_region 5 with (fail)
      obtain ⟨r, hr⟩ : ∃ r, w2.heap.size = r := ⟨_, rfl⟩
      rw [hr] at HX ⊢
      clear hr
      generalize (w2.alloc (.cells #[.string xa, .string xi, .int .i64 xs, .int .i64 xo, .int .i64 xl, .int .i64 xt, .int .i64 xk, .int .i64 xn, .bool xg] 40)) = w4 at *
      clear x0 x1 x2 x3 x4 x5 x6 x7 x8
      have hk4 := blk_cell HX.out
      have hl4 := blk_lt HX.out
      have Z4 := HB3.out.size
      by_cases hap : xa = app
      · subst hap
        cases xg
        · obtain ⟨Z, hZ⟩ : ∃ Z, shw ⟨xa, xi, xs, xo, xl, xt, xk, xn, false⟩ = Z := ⟨_, rfl⟩
          have HZ := Lib.hid hZ
          clear hZ
          go_wp2_with fail
          refine (cardShows ⟨xa, xi, xs, xo, xl, xt, xk, xn, false⟩ _).mono ?_
          rintro e w5 ⟨rfl, hb5⟩
          rw [HZ.out]
          have HO5 := Lib.hid (HO3.out.ext hb5)
          have HX5 := Lib.hid (blk_ext hb5 HX.out)
          have HB5 := Lib.hid (ext_trans HB3.out hb5)
          have Z5 := HB5.out.size
          have hk5 := blk_cell HX5.out
          have hl5 := blk_lt HX5.out
          clear hb5 HO3 HX HB3 hk4 hl4
          by_cases hz : Z = 1
          · subst hz
            have HST := Lib.hid (show _ = S ++ [⟨xa, xi, xs, xo, xl, xt, xk, xn, false⟩] from HST.out.trans (by rw [if_pos (by simp [upC, HZ.out])]))
            have HO5' := Lib.hid (show w5.ownsRow w.heap.size 40 9 (.slice ga m gc) m (flat cc S) from by have := HO5.out; unfold OwnC OwnR at this; rw [HM.out] at this; exact this)
            go_wp2_with (at_builtin; refine wpList_append_own _ rfl _ _ 23 rfl (w.heap.size) 40 i0 Cd.zero.v 9 88 Try.underlying23 hi hz0 hz1 hz2 rfl (by decide) _ m (flat cc S) rfl (HO5'.out.alloc (.cells #[.string xa, .string xi, .int .i64 xs, .int .i64 xo, .int .i64 xl, .int .i64 xt, .int .i64 xk, .int .i64 xn, .bool false] 40)) ⟨w5.heap.size, 0, none⟩ 1 1 (cc ⟨xa, xi, xs, xo, xl, xt, xk, xn, false⟩) rfl rfl ?c1 ?c2 ?c3 ?c4 ?c5 ?_)
            case c1 =>
              intro j u hj
              rw [add_off, Nat.zero_add, blk_cell (blk_new w5 #[.string xa, .string xi, .int .i64 xs, .int .i64 xo, .int .i64 xl, .int .i64 xt, .int .i64 xk, .int .i64 xn, .bool false] 40)]
              simpa [cc] using hj
            case c2 => exact cc_one ⟨xa, xi, xs, xo, xl, xt, xk, xn, false⟩
            case c3 => unfold maxLen; omega
            case c4 => omega
            case c5 => simp; omega
            intro v7 w7 ho7 hg7 _
            have HB7 := Lib.hid ((HB5.out.alloc Z5 (.cells #[.string xa, .string xi, .int .i64 xs, .int .i64 xo, .int .i64 xl, .int .i64 xt, .int .i64 xk, .int .i64 xn, .bool false] 40)).grown hg7 (by simp; omega) (fun q hq => own_ge HO5'.out hq))
            have HO7 := Lib.hid (show OwnC w.heap.size w7 v7 (S ++ [⟨xa, xi, xs, xo, xl, xt, xk, xn, false⟩]) by unfold OwnC OwnR; rw [flat_snoc, List.length_append, HM.out]; exact ho7)
            clear ho7 hg7 HO5 HO5' HB5
            go_wp2
            go_roundw
            case rel => exact ⟨J + 1, by omega, by go_num, by rw [HST.out]; exact HO7.out, HB7.out⟩
            case measure => simp [intOf]; omega
          · have hd : (Z == 1) = false := by simp [hz]
            have HST := Lib.hid (show _ = S from HST.out.trans (by rw [if_neg (by simp [upC, HZ.out, hz])]; simp))
            clear hz
            go_wp2
            go_roundw
            case rel => exact ⟨J + 1, by omega, by go_num, by rw [HST.out]; simpa using HO5.out, HB5.out⟩
            case measure => simp [intOf]; omega
        · have HST := Lib.hid (show _ = S from HST.out.trans (by rw [if_neg (by simp [upC])]; simp))
          go_wp2
          go_roundw
          case rel => exact ⟨J + 1, by omega, by go_num, by rw [HST.out]; simpa using HO3.out, HB3.out⟩
          case measure => simp [intOf]; omega
      · have hap' : ¬ xa.toList = app.toList := fun e => hap (str_inj e)
        have HST := Lib.hid (show _ = S from HST.out.trans (by rw [if_neg (by simp [upC, hap])]; simp))
        clear hap
        go_wp2
        go_roundw
        case rel => exact ⟨J + 1, by omega, by go_num, by rw [HST.out]; simpa using HO3.out, HB3.out⟩
        case measure => simp [intOf]; omega
    · obtain rfl : J = n := by omega
      have HF := Lib.hid (show S = ls.filter (upC app) from by rw [← hS, List.take_of_length_le (by have := HN.out; omega)])
      have HAT := Lib.hid hgat
      have HB2 := Lib.hid hb2
      have HGF := Lib.hid hgf
      have Z2 := hb2.size
      clear ho2 hb2 hgat hgb hgf hS hm
      go_wp2_with fail
      refine (cardSort ga m gc S _ HAT.out HM.out hm1 (by
        rcases HGF.out with ⟨e1, e2, _⟩ | ⟨g, e⟩
        · exact .inl ⟨e1, e2⟩
        · exact .inr ⟨g, 0, e⟩)).mono ?_
      rintro e w3 ⟨v', rfl, ho3, hb3⟩
      have HO3 := Lib.hid (show OwnC w.heap.size w3 v' (fnd app ls) from by have := OwnR.base ho3 Z2; rw [HF.out] at this; exact this)
      have HB3 := Lib.hid (ext_trans HB2.out hb3)
      clear ho3 hb3
      go_wp2
      go_ret
      exact ⟨_, rfl, HO3.out, HB3.out⟩

set_option maxRecDepth 100000 in
set_option maxHeartbeats 2000000 in
theorem refFind24 (a0 : Option Addr) (n0 c0 : Nat) (ls : List Cd) (app : ByteArray) (w : World) (h : CAt w a0 ls) (hl : ls.length = n0) (hn : n0 ≤ 19) (hnc : n0 ≤ c0) :
    Calls Try.prog 17 #[.slice a0 n0 c0, .string app] w fun e w' => ∃ v', e = .returned v' ∧ OwnC w.heap.size w' v' (fnd app ls) ∧ Below w.heap.size w w' := by
  obtain ⟨i0, hi, hz0, hz1, hz2⟩ := info_parts' info_card
  have HA0 := Lib.hid h
  have HN0 := Lib.hid hl
  clear h hl
  go_enter Try.func17, Try.ntmps17
  go_wp2_with fail
  refine (refSeen9 a0 n0 c0 ls _ HA0.out HN0.out (by omega) hnc).mono ?_
  rintro e w1 ⟨vs, rfl, hos, hbs⟩
  obtain ⟨T, hT⟩ : ∃ T, seenL ls = T := ⟨_, rfl⟩
  rw [hT] at hos
  obtain ⟨a, c, rfl, htc, htm, htat, -, -⟩ := hos.read
  obtain ⟨n, hTt⟩ : ∃ t, T.length = t := ⟨_, rfl⟩
  have ht19 : n ≤ 19 := by rw [← hTt, ← hT]; have := seenL_len ls; rw [HN0.out] at this; omega
  rw [hTt] at htc ⊢
  have HTT := Lib.hid hT
  have HN := Lib.hid hTt
  have HA := Lib.hid htat
  have HB1 := Lib.hid hbs
  have Z1 := hbs.size
  unfold maxLen at htm
  clear hos hbs hT hTt htat HA0
  go_wp2_with fail
  go_loopw [5, 11] (fun o j wr => ∃ J : Nat, J ≤ n ∧ j = .int .i64 (J : Int) ∧ OwnC w1.heap.size wr o ((T.take J).filter (fun c => decide (c.a = app) && decide (shw c = 1))) ∧ Below w1.heap.size w1 wr) (fun o j _ => n - (intOf j).toNat)
  case atStart => exact ⟨0, by omega, rfl, OwnR.nil _ _, Below.refl _ _⟩
  case round =>
    obtain ⟨w2, rfl⟩ : ∃ y : World, y = wr := ⟨_, rfl⟩
    obtain ⟨J, hJ, rfl, ho2, hb2⟩ := hrel
    obtain ⟨ga, gc, rfl, hgc, hgm, hgat, hgb, hgf⟩ := ho2.read
    obtain ⟨S, hS⟩ : ∃ S, (T.take J).filter (fun c => decide (c.a = app) && decide (shw c = 1)) = S := ⟨_, rfl⟩
    rw [hS] at ho2 hgc hgat hgf ⊢
    obtain ⟨m, hm⟩ : ∃ m, S.length = m := ⟨_, rfl⟩
    have hm1 : m ≤ 19 := by rw [← hm, ← hS]; have := List.length_filter_le (fun c => decide (c.a = app) && decide (shw c = 1)) (T.take J); rw [List.length_take] at this; omega
    have HM := Lib.hid hm
    rw [hm] at hgc ⊢
    by_cases hlt : J < n
    · obtain ⟨x, hx⟩ : ∃ x, T[J]? = some x := ⟨_, List.getElem?_eq_getElem (by have := HN.out; omega)⟩
      have HST := Lib.hid (show (T.take (J + 1)).filter (fun c => decide (c.a = app) && decide (shw c = 1)) = S ++ (if (fun c => decide (c.a = app) && decide (shw c = 1)) x then [x] else []) from by rw [List.take_add_one, hx]; show (T.take J ++ [x]).filter _ = _; rw [filt_snocP, hS])
      obtain ⟨b, o, rfl⟩ : ∃ b o, a = some ⟨b, o, none⟩ := by
        rcases HA.out with h | ⟨b, o, e, _⟩
        · rw [h] at hx; simp at hx
        · exact ⟨b, o, e⟩
      obtain ⟨x0, x1, x2, x3, x4, x5, x6, x7, x8⟩ := (HA.out.ext hb2).at hx
      obtain ⟨xa, xi, xs, xo, xl, xt, xk, xn, xg⟩ := x
      have D0 : Below w2.heap.size w2 (w2.alloc (.cells #[.string xa, .string xi, .int .i64 xs, .int .i64 xo, .int .i64 xl, .int .i64 xt, .int .i64 xk, .int .i64 xn, .bool xg] 40)) := (Below.refl _ _).alloc (Nat.le_refl _) _
      have HX := Lib.hid (blk_new w2 #[.string xa, .string xi, .int .i64 xs, .int .i64 xo, .int .i64 xl, .int .i64 xt, .int .i64 xk, .int .i64 xn, .bool xg] 40)
      have HO3 := Lib.hid (show OwnC w1.heap.size (w2.alloc (.cells #[.string xa, .string xi, .int .i64 xs, .int .i64 xo, .int .i64 xl, .int .i64 xt, .int .i64 xk, .int .i64 xn, .bool xg] 40)) (.slice ga m gc) S from by have := OwnR.ext ho2 D0; rw [hm] at this; exact this)
      have HB3 := Lib.hid (ext_trans hb2 D0)
      unfold maxLen at hgm
      clear ho2 hb2 hx hS hm D0 hgat hgb hgf
      go_upto_region 5 with (fail)
      obtain ⟨r, hr⟩ : ∃ r, w2.heap.size = r := ⟨_, rfl⟩
      rw [hr] at HX ⊢
      clear hr
      generalize (w2.alloc (.cells #[.string xa, .string xi, .int .i64 xs, .int .i64 xo, .int .i64 xl, .int .i64 xt, .int .i64 xk, .int .i64 xn, .bool xg] 40)) = w4 at *
      clear x0 x1 x2 x3 x4 x5 x6 x7 x8
      have hk4 := blk_cell HX.out
      have hl4 := blk_lt HX.out
      have Z4 := HB3.out.size
      by_cases hap : xa = app
      · subst hap
        obtain ⟨Z, hZ⟩ : ∃ Z, shw ⟨xa, xi, xs, xo, xl, xt, xk, xn, xg⟩ = Z := ⟨_, rfl⟩
        have HZ := Lib.hid hZ
        clear hZ
        go_wp2_with fail
        refine (refShows ⟨xa, xi, xs, xo, xl, xt, xk, xn, xg⟩ _).mono ?_
        rintro e w5 ⟨rfl, hb5⟩
        rw [HZ.out]
        have HO5 := Lib.hid (HO3.out.ext hb5)
        have HX5 := Lib.hid (blk_ext hb5 HX.out)
        have HB5 := Lib.hid (ext_trans HB3.out hb5)
        have Z5 := HB5.out.size
        have hk5 := blk_cell HX5.out
        have hl5 := blk_lt HX5.out
        clear hb5 HO3 HX HB3 hk4 hl4
        by_cases hz : Z = 1
        · subst hz
          have HST := Lib.hid (show _ = S ++ [⟨xa, xi, xs, xo, xl, xt, xk, xn, xg⟩] from HST.out.trans (by rw [if_pos (by simp [upC, HZ.out])]))
          have HO5' := Lib.hid (show w5.ownsRow w1.heap.size 40 9 (.slice ga m gc) m (flat cc S) from by have := HO5.out; unfold OwnC OwnR at this; rw [HM.out] at this; exact this)
          go_wp2_with (at_builtin; refine wpList_append_own _ rfl _ _ 23 rfl (w1.heap.size) 40 i0 Cd.zero.v 9 88 Try.underlying23 hi hz0 hz1 hz2 rfl (by decide) _ m (flat cc S) rfl (HO5'.out.alloc (.cells #[.string xa, .string xi, .int .i64 xs, .int .i64 xo, .int .i64 xl, .int .i64 xt, .int .i64 xk, .int .i64 xn, .bool xg] 40)) ⟨w5.heap.size, 0, none⟩ 1 1 (cc ⟨xa, xi, xs, xo, xl, xt, xk, xn, xg⟩) rfl rfl ?c1 ?c2 ?c3 ?c4 ?c5 ?_)
          case c1 =>
            intro j u hj
            rw [add_off, Nat.zero_add, blk_cell (blk_new w5 #[.string xa, .string xi, .int .i64 xs, .int .i64 xo, .int .i64 xl, .int .i64 xt, .int .i64 xk, .int .i64 xn, .bool xg] 40)]
            simpa [cc] using hj
          case c2 => exact cc_one ⟨xa, xi, xs, xo, xl, xt, xk, xn, xg⟩
          case c3 => unfold maxLen; omega
          case c4 => omega
          case c5 => simp; omega
          intro v7 w7 ho7 hg7 _
          have HB7 := Lib.hid ((HB5.out.alloc Z5 (.cells #[.string xa, .string xi, .int .i64 xs, .int .i64 xo, .int .i64 xl, .int .i64 xt, .int .i64 xk, .int .i64 xn, .bool xg] 40)).grown hg7 (by simp; omega) (fun q hq => own_ge HO5'.out hq))
          have HO7 := Lib.hid (show OwnC w1.heap.size w7 v7 (S ++ [⟨xa, xi, xs, xo, xl, xt, xk, xn, xg⟩]) by unfold OwnC OwnR; rw [flat_snoc, List.length_append, HM.out]; exact ho7)
          clear ho7 hg7 HO5 HO5' HB5
          go_wp2
          go_roundw
          case rel => exact ⟨J + 1, by omega, by go_num, by rw [HST.out]; exact HO7.out, HB7.out⟩
          case measure => simp [intOf]; omega
        · have hd : (Z == 1) = false := by simp [hz]
          have HST := Lib.hid (show _ = S from HST.out.trans (by rw [if_neg (by simp [upC, HZ.out, hz])]; simp))
          clear hz
          go_wp2
          go_roundw
          case rel => exact ⟨J + 1, by omega, by go_num, by rw [HST.out]; simpa using HO5.out, HB5.out⟩
          case measure => simp [intOf]; omega
      · have hap' : ¬ xa.toList = app.toList := fun e => hap (str_inj e)
        have HST := Lib.hid (show _ = S from HST.out.trans (by rw [if_neg (by simp [upC, hap])]; simp))
        clear hap
        go_wp2
        go_roundw
        case rel => exact ⟨J + 1, by omega, by go_num, by rw [HST.out]; simpa using HO3.out, HB3.out⟩
        case measure => simp [intOf]; omega
    · obtain rfl : J = n := by omega
      have HF := Lib.hid (show S = fnd app ls from by rw [← hS, List.take_of_length_le (by have := HN.out; omega), ← HTT.out]; exact fnd_seen app ls)
      have HOF := Lib.hid (show OwnC w.heap.size w2 (.slice ga m gc) (fnd app ls) from by have := OwnR.base ho2 Z1; rw [hm, HF.out] at this; exact this)
      go_wp2
      go_ret
      exact ⟨_, rfl, HOF.out, ext_trans HB1.out hb2⟩

end Go.Proofs.Ytkblblcjkkgbeaa
