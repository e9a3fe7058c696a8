/- Package look's walks: which apps there are. -/
import Derived.Test.YtkblblcjkkgbeaaLookC
import Derived.Test.YtkblblcjkkgbeaaSortS
namespace Go.Proofs.Ytkblblcjkkgbeaa
open Go.RowKit
set_option linter.unusedVariables false
set_option linter.unusedSimpArgs false

def aps (ls : List Cd) : List (List UInt8) := (ls.filter (fun c => !c.g)).map (fun c => c.a.data.toList)
def appsL (ls : List Cd) : List (List UInt8) := Lib.compact (sortS (aps ls))
theorem aps_snoc (ls : List Cd) (x : Cd) : aps (ls ++ [x]) = aps ls ++ (if x.g then [] else [x.a.data.toList]) := by
  unfold aps
  rw [filt_snoc, List.map_append]
  cases x.g <;> rfl
theorem aps_len (ls : List Cd) : (aps ls).length ≤ ls.length := by unfold aps; rw [List.length_map]; exact List.length_filter_le _ _

set_option maxRecDepth 100000 in
set_option maxHeartbeats 2000000 in
theorem lookApps (a : Option Addr) (n c : Nat) (ls : List Cd) (w : World) (h : CAt w a ls) (hl : ls.length = n) (hn : n ≤ 1000) (hnc : n ≤ c) :
    Calls Try.prog 14 #[.slice a n c] w fun e w' => ∃ v', e = .returned v' ∧ OwnS w.heap.size w' v' (appsL ls) ∧ Below w.heap.size w w' := by
  obtain ⟨i0, hi, hz0, hz1, hz2⟩ := info_parts' info_str
  have HA := Lib.hid h
  have HN := Lib.hid hl
  clear h hl
  go_enter Try.func14, Try.ntmps14
  go_wp2_with fail
  go_loopw [3, 8] (fun o j wr => ∃ J : Nat, J ≤ n ∧ j = .int .i64 (J : Int) ∧ OwnS w.heap.size wr o (aps (ls.take J)) ∧ Below w.heap.size w wr) (fun o j _ => n - (intOf j).toNat)
  case atStart => exact ⟨0, by omega, rfl, OwnR.nil _ _, Below.refl _ _⟩
  case round =>
    obtain ⟨w2, rfl⟩ : ∃ y : World, y = wr := ⟨_, rfl⟩
    obtain ⟨J, hJ, rfl, ho2, hb2⟩ := hrel
    obtain ⟨ga, gc, rfl, hgc, hgm, hgf⟩ := OwnR.form ho2
    obtain ⟨S, hS⟩ : ∃ S, aps (ls.take J) = S := ⟨_, rfl⟩
    rw [hS] at ho2 hgc hgf ⊢
    obtain ⟨m, hm⟩ : ∃ m, S.length = m := ⟨_, rfl⟩
    have hm1 : m ≤ 1000 := by rw [← hm, ← hS]; have := aps_len (ls.take J); rw [List.length_take] at this; omega
    have HM := Lib.hid hm
    rw [hm] at hgc ⊢
    by_cases hlt : J < n
    · obtain ⟨x, hx⟩ : ∃ x, ls[J]? = some x := ⟨_, List.getElem?_eq_getElem (by have := HN.out; omega)⟩
      have HST := Lib.hid (show aps (ls.take (J + 1)) = S ++ (if x.g then [] else [x.a.data.toList]) from by rw [List.take_add_one, hx]; show aps (ls.take J ++ [x]) = _; rw [aps_snoc, hS])
      obtain ⟨b, o, rfl⟩ : ∃ b o, a = some ⟨b, o, none⟩ := by
        rcases HA.out with h | ⟨b, o, e, _⟩
        · rw [h] at hx; simp at hx
        · exact ⟨b, o, e⟩
      obtain ⟨x0, x1, x2, x3, x4, x5, x6, x7, x8⟩ := (HA.out.ext hb2).at hx
      obtain ⟨xa, xi, xs, xo, xl, xt, xk, xn, xg⟩ := x
      have D0 : Below w2.heap.size w2 (w2.alloc (.cells #[.string xa, .string xi, .int .i64 xs, .int .i64 xo, .int .i64 xl, .int .i64 xt, .int .i64 xk, .int .i64 xn, .bool xg] 40)) := (Below.refl _ _).alloc (Nat.le_refl _) _
      have HX := Lib.hid (blk_new w2 #[.string xa, .string xi, .int .i64 xs, .int .i64 xo, .int .i64 xl, .int .i64 xt, .int .i64 xk, .int .i64 xn, .bool xg] 40)
      have HO3 := Lib.hid (show OwnS w.heap.size (w2.alloc (.cells #[.string xa, .string xi, .int .i64 xs, .int .i64 xo, .int .i64 xl, .int .i64 xt, .int .i64 xk, .int .i64 xn, .bool xg] 40)) (.slice ga m gc) S from by have := OwnR.ext ho2 D0; rw [hm] at this; exact this)
      have HB3 := Lib.hid (ext_trans hb2 D0)
      unfold maxLen at hgm
      clear ho2 hb2 hx hS hm D0 hgf
      go_upto_region 5 with (fail)
      obtain ⟨r, hr⟩ : ∃ r, w2.heap.size = r := ⟨_, rfl⟩
      rw [hr] at HX ⊢
      clear hr
      generalize (w2.alloc (.cells #[.string xa, .string xi, .int .i64 xs, .int .i64 xo, .int .i64 xl, .int .i64 xt, .int .i64 xk, .int .i64 xn, .bool xg] 40)) = w4 at *
      clear x0 x1 x2 x3 x4 x5 x6 x7 x8
      have hk4 := blk_cell HX.out
      have hl4 := blk_lt HX.out
      have Z4 := HB3.out.size
      cases xg
      · have HO5' := Lib.hid (show w4.ownsRow w.heap.size 9 1 (.slice ga m gc) m (flat es S) from by have := HO3.out; unfold OwnS OwnR at this; rw [HM.out] at this; exact this)
        go_wp2_with (at_builtin; refine wpList_append_own _ rfl _ _ 28 rfl (w.heap.size) 9 i0 (.string ⟨#[]⟩) 1 16 Try.underlying28 hi hz0 hz1 hz2 rfl (by decide) _ m (flat es S) rfl (HO5'.out.alloc (.cells #[.string xa] 9)) ⟨w4.heap.size, 0, none⟩ 1 1 (es xa.data.toList) rfl rfl ?c1 ?c2 ?c3 ?c4 ?c5 ?_)
        case c1 =>
          intro j u hj
          rw [es_of] at hj
          exact hj
        case c2 => exact es_one _
        case c3 => unfold maxLen; omega
        case c4 => omega
        case c5 => first | (simp; omega) | omega
        intro v7 w7 ho7 hg7 _
        have HB7 := Lib.hid ((HB3.out.alloc Z4 (.cells #[.string xa] 9)).grown hg7 (by simp; omega) (fun q hq => own_ge HO5'.out hq))
        have HO7 := Lib.hid (show OwnS w.heap.size w7 v7 (S ++ [xa.data.toList]) by unfold OwnS OwnR; rw [flat_snoc, List.length_append, HM.out]; exact ho7)
        clear ho7 hg7 HO5' HO3 HB3 HX hk4 hl4
        go_wp2
        go_roundw
        case rel => exact ⟨J + 1, by omega, by go_num, by rw [HST.out]; exact HO7.out, HB7.out⟩
        case measure => simp [intOf]; omega
      · go_wp2
        go_roundw
        case rel => exact ⟨J + 1, by omega, by go_num, by rw [HST.out]; simpa using HO3.out, HB3.out⟩
        case measure => simp [intOf]; omega
    · obtain rfl : J = n := by omega
      have HF := Lib.hid (show S = aps ls from by rw [← hS, List.take_of_length_le (by have := HN.out; omega)])
      rw [hm] at ho2
      have HO2 := Lib.hid ho2
      have HB2 := Lib.hid hb2
      have HFA := Lib.hid hgf
      clear ho2 hb2 hgf hS hm
      by_cases hm0 : m = 0
      · subst hm0
        have HE := Lib.hid (show appsL ls = [] from by
          have h0 : S = [] := List.eq_nil_of_length_eq_zero HM.out
          unfold appsL
          rw [← HF.out, h0]
          have h1 : sortS [] = [] := List.eq_nil_of_length_eq_zero (sortS_len [])
          rw [h1]
          exact List.eq_nil_of_length_eq_zero (Nat.le_zero.1 (compact_len [])))
        have HV := Lib.hid (show OwnS w.heap.size w2 (.slice ga 0 gc) (appsL ls) from by
          have h0 : S = [] := List.eq_nil_of_length_eq_zero HM.out
          rw [HE.out, ← h0]; exact HO2.out)
        go_wp2_with fail
        refine (strSortNil _ _ _).mono ?_
        rintro e w3 ⟨rfl, rfl⟩
        go_wp2_with fail
        refine (strCompactNil _ _ _).mono ?_
        rintro e w4 ⟨rfl, rfl⟩
        go_wp2
        go_ret
        exact ⟨_, rfl, HV.out, HB2.out⟩
      · obtain ⟨g, rfl, HGG⟩ : ∃ g, ga = some ⟨g, 0, none⟩ ∧ Hid (w.heap.size ≤ g) := by
          rcases HFA.out with ⟨_, _, e⟩ | ⟨g, e, h1, _⟩
          · exact absurd (by rw [← HM.out, e]; rfl) hm0
          · exact ⟨g, e, Lib.hid h1⟩
        clear HFA
        have Z2 := HB2.out.size
        go_wp2_with fail
        refine (strSort _ g m gc S _ HO2.out HM.out (by omega)).mono ?_
        rintro e w3 ⟨rfl, ho3, hr3⟩
        have HO3 := Lib.hid ho3
        have HB3 := Lib.hid (HB2.out.trans (hr3.below HGG.out Z2))
        clear ho3 hr3 HO2 HB2
        go_wp2_with fail
        refine (strCompact _ g m gc (sortS S) _ HO3.out ((sortS_len S).trans HM.out) (by omega)).mono ?_
        rintro e w4 ⟨rfl, ho4, hr4⟩
        have HO4 := Lib.hid (show OwnS w.heap.size w4 (.slice (some ⟨g, 0, none⟩) (Lib.compact (sortS S)).length gc) (appsL ls) from by unfold appsL; rw [← HF.out]; exact ho4)
        have HB4 := Lib.hid (HB3.out.trans (hr4.below HGG.out HB3.out.size))
        clear ho4 hr4
        go_wp2
        go_ret
        exact ⟨_, rfl, HO4.out, HB4.out⟩

end Go.Proofs.Ytkblblcjkkgbeaa
