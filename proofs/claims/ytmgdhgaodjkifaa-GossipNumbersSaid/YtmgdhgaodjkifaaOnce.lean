/- Of each key the last, by key. -/
import Derived.Test.YtmgdhgaodjkifaaSortR
import Derived.Test.YtmgdhgaodjkifaaRowPut
namespace Go.Proofs.Ytmgdhgaodjkifaa
open Go.RowKit
set_option linter.unusedVariables false
set_option linter.unusedSimpArgs false

/-- c behind a row, in place of the last one if that has its key -/
def onS (out : List Cd) (c : Cd) : List Cd := match out.getLast? with
  | none => [c]
  | some y => if kq y c then out.dropLast ++ [c] else out ++ [c]
def onc (ls : List Cd) : List Cd := (srt klt ls).foldl onS []
theorem OwnC.cat {base : Nat} {w : World} {g n c : Nat} {ls : List Cd} (h : OwnC base w (.slice (some ⟨g, 0, none⟩) n c) ls) : CAt w (some ⟨g, 0, none⟩) ls := by
  obtain ⟨a', c', e, -, -, h4, -, -⟩ := h.read
  simp only [Value.slice.injEq] at e
  rw [e.1]; exact h4
theorem onS_nil (c : Cd) : onS [] c = [c] := rfl
theorem onS_same (out : List Cd) (y c : Cd) (h : kq y c = true) : onS (out ++ [y]) c = out ++ [c] := by
  unfold onS
  rw [List.getLast?_append]
  simp [h]
theorem onS_other (out : List Cd) (y c : Cd) (h : kq y c = false) : onS (out ++ [y]) c = out ++ [y] ++ [c] := by
  unfold onS
  rw [List.getLast?_append]
  simp [h]
theorem onS_len (out : List Cd) (c : Cd) : (onS out c).length ≤ out.length + 1 := by
  rcases List.eq_nil_or_concat out with rfl | ⟨o, y, rfl⟩
  · simp [onS_nil]
  · rw [List.concat_eq_append]
    cases h : kq y c
    · rw [onS_other _ _ _ h]; simp
    · rw [onS_same _ _ _ h]; simp
theorem on_snoc (ls : List Cd) (c : Cd) : (ls ++ [c]).foldl onS [] = onS (ls.foldl onS []) c := by simp
theorem on_len (ls : List Cd) : ∀ out : List Cd, (ls.foldl onS out).length ≤ out.length + ls.length := by
  induction ls with
  | nil => intro out; simp
  | cons x xs ih => intro out; have h1 := ih (onS out x); have h2 := onS_len out x; simp only [List.foldl_cons, List.length_cons]; omega
theorem onc_len (ls : List Cd) : (onc ls).length ≤ ls.length := by
  have := on_len (srt klt ls) []
  rw [srt_len] at this
  simpa [onc] using this

set_option maxRecDepth 100000 in
set_option maxHeartbeats 2000000 in
theorem onceC (a : Option Addr) (n c : Nat) (ls : List Cd) (w : World) (h : CAt w a ls) (hl : ls.length = n) (hn : n ≤ 1000) (hnc : n ≤ c) :
    Calls Try.prog 11 #[.slice a n c] w fun e w' => ∃ v', e = .returned v' ∧ OwnC w.heap.size w' v' (onc ls) ∧ Below w.heap.size w w' := by
  obtain ⟨i0, hi, hz0, hz1, hz2⟩ := info_parts' info_card
  have HA := Lib.hid h
  have HN := Lib.hid hl
  clear h hl
  go_enter Try.func11, Try.ntmps11
  go_wp2_with fail
  refine (refSort a n c ls _ HA.out HN.out hn hnc).mono ?_
  rintro e w1 ⟨vs, rfl, hos, hbs⟩
  obtain ⟨T, hT⟩ : ∃ T, srt klt ls = T := ⟨_, rfl⟩
  have hTn : T.length = n := by rw [← hT, srt_len, HN.out]
  rw [hT] at hos
  obtain ⟨ta, tc, rfl, htc, htm, htat, -, htf⟩ := hos.read
  rw [hTn] at htc ⊢
  have HTT := Lib.hid hT
  have HTN := Lib.hid hTn
  have HTA := Lib.hid htat
  have HB1 := Lib.hid hbs
  unfold maxLen at htm
  clear hos hbs hT hTn htat HA
  go_wp2_with fail
  go_loopw [3, 10] (fun g j wr => ∃ J : Nat, J ≤ n ∧ j = .int .i64 (J : Int) ∧ OwnC w1.heap.size wr g ((T.take J).foldl onS []) ∧ Below w1.heap.size w1 wr) (fun g j _ => n - (intOf j).toNat)
  case atStart => exact ⟨0, by omega, rfl, OwnR.nil _ _, Below.refl _ _⟩
  case round =>
    obtain ⟨w2, rfl⟩ : ∃ y : World, y = wr := ⟨_, rfl⟩
    obtain ⟨J, hJ, rfl, ho2, hb2⟩ := hrel
    by_cases hlt : J < n
    · obtain ⟨x, hx⟩ : ∃ x, T[J]? = some x := ⟨_, List.getElem?_eq_getElem (by have := HTN.out; omega)⟩
      obtain ⟨S, hS⟩ : ∃ S, (T.take J).foldl onS [] = S := ⟨_, rfl⟩
      have HST := Lib.hid (show (T.take (J + 1)).foldl onS [] = onS S x from by rw [List.take_add_one, hx]; show (T.take J ++ [x]).foldl onS [] = _; rw [on_snoc, hS])
      rw [hS] at ho2
      obtain ⟨m, hm⟩ : ∃ m, S.length = m := ⟨_, rfl⟩
      have hm1 : m ≤ 1000 := by have := on_len (T.take J) []; rw [hS, List.length_take, hm] at this; simp at this; omega
      obtain ⟨tb, tof, rfl⟩ : ∃ b o, ta = some ⟨b, o, none⟩ := by
        rcases HTA.out with h | ⟨b, o, e, _⟩
        · rw [h] at hx; simp at hx
        · exact ⟨b, o, e⟩
      obtain ⟨x0, x1, x2, x3, x4, x5, x6, x7, x8⟩ := (HTA.out.ext hb2).at hx
      obtain ⟨ga, gc, hgv, hgc, hgm, hgat, hgb, hgf⟩ := ho2.read
      rw [hm] at hgc hgv
      subst hgv
      have D0 : Below w2.heap.size w2 (w2.alloc (.cells #[.string x.a, .string x.i, .int .i64 x.s, .int .i64 x.o, .int .i64 x.l, .int .i64 x.t, .int .i64 x.k, .int .i64 x.n, .bool x.g] 36)) := (Below.refl _ _).alloc (Nat.le_refl _) _
      have HX := Lib.hid (blk_new w2 #[.string x.a, .string x.i, .int .i64 x.s, .int .i64 x.o, .int .i64 x.l, .int .i64 x.t, .int .i64 x.k, .int .i64 x.n, .bool x.g] 36)
      have HO3 := Lib.hid (ho2.ext D0)
      have HB3 := Lib.hid (ext_trans hb2 D0)
      have HM := Lib.hid hm
      have HRN := Lib.hid (show ∀ g o, ga = some ⟨g, o, none⟩ → g ≠ w2.heap.size from fun g o e => by have := (hgb g o e).2.1; omega)
      have HGE := Lib.hid (show ∀ g o, ga = some ⟨g, o, none⟩ → w1.heap.size ≤ g from fun g o e => (hgb g o e).1)
      unfold maxLen at hgm
      clear ho2 hb2 hx hS hm D0 hgat hgb
      go_upto_region 5 with (fail)
      obtain ⟨r, hr⟩ : ∃ r, w2.heap.size = r := ⟨_, rfl⟩
      rw [hr] at HX HRN ⊢
      clear hr
      generalize (w2.alloc (.cells #[.string x.a, .string x.i, .int .i64 x.s, .int .i64 x.o, .int .i64 x.l, .int .i64 x.t, .int .i64 x.k, .int .i64 x.n, .bool x.g] 36)) = w4 at *
      clear x0 x1 x2 x3 x4 x5 x6 x7 x8
      by_cases hm0 : m = 0
      · have hd : decide ((0 : Int) < (m : Int)) = false := by simp; omega
        have hd0 : decide (0 < m) = false := by simp; omega
        have HST1 := Lib.hid (show (T.take (J + 1)).foldl onS [] = S ++ [x] from by rw [HST.out, List.eq_nil_of_length_eq_zero (HM.out.trans hm0)]; rfl)
        clear hm0 HST
        go_wp2_with fail
        haveI hIq : Nonempty (Of w4) := of_some _
        first | (refine wp_region_stay w4 (by kernel_rfl) (by kernel_rfl) (by go_grown) ?_) | (refine wp_region_stay_seq w4 (by go_grown) ?_)
        repeat (go_big_quiet_step (fail))
        refine wpQuiet_nil ?_
        intro w5 hb5
        clear hIq
        
        have HO5 := Lib.hid (HO3.out.ext hb5)
        have HX5 := Lib.hid (blk_ext hb5 HX.out)
        have HB5 := Lib.hid (ext_trans HB3.out hb5)
        have Z5 := HB5.out.size
        have hk5 := blk_cell HX5.out
        have hl5 := blk_lt HX5.out
        have HO5' := Lib.hid (show w5.ownsRow w1.heap.size 36 9 (.slice ga m gc) (m) (flat cc S) from by have := HO5.out; unfold OwnC OwnR at this; rw [HM.out] at this; exact this)
        clear hb5 HO3 HX HB3
        go_wp2_with (at_builtin; refine wpList_append_own _ rfl _ _ 27 rfl (w1.heap.size) 36 i0 Cd.zero.v 9 88 Try.underlying27 hi hz0 hz1 hz2 rfl (by decide) _ (m) (flat cc S) rfl (HO5'.out.alloc (.cells #[.string x.a, .string x.i, .int .i64 x.s, .int .i64 x.o, .int .i64 x.l, .int .i64 x.t, .int .i64 x.k, .int .i64 x.n, .bool x.g] 36)) ⟨w5.heap.size, 0, none⟩ 1 1 (cc x) rfl rfl ?c1 ?c2 ?c3 ?c4 ?c5 ?_)
        case c1 =>
          intro j u hj
          rw [add_off, Nat.zero_add, blk_cell (blk_new w5 #[.string x.a, .string x.i, .int .i64 x.s, .int .i64 x.o, .int .i64 x.l, .int .i64 x.t, .int .i64 x.k, .int .i64 x.n, .bool x.g] 36)]
          simpa [cc] using hj
        case c2 => exact cc_one x
        case c3 => unfold maxLen; omega
        case c4 => omega
        case c5 => simp; omega
        intro v7 w7 ho7 hg7 _
        have HB7 := Lib.hid ((HB5.out.alloc Z5 (.cells #[.string x.a, .string x.i, .int .i64 x.s, .int .i64 x.o, .int .i64 x.l, .int .i64 x.t, .int .i64 x.k, .int .i64 x.n, .bool x.g] 36)).grown hg7 (by simp; omega) (fun q hq => own_ge HO5'.out hq))
        have HO7 := Lib.hid (show OwnC w1.heap.size w7 v7 (S ++ [x]) by unfold OwnC OwnR; rw [flat_snoc, List.length_append, HM.out]; exact ho7)
        clear ho7 hg7 HO5 HO5' HX5 HB5 hk5 hl5
        go_wp2
        go_roundw
        case rel => exact ⟨J + 1, by omega, by go_num, by rw [HST1.out]; exact HO7.out, HB7.out⟩
        case measure => simp [intOf]; omega
      · obtain ⟨P, rfl⟩ : ∃ P, m = P + 1 := ⟨m - 1, by omega⟩
        obtain ⟨y, hy⟩ : ∃ y, S[P]? = some y := ⟨_, List.getElem?_eq_getElem (by have := HM.out; omega)⟩
        obtain ⟨g, rfl⟩ : ∃ g, ga = some ⟨g, 0, none⟩ := by
          rcases hgf with ⟨_, _, e⟩ | ⟨g, e⟩
          · rw [e] at hy; simp at hy
          · exact ⟨g, e⟩
        have HSY := Lib.hid (show S = S.take P ++ [y] from by
          have h1 : S = S.take (P + 1) := by rw [List.take_of_length_le (by have := HM.out; omega)]
          conv => lhs; rw [h1, List.take_add_one, hy]
          rfl)
        have hc4 : CAt w4 (some ⟨g, 0, none⟩) S := OwnC.cat HO3.out
        obtain ⟨k0, k1, -⟩ := hc4.at hy
        rw [Nat.zero_add] at k0 k1
        have k2 : w4.cell? ⟨r, 0, none⟩ = some (.string x.a) := by rw [blk_cell HX.out]; rfl
        have k3 : w4.cell? ⟨r, 1, none⟩ = some (.string x.i) := by rw [blk_cell HX.out]; rfl
        have hd : decide ((0 : Int) < (P : Int) + 1) = true := decide_eq_true (by omega)
        clear hy hc4 hgf
        by_cases h1 : y.a = x.a
        · by_cases h2 : y.i = x.i
          · have HST1 := Lib.hid (show (T.take (J + 1)).foldl onS [] = S.take P ++ [x] from by rw [HST.out]; (conv => lhs; rw [HSY.out]); exact onS_same _ _ _ (kq_yes h1 h2))
            rw [h1] at k0
            rw [h2] at k1
            clear h1 h2 HST
            go_wp2_with fail
            haveI hIq : Nonempty (Of w4) := of_some _
            have hFa := of_cell k0
            have hFb := of_cell k1
            have hFc := of_cell k2
            have hFd := of_cell k3
            first | (refine wp_region_stay w4 (by kernel_rfl) (by kernel_rfl) (by go_grown) ?_) | (refine wp_region_stay_seq w4 (by go_grown) ?_)
            repeat (go_big_quiet_step (fail))
            refine wpQuiet_nil ?_
            intro w5 hb5
            clear hIq hFa hFb hFc hFd k0 k1 k2 k3
            
            have HO5 := Lib.hid (HO3.out.ext hb5)
            have HX5 := Lib.hid (blk_ext hb5 HX.out)
            have HB5 := Lib.hid (ext_trans HB3.out hb5)
            have Z5 := HB5.out.size
            have hk5 := blk_cell HX5.out
            have hl5 := blk_lt HX5.out
            obtain ⟨hnum, -, -, cur5, hcur5, hcs5, hbg5⟩ := HO5.out.num
            have hc5 : CAt w5 (some ⟨g, 0, none⟩) S := OwnC.cat HO5.out
            obtain ⟨y, hy⟩ : ∃ y, S[P]? = some y := ⟨_, List.getElem?_eq_getElem (by have := HM.out; omega)⟩
            obtain ⟨y0, y1, y2, y3, y4, y5, y6, y7, y8⟩ := hc5.at hy
            simp only [Nat.zero_add] at y0 y1 y2 y3 y4 y5 y6 y7 y8
            have hf5 := blk_free hcur5
            have hlg5 := blk_lt hcur5
            have HPUT := Lib.hid (OwnR.put cc_len HO5.out (i := P) (by have := HM.out; omega) x)
            have HKP := Lib.hid (kept_sets (cc x) (o := P * 9) (Kept.refl g w5))
            have HGG := Lib.hid (HGE.out g 0 rfl)
            have HSE := Lib.hid (show S.set P x = S.take P ++ [x] from by
              rw [List.set_eq_take_append_cons_drop, if_pos (by have := HM.out; omega), List.drop_of_length_le (by have := HM.out; omega)])
            clear hb5 HO3 HX HB3 hcur5 hcs5 hbg5 hc5 hy hnum
            go_wp2
            go_roundw
            case rel => exact ⟨J + 1, by omega, by go_num, by rw [HST1.out, ← HSE.out]; exact HPUT.out, HB5.out.trans ((Rim.kept HKP.out).below HGG.out Z5)⟩
            case measure => simp [intOf]; omega
          · have HST1 := Lib.hid (show (T.take (J + 1)).foldl onS [] = S ++ [x] from by rw [HST.out]; (conv => lhs; rw [HSY.out]); exact (onS_other _ _ _ (kq_no (.inr h2))).trans (by rw [← HSY.out]))
            have h3 : ¬ y.i.toList = x.i.toList := fun e => h2 (str_inj e)
            rw [h1] at k0
            clear h1 h2 HST hd
            go_wp2_with fail
            haveI hIq : Nonempty (Of w4) := of_some _
            have hFa := of_cell k0
            have hFb := of_cell k1
            have hFc := of_cell k2
            have hFd := of_cell k3
            first | (refine wp_region_stay w4 (by kernel_rfl) (by kernel_rfl) (by go_grown) ?_) | (refine wp_region_stay_seq w4 (by go_grown) ?_)
            repeat (go_big_quiet_step (fail))
            refine wpQuiet_nil ?_
            intro w5 hb5
            clear hIq hFa hFb hFc hFd k0 k1 k2 k3
            
            have HO5 := Lib.hid (HO3.out.ext hb5)
            have HX5 := Lib.hid (blk_ext hb5 HX.out)
            have HB5 := Lib.hid (ext_trans HB3.out hb5)
            have Z5 := HB5.out.size
            have hk5 := blk_cell HX5.out
            have hl5 := blk_lt HX5.out
            have HO5' := Lib.hid (show w5.ownsRow w1.heap.size 36 9 (.slice (some ⟨g, 0, none⟩) (P + 1) gc) ((P + 1)) (flat cc S) from by have := HO5.out; unfold OwnC OwnR at this; rw [HM.out] at this; exact this)
            clear hb5 HO3 HX HB3
            go_wp2_with (at_builtin; refine wpList_append_own _ rfl _ _ 27 rfl (w1.heap.size) 36 i0 Cd.zero.v 9 88 Try.underlying27 hi hz0 hz1 hz2 rfl (by decide) _ ((P + 1)) (flat cc S) rfl (HO5'.out.alloc (.cells #[.string x.a, .string x.i, .int .i64 x.s, .int .i64 x.o, .int .i64 x.l, .int .i64 x.t, .int .i64 x.k, .int .i64 x.n, .bool x.g] 36)) ⟨w5.heap.size, 0, none⟩ 1 1 (cc x) rfl rfl ?c1 ?c2 ?c3 ?c4 ?c5 ?_)
            case c1 =>
              intro j u hj
              rw [add_off, Nat.zero_add, blk_cell (blk_new w5 #[.string x.a, .string x.i, .int .i64 x.s, .int .i64 x.o, .int .i64 x.l, .int .i64 x.t, .int .i64 x.k, .int .i64 x.n, .bool x.g] 36)]
              simpa [cc] using hj
            case c2 => exact cc_one x
            case c3 => unfold maxLen; omega
            case c4 => omega
            case c5 => simp; omega
            intro v7 w7 ho7 hg7 _
            have HB7 := Lib.hid ((HB5.out.alloc Z5 (.cells #[.string x.a, .string x.i, .int .i64 x.s, .int .i64 x.o, .int .i64 x.l, .int .i64 x.t, .int .i64 x.k, .int .i64 x.n, .bool x.g] 36)).grown hg7 (by simp; omega) (fun q hq => own_ge HO5'.out hq))
            have HO7 := Lib.hid (show OwnC w1.heap.size w7 v7 (S ++ [x]) by unfold OwnC OwnR; rw [flat_snoc, List.length_append, HM.out]; exact ho7)
            clear ho7 hg7 HO5 HO5' HX5 HB5 hk5 hl5
            go_wp2
            go_roundw
            case rel => exact ⟨J + 1, by omega, by go_num, by rw [HST1.out]; exact HO7.out, HB7.out⟩
            case measure => simp [intOf]; omega
        · have HST1 := Lib.hid (show (T.take (J + 1)).foldl onS [] = S ++ [x] from by rw [HST.out]; (conv => lhs; rw [HSY.out]); exact (onS_other _ _ _ (kq_no (.inl h1))).trans (by rw [← HSY.out]))
          have h3 : ¬ y.a.toList = x.a.toList := fun e => h1 (str_inj e)
          clear h1 HST hd
          go_wp2_with fail
          haveI hIq : Nonempty (Of w4) := of_some _
          have hFa := of_cell k0
          have hFb := of_cell k1
          have hFc := of_cell k2
          have hFd := of_cell k3
          first | (refine wp_region_stay w4 (by kernel_rfl) (by kernel_rfl) (by go_grown) ?_) | (refine wp_region_stay_seq w4 (by go_grown) ?_)
          repeat (go_big_quiet_step (fail))
          refine wpQuiet_nil ?_
          intro w5 hb5
          clear hIq hFa hFb hFc hFd k0 k1 k2 k3
          
          have HO5 := Lib.hid (HO3.out.ext hb5)
          have HX5 := Lib.hid (blk_ext hb5 HX.out)
          have HB5 := Lib.hid (ext_trans HB3.out hb5)
          have Z5 := HB5.out.size
          have hk5 := blk_cell HX5.out
          have hl5 := blk_lt HX5.out
          have HO5' := Lib.hid (show w5.ownsRow w1.heap.size 36 9 (.slice (some ⟨g, 0, none⟩) (P + 1) gc) ((P + 1)) (flat cc S) from by have := HO5.out; unfold OwnC OwnR at this; rw [HM.out] at this; exact this)
          clear hb5 HO3 HX HB3
          go_wp2_with (at_builtin; refine wpList_append_own _ rfl _ _ 27 rfl (w1.heap.size) 36 i0 Cd.zero.v 9 88 Try.underlying27 hi hz0 hz1 hz2 rfl (by decide) _ ((P + 1)) (flat cc S) rfl (HO5'.out.alloc (.cells #[.string x.a, .string x.i, .int .i64 x.s, .int .i64 x.o, .int .i64 x.l, .int .i64 x.t, .int .i64 x.k, .int .i64 x.n, .bool x.g] 36)) ⟨w5.heap.size, 0, none⟩ 1 1 (cc x) rfl rfl ?c1 ?c2 ?c3 ?c4 ?c5 ?_)
          case c1 =>
            intro j u hj
            rw [add_off, Nat.zero_add, blk_cell (blk_new w5 #[.string x.a, .string x.i, .int .i64 x.s, .int .i64 x.o, .int .i64 x.l, .int .i64 x.t, .int .i64 x.k, .int .i64 x.n, .bool x.g] 36)]
            simpa [cc] using hj
          case c2 => exact cc_one x
          case c3 => unfold maxLen; omega
          case c4 => omega
          case c5 => simp; omega
          intro v7 w7 ho7 hg7 _
          have HB7 := Lib.hid ((HB5.out.alloc Z5 (.cells #[.string x.a, .string x.i, .int .i64 x.s, .int .i64 x.o, .int .i64 x.l, .int .i64 x.t, .int .i64 x.k, .int .i64 x.n, .bool x.g] 36)).grown hg7 (by simp; omega) (fun q hq => own_ge HO5'.out hq))
          have HO7 := Lib.hid (show OwnC w1.heap.size w7 v7 (S ++ [x]) by unfold OwnC OwnR; rw [flat_snoc, List.length_append, HM.out]; exact ho7)
          clear ho7 hg7 HO5 HO5' HX5 HB5 hk5 hl5
          go_wp2
          go_roundw
          case rel => exact ⟨J + 1, by omega, by go_num, by rw [HST1.out]; exact HO7.out, HB7.out⟩
          case measure => simp [intOf]; omega
    · obtain rfl : J = n := by omega
      have HF := Lib.hid (show (T.take J).foldl onS [] = onc ls from by rw [List.take_of_length_le (by have := HTN.out; omega), ← HTT.out]; rfl)
      have Z1 := HB1.out.size
      go_wp2
      go_ret
      exact ⟨_, rfl, by rw [HF.out] at ho2; exact ho2.base Z1, ext_trans HB1.out hb2⟩

end Go.Proofs.Ytmgdhgaodjkifaa
