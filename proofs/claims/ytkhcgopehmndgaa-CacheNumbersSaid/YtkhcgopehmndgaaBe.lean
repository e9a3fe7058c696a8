/- Several texts as one: RowPut, Once, RowAt, GosW, InsRun. -/
import Derived.Test.YtkhcgopehmndgaaBb
import Derived.Test.YtkhcgopehmndgaaSortR
import Derived.Test.YtkhcgopehmndgaaIns
import Derived.Shelf.SlSortCmp.InsertionK
import Derived.Test.YtkhcgopehmndgaaBa
import Derived.Laws.CopyRow
import Derived.Lib.AppendZeros
/- A row of structs in which one is written over. -/
namespace Go.Proofs.Ytkhcgopehmndgaa
open Go.RowKit
set_option linter.unusedVariables false

section
variable {α : Type} {enc : α → List Value} {k : Nat} {T : TypeId}
def setL : List Value → Nat → List Value → List Value
  | l, _, [] => l
  | l, o, v :: vs => setL (l.set o v) (o + 1) vs
theorem setL_len (l : List Value) (o : Nat) (vs : List Value) : (setL l o vs).length = l.length := by
  induction vs generalizing l o with
  | nil => rfl
  | cons v vs ih => unfold setL; rw [ih]; simp
theorem setL_out (l : List Value) (o : Nat) (vs : List Value) (h : l.length ≤ o) : setL l o vs = l := by
  induction vs generalizing l o with
  | nil => rfl
  | cons v vs ih =>
    unfold setL
    rw [List.set_eq_of_length_le h]
    exact ih l (o + 1) (by omega)
theorem setL_eq (l : List Value) (o : Nat) (vs : List Value) (h : o + vs.length ≤ l.length) : setL l o vs = l.take o ++ vs ++ l.drop (o + vs.length) := by
  induction vs generalizing l o with
  | nil => simp [setL]
  | cons v vs ih =>
    unfold setL
    rw [List.length_cons] at h
    rw [ih _ _ (by simp; omega), List.take_set, List.drop_set_of_lt (by omega)]
    rw [show (l.take (o + 1)).set o v = l.take o ++ [v] from by
      apply List.ext_getElem?
      intro i
      rw [List.getElem?_set]
      rcases Nat.lt_trichotomy i o with h' | h' | h'
      · rw [if_neg (by omega), List.getElem?_take_of_lt (by omega), List.getElem?_append_left (by simp; omega), List.getElem?_take_of_lt (by omega)]
      · subst h'
        rw [if_pos rfl, if_pos (by simp; omega), List.getElem?_append_right (by simp; omega)]
        rw [List.length_take, show i - min i l.length = 0 from by omega]
        rfl
      · rw [if_neg (by omega), List.getElem?_eq_none (by simp; omega), List.getElem?_eq_none (by simp; omega)]]
    simp [show o + 1 + vs.length = o + (vs.length + 1) from by omega]
theorem own_set1 {base size n m c g o : Nat} {w : World} {xs : List Value} (h : w.ownsRow base T size (.slice (some ⟨g, 0, none⟩) n c) m xs) (v : Value) : (w.setCell ⟨g, o, none⟩ v).ownsRow base T size (.slice (some ⟨g, 0, none⟩) n c) m (xs.set o v) := by
  rcases h with ⟨h1, ⟨e, _⟩ | ⟨g', cap, cur, e, hg, hh, hnc, hcm, hcs, ht⟩⟩
  · cases e
  · simp only [Value.slice.injEq, Option.some.injEq, Addr.mk.injEq] at e
    obtain ⟨⟨rfl, -⟩, rfl, rfl⟩ := e
    refine ⟨by simpa using h1, .inr ⟨g, c, cur.setIfInBounds o v, rfl, hg, blk_set hh rfl, hnc, hcm, by simpa using hcs, ?_⟩⟩
    rw [Array.toList_setIfInBounds, List.take_set, ht]
theorem own_sets {base size n m c g : Nat} (vs : List Value) {o : Nat} {w : World} {xs : List Value} (h : w.ownsRow base T size (.slice (some ⟨g, 0, none⟩) n c) m xs) : (w.setCells g o vs).ownsRow base T size (.slice (some ⟨g, 0, none⟩) n c) m (setL xs o vs) := by
  induction vs generalizing w o xs with
  | nil => exact h
  | cons v vs ih => exact ih (own_set1 h v)
theorem kept_sets {g : Nat} (vs : List Value) {o : Nat} {u w : World} (h : Kept g u w) : Kept g u (w.setCells g o vs) := by
  induction vs generalizing w o with
  | nil => exact h
  | cons v vs ih => exact ih (h.setCell o v)
theorem OwnR.num {base n c g : Nat} {w : World} {ls : List α} (h : OwnR enc k T base w (.slice (some ⟨g, 0, none⟩) n c) ls) : n = ls.length ∧ n ≤ c ∧ c ≤ maxLen ∧ ∃ cur, w.heap[g]? = some (.cells cur T (0, 0)) ∧ cur.size = c * k ∧ base ≤ g := by
  rcases h.2 with ⟨e, _⟩ | ⟨g', cap, cur, e, hg, hh, hnc, hcm, hcs, ht⟩
  · cases e
  · simp only [Value.slice.injEq, Option.some.injEq, Addr.mk.injEq] at e
    obtain ⟨⟨rfl, -⟩, rfl, rfl⟩ := e
    exact ⟨rfl, hnc, hcm, cur, hh, hcs, hg⟩
theorem OwnR.put (hk : ∀ x, (enc x).length = k) {base n c g i : Nat} {w : World} {ls : List α} (h : OwnR enc k T base w (.slice (some ⟨g, 0, none⟩) n c) ls) (hi : i < ls.length) (y : α) : OwnR enc k T base (w.setCells g (i * k) (enc y)) (.slice (some ⟨g, 0, none⟩) n c) (ls.set i y) := by
  have h1 := own_sets (enc y) (o := i * k) h
  have h2 : i * k + k ≤ ls.length * k := by rw [← Nat.succ_mul]; exact Nat.mul_le_mul_right k hi
  rw [setL_eq _ _ _ (by rw [hk, flat_len hk]; exact h2), hk, ← Nat.succ_mul, ← flat_set hk ls i y hi] at h1
  unfold OwnR
  rwa [List.length_set]
theorem OwnR.behind (hk : ∀ x, (enc x).length = k) {base n c g o : Nat} {w : World} {ls : List α} (vs : List Value) (h : OwnR enc k T base w (.slice (some ⟨g, 0, none⟩) n c) ls) (ho : ls.length * k ≤ o) : OwnR enc k T base (w.setCells g o vs) (.slice (some ⟨g, 0, none⟩) n c) ls := by
  have h1 := own_sets vs (o := o) h
  rwa [setL_out _ _ _ (by rw [flat_len hk]; exact ho)] at h1
end

end Go.Proofs.Ytkhcgopehmndgaa

/- Of each key the last, by key. -/
namespace Go.Proofs.Ytkhcgopehmndgaa
open Go.RowKit
set_option linter.unusedVariables false
set_option linter.unusedSimpArgs false

/-- c behind a row, in place of the last one if that has its key -/
def onS (out : List Cd) (c : Cd) : List Cd := match out.getLast? with
  | none => [c]
  | some y => if kq y c then out.dropLast ++ [c] else out ++ [c]
def onc (ls : List Cd) : List Cd := (srt klt ls).foldl onS []
theorem OwnC.cat {base : Nat} {w : World} {g n c : Nat} {ls : List Cd} (h : OwnC base w (.slice (some ⟨g, 0, none⟩) n c) ls) : CAt w (some ⟨g, 0, none⟩) ls := by
  obtain ⟨a', c', e, -, -, h4, -, -⟩ := h.read
  simp only [Value.slice.injEq] at e
  rw [e.1]; exact h4
theorem onS_nil (c : Cd) : onS [] c = [c] := rfl
theorem onS_same (out : List Cd) (y c : Cd) (h : kq y c = true) : onS (out ++ [y]) c = out ++ [c] := by
  unfold onS
  rw [List.getLast?_append]
  simp [h]
theorem onS_other (out : List Cd) (y c : Cd) (h : kq y c = false) : onS (out ++ [y]) c = out ++ [y] ++ [c] := by
  unfold onS
  rw [List.getLast?_append]
  simp [h]
theorem onS_len (out : List Cd) (c : Cd) : (onS out c).length ≤ out.length + 1 := by
  rcases List.eq_nil_or_concat out with rfl | ⟨o, y, rfl⟩
  · simp [onS_nil]
  · rw [List.concat_eq_append]
    cases h : kq y c
    · rw [onS_other _ _ _ h]; simp
    · rw [onS_same _ _ _ h]; simp
theorem on_snoc (ls : List Cd) (c : Cd) : (ls ++ [c]).foldl onS [] = onS (ls.foldl onS []) c := by simp
theorem on_len (ls : List Cd) : ∀ out : List Cd, (ls.foldl onS out).length ≤ out.length + ls.length := by
  induction ls with
  | nil => intro out; simp
  | cons x xs ih => intro out; have h1 := ih (onS out x); have h2 := onS_len out x; simp only [List.foldl_cons, List.length_cons]; omega
theorem onc_len (ls : List Cd) : (onc ls).length ≤ ls.length := by
  have := on_len (srt klt ls) []
  rw [srt_len] at this
  simpa [onc] using this

set_option maxRecDepth 100000 in
set_option maxHeartbeats 2000000 in
theorem onceC (a : Option Addr) (n c : Nat) (ls : List Cd) (w : World) (h : CAt w a ls) (hl : ls.length = n) (hn : n ≤ 1000) (hnc : n ≤ c) :
    Calls Try.prog 27 #[.slice a n c] w fun e w' => ∃ v', e = .returned v' ∧ OwnC w.heap.size w' v' (onc ls) ∧ Below w.heap.size w w' := by
  obtain ⟨i0, hi, hz0, hz1, hz2⟩ := info_parts' info_card
  have HA := Lib.hid h
  have HN := Lib.hid hl
  clear h hl
  go_enter Try.func27, Try.ntmps27
  go_wp2_with fail
  refine (refSort a n c ls _ HA.out HN.out hn hnc).mono ?_
  rintro e w1 ⟨vs, rfl, hos, hbs⟩
  obtain ⟨T, hT⟩ : ∃ T, srt klt ls = T := ⟨_, rfl⟩
  have hTn : T.length = n := by rw [← hT, srt_len, HN.out]
  rw [hT] at hos
  obtain ⟨ta, tc, rfl, htc, htm, htat, -, htf⟩ := hos.read
  rw [hTn] at htc ⊢
  have HTT := Lib.hid hT
  have HTN := Lib.hid hTn
  have HTA := Lib.hid htat
  have HB1 := Lib.hid hbs
  unfold maxLen at htm
  clear hos hbs hT hTn htat HA
  go_wp2_with fail
  go_loopw [3, 10] (fun g j wr => ∃ J : Nat, J ≤ n ∧ j = .int .i64 (J : Int) ∧ OwnC w1.heap.size wr g ((T.take J).foldl onS []) ∧ Below w1.heap.size w1 wr) (fun g j _ => n - (intOf j).toNat)
  case atStart => exact ⟨0, by omega, rfl, OwnR.nil _ _, Below.refl _ _⟩
  case round =>
    obtain ⟨w2, rfl⟩ : ∃ y : World, y = wr := ⟨_, rfl⟩
    obtain ⟨J, hJ, rfl, ho2, hb2⟩ := hrel
    by_cases hlt : J < n
    · obtain ⟨x, hx⟩ : ∃ x, T[J]? = some x := ⟨_, List.getElem?_eq_getElem (by have := HTN.out; omega)⟩
      obtain ⟨S, hS⟩ : ∃ S, (T.take J).foldl onS [] = S := ⟨_, rfl⟩
      have HST := Lib.hid (show (T.take (J + 1)).foldl onS [] = onS S x from by rw [List.take_add_one, hx]; show (T.take J ++ [x]).foldl onS [] = _; rw [on_snoc, hS])
      rw [hS] at ho2
      obtain ⟨m, hm⟩ : ∃ m, S.length = m := ⟨_, rfl⟩
      have hm1 : m ≤ 1000 := by have := on_len (T.take J) []; rw [hS, List.length_take, hm] at this; simp at this; omega
      obtain ⟨tb, tof, rfl⟩ : ∃ b o, ta = some ⟨b, o, none⟩ := by
        rcases HTA.out with h | ⟨b, o, e, _⟩
        · rw [h] at hx; simp at hx
        · exact ⟨b, o, e⟩
      obtain ⟨x0, x1, x2, x3, x4, x5, x6, x7, x8⟩ := (HTA.out.ext hb2).at hx
      obtain ⟨ga, gc, hgv, hgc, hgm, hgat, hgb, hgf⟩ := ho2.read
      rw [hm] at hgc hgv
      subst hgv
      have D0 : Below w2.heap.size w2 (w2.alloc (.cells #[.string x.a, .string x.i, .int .i64 x.s, .int .i64 x.o, .int .i64 x.l, .int .i64 x.t, .int .i64 x.k, .int .i64 x.n, .bool x.g] 49)) := (Below.refl _ _).alloc (Nat.le_refl _) _
      have HX := Lib.hid (blk_new w2 #[.string x.a, .string x.i, .int .i64 x.s, .int .i64 x.o, .int .i64 x.l, .int .i64 x.t, .int .i64 x.k, .int .i64 x.n, .bool x.g] 49)
      have HO3 := Lib.hid (ho2.ext D0)
      have HB3 := Lib.hid (ext_trans hb2 D0)
      have HM := Lib.hid hm
      have HRN := Lib.hid (show ∀ g o, ga = some ⟨g, o, none⟩ → g ≠ w2.heap.size from fun g o e => by have := (hgb g o e).2.1; omega)
      have HGE := Lib.hid (show ∀ g o, ga = some ⟨g, o, none⟩ → w1.heap.size ≤ g from fun g o e => (hgb g o e).1)
      unfold maxLen at hgm
      clear ho2 hb2 hx hS hm D0 hgat hgb
      go_upto_region 5 with (fail)
      obtain ⟨r, hr⟩ : ∃ r, w2.heap.size = r := ⟨_, rfl⟩
      rw [hr] at HX HRN ⊢
      clear hr
      generalize (w2.alloc (.cells #[.string x.a, .string x.i, .int .i64 x.s, .int .i64 x.o, .int .i64 x.l, .int .i64 x.t, .int .i64 x.k, .int .i64 x.n, .bool x.g] 49)) = w4 at *
      clear x0 x1 x2 x3 x4 x5 x6 x7 x8
      by_cases hm0 : m = 0
      · have hd : decide ((0 : Int) < (m : Int)) = false := by simp; omega
        have hd0 : decide (0 < m) = false := by simp; omega
        have HST1 := Lib.hid (show (T.take (J + 1)).foldl onS [] = S ++ [x] from by rw [HST.out, List.eq_nil_of_length_eq_zero (HM.out.trans hm0)]; rfl)
        clear hm0 HST
        go_wp2_with fail
        haveI hIq : Nonempty (Of w4) := of_some _
        first | (refine wp_region_stay w4 (by kernel_rfl) (by kernel_rfl) (by go_grown) ?_) | (refine wp_region_stay_seq w4 (by go_grown) ?_)
        repeat (go_big_quiet_step (fail))
        refine wpQuiet_nil ?_
        intro w5 hb5
        clear hIq
        
        have HO5 := Lib.hid (HO3.out.ext hb5)
        have HX5 := Lib.hid (blk_ext hb5 HX.out)
        have HB5 := Lib.hid (ext_trans HB3.out hb5)
        have Z5 := HB5.out.size
        have hk5 := blk_cell HX5.out
        have hl5 := blk_lt HX5.out
        have HO5' := Lib.hid (show w5.ownsRow w1.heap.size 49 9 (.slice ga m gc) (m) (flat cc S) from by have := HO5.out; unfold OwnC OwnR at this; rw [HM.out] at this; exact this)
        clear hb5 HO3 HX HB3
        go_wp2_with (at_builtin; refine wpList_append_own _ rfl _ _ 33 rfl (w1.heap.size) 49 i0 Cd.zero.v 9 88 Try.underlying33 hi hz0 hz1 hz2 rfl (by decide) _ (m) (flat cc S) rfl (HO5'.out.alloc (.cells #[.string x.a, .string x.i, .int .i64 x.s, .int .i64 x.o, .int .i64 x.l, .int .i64 x.t, .int .i64 x.k, .int .i64 x.n, .bool x.g] 49)) ⟨w5.heap.size, 0, none⟩ 1 1 (cc x) rfl rfl ?c1 ?c2 ?c3 ?c4 ?c5 ?_)
        case c1 =>
          intro j u hj
          rw [add_off, Nat.zero_add, blk_cell (blk_new w5 #[.string x.a, .string x.i, .int .i64 x.s, .int .i64 x.o, .int .i64 x.l, .int .i64 x.t, .int .i64 x.k, .int .i64 x.n, .bool x.g] 49)]
          simpa [cc] using hj
        case c2 => exact cc_one x
        case c3 => unfold maxLen; omega
        case c4 => omega
        case c5 => simp; omega
        intro v7 w7 ho7 hg7 _
        have HB7 := Lib.hid ((HB5.out.alloc Z5 (.cells #[.string x.a, .string x.i, .int .i64 x.s, .int .i64 x.o, .int .i64 x.l, .int .i64 x.t, .int .i64 x.k, .int .i64 x.n, .bool x.g] 49)).grown hg7 (by simp; omega) (fun q hq => own_ge HO5'.out hq))
        have HO7 := Lib.hid (show OwnC w1.heap.size w7 v7 (S ++ [x]) by unfold OwnC OwnR; rw [flat_snoc, List.length_append, HM.out]; exact ho7)
        clear ho7 hg7 HO5 HO5' HX5 HB5 hk5 hl5
        go_wp2
        go_roundw
        case rel => exact ⟨J + 1, by omega, by go_num, by rw [HST1.out]; exact HO7.out, HB7.out⟩
        case measure => simp [intOf]; omega
      · obtain ⟨P, rfl⟩ : ∃ P, m = P + 1 := ⟨m - 1, by omega⟩
        obtain ⟨y, hy⟩ : ∃ y, S[P]? = some y := ⟨_, List.getElem?_eq_getElem (by have := HM.out; omega)⟩
        obtain ⟨g, rfl⟩ : ∃ g, ga = some ⟨g, 0, none⟩ := by
          rcases hgf with ⟨_, _, e⟩ | ⟨g, e⟩
          · rw [e] at hy; simp at hy
          · exact ⟨g, e⟩
        have HSY := Lib.hid (show S = S.take P ++ [y] from by
          have h1 : S = S.take (P + 1) := by rw [List.take_of_length_le (by have := HM.out; omega)]
          conv => lhs; rw [h1, List.take_add_one, hy]
          rfl)
        have hc4 : CAt w4 (some ⟨g, 0, none⟩) S := OwnC.cat HO3.out
        obtain ⟨k0, k1, -⟩ := hc4.at hy
        rw [Nat.zero_add] at k0 k1
        have k2 : w4.cell? ⟨r, 0, none⟩ = some (.string x.a) := by rw [blk_cell HX.out]; rfl
        have k3 : w4.cell? ⟨r, 1, none⟩ = some (.string x.i) := by rw [blk_cell HX.out]; rfl
        have hd : decide ((0 : Int) < (P : Int) + 1) = true := decide_eq_true (by omega)
        clear hy hc4 hgf
        by_cases h1 : y.a = x.a
        · by_cases h2 : y.i = x.i
          · have HST1 := Lib.hid (show (T.take (J + 1)).foldl onS [] = S.take P ++ [x] from by rw [HST.out]; (conv => lhs; rw [HSY.out]); exact onS_same _ _ _ (kq_yes h1 h2))
            rw [h1] at k0
            rw [h2] at k1
            clear h1 h2 HST
            go_wp2_with fail
            haveI hIq : Nonempty (Of w4) := of_some _
            have hFa := of_cell k0
            have hFb := of_cell k1
            have hFc := of_cell k2
            have hFd := of_cell k3
            first | (refine wp_region_stay w4 (by kernel_rfl) (by kernel_rfl) (by go_grown) ?_) | (refine wp_region_stay_seq w4 (by go_grown) ?_)
            repeat (go_big_quiet_step (fail))
            refine wpQuiet_nil ?_
            intro w5 hb5
            clear hIq hFa hFb hFc hFd k0 k1 k2 k3
            
            have HO5 := Lib.hid (HO3.out.ext hb5)
            have HX5 := Lib.hid (blk_ext hb5 HX.out)
            have HB5 := Lib.hid (ext_trans HB3.out hb5)
            have Z5 := HB5.out.size
            have hk5 := blk_cell HX5.out
            have hl5 := blk_lt HX5.out
            obtain ⟨hnum, -, -, cur5, hcur5, hcs5, hbg5⟩ := HO5.out.num
            have hc5 : CAt w5 (some ⟨g, 0, none⟩) S := OwnC.cat HO5.out
            obtain ⟨y, hy⟩ : ∃ y, S[P]? = some y := ⟨_, List.getElem?_eq_getElem (by have := HM.out; omega)⟩
            obtain ⟨y0, y1, y2, y3, y4, y5, y6, y7, y8⟩ := hc5.at hy
            simp only [Nat.zero_add] at y0 y1 y2 y3 y4 y5 y6 y7 y8
            have hf5 := blk_free hcur5
            have hlg5 := blk_lt hcur5
            have HPUT := Lib.hid (OwnR.put cc_len HO5.out (i := P) (by have := HM.out; omega) x)
            have HKP := Lib.hid (kept_sets (cc x) (o := P * 9) (Kept.refl g w5))
            have HGG := Lib.hid (HGE.out g 0 rfl)
            have HSE := Lib.hid (show S.set P x = S.take P ++ [x] from by
              rw [List.set_eq_take_append_cons_drop, if_pos (by have := HM.out; omega), List.drop_of_length_le (by have := HM.out; omega)])
            clear hb5 HO3 HX HB3 hcur5 hcs5 hbg5 hc5 hy hnum
            go_wp2
            go_roundw
            case rel => exact ⟨J + 1, by omega, by go_num, by rw [HST1.out, ← HSE.out]; exact HPUT.out, HB5.out.trans ((Rim.kept HKP.out).below HGG.out Z5)⟩
            case measure => simp [intOf]; omega
          · have HST1 := Lib.hid (show (T.take (J + 1)).foldl onS [] = S ++ [x] from by rw [HST.out]; (conv => lhs; rw [HSY.out]); exact (onS_other _ _ _ (kq_no (.inr h2))).trans (by rw [← HSY.out]))
            have h3 : ¬ y.i.toList = x.i.toList := fun e => h2 (str_inj e)
            rw [h1] at k0
            clear h1 h2 HST hd
            go_wp2_with fail
            haveI hIq : Nonempty (Of w4) := of_some _
            have hFa := of_cell k0
            have hFb := of_cell k1
            have hFc := of_cell k2
            have hFd := of_cell k3
            first | (refine wp_region_stay w4 (by kernel_rfl) (by kernel_rfl) (by go_grown) ?_) | (refine wp_region_stay_seq w4 (by go_grown) ?_)
            repeat (go_big_quiet_step (fail))
            refine wpQuiet_nil ?_
            intro w5 hb5
            clear hIq hFa hFb hFc hFd k0 k1 k2 k3
            
            have HO5 := Lib.hid (HO3.out.ext hb5)
            have HX5 := Lib.hid (blk_ext hb5 HX.out)
            have HB5 := Lib.hid (ext_trans HB3.out hb5)
            have Z5 := HB5.out.size
            have hk5 := blk_cell HX5.out
            have hl5 := blk_lt HX5.out
            have HO5' := Lib.hid (show w5.ownsRow w1.heap.size 49 9 (.slice (some ⟨g, 0, none⟩) (P + 1) gc) ((P + 1)) (flat cc S) from by have := HO5.out; unfold OwnC OwnR at this; rw [HM.out] at this; exact this)
            clear hb5 HO3 HX HB3
            go_wp2_with (at_builtin; refine wpList_append_own _ rfl _ _ 33 rfl (w1.heap.size) 49 i0 Cd.zero.v 9 88 Try.underlying33 hi hz0 hz1 hz2 rfl (by decide) _ ((P + 1)) (flat cc S) rfl (HO5'.out.alloc (.cells #[.string x.a, .string x.i, .int .i64 x.s, .int .i64 x.o, .int .i64 x.l, .int .i64 x.t, .int .i64 x.k, .int .i64 x.n, .bool x.g] 49)) ⟨w5.heap.size, 0, none⟩ 1 1 (cc x) rfl rfl ?c1 ?c2 ?c3 ?c4 ?c5 ?_)
            case c1 =>
              intro j u hj
              rw [add_off, Nat.zero_add, blk_cell (blk_new w5 #[.string x.a, .string x.i, .int .i64 x.s, .int .i64 x.o, .int .i64 x.l, .int .i64 x.t, .int .i64 x.k, .int .i64 x.n, .bool x.g] 49)]
              simpa [cc] using hj
            case c2 => exact cc_one x
            case c3 => unfold maxLen; omega
            case c4 => omega
            case c5 => simp; omega
            intro v7 w7 ho7 hg7 _
            have HB7 := Lib.hid ((HB5.out.alloc Z5 (.cells #[.string x.a, .string x.i, .int .i64 x.s, .int .i64 x.o, .int .i64 x.l, .int .i64 x.t, .int .i64 x.k, .int .i64 x.n, .bool x.g] 49)).grown hg7 (by simp; omega) (fun q hq => own_ge HO5'.out hq))
            have HO7 := Lib.hid (show OwnC w1.heap.size w7 v7 (S ++ [x]) by unfold OwnC OwnR; rw [flat_snoc, List.length_append, HM.out]; exact ho7)
            clear ho7 hg7 HO5 HO5' HX5 HB5 hk5 hl5
            go_wp2
            go_roundw
            case rel => exact ⟨J + 1, by omega, by go_num, by rw [HST1.out]; exact HO7.out, HB7.out⟩
            case measure => simp [intOf]; omega
        · have HST1 := Lib.hid (show (T.take (J + 1)).foldl onS [] = S ++ [x] from by rw [HST.out]; (conv => lhs; rw [HSY.out]); exact (onS_other _ _ _ (kq_no (.inl h1))).trans (by rw [← HSY.out]))
          have h3 : ¬ y.a.toList = x.a.toList := fun e => h1 (str_inj e)
          clear h1 HST hd
          go_wp2_with fail
          haveI hIq : Nonempty (Of w4) := of_some _
          have hFa := of_cell k0
          have hFb := of_cell k1
          have hFc := of_cell k2
          have hFd := of_cell k3
          first | (refine wp_region_stay w4 (by kernel_rfl) (by kernel_rfl) (by go_grown) ?_) | (refine wp_region_stay_seq w4 (by go_grown) ?_)
          repeat (go_big_quiet_step (fail))
          refine wpQuiet_nil ?_
          intro w5 hb5
          clear hIq hFa hFb hFc hFd k0 k1 k2 k3
          
          have HO5 := Lib.hid (HO3.out.ext hb5)
          have HX5 := Lib.hid (blk_ext hb5 HX.out)
          have HB5 := Lib.hid (ext_trans HB3.out hb5)
          have Z5 := HB5.out.size
          have hk5 := blk_cell HX5.out
          have hl5 := blk_lt HX5.out
          have HO5' := Lib.hid (show w5.ownsRow w1.heap.size 49 9 (.slice (some ⟨g, 0, none⟩) (P + 1) gc) ((P + 1)) (flat cc S) from by have := HO5.out; unfold OwnC OwnR at this; rw [HM.out] at this; exact this)
          clear hb5 HO3 HX HB3
          go_wp2_with (at_builtin; refine wpList_append_own _ rfl _ _ 33 rfl (w1.heap.size) 49 i0 Cd.zero.v 9 88 Try.underlying33 hi hz0 hz1 hz2 rfl (by decide) _ ((P + 1)) (flat cc S) rfl (HO5'.out.alloc (.cells #[.string x.a, .string x.i, .int .i64 x.s, .int .i64 x.o, .int .i64 x.l, .int .i64 x.t, .int .i64 x.k, .int .i64 x.n, .bool x.g] 49)) ⟨w5.heap.size, 0, none⟩ 1 1 (cc x) rfl rfl ?c1 ?c2 ?c3 ?c4 ?c5 ?_)
          case c1 =>
            intro j u hj
            rw [add_off, Nat.zero_add, blk_cell (blk_new w5 #[.string x.a, .string x.i, .int .i64 x.s, .int .i64 x.o, .int .i64 x.l, .int .i64 x.t, .int .i64 x.k, .int .i64 x.n, .bool x.g] 49)]
            simpa [cc] using hj
          case c2 => exact cc_one x
          case c3 => unfold maxLen; omega
          case c4 => omega
          case c5 => simp; omega
          intro v7 w7 ho7 hg7 _
          have HB7 := Lib.hid ((HB5.out.alloc Z5 (.cells #[.string x.a, .string x.i, .int .i64 x.s, .int .i64 x.o, .int .i64 x.l, .int .i64 x.t, .int .i64 x.k, .int .i64 x.n, .bool x.g] 49)).grown hg7 (by simp; omega) (fun q hq => own_ge HO5'.out hq))
          have HO7 := Lib.hid (show OwnC w1.heap.size w7 v7 (S ++ [x]) by unfold OwnC OwnR; rw [flat_snoc, List.length_append, HM.out]; exact ho7)
          clear ho7 hg7 HO5 HO5' HX5 HB5 hk5 hl5
          go_wp2
          go_roundw
          case rel => exact ⟨J + 1, by omega, by go_num, by rw [HST1.out]; exact HO7.out, HB7.out⟩
          case measure => simp [intOf]; omega
    · obtain rfl : J = n := by omega
      have HF := Lib.hid (show (T.take J).foldl onS [] = onc ls from by rw [List.take_of_length_le (by have := HTN.out; omega), ← HTT.out]; rfl)
      have Z1 := HB1.out.size
      go_wp2
      go_ret
      exact ⟨_, rfl, by rw [HF.out] at ho2; exact ho2.base Z1, ext_trans HB1.out hb2⟩

end Go.Proofs.Ytkhcgopehmndgaa

/- Rows of structs as they lie in memory, whatever their cells; own rows that are put in order. -/
namespace Go.Proofs.Ytkhcgopehmndgaa
open Go.RowKit
set_option linter.unusedVariables false
set_option linter.unusedSimpArgs false

section
variable {α : Type} {enc : α → List Value} {k : Nat} {T : TypeId}
/-- behind the address a the things ls lie -/
def SAt (enc : α → List Value) (k : Nat) (T : TypeId) (w : World) (a : Option Addr) (ls : List α) : Prop := ls = [] ∨ ∃ b o, a = some ⟨b, o, none⟩ ∧ (∃ cur, w.heap[b]? = some (.cells cur T (0, 0))) ∧ ∀ q u, (flat enc ls)[q]? = some u → w.cell? ⟨b, o + q, none⟩ = some u
theorem SAt.nil (w : World) (a : Option Addr) : SAt enc k T w a [] := .inl rfl
theorem SAt.keep {w w' : World} {a : Option Addr} {ls : List α} (h : SAt enc k T w a ls) (hk : ∀ (b : Nat) (cur : Array Value), w.heap[b]? = some (.cells cur T (0, 0)) → (∃ o, a = some ⟨b, o, none⟩) → w'.heap[b]? = w.heap[b]?) : SAt enc k T w' a ls := by
  rcases h with h | ⟨b, o, e, ⟨cur, hb⟩, h⟩
  · exact .inl h
  · have e1 := hk b cur hb ⟨o, e⟩
    exact .inr ⟨b, o, e, ⟨cur, e1.trans hb⟩, fun q u hq => (World.cell?_of_block (w := w) e1).trans (h q u hq)⟩
theorem SAt.ext {w w' : World} {a : Option Addr} {ls : List α} (h : SAt enc k T w a ls) (hb : Below w.heap.size w w') : SAt enc k T w' a ls :=
  h.keep fun b cur hc _ => hb.block b (blk_lt hc)
theorem SAt.drop (hk : ∀ x, (enc x).length = k) {w : World} {b o : Nat} {ls : List α} (n : Nat) (h : SAt enc k T w (some ⟨b, o, none⟩) ls) : SAt enc k T w (some ⟨b, o + n * k, none⟩) (ls.drop n) := by
  rcases h with h | ⟨b', o', e, hb, h⟩
  · left; simp [h]
  · simp at e
    obtain ⟨rfl, rfl⟩ := e
    refine .inr ⟨_, _, rfl, hb, fun q u hq => ?_⟩
    rw [← flat_drop hk, List.getElem?_drop] at hq
    rw [Nat.add_assoc]
    exact h _ _ hq
theorem SAt.take (hk : ∀ x, (enc x).length = k) {w : World} {a : Option Addr} {ls : List α} (n : Nat) (h : SAt enc k T w a ls) : SAt enc k T w a (ls.take n) := by
  rcases h with h | ⟨b, o, e, hb, h⟩
  · left; simp [h]
  · refine .inr ⟨b, o, e, hb, fun q u hq => h q u ?_⟩
    rw [← flat_take hk] at hq
    rcases Nat.lt_or_ge q (n * k) with h' | h'
    · rwa [List.getElem?_take_of_lt h'] at hq
    · rw [List.getElem?_eq_none (by simp; omega)] at hq; cases hq
/-- one cell of one of them -/
theorem SAt.get (hk : ∀ x, (enc x).length = k) {w : World} {b o i : Nat} {ls : List α} {x : α} (h : SAt enc k T w (some ⟨b, o, none⟩) ls) (hi : ls[i]? = some x) (q : Nat) (u : Value) (hq : (enc x)[q]? = some u) : w.cell? ⟨b, o + i * k + q, none⟩ = some u := by
  rcases h with h | ⟨b', o', e, hb, h⟩
  · rw [h] at hi; simp at hi
  · simp at e
    obtain ⟨rfl, rfl⟩ := e
    have hlt : q < k := by
      rcases Nat.lt_or_ge q k with h' | h'
      · exact h'
      · rw [List.getElem?_eq_none (by rw [hk]; exact h')] at hq; cases hq
    rw [Nat.add_assoc]
    exact h _ _ ((flat_at hk ls i x hi q hlt).trans hq)
/-- an own row, read -/
theorem OwnR.read (hk : ∀ x, (enc x).length = k) {base : Nat} {w : World} {v : Value} {ls : List α} (h : OwnR enc k T base w v ls) : ∃ a c, v = .slice a ls.length c ∧ ls.length ≤ c ∧ c ≤ maxLen ∧ SAt enc k T w a ls ∧ (∀ b o, a = some ⟨b, o, none⟩ → base ≤ b ∧ b < w.heap.size ∧ o = 0) ∧ ((a = none ∧ c = 0 ∧ ls = []) ∨ ∃ g, a = some ⟨g, 0, none⟩) := by
  obtain ⟨a, c, rfl, h1, h2, h3⟩ := h.form
  rcases h3 with ⟨rfl, rfl, e⟩ | ⟨g, rfl, h4, h5⟩
  · exact ⟨none, 0, rfl, h1, h2, .inl e, fun b o e => (by cases e), .inl ⟨rfl, rfl, e⟩⟩
  · refine ⟨_, c, rfl, h1, h2, .inr ⟨g, 0, rfl, ?_, fun q u hq => by rw [Nat.zero_add]; exact own_rd hk h hq⟩, fun b o e => (by cases e; exact ⟨h4, h5, rfl⟩), .inr ⟨g, rfl⟩⟩
    rcases h.2 with ⟨e, _⟩ | ⟨g', cap, cur, e, hg, hh, _⟩
    · cases e
    · simp only [Value.slice.injEq, Option.some.injEq, Addr.mk.injEq] at e
      obtain ⟨⟨rfl, -⟩, -⟩ := e
      exact ⟨cur, hh⟩
end

section
variable {α : Type} [Inhabited α] {enc : α → List Value} {k : Nat} {T : TypeId}
theorem flatG_list (hk : ∀ x, (enc x).length = k) (hk0 : 0 < k) (d : Array α) : (Go.Sort.flatK enc k d).toList = flat enc d.toList := by
  apply List.ext_getElem?
  intro t
  rw [Array.getElem?_toList]
  rcases Nat.lt_or_ge t (d.size * k) with h | h
  · have hi : t / k < d.toList.length := by rw [Array.length_toList]; exact Nat.div_lt_of_lt_mul (by rw [Nat.mul_comm]; exact h)
    have hm : t % k < k := Nat.mod_lt _ hk0
    have e : t = t / k * k + t % k := by rw [Nat.mul_comm]; exact (Nat.div_add_mod t k).symm
    have h1 : (flat enc d.toList)[t]? = (enc (d.toList[t / k]))[t % k]? := by
      conv => lhs; rw [e]
      exact flat_at hk d.toList (t / k) _ (List.getElem?_eq_getElem hi) (t % k) hm
    rw [h1]
    have h2 : t < (Go.Sort.flatK enc k d).size := by rw [Go.Sort.size_flatK]; exact h
    rw [Array.getElem?_eq_getElem h2]
    have h3 := Go.Sort.get_flatK enc k d t h
    rw [getElem!_pos _ t h2] at h3
    rw [h3]
    have h4 : d[t / k]! = d.toList[t / k] := by
      rw [Array.length_toList] at hi
      rw [getElem!_pos d (t / k) hi, Array.getElem_toList]
    rw [h4]
    have h5 : t % k < (enc (d.toList[t / k])).length := by rw [hk]; exact hm
    rw [getElem!_pos (enc (d.toList[t / k])) (t % k) h5, List.getElem?_eq_getElem h5]
  · rw [Array.getElem?_eq_none (by rw [Go.Sort.size_flatK]; exact h), List.getElem?_eq_none (by rw [flat_len hk, Array.length_toList]; exact h)]
theorem ownG_holds (hk : ∀ x, (enc x).length = k) (hk0 : 0 < k) {base : Nat} {w : World} {g n c : Nat} {ls : List α} (h : OwnR enc k T base w (.slice (some ⟨g, 0, none⟩) n c) ls) : Go.Sort.HoldsK enc k w g 0 ls.toArray ∧ g < w.heap.size := by
  have h0 := h
  rcases h.2 with ⟨e, _⟩ | ⟨g', cap, cur, e, hg, hh, hnc, hcm, hcs, ht⟩
  · cases e
  · simp only [Value.slice.injEq, Option.some.injEq, Addr.mk.injEq] at e
    obtain ⟨⟨rfl, -⟩, rfl, rfl⟩ := e
    refine ⟨fun j hj => ⟨?_, blk_free hh _⟩, blk_lt hh⟩
    rw [Nat.zero_add]
    refine own_rd hk h0 ?_
    have e1 := flatG_list hk hk0 ls.toArray
    rw [← e1, Array.getElem?_toList, Array.getElem?_eq_getElem hj, getElem!_pos (Go.Sort.flatK enc k ls.toArray) j hj]
    rfl
theorem putG_take (F cur : Array Value) (h : F.size ≤ cur.size) : (Go.Sort.putCells id 0 F cur).toList.take F.size = F.toList := by
  apply List.ext_getElem?
  intro t
  rcases Nat.lt_or_ge t F.size with h1 | h1
  · rw [List.getElem?_take_of_lt h1, Array.getElem?_toList, Array.getElem?_toList]
    unfold Go.Sort.putCells
    rw [Array.getElem?_mapIdx, Array.getElem?_eq_getElem (show t < cur.size from by omega), Option.map_some, if_pos ⟨by omega, by omega⟩, Array.getElem?_eq_getElem h1, Nat.sub_zero, getElem!_pos F t h1]
    rfl
  · rw [List.getElem?_eq_none (by simp; omega), List.getElem?_eq_none (by simpa using h1)]
theorem sortG_own (hk : ∀ x, (enc x).length = k) (hk0 : 0 < k) {base : Nat} {w : World} {g n c : Nat} {ls ms : List α} (h : OwnR enc k T base w (.slice (some ⟨g, 0, none⟩) n c) ls) (hn : ls.length = n) (hm : ms.length = n) (q : Nat) (os : Array Obj) (d : Array α) (hd : d.toList = ms) :
    OwnR enc k T base (sortWorldK enc k w g 0 q d os) (.slice (some ⟨g, 0, none⟩) n c) ms ∧ Rim g w (sortWorldK enc k w g 0 q d os) := by
  rcases h.2 with ⟨e, _⟩ | ⟨g', cap, cur, e, hg, hh, hnc, hcm, hcs, ht⟩
  · cases e
  · simp only [Value.slice.injEq, Option.some.injEq, Addr.mk.injEq] at e
    obtain ⟨⟨rfl, -⟩, -, rfl⟩ := e
    have hlt := blk_lt hh
    have hF : (Go.Sort.flatK enc k d).size = n * k := by rw [Go.Sort.size_flatK, ← Array.length_toList, hd, hm]
    have hb : (sortWorldK enc k w g 0 q d os).heap[g]? = some (.cells (Go.Sort.putCells id 0 (Go.Sort.flatK enc k d) cur) T (0, 0)) := by
      show (((w.heap.modify g _)) ++ os)[g]? = _
      rw [Array.getElem?_append_left (by simpa using hlt), Array.getElem?_modify, if_pos rfl, hh]
      rfl
    have hkk : ∀ j, j ≠ g → j < w.heap.size → (sortWorldK enc k w g 0 q d os).heap[j]? = w.heap[j]? := fun j hne hj => by
      show (((w.heap.modify g _)) ++ os)[j]? = _
      rw [Array.getElem?_append_left (by simpa using hj), Array.getElem?_modify, if_neg (fun e => hne e.symm)]
    rw [hn] at hnc
    refine ⟨⟨by rw [flat_len hk, hm], .inr ⟨g, c, _, by rw [hm], hg, hb, by rw [hm]; exact hnc, hcm, by rw [Go.Sort.putCells, Array.size_mapIdx]; exact hcs, ?_⟩⟩, ⟨rfl, rfl, rfl, ?_, hkk⟩⟩
    · rw [hm, ← hF, putG_take _ _ (by rw [hF, hcs]; exact Nat.mul_le_mul_right k hnc), flatG_list hk hk0, hd]
    · show _ ≤ (((w.heap.modify g _)) ++ os).size
      simp
end

end Go.Proofs.Ytkhcgopehmndgaa

/- Package gossip's walks: keys and stamps compared, of each key the last. -/
namespace Go.Proofs.Ytkhcgopehmndgaa
open Go.RowKit
set_option linter.unusedVariables false
set_option linter.unusedSimpArgs false

/-- grown, and some orders drawn -/
def Grew (w w' : World) : Prop := ∃ q os, w' = Go.Sort.grow (w.drewN q) os

theorem Grew.refl (w : World) : Grew w w := ⟨0, #[], by rw [Go.Sort.grow_empty]; rfl⟩

theorem Grew.alloc (w : World) (o : Obj) : Grew w (w.alloc o) := ⟨0, _, by rw [Go.Sort.alloc_eq_grow]; rfl⟩

theorem Grew.trans {a b c : World} (h : Grew a b) (k : Grew b c) : Grew a c := by
  obtain ⟨q, os, rfl⟩ := h
  obtain ⟨r, ot, rfl⟩ := k
  exact ⟨q + r, os ++ ot, by show Go.Sort.grow (Go.Sort.grow ((a.drewN q).drewN r) os) ot = _; rw [Go.Sort.grow_grow, World.drewN_drewN]⟩

theorem Grew.below {w w' : World} (h : Grew w w') : Below w.heap.size w w' := by
  obtain ⟨q, os, rfl⟩ := h
  refine ⟨rfl, rfl, rfl, by show _ ≤ (w.heap ++ os).size; simp, fun k hk => ?_⟩
  show (w.heap ++ os)[k]? = _
  rw [Array.getElem?_append_left hk]

set_option maxRecDepth 100000 in
set_option maxHeartbeats 1000000 in
theorem cardLess (a i b j : ByteArray) (w : World) :
    Calls Try.prog 58 #[.agg #[.string a, .string i], .agg #[.string b, .string j]] w fun e w' => e = .returned (.bool (decide (kc a i b j < 0))) ∧ Grew w w' := by
  go_enter Try.func58, Try.ntmps58
  go_wp2_with fail
  refine (cardCompare a i b j _).mono ?_
  rintro e w1 ⟨rfl, hg⟩
  have HG := Lib.hid (show Grew w w1 from ((Grew.alloc _ _).trans (Grew.alloc _ _)).trans hg)
  go_wp2
  go_ret
  exact ⟨rfl, HG.out⟩

/-- keys -/
abbrev Ky := ByteArray × ByteArray

def ky (k : Ky) : List Value := [.string k.1, .string k.2]

theorem ky_len (k : Ky) : (ky k).length = 2 := rfl

theorem ky_one (k : Ky) : ∀ u ∈ ky k, u.oneCell' = true := by
  intro u hu
  simp only [ky, List.mem_cons, List.not_mem_nil, or_false] at hu
  rcases hu with rfl | rfl <;> rfl

abbrev OwnK (base : Nat) (w : World) (v : Value) (ls : List Ky) : Prop := OwnR ky 2 31 base w v ls

abbrev KyAt (w : World) (a : Option Addr) (ls : List Ky) : Prop := SAt ky 2 31 w a ls

theorem KyAt.at {w : World} {b o i : Nat} {ls : List Ky} {x : Ky} (h : KyAt w (some ⟨b, o, none⟩) ls) (hi : ls[i]? = some x) :
    w.cell? ⟨b, o + i * 2, none⟩ = some (.string x.1) ∧ w.cell? ⟨b, o + i * 2 + 1, none⟩ = some (.string x.2) :=
  ⟨h.get ky_len hi 0 _ rfl, h.get ky_len hi 1 _ rfl⟩

theorem info_ky : (Try.prog.info? 31).map (fun i => (i.zero, i.size, i.bytes)) = some (some (.agg #[.string ⟨#[]⟩, .string ⟨#[]⟩]), 2, 32) := by kernel_rfl

def sLess (t k n t' k' n' : Int) : Bool := if t = t' then (if n = n' then decide (k < k') else decide (n < n')) else decide (t < t')

end Go.Proofs.Ytkhcgopehmndgaa

/- Rows of structs: copy, append of zeros, as runs. No word of the program. -/
namespace Go.Proofs.Ytkhcgopehmndgaa
open Go.RowKit
set_option linter.unusedVariables false
set_option linter.unusedSimpArgs false

theorem run_copyK {P : Program} (w : World) (dT sT ty elem : TypeId) (g o dLen dCap : Nat) (a : Addr) (sLen sCap : Nat) (cur : Array Value) (t : TypeId) (cs : List Value) (k : Nat)
    (hu : P.underlying dT = some (.slice elem)) (hs : (P.info? elem).map (·.size) = some k)
    (hg : w.heap[g]? = some (.cells cur t (0, 0))) (hn : cs.length = Nat.min sLen dLen * k)
    (hsrc : ∀ j v, cs[j]? = some v → w.cell? (a.add j) = some v) (hfit : o + cs.length ≤ cur.size) (h1 : ∀ v ∈ cs, v.oneCell' = true) :
    (Builtin.copy_ #[dT, sT] ty #[.slice (some ⟨g, o, none⟩) dLen dCap, .slice (some a) sLen sCap]).run P w =
      .ok (goInt (Nat.min sLen dLen)) (w.setRow g (cur.toList.take o ++ cs ++ cur.toList.drop (o + cs.length)).toArray) := by
  have hl := run_loadCells_list (P := P) w a cs hsrc
  have hst := run_storeCells_at P g o t cs 0 cur w hg (by simpa using hfit) h1
  cases hq : P.info? elem with
  | none => simp [hq] at hs
  | some i =>
    have hi : i.size = k := by simpa [hq] using hs
    simp [Builtin.copy_, run_underlying hu, Builtin.lenOf, Builtin.firstCells, sizeOf, typeInfo, hq, hi, ← hn, hl, hst]

theorem run_append_zeros_grow {P : Program} (w : World) (t tn ty e : TypeId) (i : TypeInfo) (z : Value) (kn : IntKind) (ht : P.underlying t = some (.slice e)) (htn : P.underlying tn = some (.int kn)) (hi : P.info? e = some i) (hz : i.zero = some z)
    (b : Addr) (sLen sCap : Nat) (olds : List Value) (hlo : olds.length = sLen * i.size) (holds : ∀ j v, olds[j]? = some v → w.cell? (b.add j) = some v)
    (n : Nat) (h0 : 0 < n) (hs : 0 < i.size) (hg : sCap < sLen + n) (h63 : ((sLen + n : Nat) : Int) ≤ 9223372036854775807) (h48 : n * i.bytes ≤ 281474976710656) (hfit : Builtin.nextslicecap (sLen + n) sCap * i.bytes ≤ 281474976710656) :
    (Builtin.append_ #[t, tn] ty #[.slice (some b) sLen sCap, .int .i64 n]).run P w =
      .ok (.slice (some ⟨w.heap.size, 0, none⟩) (sLen + n) (grownCap w (sLen + n) sCap e))
        (w.drew.alloc (.cells (olds.toArray ++ Builtin.zeroCells z.cells n ++ Builtin.zeroCells z.cells (grownCap w (sLen + n) sCap e - (sLen + n))) e)) := by
  have hn : ¬ (sLen + n ≤ sCap) := by omega
  have h63' : ¬ (9223372036854775807 < ((sLen : Int) + (n : Int))) := by omega
  have h48' : ¬ (281474976710656 < Builtin.nextslicecap (sLen + n) sCap * i.bytes) := by omega
  have hw : IntKind.i64.wrap (n : Int) = n := by rw [IntKind.wrap_i64]; omega
  have h48i : ¬ (281474976710656 < (n : Int) * (i.bytes : Int)) := by
    rw [← Int.natCast_mul]
    omega
  have hneg : ¬ ((n : Int) < 0) := by omega
  have hn0 : n ≠ 0 := by omega
  have hns : ¬ (n * i.size = 0) := Nat.mul_ne_zero hn0 (by omega)
  have hfo := run_firstCells_some (P := P) w.drew i.size sLen b sLen sCap olds hlo (by simpa using holds)
  simp [Builtin.append_, run_underlying ht, run_underlying htn, sizeOf, typeInfo, zeroValue, hi, hz, asInt, asIntOf, hw, hn, hn0, hneg, hns, h63', h48', h48i, Question.forced, hfo, newRow, grownCap]

/-- cells laid over a row -/
def lay (cur : List Value) (o : Nat) (cs : List Value) : List Value := cur.take o ++ cs ++ cur.drop (o + cs.length)
theorem lay_len (cur : List Value) (o : Nat) (cs : List Value) (h : o + cs.length ≤ cur.length) : (lay cur o cs).length = cur.length := by simp [lay]; omega
theorem lay_app (A M D cs : List Value) (h : cs.length = M.length) : lay (A ++ M ++ D) A.length cs = A ++ cs ++ D := by
  unfold lay
  rw [h, ← List.length_append, List.drop_left, List.append_assoc A M D, List.take_left]
/-- room made in place -/
theorem lay_shift (A B E D : List Value) (M : List Value) (k : Nat) (hE : E.length = k) (hk : M.length = B.length + k) : lay (lay (A ++ M ++ D) (A.length + k) B) A.length E = A ++ E ++ B ++ D := by
  have e1 : M = M.take k ++ M.drop k := (List.take_append_drop k M).symm
  have l1 : (M.take k).length = k := by simp; omega
  have l2 : (M.drop k).length = B.length := by simp; omega
  have s1 : lay (A ++ M ++ D) (A.length + k) B = A ++ M.take k ++ B ++ D := by
    have := lay_app (A ++ M.take k) (M.drop k) D B l2.symm
    rw [List.length_append, l1, List.append_assoc A, List.take_append_drop] at this
    exact this
  rw [s1]
  have := lay_app A (M.take k) (B ++ D) E (by rw [hE, l1])
  rw [← List.append_assoc, ← List.append_assoc] at this
  exact this
/-- laid into new room -/
theorem lay_new (A Z B E D : List Value) (k : Nat) (hE : E.length = k) (hz : Z.length = B.length + k) : lay (lay (A ++ Z ++ D) A.length E) (A.length + k) B = A ++ E ++ B ++ D := by
  have l1 : (Z.take k).length = k := by simp; omega
  have l2 : (Z.drop k).length = B.length := by simp; omega
  have s1 : lay (A ++ Z ++ D) A.length E = A ++ E ++ Z.drop k ++ D := by
    have := lay_app A (Z.take k) (Z.drop k ++ D) E (by rw [hE, l1])
    rw [← List.append_assoc, ← List.append_assoc, List.append_assoc A, List.take_append_drop] at this
    exact this
  rw [s1]
  have := lay_app (A ++ E) (Z.drop k) D B l2.symm
  rw [List.length_append, hE] at this
  exact this
end Go.Proofs.Ytkhcgopehmndgaa
