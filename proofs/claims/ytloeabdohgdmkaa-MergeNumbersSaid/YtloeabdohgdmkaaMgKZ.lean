/- Joined rows of cards. -/
import Derived.Test.YtloeabdohgdmkaaMgJZ
import Derived.Test.YtloeabdohgdmkaaHistZ
import Derived.Test.YtloeabdohgdmkaaSplitZ
namespace Go.Proofs.Ytloeabdohgdmkaa
open Go.RowKit
set_option linter.unusedVariables false
set_option linter.unusedSimpArgs false

theorem jn1_len (out : List Cd) (c : Cd) : (jn1 out c).length ≤ out.length + 1 := by
  rcases List.eq_nil_or_concat out with rfl | ⟨o, y, rfl⟩
  · simp [jn1_nil]
  · rw [List.concat_eq_append]
    by_cases h : y.a = c.a ∧ y.i = c.i
    · rw [jn1_same h.1 h.2]; simp
    · rw [jn1_other h]; simp
theorem jnL_len (ls : List Cd) : (jnL ls).length ≤ ls.length := by
  have key : ∀ (ls out : List Cd), (ls.foldl jn1 out).length ≤ out.length + ls.length := by
    intro ls
    induction ls with
    | nil => intro out; simp
    | cons x xs ih => intro out; have h1 := ih (jn1 out x); have h2 := jn1_len out x; simp only [List.foldl_cons, List.length_cons]; omega
  simpa [jnL] using key ls []
theorem cardJoin2U (y x u : Cd) (w : World) (h : jn2 y x = u) : Calls Try.prog 29 #[.agg #[.string y.a, .string y.i, .int .i64 y.s, .int .i64 y.o, .int .i64 y.l, .int .i64 y.t, .int .i64 y.k, .int .i64 y.n, .bool y.g], .agg #[.string x.a, .string x.i, .int .i64 x.s, .int .i64 x.o, .int .i64 x.l, .int .i64 x.t, .int .i64 x.k, .int .i64 x.n, .bool x.g]] w fun r w' => r = .returned (.agg #[.string u.a, .string u.i, .int .i64 u.s, .int .i64 u.o, .int .i64 u.l, .int .i64 u.t, .int .i64 u.k, .int .i64 u.n, .bool u.g]) ∧ Below w.heap.size w w' := by
  subst h
  exact cardJoin2 y x w
set_option maxRecDepth 100000 in
set_option maxHeartbeats 4000000 in
theorem mergeJoin (a : Option Addr) (n9 c : Nat) (rs : List Rw) (L : List Cd) (w : World) (h : RwsAt w a rs) (hl : rs.length = n9) (hn9 : n9 ≤ 1000) (hL : alls rs = L) (hn : L.length ≤ 1000) :
    Calls Try.prog 9 #[.slice a n9 c] w fun r w' => ∃ v', r = .returned v' ∧ OwnC w.heap.size w' v' (jnL (srt klt L)) ∧ Below w.heap.size w w' := by
  obtain ⟨i0, hi, hz0, hz1, hz2⟩ := info_parts' info_card
  have HR := Lib.hid h
  have HLL := Lib.hid hL
  have HN9 := Lib.hid hl
  clear h hl hL
  go_enter Try.func9, Try.ntmps9
  go_wp2_with fail
  refine (concatC a n9 c rs w HR.out HN9.out hn9 (by rw [HLL.out]; omega)).mono ?_
  rintro e w0 ⟨v0, rfl, ho0, hb0⟩
  rw [HLL.out] at ho0
  obtain ⟨n, hnl⟩ : ∃ n, L.length = n := ⟨_, rfl⟩
  obtain ⟨a0, c0, rfl, hc0, hm0, hat0, -, hf0⟩ := ho0.read
  rw [hnl] at hc0 ⊢
  rw [hnl] at hn
  have HN := Lib.hid hnl
  have HA := Lib.hid hat0
  have HB0 := Lib.hid hb0
  have hff : (a0 = none ∧ c0 = 0) ∨ ∃ b o, a0 = some ⟨b, o, none⟩ := by
    rcases hf0 with ⟨h1, h2, -⟩ | ⟨g, h1⟩
    · exact .inl ⟨h1, h2⟩
    · exact .inr ⟨g, 0, h1⟩
  clear ho0 hb0 hat0 hf0 hnl
  go_wp2_with fail
  refine (cardSortAny a0 n c0 L w0 HA.out HN.out hn hff).mono ?_
  rintro e w1 ⟨vs, rfl, hos, hbs⟩
  obtain ⟨T, hT⟩ : ∃ T, srt klt L = T := ⟨_, rfl⟩
  have hTn : T.length = n := by rw [← hT, srt_len, HN.out]
  rw [hT] at hos
  obtain ⟨ta, tc, rfl, htc, htm, htat, -, htf⟩ := hos.read
  rw [hTn] at htc ⊢
  have HTT := Lib.hid hT
  have HTN := Lib.hid hTn
  have HTA := Lib.hid htat
  have HB1 := Lib.hid (ext_trans HB0.out hbs)
  unfold maxLen at htm
  clear hos hbs hT hTn htat HA hff
  go_wp2_with fail
  go_loopw [3, 11] (fun g j wr => ∃ J : Nat, J ≤ n ∧ j = .int .i64 (J : Int) ∧ OwnC w1.heap.size wr g (jnL (T.take J)) ∧ Below w1.heap.size w1 wr) (fun g j _ => n - (intOf j).toNat)
  case atStart => exact ⟨0, by omega, rfl, OwnR.nil _ _, Below.refl _ _⟩
  case round =>
    obtain ⟨w2, rfl⟩ : ∃ y : World, y = wr := ⟨_, rfl⟩
    obtain ⟨J, hJ, rfl, ho2, hb2⟩ := hrel
    by_cases hlt : J < n
    · obtain ⟨x, hx⟩ : ∃ x, T[J]? = some x := ⟨_, List.getElem?_eq_getElem (by have := HTN.out; omega)⟩
      obtain ⟨S, hS⟩ : ∃ S, jnL (T.take J) = S := ⟨_, rfl⟩
      have HST := Lib.hid (show jnL (T.take (J + 1)) = jn1 S x from by rw [List.take_add_one, hx]; show jnL (T.take J ++ [x]) = _; rw [jnL_snoc, hS])
      rw [hS] at ho2
      obtain ⟨m, hm⟩ : ∃ m, S.length = m := ⟨_, rfl⟩
      have hm1 : m ≤ 1000 := by have := jnL_len (T.take J); rw [hS, List.length_take, hm] at this; omega
      obtain ⟨tb, tof, rfl⟩ : ∃ b o, ta = some ⟨b, o, none⟩ := by
        rcases HTA.out with h | ⟨b, o, e, _⟩
        · rw [h] at hx; simp at hx
        · exact ⟨b, o, e⟩
      obtain ⟨x0, x1, x2, x3, x4, x5, x6, x7, x8⟩ := (HTA.out.ext hb2).at hx
      obtain ⟨ga, gc, hgv, hgc, hgm, hgat, hgb, hgf⟩ := ho2.read
      rw [hm] at hgc hgv
      subst hgv
      have D0 : Below w2.heap.size w2 (w2.alloc (.cells #[.string x.a, .string x.i, .int .i64 x.s, .int .i64 x.o, .int .i64 x.l, .int .i64 x.t, .int .i64 x.k, .int .i64 x.n, .bool x.g] 34)) := (Below.refl _ _).alloc (Nat.le_refl _) _
      have HX := Lib.hid (blk_new w2 #[.string x.a, .string x.i, .int .i64 x.s, .int .i64 x.o, .int .i64 x.l, .int .i64 x.t, .int .i64 x.k, .int .i64 x.n, .bool x.g] 34)
      have HO3 := Lib.hid (ho2.ext D0)
      have HB3 := Lib.hid (ext_trans hb2 D0)
      have HM := Lib.hid hm
      have HRN := Lib.hid (show ∀ g o, ga = some ⟨g, o, none⟩ → g ≠ w2.heap.size from fun g o e => by have := (hgb g o e).2.1; omega)
      have HGE := Lib.hid (show ∀ g o, ga = some ⟨g, o, none⟩ → w1.heap.size ≤ g from fun g o e => (hgb g o e).1)
      unfold maxLen at hgm
      clear ho2 hb2 hx hS hm D0 hgat hgb
      go_upto_region 5 with (fail)
      obtain ⟨r, hr⟩ : ∃ r, w2.heap.size = r := ⟨_, rfl⟩
      rw [hr] at HX HRN ⊢
      clear hr
      generalize (w2.alloc (.cells #[.string x.a, .string x.i, .int .i64 x.s, .int .i64 x.o, .int .i64 x.l, .int .i64 x.t, .int .i64 x.k, .int .i64 x.n, .bool x.g] 34)) = w4 at *
      clear x0 x1 x2 x3 x4 x5 x6 x7 x8
      by_cases hm0 : m = 0
      · have hd : decide ((0 : Int) < (m : Int)) = false := by simp; omega
        have hd0 : decide (0 < m) = false := by simp; omega
        have HST1 := Lib.hid (show jnL (T.take (J + 1)) = S ++ [x] from by rw [HST.out, List.eq_nil_of_length_eq_zero (HM.out.trans hm0)]; rfl)
        clear hm0 HST
        go_wp2_with fail
        haveI hIq : Nonempty (Of w4) := of_some _
        first | (refine wp_region_stay w4 (by kernel_rfl) (by kernel_rfl) (by go_grown) ?_) | (refine wp_region_stay_seq w4 (by go_grown) ?_)
        repeat (go_big_quiet_step (fail))
        refine wpQuiet_nil ?_
        intro w5 hb5
        clear hIq
        
        have HO5 := Lib.hid (HO3.out.ext hb5)
        have HX5 := Lib.hid (blk_ext hb5 HX.out)
        have HB5 := Lib.hid (ext_trans HB3.out hb5)
        have Z5 := HB5.out.size
        have hk5 := blk_cell HX5.out
        have hl5 := blk_lt HX5.out
        have HO5' := Lib.hid (show w5.ownsRow w1.heap.size 34 9 (.slice ga m gc) (m) (flat cc S) from by have := HO5.out; unfold OwnC OwnR at this; rw [HM.out] at this; exact this)
        clear hb5 HO3 HX HB3
        go_wp2_with (at_builtin; refine wpList_append_own _ rfl _ _ 28 rfl (w1.heap.size) 34 i0 Cd.zero.v 9 88 Try.underlying28 hi hz0 hz1 hz2 rfl (by decide) _ (m) (flat cc S) rfl (HO5'.out.alloc (.cells #[.string x.a, .string x.i, .int .i64 x.s, .int .i64 x.o, .int .i64 x.l, .int .i64 x.t, .int .i64 x.k, .int .i64 x.n, .bool x.g] 34)) ⟨w5.heap.size, 0, none⟩ 1 1 (cc x) rfl rfl ?c1 ?c2 ?c3 ?c4 ?c5 ?_)
        case c1 =>
          intro j u hj
          rw [add_off, Nat.zero_add, blk_cell (blk_new w5 #[.string x.a, .string x.i, .int .i64 x.s, .int .i64 x.o, .int .i64 x.l, .int .i64 x.t, .int .i64 x.k, .int .i64 x.n, .bool x.g] 34)]
          simpa [cc] using hj
        case c2 => exact cc_one x
        case c3 => unfold maxLen; omega
        case c4 => omega
        case c5 => simp; omega
        intro v7 w7 ho7 hg7 _
        have HB7 := Lib.hid ((HB5.out.alloc Z5 (.cells #[.string x.a, .string x.i, .int .i64 x.s, .int .i64 x.o, .int .i64 x.l, .int .i64 x.t, .int .i64 x.k, .int .i64 x.n, .bool x.g] 34)).grown hg7 (by simp; omega) (fun q hq => own_ge HO5'.out hq))
        have HO7 := Lib.hid (show OwnC w1.heap.size w7 v7 (S ++ [x]) by unfold OwnC OwnR; rw [flat_snoc, List.length_append, HM.out]; exact ho7)
        clear ho7 hg7 HO5 HO5' HX5 HB5 hk5 hl5
        go_wp2
        go_roundw
        case rel => exact ⟨J + 1, by omega, by go_num, by rw [HST1.out]; exact HO7.out, HB7.out⟩
        case measure => simp [intOf]; omega
      · obtain ⟨P, rfl⟩ : ∃ P, m = P + 1 := ⟨m - 1, by omega⟩
        obtain ⟨y, hy⟩ : ∃ y, S[P]? = some y := ⟨_, List.getElem?_eq_getElem (by have := HM.out; omega)⟩
        obtain ⟨g, rfl⟩ : ∃ g, ga = some ⟨g, 0, none⟩ := by
          rcases hgf with ⟨_, _, e⟩ | ⟨g, e⟩
          · rw [e] at hy; simp at hy
          · exact ⟨g, e⟩
        have HY9 := Lib.hid hy
        have HSY := Lib.hid (show S = S.take P ++ [y] from by
          have h1 : S = S.take (P + 1) := by rw [List.take_of_length_le (by have := HM.out; omega)]
          conv => lhs; rw [h1, List.take_add_one, hy]
          rfl)
        have hc4 : CAt w4 (some ⟨g, 0, none⟩) S := OwnC.cat HO3.out
        obtain ⟨k0, k1, -⟩ := hc4.at hy
        rw [Nat.zero_add] at k0 k1
        have k2 : w4.cell? ⟨r, 0, none⟩ = some (.string x.a) := by rw [blk_cell HX.out]; rfl
        have k3 : w4.cell? ⟨r, 1, none⟩ = some (.string x.i) := by rw [blk_cell HX.out]; rfl
        have hd : decide ((0 : Int) < (P : Int) + 1) = true := decide_eq_true (by omega)
        clear hy hc4 hgf
        by_cases h1 : y.a = x.a
        · by_cases h2 : y.i = x.i
          · have HST1 := Lib.hid (show jnL (T.take (J + 1)) = S.take P ++ [jn2 y x] from by rw [HST.out]; (conv => lhs; rw [HSY.out]); exact jn1_same h1 h2)
            rw [h1] at k0
            rw [h2] at k1
            clear h1 h2 HST
            go_wp2_with fail
            haveI hIq : Nonempty (Of w4) := of_some _
            have hFa := of_cell k0
            have hFb := of_cell k1
            have hFc := of_cell k2
            have hFd := of_cell k3
            first | (refine wp_region_stay w4 (by kernel_rfl) (by kernel_rfl) (by go_grown) ?_) | (refine wp_region_stay_seq w4 (by go_grown) ?_)
            repeat (go_big_quiet_step (fail))
            refine wpQuiet_nil ?_
            intro w5 hb5
            clear hIq hFa hFb hFc hFd k0 k1 k2 k3
            
            have HO5 := Lib.hid (HO3.out.ext hb5)
            have HX5 := Lib.hid (blk_ext hb5 HX.out)
            have HB5 := Lib.hid (ext_trans HB3.out hb5)
            have Z5 := HB5.out.size
            obtain ⟨hnum, -, -, cur5, hcur5, hcs5, hbg5⟩ := HO5.out.num
            have hc5 : CAt w5 (some ⟨g, 0, none⟩) S := OwnC.cat HO5.out
            have hy : S[P]? = some y := HY9.out
            obtain ⟨y0, y1, y2, y3, y4, y5, y6, y7, y8⟩ := hc5.at hy
            simp only [Nat.zero_add] at y0 y1 y2 y3 y4 y5 y6 y7 y8
            have HC5 := Lib.hid hcur5
            have HGG := Lib.hid (HGE.out g 0 rfl)
            obtain ⟨u, hu⟩ : ∃ u, jn2 y x = u := ⟨_, rfl⟩
            rw [hu] at HST1
            have HU := Lib.hid hu
            have HSE := Lib.hid (show S.set P u = S.take P ++ [u] from by
              rw [List.set_eq_take_append_cons_drop, if_pos (by have := HM.out; omega), List.drop_of_length_le (by have := HM.out; omega)])
            clear hb5 HO3 HX HB3 hcur5 hcs5 hbg5 hc5 hy hnum hu
            go_upto_region 7 with (fail)
            have HG6 := Lib.hid (show (w5.drew).heap[g]? = _ from blk_drew HC5.out)
            have HX6 := Lib.hid (show (w5.drew).heap[r]? = _ from blk_drew HX5.out)
            have HO6 := Lib.hid (HO5.out.ext ((Below.refl w5.heap.size w5).drew))
            have HB6 := Lib.hid (ext_trans HB5.out ((Below.refl w5.heap.size w5).drew))
            haveI hI0 : Nonempty (In (fun W : World => W.heap[g]? = some (.cells cur5 34 (0, 0)) ∧ W.heap[r]? = some (.cells #[.string x.a, .string x.i, .int .i64 x.s, .int .i64 x.o, .int .i64 x.l, .int .i64 x.t, .int .i64 x.k, .int .i64 x.n, .bool x.g] 34 (0, 0)))) := ⟨⟨_, HG6.out, HX6.out⟩⟩
            have hL0 : ∀ q : In (fun W : World => W.heap[g]? = some (.cells cur5 34 (0, 0)) ∧ W.heap[r]? = some (.cells #[.string x.a, .string x.i, .int .i64 x.s, .int .i64 x.o, .int .i64 x.l, .int .i64 x.t, .int .i64 x.k, .int .i64 x.n, .bool x.g] 34 (0, 0))), g < q.w.heap.size := fun q => blk_lt q.h.1
            have hM0 : ∀ q : In (fun W : World => W.heap[g]? = some (.cells cur5 34 (0, 0)) ∧ W.heap[r]? = some (.cells #[.string x.a, .string x.i, .int .i64 x.s, .int .i64 x.o, .int .i64 x.l, .int .i64 x.t, .int .i64 x.k, .int .i64 x.n, .bool x.g] 34 (0, 0))), r < q.w.heap.size := fun q => blk_lt q.h.2
            have hB0_0 : ∀ q : In (fun W : World => W.heap[g]? = some (.cells cur5 34 (0, 0)) ∧ W.heap[r]? = some (.cells #[.string x.a, .string x.i, .int .i64 x.s, .int .i64 x.o, .int .i64 x.l, .int .i64 x.t, .int .i64 x.k, .int .i64 x.n, .bool x.g] 34 (0, 0))), q.w.cell? ⟨r, 0, none⟩ = some (.string x.a) := fun q => by rw [blk_cell q.h.2]; rfl
            have hB0_1 : ∀ q : In (fun W : World => W.heap[g]? = some (.cells cur5 34 (0, 0)) ∧ W.heap[r]? = some (.cells #[.string x.a, .string x.i, .int .i64 x.s, .int .i64 x.o, .int .i64 x.l, .int .i64 x.t, .int .i64 x.k, .int .i64 x.n, .bool x.g] 34 (0, 0))), q.w.cell? ⟨r, 1, none⟩ = some (.string x.i) := fun q => by rw [blk_cell q.h.2]; rfl
            have hB0_2 : ∀ q : In (fun W : World => W.heap[g]? = some (.cells cur5 34 (0, 0)) ∧ W.heap[r]? = some (.cells #[.string x.a, .string x.i, .int .i64 x.s, .int .i64 x.o, .int .i64 x.l, .int .i64 x.t, .int .i64 x.k, .int .i64 x.n, .bool x.g] 34 (0, 0))), q.w.cell? ⟨r, 2, none⟩ = some (.int .i64 x.s) := fun q => by rw [blk_cell q.h.2]; rfl
            have hB0_3 : ∀ q : In (fun W : World => W.heap[g]? = some (.cells cur5 34 (0, 0)) ∧ W.heap[r]? = some (.cells #[.string x.a, .string x.i, .int .i64 x.s, .int .i64 x.o, .int .i64 x.l, .int .i64 x.t, .int .i64 x.k, .int .i64 x.n, .bool x.g] 34 (0, 0))), q.w.cell? ⟨r, 3, none⟩ = some (.int .i64 x.o) := fun q => by rw [blk_cell q.h.2]; rfl
            have hB0_4 : ∀ q : In (fun W : World => W.heap[g]? = some (.cells cur5 34 (0, 0)) ∧ W.heap[r]? = some (.cells #[.string x.a, .string x.i, .int .i64 x.s, .int .i64 x.o, .int .i64 x.l, .int .i64 x.t, .int .i64 x.k, .int .i64 x.n, .bool x.g] 34 (0, 0))), q.w.cell? ⟨r, 4, none⟩ = some (.int .i64 x.l) := fun q => by rw [blk_cell q.h.2]; rfl
            have hB0_5 : ∀ q : In (fun W : World => W.heap[g]? = some (.cells cur5 34 (0, 0)) ∧ W.heap[r]? = some (.cells #[.string x.a, .string x.i, .int .i64 x.s, .int .i64 x.o, .int .i64 x.l, .int .i64 x.t, .int .i64 x.k, .int .i64 x.n, .bool x.g] 34 (0, 0))), q.w.cell? ⟨r, 5, none⟩ = some (.int .i64 x.t) := fun q => by rw [blk_cell q.h.2]; rfl
            have hB0_6 : ∀ q : In (fun W : World => W.heap[g]? = some (.cells cur5 34 (0, 0)) ∧ W.heap[r]? = some (.cells #[.string x.a, .string x.i, .int .i64 x.s, .int .i64 x.o, .int .i64 x.l, .int .i64 x.t, .int .i64 x.k, .int .i64 x.n, .bool x.g] 34 (0, 0))), q.w.cell? ⟨r, 6, none⟩ = some (.int .i64 x.k) := fun q => by rw [blk_cell q.h.2]; rfl
            have hB0_7 : ∀ q : In (fun W : World => W.heap[g]? = some (.cells cur5 34 (0, 0)) ∧ W.heap[r]? = some (.cells #[.string x.a, .string x.i, .int .i64 x.s, .int .i64 x.o, .int .i64 x.l, .int .i64 x.t, .int .i64 x.k, .int .i64 x.n, .bool x.g] 34 (0, 0))), q.w.cell? ⟨r, 7, none⟩ = some (.int .i64 x.n) := fun q => by rw [blk_cell q.h.2]; rfl
            have hB0_8 : ∀ q : In (fun W : World => W.heap[g]? = some (.cells cur5 34 (0, 0)) ∧ W.heap[r]? = some (.cells #[.string x.a, .string x.i, .int .i64 x.s, .int .i64 x.o, .int .i64 x.l, .int .i64 x.t, .int .i64 x.k, .int .i64 x.n, .bool x.g] 34 (0, 0))), q.w.cell? ⟨r, 8, none⟩ = some (.bool x.g) := fun q => by rw [blk_cell q.h.2]; rfl
            have hY0_0 : ∀ q : In (fun W : World => W.heap[g]? = some (.cells cur5 34 (0, 0)) ∧ W.heap[r]? = some (.cells #[.string x.a, .string x.i, .int .i64 x.s, .int .i64 x.o, .int .i64 x.l, .int .i64 x.t, .int .i64 x.k, .int .i64 x.n, .bool x.g] 34 (0, 0))), q.w.cell? ⟨g, P * 9, none⟩ = some (.string y.a) := fun q => (World.cell?_of_block (w := w5) (q.h.1.trans HC5.out.symm)).trans y0
            have hY0_1 : ∀ q : In (fun W : World => W.heap[g]? = some (.cells cur5 34 (0, 0)) ∧ W.heap[r]? = some (.cells #[.string x.a, .string x.i, .int .i64 x.s, .int .i64 x.o, .int .i64 x.l, .int .i64 x.t, .int .i64 x.k, .int .i64 x.n, .bool x.g] 34 (0, 0))), q.w.cell? ⟨g, P * 9 + 1, none⟩ = some (.string y.i) := fun q => (World.cell?_of_block (w := w5) (q.h.1.trans HC5.out.symm)).trans y1
            have hY0_2 : ∀ q : In (fun W : World => W.heap[g]? = some (.cells cur5 34 (0, 0)) ∧ W.heap[r]? = some (.cells #[.string x.a, .string x.i, .int .i64 x.s, .int .i64 x.o, .int .i64 x.l, .int .i64 x.t, .int .i64 x.k, .int .i64 x.n, .bool x.g] 34 (0, 0))), q.w.cell? ⟨g, P * 9 + 2, none⟩ = some (.int .i64 y.s) := fun q => (World.cell?_of_block (w := w5) (q.h.1.trans HC5.out.symm)).trans y2
            have hY0_3 : ∀ q : In (fun W : World => W.heap[g]? = some (.cells cur5 34 (0, 0)) ∧ W.heap[r]? = some (.cells #[.string x.a, .string x.i, .int .i64 x.s, .int .i64 x.o, .int .i64 x.l, .int .i64 x.t, .int .i64 x.k, .int .i64 x.n, .bool x.g] 34 (0, 0))), q.w.cell? ⟨g, P * 9 + 3, none⟩ = some (.int .i64 y.o) := fun q => (World.cell?_of_block (w := w5) (q.h.1.trans HC5.out.symm)).trans y3
            have hY0_4 : ∀ q : In (fun W : World => W.heap[g]? = some (.cells cur5 34 (0, 0)) ∧ W.heap[r]? = some (.cells #[.string x.a, .string x.i, .int .i64 x.s, .int .i64 x.o, .int .i64 x.l, .int .i64 x.t, .int .i64 x.k, .int .i64 x.n, .bool x.g] 34 (0, 0))), q.w.cell? ⟨g, P * 9 + 4, none⟩ = some (.int .i64 y.l) := fun q => (World.cell?_of_block (w := w5) (q.h.1.trans HC5.out.symm)).trans y4
            have hY0_5 : ∀ q : In (fun W : World => W.heap[g]? = some (.cells cur5 34 (0, 0)) ∧ W.heap[r]? = some (.cells #[.string x.a, .string x.i, .int .i64 x.s, .int .i64 x.o, .int .i64 x.l, .int .i64 x.t, .int .i64 x.k, .int .i64 x.n, .bool x.g] 34 (0, 0))), q.w.cell? ⟨g, P * 9 + 5, none⟩ = some (.int .i64 y.t) := fun q => (World.cell?_of_block (w := w5) (q.h.1.trans HC5.out.symm)).trans y5
            have hY0_6 : ∀ q : In (fun W : World => W.heap[g]? = some (.cells cur5 34 (0, 0)) ∧ W.heap[r]? = some (.cells #[.string x.a, .string x.i, .int .i64 x.s, .int .i64 x.o, .int .i64 x.l, .int .i64 x.t, .int .i64 x.k, .int .i64 x.n, .bool x.g] 34 (0, 0))), q.w.cell? ⟨g, P * 9 + 6, none⟩ = some (.int .i64 y.k) := fun q => (World.cell?_of_block (w := w5) (q.h.1.trans HC5.out.symm)).trans y6
            have hY0_7 : ∀ q : In (fun W : World => W.heap[g]? = some (.cells cur5 34 (0, 0)) ∧ W.heap[r]? = some (.cells #[.string x.a, .string x.i, .int .i64 x.s, .int .i64 x.o, .int .i64 x.l, .int .i64 x.t, .int .i64 x.k, .int .i64 x.n, .bool x.g] 34 (0, 0))), q.w.cell? ⟨g, P * 9 + 7, none⟩ = some (.int .i64 y.n) := fun q => (World.cell?_of_block (w := w5) (q.h.1.trans HC5.out.symm)).trans y7
            have hY0_8 : ∀ q : In (fun W : World => W.heap[g]? = some (.cells cur5 34 (0, 0)) ∧ W.heap[r]? = some (.cells #[.string x.a, .string x.i, .int .i64 x.s, .int .i64 x.o, .int .i64 x.l, .int .i64 x.t, .int .i64 x.k, .int .i64 x.n, .bool x.g] 34 (0, 0))), q.w.cell? ⟨g, P * 9 + 8, none⟩ = some (.bool y.g) := fun q => (World.cell?_of_block (w := w5) (q.h.1.trans HC5.out.symm)).trans y8
            refine wp_region_split 11 1 10 rfl rfl (by kernel_rfl) (by kernel_rfl) (by kernel_rfl) (by kernel_rfl) (by kernel_rfl) ?_
            simp only [List.take_succ_cons, List.take_zero]
            refine wpAny_hist (fun W : World => W.heap[g]? = some (.cells cur5 34 (0, 0)) ∧ W.heap[r]? = some (.cells #[.string x.a, .string x.i, .int .i64 x.s, .int .i64 x.o, .int .i64 x.l, .int .i64 x.t, .int .i64 x.k, .int .i64 x.n, .bool x.g] 34 (0, 0))) (by kernel_rfl) (by kernel_rfl) ⟨HG6.out, HX6.out⟩ ?_
            generalize w5.drew = w6 at *
            repeat (first | (refine Hist.wpG_plain 0 _ (by decide +kernel) rfl (by rfl) (by rfl) (fun K hK => ?_); go_big_quiet_op; refine hK _ ?_; clear hK K))
            refine Hist.wpG_call (by rfl) (by rfl) (fun K hK => ?_)
            go_big_op
            refine (cardJoin2U y x u w6 HU.out).mono ?_
            rintro e w7 ⟨rfl, hb7⟩
            have HG7 := Lib.hid (blk_ext hb7 HG6.out)
            have HX7 := Lib.hid (blk_ext hb7 HX6.out)
            have HO7 := Lib.hid (HO6.out.ext hb7)
            have HB7 := Lib.hid (ext_trans HB6.out hb7)
            have Z7 := HB7.out.size
            refine hK _ _ ⟨(fun W : World => W.heap[g]? = some (.cells cur5 34 (0, 0)) ∧ W.heap[r]? = some (.cells #[.string x.a, .string x.i, .int .i64 x.s, .int .i64 x.o, .int .i64 x.l, .int .i64 x.t, .int .i64 x.k, .int .i64 x.n, .bool x.g] 34 (0, 0))), (by simp only [List.cons_append, List.nil_append, List.forall_mem_cons]; repeat' (first | exact ⟨HG7.out, HX7.out⟩ | (intro _ h; cases h; done) | (exact trivial) | constructor)), ?_⟩
            clear hK K hb7 HG6 HX6 HO6 HB6
            repeat (first | (refine Hist.wpG_plain 1 _ (by decide +kernel) rfl (by rfl) (by rfl) (fun K hK => ?_); go_big_quiet_op; refine hK _ ?_; clear hK K) | (refine Hist.wpG_plain 0 _ (by decide +kernel) rfl (by rfl) (by rfl) (fun K hK => ?_); go_big_quiet_op; refine hK _ ?_; clear hK K))
            refine Hist.wpG_nil ?_
            have hgf := blk_free HG7.out
            have hgl := blk_lt HG7.out
            have hgc := fun q => (World.cell?_of_block (w := w5) (a := ⟨g, q, none⟩) (w' := w7) (HG7.out.trans HC5.out.symm))
            have z0 := (hgc (P * 9)).trans y0
            have z1 := (hgc (P * 9 + 1)).trans y1
            have z2 := (hgc (P * 9 + 2)).trans y2
            have z3 := (hgc (P * 9 + 3)).trans y3
            have z4 := (hgc (P * 9 + 4)).trans y4
            have z5 := (hgc (P * 9 + 5)).trans y5
            have z6 := (hgc (P * 9 + 6)).trans y6
            have z7 := (hgc (P * 9 + 7)).trans y7
            have z8 := (hgc (P * 9 + 8)).trans y8
            clear hgc y0 y1 y2 y3 y4 y5 y6 y7 y8
            clear hI0 hL0 hM0 hB0_0 hY0_0 hB0_1 hY0_1 hB0_2 hY0_2 hB0_3 hY0_3 hB0_4 hY0_4 hB0_5 hY0_5 hB0_6 hY0_6 hB0_7 hY0_7 hB0_8 hY0_8
            have HPUT := Lib.hid (OwnR.put cc_len HO7.out (i := P) (by have := HM.out; omega) u)
            have HKP := Lib.hid (kept_sets (cc u) (o := P * 9) (Kept.refl g w7))
            simp only [behind]
            refine wpAny_one 11 _ (by kernel_rfl) rfl ?_
            refine wpOp_do (by simp only [List.getElem?_toArray, List.getElem?_cons_succ, List.getElem?_cons_zero]; rfl) (by rfl) (fun K hK => ?_)
            go_big_op
            refine hK _ _ ?_
            clear hK K
            refine wpAny_end (by kernel_rfl) ?_
            go_wp2
            go_roundw
            case rel => exact ⟨J + 1, by omega, by go_num, by rw [HST1.out, ← HSE.out]; exact HPUT.out, HB7.out.trans ((Rim.kept HKP.out).below HGG.out Z7)⟩
            case measure => simp [intOf]; omega
          · have HST1 := Lib.hid (show jnL (T.take (J + 1)) = S ++ [x] from by rw [HST.out]; (conv => lhs; rw [HSY.out]); exact (jn1_other (fun q => h2 q.2)).trans (by rw [← HSY.out]))
            have h3 : ¬ y.i.toList = x.i.toList := fun e => h2 (str_inj e)
            rw [h1] at k0
            clear h1 h2 HST hd
            go_wp2_with fail
            haveI hIq : Nonempty (Of w4) := of_some _
            have hFa := of_cell k0
            have hFb := of_cell k1
            have hFc := of_cell k2
            have hFd := of_cell k3
            first | (refine wp_region_stay w4 (by kernel_rfl) (by kernel_rfl) (by go_grown) ?_) | (refine wp_region_stay_seq w4 (by go_grown) ?_)
            repeat (go_big_quiet_step (fail))
            refine wpQuiet_nil ?_
            intro w5 hb5
            clear hIq hFa hFb hFc hFd k0 k1 k2 k3
            
            have HO5 := Lib.hid (HO3.out.ext hb5)
            have HX5 := Lib.hid (blk_ext hb5 HX.out)
            have HB5 := Lib.hid (ext_trans HB3.out hb5)
            have Z5 := HB5.out.size
            have hk5 := blk_cell HX5.out
            have hl5 := blk_lt HX5.out
            have HO5' := Lib.hid (show w5.ownsRow w1.heap.size 34 9 (.slice (some ⟨g, 0, none⟩) (P + 1) gc) ((P + 1)) (flat cc S) from by have := HO5.out; unfold OwnC OwnR at this; rw [HM.out] at this; exact this)
            clear hb5 HO3 HX HB3
            go_wp2_with (at_builtin; refine wpList_append_own _ rfl _ _ 28 rfl (w1.heap.size) 34 i0 Cd.zero.v 9 88 Try.underlying28 hi hz0 hz1 hz2 rfl (by decide) _ ((P + 1)) (flat cc S) rfl (HO5'.out.alloc (.cells #[.string x.a, .string x.i, .int .i64 x.s, .int .i64 x.o, .int .i64 x.l, .int .i64 x.t, .int .i64 x.k, .int .i64 x.n, .bool x.g] 34)) ⟨w5.heap.size, 0, none⟩ 1 1 (cc x) rfl rfl ?c1 ?c2 ?c3 ?c4 ?c5 ?_)
            case c1 =>
              intro j u hj
              rw [add_off, Nat.zero_add, blk_cell (blk_new w5 #[.string x.a, .string x.i, .int .i64 x.s, .int .i64 x.o, .int .i64 x.l, .int .i64 x.t, .int .i64 x.k, .int .i64 x.n, .bool x.g] 34)]
              simpa [cc] using hj
            case c2 => exact cc_one x
            case c3 => unfold maxLen; omega
            case c4 => omega
            case c5 => simp; omega
            intro v7 w7 ho7 hg7 _
            have HB7 := Lib.hid ((HB5.out.alloc Z5 (.cells #[.string x.a, .string x.i, .int .i64 x.s, .int .i64 x.o, .int .i64 x.l, .int .i64 x.t, .int .i64 x.k, .int .i64 x.n, .bool x.g] 34)).grown hg7 (by simp; omega) (fun q hq => own_ge HO5'.out hq))
            have HO7 := Lib.hid (show OwnC w1.heap.size w7 v7 (S ++ [x]) by unfold OwnC OwnR; rw [flat_snoc, List.length_append, HM.out]; exact ho7)
            clear ho7 hg7 HO5 HO5' HX5 HB5 hk5 hl5
            go_wp2
            go_roundw
            case rel => exact ⟨J + 1, by omega, by go_num, by rw [HST1.out]; exact HO7.out, HB7.out⟩
            case measure => simp [intOf]; omega
        · have HST1 := Lib.hid (show jnL (T.take (J + 1)) = S ++ [x] from by rw [HST.out]; (conv => lhs; rw [HSY.out]); exact (jn1_other (fun q => h1 q.1)).trans (by rw [← HSY.out]))
          have h3 : ¬ y.a.toList = x.a.toList := fun e => h1 (str_inj e)
          clear h1 HST hd
          go_wp2_with fail
          haveI hIq : Nonempty (Of w4) := of_some _
          have hFa := of_cell k0
          have hFb := of_cell k1
          have hFc := of_cell k2
          have hFd := of_cell k3
          first | (refine wp_region_stay w4 (by kernel_rfl) (by kernel_rfl) (by go_grown) ?_) | (refine wp_region_stay_seq w4 (by go_grown) ?_)
          repeat (go_big_quiet_step (fail))
          refine wpQuiet_nil ?_
          intro w5 hb5
          clear hIq hFa hFb hFc hFd k0 k1 k2 k3
          
          have HO5 := Lib.hid (HO3.out.ext hb5)
          have HX5 := Lib.hid (blk_ext hb5 HX.out)
          have HB5 := Lib.hid (ext_trans HB3.out hb5)
          have Z5 := HB5.out.size
          have hk5 := blk_cell HX5.out
          have hl5 := blk_lt HX5.out
          have HO5' := Lib.hid (show w5.ownsRow w1.heap.size 34 9 (.slice (some ⟨g, 0, none⟩) (P + 1) gc) ((P + 1)) (flat cc S) from by have := HO5.out; unfold OwnC OwnR at this; rw [HM.out] at this; exact this)
          clear hb5 HO3 HX HB3
          go_wp2_with (at_builtin; refine wpList_append_own _ rfl _ _ 28 rfl (w1.heap.size) 34 i0 Cd.zero.v 9 88 Try.underlying28 hi hz0 hz1 hz2 rfl (by decide) _ ((P + 1)) (flat cc S) rfl (HO5'.out.alloc (.cells #[.string x.a, .string x.i, .int .i64 x.s, .int .i64 x.o, .int .i64 x.l, .int .i64 x.t, .int .i64 x.k, .int .i64 x.n, .bool x.g] 34)) ⟨w5.heap.size, 0, none⟩ 1 1 (cc x) rfl rfl ?c1 ?c2 ?c3 ?c4 ?c5 ?_)
          case c1 =>
            intro j u hj
            rw [add_off, Nat.zero_add, blk_cell (blk_new w5 #[.string x.a, .string x.i, .int .i64 x.s, .int .i64 x.o, .int .i64 x.l, .int .i64 x.t, .int .i64 x.k, .int .i64 x.n, .bool x.g] 34)]
            simpa [cc] using hj
          case c2 => exact cc_one x
          case c3 => unfold maxLen; omega
          case c4 => omega
          case c5 => simp; omega
          intro v7 w7 ho7 hg7 _
          have HB7 := Lib.hid ((HB5.out.alloc Z5 (.cells #[.string x.a, .string x.i, .int .i64 x.s, .int .i64 x.o, .int .i64 x.l, .int .i64 x.t, .int .i64 x.k, .int .i64 x.n, .bool x.g] 34)).grown hg7 (by simp; omega) (fun q hq => own_ge HO5'.out hq))
          have HO7 := Lib.hid (show OwnC w1.heap.size w7 v7 (S ++ [x]) by unfold OwnC OwnR; rw [flat_snoc, List.length_append, HM.out]; exact ho7)
          clear ho7 hg7 HO5 HO5' HX5 HB5 hk5 hl5
          go_wp2
          go_roundw
          case rel => exact ⟨J + 1, by omega, by go_num, by rw [HST1.out]; exact HO7.out, HB7.out⟩
          case measure => simp [intOf]; omega
    · obtain rfl : J = n := by omega
      have HF := Lib.hid (show jnL (T.take J) = jnL (srt klt L) from by rw [List.take_of_length_le (by have := HTN.out; omega), ← HTT.out])
      have Z1 := HB1.out.size
      go_wp2
      go_ret
      exact ⟨_, rfl, by rw [HF.out] at ho2; exact ho2.base Z1, ext_trans HB1.out hb2⟩

end Go.Proofs.Ytloeabdohgdmkaa
