/- The document's own cache: a put. -/
import Derived.Test.YtkhcgopehmndgaaCnP
namespace Go.Proofs.Ytkhcgopehmndgaa
open Go.RowKit
set_option linter.unusedVariables false
set_option linter.unusedSimpArgs false


def RcP (w : World) (cb : Nat) (q : Int) (cs : List Cd) : Prop := ∃ (a : Option Addr) (c : Nat), w.heap[cb]? = some (.cells #[.slice a cs.length c, .int .i64 q] 72 (0, 0)) ∧ cs.length ≤ c ∧ c ≤ maxLen ∧ CAt w a cs
section
variable {w w' : World} {cb : Nat} {q q' : Int} {cs : List Cd}
theorem RcP.lt (h : RcP w cb q cs) : cb < w.heap.size := by obtain ⟨a, c, h1, -⟩ := h; exact blk_lt h1
theorem RcP.ext (h : RcP w cb q cs) (hb : Below w.heap.size w w') : RcP w' cb q cs := by
  obtain ⟨a, c, h1, h2, h3, h4⟩ := h
  exact ⟨a, c, blk_ext hb h1, h2, h3, h4.ext hb⟩
/-- another block of another type is written -/
theorem RcP.rimO {b0 : Nat} {cs0 : Array Value} {T0 : TypeId} (h : RcP w cb q cs) (hr : Rim b0 w w') (h0 : w.heap[b0]? = some (.cells cs0 T0 (0, 0))) (hT : 72 ≠ T0) (hT2 : 49 ≠ T0) : RcP w' cb q cs := by
  obtain ⟨a, c, h1, h2, h3, h4⟩ := h
  have hk : ∀ (b : Nat) (cur : Array Value) (T : TypeId), T ≠ T0 → w.heap[b]? = some (.cells cur T (0, 0)) → w'.heap[b]? = w.heap[b]? := fun b cur T hne hc => hr.block b (fun e => by subst e; rw [h0] at hc; simp at hc; exact hne hc.2.symm) (blk_lt hc)
  exact ⟨a, c, (hk cb _ _ hT h1).trans h1, h2, h3, h4.keep fun b cur hc _ => hk b cur _ hT2 hc⟩
/-- the row is set anew -/
theorem RcP.row {base : Nat} {v : Value} {cs1 : List Cd} {a : Option Addr} {n0 c : Nat} (h : w.heap[cb]? = some (.cells #[.slice a n0 c, .int .i64 q] 72 (0, 0))) (ho : OwnC base w v cs1) : RcP (w.setCell ⟨cb, 0, none⟩ v) cb q cs1 := by
  obtain ⟨a1, c1, rfl, h1, h2, h3, -, -⟩ := ho.read
  exact ⟨a1, c1, blk_set h (by first | rfl | simp), h1, h2, h3.keep fun b cur hc _ => ((Kept.refl cb w).setCell 0 _).block b (fun e => by subst e; have h9 := h.symm.trans hc; simp at h9)⟩
/-- its number is set anew -/
theorem RcP.num (h : RcP w cb q cs) : RcP (w.setCell ⟨cb, 1, none⟩ (.int .i64 q')) cb q' cs := by
  obtain ⟨a, c, h1, h2, h3, h4⟩ := h
  exact ⟨a, c, blk_set h1 (by first | rfl | simp), h2, h3, h4.keep fun b cur hc _ => ((Kept.refl cb w).setCell 1 _).block b (fun e => by subst e; have h9 := h1.symm.trans hc; simp at h9)⟩
end
set_option maxRecDepth 100000 in
set_option maxHeartbeats 1000000 in
theorem rcNew (w : World) :
    Calls Try.prog 31 #[] w fun r w' => r = .returned (.pointer (some ⟨w.heap.size, 0, none⟩)) ∧ RcP w' w.heap.size (-1) [] ∧ Below w.heap.size w w' := by
  go_enter Try.func31, Try.ntmps31
  go_wp2
  go_ret
  exact ⟨rfl, ⟨none, 0, blk_new _ _ _, Nat.le_refl _, by simp [maxLen], .inl rfl⟩, (Below.refl _ _).alloc (Nat.le_refl _) _⟩

set_option maxRecDepth 100000 in
set_option maxHeartbeats 4000000 in
theorem rcPut (wb : Nat) (q : Int) (cs : List Cd) (t : Cd) (w : World) (h : RcP w wb q cs) (hwf : WfC cs) (hr : CdR t) (hka : KA t.a) (hki : KI t.i) :
    Calls Try.prog 55 #[.pointer (some ⟨wb, 0, none⟩), .agg #[.string t.a, .string t.i, .int .i64 t.s, .int .i64 t.o, .int .i64 t.l, .int .i64 t.t, .int .i64 t.k, .int .i64 t.n, .bool t.g]] w fun r w' => r = .returned (.tuple #[]) ∧ RcP w' wb q (putC cs t) ∧ Rim wb w w' := by
  obtain ⟨i0, hi, hz0, hz1, hz2⟩ := info_parts' info_card
  have HDP := Lib.hid (dput_is hwf hr hka hki)
  have hlen := hwf.len
  have HLD := Lib.hid (show (dputL cs t).length ≤ 1000 from by
    unfold dputL
    have := List.length_filter_le (fun y => !kq y t) cs
    rw [List.length_append]
    split <;> simp <;> omega)
  have D1 := Lib.hid (show Below w.heap.size w (w.alloc (.cells #[.string t.a, .string t.i, .int .i64 t.s, .int .i64 t.o, .int .i64 t.l, .int .i64 t.t, .int .i64 t.k, .int .i64 t.n, .bool t.g] 49)) from (Below.refl _ _).alloc (Nat.le_refl _) _)
  have HX1 := Lib.hid (blk_new w #[.string t.a, .string t.i, .int .i64 t.s, .int .i64 t.o, .int .i64 t.l, .int .i64 t.t, .int .i64 t.k, .int .i64 t.n, .bool t.g] 49)
  obtain ⟨a, c, h1, h2, h3, h4⟩ := h
  have HW1 := Lib.hid (blk_ext D1.out h1)
  have HA1 := Lib.hid (h4.ext D1.out)
  have hwb := blk_lt h1
  obtain ⟨n, hn⟩ : ∃ n, cs.length = n := ⟨_, rfl⟩
  rw [hn] at HW1 h2 hlen
  have HL := Lib.hid hn
  clear h1 h3 h4 hn hwf hr hka hki
  go_enter Try.func55, Try.ntmps55
  go_upto_region 1 with (fail)
  obtain ⟨p, hp⟩ : ∃ p, w.heap.size = p := ⟨_, rfl⟩
  rw [hp] at HX1
  try rw [hp]
  clear hp
  generalize (w.alloc (.cells #[.string t.a, .string t.i, .int .i64 t.s, .int .i64 t.o, .int .i64 t.l, .int .i64 t.t, .int .i64 t.k, .int .i64 t.n, .bool t.g] 49)) = w1 at *
  have hkw := blk_cell HW1.out
  have hlw := blk_lt HW1.out
  go_wp2_with fail
  go_loopw [4, 12] (fun o j wr => ∃ J : Nat, J ≤ n ∧ j = .int .i64 (J : Int) ∧ OwnC w1.heap.size wr o ((cs.take J).filter (fun y => !kq y t)) ∧ Below w1.heap.size w1 wr) (fun o j _ => n - (intOf j).toNat)
  case atStart => exact ⟨0, by omega, rfl, OwnR.nil _ _, Below.refl _ _⟩
  case round =>
    obtain ⟨w3, rfl⟩ : ∃ y : World, y = wr := ⟨_, rfl⟩
    obtain ⟨J, hJ, rfl, ho2, hb2⟩ := hrel
    obtain ⟨ga, gc, rfl, hgc, hgm, -, -, -⟩ := ho2.read
    obtain ⟨S, hS⟩ : ∃ S, (cs.take J).filter (fun y => !kq y t) = S := ⟨_, rfl⟩
    rw [hS] at ho2 hgc ⊢
    obtain ⟨m, hm⟩ : ∃ m, S.length = m := ⟨_, rfl⟩
    have hm1 : m ≤ 20 := by rw [← hm, ← hS]; have := List.length_filter_le (fun y : Cd => !kq y t) (cs.take J); rw [List.length_take] at this; omega
    have HM := Lib.hid hm
    rw [hm] at hgc ho2 ⊢
    have HO3 := Lib.hid ho2
    have HB3 := Lib.hid hb2
    have HP3 := Lib.hid (blk_ext hb2 HX1.out)
    unfold maxLen at hgm
    clear hkw hlw ho2 hb2 hm
    by_cases hlt : J < n
    · obtain ⟨y, hy⟩ : ∃ x, cs[J]? = some x := ⟨_, List.getElem?_eq_getElem (by have := HL.out; omega)⟩
      have HST := Lib.hid (show (cs.take (J + 1)).filter (fun y => !kq y t) = S ++ (if (!kq y t) then [y] else []) from by rw [List.take_add_one, hy]; show (cs.take J ++ [y]).filter _ = _; rw [filt_snocC, hS])
      obtain ⟨b, o, rfl⟩ : ∃ b o, a = some ⟨b, o, none⟩ := by
        rcases HA1.out with h | ⟨b, o, e, _⟩
        · rw [h] at hy; simp at hy
        · exact ⟨b, o, e⟩
      obtain ⟨y0, y1, y2, y3, y4, y5, y6, y7, y8⟩ := (HA1.out.ext HB3.out).at hy
      have hlt2 : (J : Int) < (n : Int) := by omega
      clear hy hS
      by_cases h1 : y.a = t.a
      · by_cases h2 : y.i = t.i
        · skip
          have HK := Lib.hid (kq_yes h1 h2)
          rw [h1] at y0
          rw [h2] at y1
          clear h1 h2
          have E5 := Lib.hid (show Below w3.heap.size w3 (w3.alloc (.cells #[.string t.a, .string t.i, .int .i64 y.s, .int .i64 y.o, .int .i64 y.l, .int .i64 y.t, .int .i64 y.k, .int .i64 y.n, .bool y.g] 49)) from (Below.refl _ _).alloc (Nat.le_refl _) _)
          have HX6 := Lib.hid (blk_new w3 #[.string t.a, .string t.i, .int .i64 y.s, .int .i64 y.o, .int .i64 y.l, .int .i64 y.t, .int .i64 y.k, .int .i64 y.n, .bool y.g] 49)
          have HO6 := Lib.hid (OwnR.ext HO3.out E5.out)
          have HB6 := Lib.hid (ext_trans HB3.out E5.out)
          have HP6 := Lib.hid (blk_ext E5.out HP3.out)
          clear E5 HO3 HB3 HP3
          go_upto_region 5 with (fail)
          obtain ⟨s, hs⟩ : ∃ s, w3.heap.size = s := ⟨_, rfl⟩
          rw [hs] at HX6 ⊢
          clear hs y0 y1 y2 y3 y4 y5 y6 y7 y8
          generalize (w3.alloc (.cells #[.string t.a, .string t.i, .int .i64 y.s, .int .i64 y.o, .int .i64 y.l, .int .i64 y.t, .int .i64 y.k, .int .i64 y.n, .bool y.g] 49)) = w6 at *
          have hs6 := blk_lt HX6.out
          have hr6 := blk_lt HP6.out
          have Z6 := HB6.out.size
          have hk0 := blk_cell HX6.out
          have hk2 := blk_cell HP6.out
          have HDEL := Lib.hid (show (cs.take (J + 1)).filter (fun y => !kq y t) = S from by rw [HST.out, HK.out]; simp)
          go_wp2
          go_roundw
          case rel => exact ⟨J + 1, by omega, by go_num, by rw [HDEL.out]; exact HO6.out, HB6.out⟩
          case measure => simp [intOf]; omega
        · skip
          have HK := Lib.hid (kq_no (.inr h2))
          have h3 : ¬ y.i.toList = t.i.toList := fun e => h2 (str_inj e)
          rw [h1] at y0
          have H1 := Lib.hid h1
          clear h1 h2
          have E5 := Lib.hid (show Below w3.heap.size w3 (w3.alloc (.cells #[.string t.a, .string y.i, .int .i64 y.s, .int .i64 y.o, .int .i64 y.l, .int .i64 y.t, .int .i64 y.k, .int .i64 y.n, .bool y.g] 49)) from (Below.refl _ _).alloc (Nat.le_refl _) _)
          have HX6 := Lib.hid (blk_new w3 #[.string t.a, .string y.i, .int .i64 y.s, .int .i64 y.o, .int .i64 y.l, .int .i64 y.t, .int .i64 y.k, .int .i64 y.n, .bool y.g] 49)
          have HO6 := Lib.hid (OwnR.ext HO3.out E5.out)
          have HB6 := Lib.hid (ext_trans HB3.out E5.out)
          have HP6 := Lib.hid (blk_ext E5.out HP3.out)
          clear E5 HO3 HB3 HP3
          go_upto_region 5 with (fail)
          obtain ⟨s, hs⟩ : ∃ s, w3.heap.size = s := ⟨_, rfl⟩
          rw [hs] at HX6 ⊢
          clear hs y0 y1 y2 y3 y4 y5 y6 y7 y8
          generalize (w3.alloc (.cells #[.string t.a, .string y.i, .int .i64 y.s, .int .i64 y.o, .int .i64 y.l, .int .i64 y.t, .int .i64 y.k, .int .i64 y.n, .bool y.g] 49)) = w6 at *
          have hs6 := blk_lt HX6.out
          have hr6 := blk_lt HP6.out
          have Z6 := HB6.out.size
          have hk0 := blk_cell HX6.out
          have hk2 := blk_cell HP6.out
          have HDEL := Lib.hid (show (cs.take (J + 1)).filter (fun y => !kq y t) = S ++ [y] from by rw [HST.out, HK.out]; simp)
          have HO6' := Lib.hid (show w6.ownsRow w1.heap.size 49 9 (.slice ga m gc) m (flat cc S) from by have := HO6.out; unfold OwnC OwnR at this; rw [HM.out] at this; exact this)
          go_wp2_with (at_builtin; refine wpList_append_own _ rfl _ _ 33 rfl (w1.heap.size) 49 i0 Cd.zero.v 9 88 Try.underlying33 hi hz0 hz1 hz2 rfl (by decide) _ m (flat cc S) rfl (HO6'.out.alloc (.cells #[.string t.a, .string y.i, .int .i64 y.s, .int .i64 y.o, .int .i64 y.l, .int .i64 y.t, .int .i64 y.k, .int .i64 y.n, .bool y.g] 49)) ⟨w6.heap.size, 0, none⟩ 1 1 (cc y) rfl rfl ?c1 ?c2 ?c3 ?c4 ?c5 ?_)
          case c1 =>
            intro j u hj
            rw [add_off, Nat.zero_add, blk_cell (blk_new w6 #[.string t.a, .string y.i, .int .i64 y.s, .int .i64 y.o, .int .i64 y.l, .int .i64 y.t, .int .i64 y.k, .int .i64 y.n, .bool y.g] 49)]
            simpa [cc, H1.out] using hj
          case c2 => exact cc_one y
          case c3 => unfold maxLen; omega
          case c4 => omega
          case c5 => simp; omega
          intro v7 w7 ho7 hg7 _
          have HB7 := Lib.hid ((HB6.out.alloc Z6 (.cells #[.string t.a, .string y.i, .int .i64 y.s, .int .i64 y.o, .int .i64 y.l, .int .i64 y.t, .int .i64 y.k, .int .i64 y.n, .bool y.g] 49)).grown hg7 (by simp; omega) (fun q hq => own_ge HO6'.out hq))
          have HO7 := Lib.hid (show OwnC w1.heap.size w7 v7 (S ++ [y]) by unfold OwnC OwnR; rw [flat_snoc, List.length_append, HM.out]; exact ho7)
          clear ho7 hg7 HO6 HO6' hk0 hk2 hs6 hr6 HX6 HP6
          go_wp2
          go_roundw
          case rel => exact ⟨J + 1, by omega, by go_num, by rw [HDEL.out]; exact HO7.out, HB7.out⟩
          case measure => simp [intOf]; omega
      · skip
        have HK := Lib.hid (kq_no (.inl h1))
        have h3 : ¬ y.a.toList = t.a.toList := fun e => h1 (str_inj e)
        clear h1
        have E5 := Lib.hid (show Below w3.heap.size w3 (w3.alloc (.cells #[.string y.a, .string y.i, .int .i64 y.s, .int .i64 y.o, .int .i64 y.l, .int .i64 y.t, .int .i64 y.k, .int .i64 y.n, .bool y.g] 49)) from (Below.refl _ _).alloc (Nat.le_refl _) _)
        have HX6 := Lib.hid (blk_new w3 #[.string y.a, .string y.i, .int .i64 y.s, .int .i64 y.o, .int .i64 y.l, .int .i64 y.t, .int .i64 y.k, .int .i64 y.n, .bool y.g] 49)
        have HO6 := Lib.hid (OwnR.ext HO3.out E5.out)
        have HB6 := Lib.hid (ext_trans HB3.out E5.out)
        have HP6 := Lib.hid (blk_ext E5.out HP3.out)
        clear E5 HO3 HB3 HP3
        go_upto_region 5 with (fail)
        obtain ⟨s, hs⟩ : ∃ s, w3.heap.size = s := ⟨_, rfl⟩
        rw [hs] at HX6 ⊢
        clear hs y0 y1 y2 y3 y4 y5 y6 y7 y8
        generalize (w3.alloc (.cells #[.string y.a, .string y.i, .int .i64 y.s, .int .i64 y.o, .int .i64 y.l, .int .i64 y.t, .int .i64 y.k, .int .i64 y.n, .bool y.g] 49)) = w6 at *
        have hs6 := blk_lt HX6.out
        have hr6 := blk_lt HP6.out
        have Z6 := HB6.out.size
        have hk0 := blk_cell HX6.out
        have hk2 := blk_cell HP6.out
        have HDEL := Lib.hid (show (cs.take (J + 1)).filter (fun y => !kq y t) = S ++ [y] from by rw [HST.out, HK.out]; simp)
        have HO6' := Lib.hid (show w6.ownsRow w1.heap.size 49 9 (.slice ga m gc) m (flat cc S) from by have := HO6.out; unfold OwnC OwnR at this; rw [HM.out] at this; exact this)
        go_wp2_with (at_builtin; refine wpList_append_own _ rfl _ _ 33 rfl (w1.heap.size) 49 i0 Cd.zero.v 9 88 Try.underlying33 hi hz0 hz1 hz2 rfl (by decide) _ m (flat cc S) rfl (HO6'.out.alloc (.cells #[.string y.a, .string y.i, .int .i64 y.s, .int .i64 y.o, .int .i64 y.l, .int .i64 y.t, .int .i64 y.k, .int .i64 y.n, .bool y.g] 49)) ⟨w6.heap.size, 0, none⟩ 1 1 (cc y) rfl rfl ?c1 ?c2 ?c3 ?c4 ?c5 ?_)
        case c1 =>
          intro j u hj
          rw [add_off, Nat.zero_add, blk_cell (blk_new w6 #[.string y.a, .string y.i, .int .i64 y.s, .int .i64 y.o, .int .i64 y.l, .int .i64 y.t, .int .i64 y.k, .int .i64 y.n, .bool y.g] 49)]
          simpa [cc] using hj
        case c2 => exact cc_one y
        case c3 => unfold maxLen; omega
        case c4 => omega
        case c5 => simp; omega
        intro v7 w7 ho7 hg7 _
        have HB7 := Lib.hid ((HB6.out.alloc Z6 (.cells #[.string y.a, .string y.i, .int .i64 y.s, .int .i64 y.o, .int .i64 y.l, .int .i64 y.t, .int .i64 y.k, .int .i64 y.n, .bool y.g] 49)).grown hg7 (by simp; omega) (fun q hq => own_ge HO6'.out hq))
        have HO7 := Lib.hid (show OwnC w1.heap.size w7 v7 (S ++ [y]) by unfold OwnC OwnR; rw [flat_snoc, List.length_append, HM.out]; exact ho7)
        clear ho7 hg7 HO6 HO6' hk0 hk2 hs6 hr6 HX6 HP6
        go_wp2
        go_roundw
        case rel => exact ⟨J + 1, by omega, by go_num, by rw [HDEL.out]; exact HO7.out, HB7.out⟩
        case measure => simp [intOf]; omega
    · obtain rfl : J = n := by omega
      have hlt2 : decide ((J : Int) < (J : Int)) = false := by simp
      have HSF := Lib.hid (show cs.filter (fun y => !kq y t) = S from by rw [← hS, List.take_of_length_le (by have := HL.out; omega)])
      clear hS
      cases hg : t.g
      · skip
        have HG := Lib.hid hg
        have hk0 := blk_cell HP3.out
        have hl0 := blk_lt HP3.out
        rw [hg] at HP3
        clear hk0 hl0
        have hk0 := blk_cell HP3.out
        have hl0 := blk_lt HP3.out
        have Z6 := HB3.out.size
        have HO6' := Lib.hid (show w3.ownsRow w1.heap.size 49 9 (.slice ga m gc) m (flat cc S) from by have := HO3.out; unfold OwnC OwnR at this; rw [HM.out] at this; exact this)
        go_wp2_with (at_builtin; refine wpList_append_own _ rfl _ _ 33 rfl (w1.heap.size) 49 i0 Cd.zero.v 9 88 Try.underlying33 hi hz0 hz1 hz2 rfl (by decide) _ m (flat cc S) rfl (HO6'.out.alloc (.cells #[.string t.a, .string t.i, .int .i64 t.s, .int .i64 t.o, .int .i64 t.l, .int .i64 t.t, .int .i64 t.k, .int .i64 t.n, .bool false] 49)) ⟨w3.heap.size, 0, none⟩ 1 1 (cc t) rfl rfl ?c1 ?c2 ?c3 ?c4 ?c5 ?_)
        case c1 =>
          intro j u hj
          rw [add_off, Nat.zero_add, blk_cell (blk_new w3 #[.string t.a, .string t.i, .int .i64 t.s, .int .i64 t.o, .int .i64 t.l, .int .i64 t.t, .int .i64 t.k, .int .i64 t.n, .bool false] 49)]
          simpa [cc, HG.out] using hj
        case c2 => exact cc_one t
        case c3 => unfold maxLen; omega
        case c4 => omega
        case c5 => simp; omega
        intro v7 w7 ho7 hg7 _
        have HB7 := Lib.hid ((HB3.out.alloc Z6 (.cells #[.string t.a, .string t.i, .int .i64 t.s, .int .i64 t.o, .int .i64 t.l, .int .i64 t.t, .int .i64 t.k, .int .i64 t.n, .bool false] 49)).grown hg7 (by simp; omega) (fun q hq => own_ge HO6'.out hq))
        have HO7 := Lib.hid (show OwnC w1.heap.size w7 v7 (dputL cs t) by unfold dputL OwnC OwnR; rw [HSF.out, HG.out, if_neg (by simp), flat_snoc, List.length_append, HM.out]; exact ho7)
        clear ho7 hg7 HO3 HO6' hk0 hl0 HB3 HP3
        obtain ⟨a8, c8, hv8, hnc8, hcm8, hat8, -, -⟩ := HO7.out.read
        obtain ⟨k8, hk8⟩ : ∃ k, (dputL cs t).length = k := ⟨_, rfl⟩
        have hk8b : k8 ≤ 1000 := by rw [← hk8]; exact HLD.out
        have HK8 := Lib.hid hk8
        have HA8 := Lib.hid hat8
        rw [hk8] at hv8 hnc8
        subst hv8
        clear hcm8 hat8 hk8 HO7
        go_wp2_with fail
        refine (refSort a8 k8 c8 (dputL cs t) _ HA8.out HK8.out (by omega) hnc8).mono ?_
        rintro e w8 ⟨v8, rfl, ho8, hb8⟩
        have HO8 := Lib.hid (show OwnC w7.heap.size w8 v8 (putC cs t) from by rw [← HDP.out]; exact ho8)
        have HW8 := Lib.hid (blk_ext hb8 (blk_ext HB7.out HW1.out))
        have HD8 := Lib.hid (ext_trans D1.out (ext_trans HB7.out hb8))
        clear ho8 hb8
        have HPF := Lib.hid (RcP.row HW8.out HO8.out)
        obtain ⟨a9, n9, c9, rfl⟩ : ∃ a9 n9 c9, v8 = .slice a9 n9 c9 := by
          obtain ⟨a9, c9, e, -⟩ := HO8.out.read
          exact ⟨a9, _, c9, e⟩
        have hcw := blk_cell HW8.out
        have hlw := blk_lt HW8.out
        have hfw := blk_free HW8.out
        have hkp : Kept wb w8 (w8.setCell ⟨wb, 0, none⟩ (.slice a9 n9 c9)) := (Kept.refl wb w8).setCell _ _
        have HRF := Lib.hid ((Rim.of HD8.out).trans (Rim.kept hkp))
        clear hkp
        go_wp2
        go_end0
        exact ⟨rfl, HPF.out, HRF.out⟩
      · skip
        have HG := Lib.hid hg
        have hk0 := blk_cell HP3.out
        have hl0 := blk_lt HP3.out
        rw [hg] at HP3
        clear hk0 hl0
        have hk0 := blk_cell HP3.out
        have hl0 := blk_lt HP3.out
        have HB7 := HB3
        have HO7 := Lib.hid (show OwnC w1.heap.size w3 (.slice ga m gc) (dputL cs t) by unfold dputL; rw [HSF.out, HG.out, if_pos rfl, List.append_nil]; exact HO3.out)
        clear HB3 HO3
        obtain ⟨a8, c8, hv8, hnc8, hcm8, hat8, -, -⟩ := HO7.out.read
        rw [Value.slice.injEq] at hv8
        obtain ⟨e1, e2, e3⟩ := hv8
        rw [← e1] at hat8
        rw [← e3, ← e2] at hnc8
        have HK8 := Lib.hid e2.symm
        have HA8 := Lib.hid hat8
        clear hcm8 hat8 e1 e2 e3 HO7
        go_wp2_with fail
        refine (refSort ga m gc (dputL cs t) _ HA8.out HK8.out (by omega) hnc8).mono ?_
        rintro e w8 ⟨v8, rfl, ho8, hb8⟩
        have HO8 := Lib.hid (show OwnC w3.heap.size w8 v8 (putC cs t) from by rw [← HDP.out]; exact ho8)
        have HW8 := Lib.hid (blk_ext hb8 (blk_ext HB7.out HW1.out))
        have HD8 := Lib.hid (ext_trans D1.out (ext_trans HB7.out hb8))
        clear ho8 hb8
        have HPF := Lib.hid (RcP.row HW8.out HO8.out)
        obtain ⟨a9, n9, c9, rfl⟩ : ∃ a9 n9 c9, v8 = .slice a9 n9 c9 := by
          obtain ⟨a9, c9, e, -⟩ := HO8.out.read
          exact ⟨a9, _, c9, e⟩
        have hcw := blk_cell HW8.out
        have hlw := blk_lt HW8.out
        have hfw := blk_free HW8.out
        have hkp : Kept wb w8 (w8.setCell ⟨wb, 0, none⟩ (.slice a9 n9 c9)) := (Kept.refl wb w8).setCell _ _
        have HRF := Lib.hid ((Rim.of HD8.out).trans (Rim.kept hkp))
        clear hkp
        go_wp2
        go_end0
        exact ⟨rfl, HPF.out, HRF.out⟩

end Go.Proofs.Ytkhcgopehmndgaa
