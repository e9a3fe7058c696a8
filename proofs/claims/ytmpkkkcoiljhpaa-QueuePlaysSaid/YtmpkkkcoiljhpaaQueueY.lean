/- Package queue's walks: a card is laid in a row, its key's elder one comes out. -/
import Derived.Test.YtmpkkkcoiljhpaaQueueL
import Derived.Test.YtmpkkkcoiljhpaaQueueD
namespace Go.Proofs.Ytmpkkkcoiljhpaa
open Go.RowKit
set_option linter.unusedVariables false

set_option maxRecDepth 100000 in
set_option maxHeartbeats 2000000 in
theorem lay_in (qb np i : Nat) (sl : List (Int × Value)) (lost p : Int) (v : Value) (cs : List Cd) (x : Cd) (w : World) (h : QB w qb np sl lost) (h6 : sl.length = 6) (hi' : sl[i]? = some (p, v)) (hs : SlC w v cs) (hn9 : cs.length ≤ 1000) (h16 : (delC x cs).length < 16) :
    Calls Try.prog 24 #[.pointer (some ⟨qb, 0, none⟩), .pointer (some ⟨qb, 1 + i * 2, none⟩), .agg #[.string x.a, .string x.i, .int .i64 x.s, .int .i64 x.o, .int .i64 x.l, .int .i64 x.t, .int .i64 x.k, .int .i64 x.n, .bool x.g]] w fun e w' => e = .returned (.tuple #[]) ∧ (∃ v', QB w' qb np (sl.set i (p, v')) lost ∧ SlC w' v' (delC x cs ++ [x])) ∧ Rim qb w w' := by
  obtain ⟨i0, hi, hz0, hz1, hz2⟩ := info_parts' info_card
  obtain ⟨a, c, hv, hnc, hcm, hat, hfm⟩ := hs
  obtain ⟨n, hn⟩ : ∃ n, cs.length = n := ⟨_, rfl⟩
  rw [hn] at hv hnc
  have HN := Lib.hid hn
  rw [hn] at hn9
  have hlt := h.lt
  have D0 : Below w.heap.size w (w.alloc (.cells #[.string x.a, .string x.i, .int .i64 x.s, .int .i64 x.o, .int .i64 x.l, .int .i64 x.t, .int .i64 x.k, .int .i64 x.n, .bool x.g] 39)) := (Below.refl _ _).alloc (Nat.le_refl _) _
  have HB := Lib.hid (h.ext D0)
  have HA := Lib.hid (hat.ext D0)
  have HX := Lib.hid (blk_new w #[.string x.a, .string x.i, .int .i64 x.s, .int .i64 x.o, .int .i64 x.l, .int .i64 x.t, .int .i64 x.k, .int .i64 x.n, .bool x.g] 39)
  have HI := Lib.hid hi'
  have H6 := Lib.hid h6
  have HM := Lib.hid hcm
  have HF := Lib.hid hfm
  have hcv := HB.out.cv hi'
  have hlb := HB.out.lt
  simp only at hcv
  subst hv
  unfold maxLen at hcm
  obtain ⟨m, hm⟩ : ∃ m, (delC x cs).length = m := ⟨_, rfl⟩
  have HD := Lib.hid hm
  rw [hm] at h16
  have hmn : m ≤ n := by rw [← hm, ← hn]; exact List.length_filter_le _ _
  clear hm
  clear h hat hn hi' h6 hfm
  go_enter Try.func24, Try.ntmps24
  go_wp2_with fail
  obtain ⟨s, hs⟩ : ∃ s, w.heap.size = s := ⟨_, rfl⟩
  have HS := Lib.hid hs
  rw [hs] at HX ⊢
  clear hs
  generalize (w.alloc (.cells #[.string x.a, .string x.i, .int .i64 x.s, .int .i64 x.o, .int .i64 x.l, .int .i64 x.t, .int .i64 x.k, .int .i64 x.n, .bool x.g] 39)) = w1 at *
  refine (cloneC a n c cs _ HA.out HN.out (by omega) HF.out).mono ?_
  rintro e w2 ⟨v2, rfl, ho2, hb2⟩
  have D2 := ext_trans D0 hb2
  have Z1 := D0.size
  have HB2 := Lib.hid (HB.out.ext hb2)
  have HX2 := Lib.hid (blk_ext hb2 HX.out)
  have hsx := blk_lt HX.out
  have HO2 := Lib.hid (ho2.base Z1)
  have hge0 := ho2.read
  obtain ⟨a2, c2, hv2, hnc2, hcm2, hat2, hge2, hfm2⟩ := hge0
  rw [HN.out] at hv2 hnc2
  subst hv2
  have HSG := Lib.hid (show ∀ g, a2 = some ⟨g, 0, none⟩ → s ≠ g from fun g e => by have := (hge2 g 0 e).1; omega)
  clear ho2 hb2 HB HX HA hcv hlb hat2 hcm2 hge2 hfm2 hsx
  go_wp2_with fail
  refine (deleteC w.heap.size n c2 a2 cs x s _ HO2.out HN.out (by omega) D2.size HSG.out HX2.out).mono ?_
  rintro e w3 ⟨v3, rfl, ho3, hx3, hb3⟩
  have D3 := D2.trans hb3
  have HB3 := Lib.hid (show QB w3 qb np sl lost from (hb3.block qb hlt).trans HB2.out)
  have O3 := ho3
  have hk3 := blk_cell hx3
  have hl3 := blk_lt hx3
  have Z3 := D3.size
  obtain ⟨a3, c3, hv3, hnc3, hcm3, hat3, hge3, hfm3⟩ := ho3.read
  rw [HD.out] at hv3 hnc3
  subst hv3
  clear hb3 HB2 HX2 HO2 hx3 ho3 hat3 hge3 hfm3
  go_wp2_with (at_builtin; refine wpList_append_own _ rfl _ _ 25 rfl (w.heap.size) 39 i0 Cd.zero.v 9 88 Try.underlying25 hi hz0 hz1 hz2 rfl (by decide) _ m (flat cc (delC x cs)) rfl (by have := O3.alloc (.cells #[.string x.a, .string x.i, .int .i64 x.s, .int .i64 x.o, .int .i64 x.l, .int .i64 x.t, .int .i64 x.k, .int .i64 x.n, .bool x.g] 39); rw [HD.out] at this; exact this) ⟨w3.heap.size, 0, none⟩ 1 1 (cc x) rfl rfl ?c1 ?c2 ?c3 ?c4 ?c5 ?_)
  case c1 =>
    intro j u hj
    rw [add_off, Nat.zero_add, blk_cell (blk_new w3 #[.string x.a, .string x.i, .int .i64 x.s, .int .i64 x.o, .int .i64 x.l, .int .i64 x.t, .int .i64 x.k, .int .i64 x.n, .bool x.g] 39)]
    simpa [cc] using hj
  case c2 => exact cc_one x
  case c3 => unfold maxLen; omega
  case c4 => omega
  case c5 => simp; omega
  intro v4 w4 ho4 hg4 _
  have D4 : Below w.heap.size w w4 := (D3.alloc Z3 (.cells #[.string x.a, .string x.i, .int .i64 x.s, .int .i64 x.o, .int .i64 x.l, .int .i64 x.t, .int .i64 x.k, .int .i64 x.n, .bool x.g] 39)).grown hg4 (by simp; omega) (fun q hq => own_ge O3 hq)
  have HB4 := Lib.hid (show QB w4 qb np sl lost from (hg4.block qb (by have := HB3.out.lt; simp; omega) (own_ne (O3.alloc (.cells #[.string x.a, .string x.i, .int .i64 x.s, .int .i64 x.o, .int .i64 x.l, .int .i64 x.t, .int .i64 x.k, .int .i64 x.n, .bool x.g] 39)) (blk_alloc HB3.out.blk _) (by decide))).trans (blk_alloc HB3.out.blk _))
  have HO4 := Lib.hid (show OwnC w.heap.size w4 v4 (delC x cs ++ [x]) by unfold OwnC OwnR; rw [flat_snoc, List.length_append, HD.out]; exact ho4)
  obtain ⟨a4, c4, hv4, hnc4, hcm4, hat4, hge4, hfm4⟩ := HO4.out.read
  rw [List.length_append, HD.out] at hv4 hnc4
  simp only [List.length_cons, List.length_nil, Nat.zero_add] at hv4 hnc4
  subst hv4
  have HA4 := Lib.hid hat4
  have HCM4 := Lib.hid hcm4
  have hcm4' := hcm4
  unfold maxLen at hcm4'
  clear ho4 hg4 O3 HB3 hk3 hl3 hat4 hcm4
  have hd : decide (16 < (m : Int) + 1) = false := by simp; omega
  have hf4 := blk_free HB4.out.blk
  have hl4 := HB4.out.lt
  have hc4v : w4.cell? ⟨qb, 1 + i * 2 + 1, none⟩ = some (.slice a n c) := HB4.out.cv HI.out
  have HFM4 := Lib.hid hfm4
  clear hge4 hfm4
  go_upto_region 7 with (fail)
  have hk := (Kept.refl qb w4).setCell (1 + i * 2 + 1) (.slice a4 (m + 1) c4)
  have HB5 := Lib.hid (show QB (w4.setCell ⟨qb, 1 + i * 2 + 1, none⟩ (.slice a4 (m + 1) c4)) qb np (sl.set i (p, .slice a4 (m + 1) c4)) lost from HB4.out.setv HI.out (.slice a4 (m + 1) c4))
  have HS5 := Lib.hid (HB4.out.slc (Rim.kept hk) (show SlC w4 (.slice a4 (m + 1) c4) (delC x cs ++ [x]) from ⟨a4, c4, by rw [List.length_append, HD.out]; rfl, by rw [List.length_append, HD.out]; exact hnc4, HCM4.out, HA4.out, by
    rcases HFM4.out with ⟨e1, e2, _⟩ | ⟨g, e⟩
    · exact .inl ⟨e1, e2⟩
    · exact .inr ⟨g, 0, e⟩⟩))
  have R5 := Lib.hid ((Rim.of (b := qb) D4).trans (Rim.kept hk))
  clear hk
  go_wp2
  go_end0
  exact ⟨rfl, ⟨_, HB5.out, HS5.out⟩, R5.out⟩

set_option maxRecDepth 100000 in
set_option maxHeartbeats 2000000 in
theorem lay_over (qb np i : Nat) (sl : List (Int × Value)) (lost p : Int) (v : Value) (cs : List Cd) (x : Cd) (w : World) (h : QB w qb np sl lost) (h6 : sl.length = 6) (hi' : sl[i]? = some (p, v)) (hs : SlC w v cs) (hn9 : cs.length ≤ 1000) (h16 : (delC x cs).length = 16) (hl0 : 0 ≤ lost) (hl1 : lost ≤ 1000000) :
    Calls Try.prog 24 #[.pointer (some ⟨qb, 0, none⟩), .pointer (some ⟨qb, 1 + i * 2, none⟩), .agg #[.string x.a, .string x.i, .int .i64 x.s, .int .i64 x.o, .int .i64 x.l, .int .i64 x.t, .int .i64 x.k, .int .i64 x.n, .bool x.g]] w fun e w' => e = .returned (.tuple #[]) ∧ (∃ v', QB w' qb np (sl.set i (p, v')) (lost + 1) ∧ SlC w' v' ((delC x cs ++ [x]).drop 1)) ∧ Rim qb w w' := by
  obtain ⟨i0, hi, hz0, hz1, hz2⟩ := info_parts' info_card
  obtain ⟨a, c, hv, hnc, hcm, hat, hfm⟩ := hs
  obtain ⟨n, hn⟩ : ∃ n, cs.length = n := ⟨_, rfl⟩
  rw [hn] at hv hnc
  have HN := Lib.hid hn
  rw [hn] at hn9
  have hlt := h.lt
  have D0 : Below w.heap.size w (w.alloc (.cells #[.string x.a, .string x.i, .int .i64 x.s, .int .i64 x.o, .int .i64 x.l, .int .i64 x.t, .int .i64 x.k, .int .i64 x.n, .bool x.g] 39)) := (Below.refl _ _).alloc (Nat.le_refl _) _
  have HB := Lib.hid (h.ext D0)
  have HA := Lib.hid (hat.ext D0)
  have HX := Lib.hid (blk_new w #[.string x.a, .string x.i, .int .i64 x.s, .int .i64 x.o, .int .i64 x.l, .int .i64 x.t, .int .i64 x.k, .int .i64 x.n, .bool x.g] 39)
  have HI := Lib.hid hi'
  have H6 := Lib.hid h6
  have HM := Lib.hid hcm
  have HF := Lib.hid hfm
  have hcv := HB.out.cv hi'
  have hlb := HB.out.lt
  simp only at hcv
  subst hv
  unfold maxLen at hcm
  obtain ⟨m, hm⟩ : ∃ m, (delC x cs).length = m := ⟨_, rfl⟩
  have HD := Lib.hid hm
  rw [hm] at h16
  have hnA : m ≤ 16 := by omega
  have hnB : 16 ≤ m := by omega
  have hmn : m ≤ n := by rw [← hm, ← hn]; exact List.length_filter_le _ _
  clear hm h16
  clear h hat hn hi' h6 hfm
  go_enter Try.func24, Try.ntmps24
  go_wp2_with fail
  obtain ⟨s, hs⟩ : ∃ s, w.heap.size = s := ⟨_, rfl⟩
  have HS := Lib.hid hs
  rw [hs] at HX ⊢
  clear hs
  generalize (w.alloc (.cells #[.string x.a, .string x.i, .int .i64 x.s, .int .i64 x.o, .int .i64 x.l, .int .i64 x.t, .int .i64 x.k, .int .i64 x.n, .bool x.g] 39)) = w1 at *
  refine (cloneC a n c cs _ HA.out HN.out (by omega) HF.out).mono ?_
  rintro e w2 ⟨v2, rfl, ho2, hb2⟩
  have D2 := ext_trans D0 hb2
  have Z1 := D0.size
  have HB2 := Lib.hid (HB.out.ext hb2)
  have HX2 := Lib.hid (blk_ext hb2 HX.out)
  have hsx := blk_lt HX.out
  have HO2 := Lib.hid (ho2.base Z1)
  have hge0 := ho2.read
  obtain ⟨a2, c2, hv2, hnc2, hcm2, hat2, hge2, hfm2⟩ := hge0
  rw [HN.out] at hv2 hnc2
  subst hv2
  have HSG := Lib.hid (show ∀ g, a2 = some ⟨g, 0, none⟩ → s ≠ g from fun g e => by have := (hge2 g 0 e).1; omega)
  clear ho2 hb2 HB HX HA hcv hlb hat2 hcm2 hge2 hfm2 hsx
  go_wp2_with fail
  refine (deleteC w.heap.size n c2 a2 cs x s _ HO2.out HN.out (by omega) D2.size HSG.out HX2.out).mono ?_
  rintro e w3 ⟨v3, rfl, ho3, hx3, hb3⟩
  have D3 := D2.trans hb3
  have HB3 := Lib.hid (show QB w3 qb np sl lost from (hb3.block qb hlt).trans HB2.out)
  have O3 := ho3
  have hk3 := blk_cell hx3
  have hl3 := blk_lt hx3
  have Z3 := D3.size
  obtain ⟨a3, c3, hv3, hnc3, hcm3, hat3, hge3, hfm3⟩ := ho3.read
  rw [HD.out] at hv3 hnc3
  subst hv3
  clear hb3 HB2 HX2 HO2 hx3 ho3 hat3 hge3 hfm3
  go_wp2_with (at_builtin; refine wpList_append_own _ rfl _ _ 25 rfl (w.heap.size) 39 i0 Cd.zero.v 9 88 Try.underlying25 hi hz0 hz1 hz2 rfl (by decide) _ m (flat cc (delC x cs)) rfl (by have := O3.alloc (.cells #[.string x.a, .string x.i, .int .i64 x.s, .int .i64 x.o, .int .i64 x.l, .int .i64 x.t, .int .i64 x.k, .int .i64 x.n, .bool x.g] 39); rw [HD.out] at this; exact this) ⟨w3.heap.size, 0, none⟩ 1 1 (cc x) rfl rfl ?c1 ?c2 ?c3 ?c4 ?c5 ?_)
  case c1 =>
    intro j u hj
    rw [add_off, Nat.zero_add, blk_cell (blk_new w3 #[.string x.a, .string x.i, .int .i64 x.s, .int .i64 x.o, .int .i64 x.l, .int .i64 x.t, .int .i64 x.k, .int .i64 x.n, .bool x.g] 39)]
    simpa [cc] using hj
  case c2 => exact cc_one x
  case c3 => unfold maxLen; omega
  case c4 => omega
  case c5 => simp; omega
  intro v4 w4 ho4 hg4 _
  have D4 : Below w.heap.size w w4 := (D3.alloc Z3 (.cells #[.string x.a, .string x.i, .int .i64 x.s, .int .i64 x.o, .int .i64 x.l, .int .i64 x.t, .int .i64 x.k, .int .i64 x.n, .bool x.g] 39)).grown hg4 (by simp; omega) (fun q hq => own_ge O3 hq)
  have HB4 := Lib.hid (show QB w4 qb np sl lost from (hg4.block qb (by have := HB3.out.lt; simp; omega) (own_ne (O3.alloc (.cells #[.string x.a, .string x.i, .int .i64 x.s, .int .i64 x.o, .int .i64 x.l, .int .i64 x.t, .int .i64 x.k, .int .i64 x.n, .bool x.g] 39)) (blk_alloc HB3.out.blk _) (by decide))).trans (blk_alloc HB3.out.blk _))
  have HO4 := Lib.hid (show OwnC w.heap.size w4 v4 (delC x cs ++ [x]) by unfold OwnC OwnR; rw [flat_snoc, List.length_append, HD.out]; exact ho4)
  obtain ⟨a4, c4, hv4, hnc4, hcm4, hat4, hge4, hfm4⟩ := HO4.out.read
  rw [List.length_append, HD.out] at hv4 hnc4
  simp only [List.length_cons, List.length_nil, Nat.zero_add] at hv4 hnc4
  subst hv4
  have HA4 := Lib.hid hat4
  have HCM4 := Lib.hid hcm4
  have hcm4' := hcm4
  unfold maxLen at hcm4'
  clear ho4 hg4 O3 HB3 hk3 hl3 hat4 hcm4
  have hd : decide (16 < (m : Int) + 1) = true := by simp; omega
  obtain ⟨g4, rfl⟩ : ∃ g, a4 = some ⟨g, 0, none⟩ := by
    rcases hfm4 with ⟨_, _, e⟩ | ⟨g, e⟩
    · simp at e
    · exact ⟨g, e⟩
  have hne : ¬ c4 = 1 := by omega
  have hf4 := blk_free HB4.out.blk
  have hl4 := HB4.out.lt
  have hc4l := HB4.out.cl H6.out
  clear hge4 hfm4
  go_upto_region 7 with (fail)
  have hk1 := (Kept.refl qb w4).setCell 13 (.int .i64 (lost + 1))
  have HB5 := Lib.hid (HB4.out.setl H6.out (lost + 1))
  have hc5v : (w4.setCell ⟨qb, 13, none⟩ (.int .i64 (lost + 1))).cell? ⟨qb, 1 + i * 2 + 1, none⟩ = some (.slice a n c) := HB5.out.cv HI.out
  have hf5 := blk_free HB5.out.blk
  have hl5 := HB5.out.lt
  have hk := hk1.setCell (1 + i * 2 + 1) (.slice (some ⟨g4, 9, none⟩) m (c4 - 1))
  have HB6 := Lib.hid (show QB ((w4.setCell ⟨qb, 13, none⟩ (.int .i64 (lost + 1))).setCell ⟨qb, 1 + i * 2 + 1, none⟩ (.slice (some ⟨g4, 9, none⟩) m (c4 - 1))) qb np (sl.set i (p, .slice (some ⟨g4, 9, none⟩) m (c4 - 1))) (lost + 1) from HB5.out.setv HI.out _)
  have HS6 := Lib.hid (HB4.out.slc (Rim.kept hk) (show SlC w4 (.slice (some ⟨g4, 9, none⟩) m (c4 - 1)) ((delC x cs ++ [x]).drop 1) from ⟨_, c4 - 1, by rw [List.length_drop, List.length_append, HD.out]; rfl, by rw [List.length_drop, List.length_append, HD.out]; simp; omega, by have := HCM4.out; omega, by have := HA4.out.drop 1; rwa [Nat.zero_add, Nat.one_mul] at this, .inr ⟨g4, 9, rfl⟩⟩))
  have R6 := Lib.hid ((Rim.of (b := qb) D4).trans (Rim.kept hk))
  clear hk hk1
  go_wp2
  go_end0
  exact ⟨rfl, ⟨_, HB6.out, HS6.out⟩, R6.out⟩

end Go.Proofs.Ytmpkkkcoiljhpaa
