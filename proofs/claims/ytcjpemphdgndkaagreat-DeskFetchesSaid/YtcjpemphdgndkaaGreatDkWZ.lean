/- Cards of a shelf inside a desk; feeds of a desk. -/
import Derived.Test.YtcjpemphdgndkaaGreatDkRZ
import Derived.Test.YtcjpemphdgndkaaGreatDkPZ
import Derived.Test.YtcjpemphdgndkaaGreatSeaZ
import Derived.Test.YtcjpemphdgndkaaGreatSplitZ
namespace Go.Proofs.YtcjpemphdgndkaaGreat
open Go.RowKit
set_option linter.unusedVariables false
set_option linter.unusedSimpArgs false

set_option maxRecDepth 100000 in
set_option maxHeartbeats 2000000 in
theorem dkCards (Dk0 : DkR) (sb : Nat) (most : Int) (es : List En) (w : World) (h : DkS Dk0 w sb most es) (hn : es.length ≤ 900) :
    Calls Tryz.prog 129 #[.pointer (some ⟨sb, 4, none⟩)] w fun r w' => ∃ v, r = .returned v ∧ OwnC w.heap.size w' v (es.map (·.c)) ∧ Below w.heap.size w w' := by
  obtain ⟨a, c, h1, h2, h3, h4, h5⟩ := h
  obtain ⟨i0, hi, hz0, hz1, hz2⟩ := info_parts' info_card
  have H1 := Lib.hid h1
  have H2 := Lib.hid h2
  have c1 := blk_cell h1 5
  simp only [List.getElem?_toArray, List.getElem?_cons_zero, List.getElem?_cons_succ] at c1
  obtain ⟨n, hl⟩ : ∃ n, es.length = n := ⟨_, rfl⟩
  have HL := Lib.hid hl
  rw [hl] at c1 h3 hn H1
  have R0 := Below.refl w.heap.size w
  clear h1 h2 hl h5
  unfold maxLen at h4
  go_enter Tryz.func129, Tryz.ntmps129
  go_wp2_with (at_make; refine wpList_make_own _ rfl _ _ 30 rfl w.heap.size 37 i0 Cd.zero.v 9 Tryz.underlying30 hi hz0 hz1 _ _ _ n rfl rfl rfl (by rw [hz2]; omega) (by unfold maxLen; omega) (Nat.le_refl _) ?_)
  intro w1 ho1 hg1
  have hb1 := R0.grown hg1 (Nat.le_refl _) (fun q hq => by cases hq)
  have HO1 := Lib.hid (show OwnC w.heap.size w1 (.slice (some ⟨w.heap.size, 0, none⟩) 0 n) [] from ho1)
  have HB1 := Lib.hid hb1
  clear c1
  have c1 := blk_cell (show BoxD Dk0 w1 sb most a n c from blk_ext hb1 H1.out) 5
  simp only [List.getElem?_toArray, List.getElem?_cons_zero, List.getElem?_cons_succ] at c1
  clear ho1 hg1 hb1 R0
  go_wp2_with fail
  go_loopw [3, 17] (fun v j wr => ∃ J : Nat, J ≤ n ∧ j = .int .i64 (J : Int) ∧ OwnC w.heap.size wr v ((es.take J).map (·.c)) ∧ Below w.heap.size w wr) (fun v j _ => n - (intOf j).toNat)
  case atStart => exact ⟨0, by omega, rfl, HO1.out, HB1.out⟩
  case round =>
    obtain ⟨w2, rfl⟩ : ∃ y : World, y = wr := ⟨_, rfl⟩
    obtain ⟨J, hJ, rfl, ho2, hb2⟩ := hrel
    have hlen : ((es.take J).map (·.c)).length = J := by rw [List.length_map, List.length_take, HL.out]; omega
    obtain ⟨S, hS⟩ : ∃ S, (es.take J).map (·.c) = S := ⟨_, rfl⟩
    rw [hS] at ho2 hlen
    have HS := Lib.hid hS
    obtain ⟨ga, gc, rfl, hgn, hgm, hgf⟩ := OwnR.form ho2
    rw [hlen] at hgn ho2 ⊢
    have HLEN := Lib.hid hlen
    have HO2 := Lib.hid ho2
    have HB2 := Lib.hid hb2
    clear hS hlen ho2
    by_cases hlt : J < n
    · obtain ⟨x, hx⟩ : ∃ x, es[J]? = some x := ⟨_, List.getElem?_eq_getElem (by have := HL.out; omega)⟩
      obtain ⟨b, o, rfl⟩ : ∃ b o, a = some ⟨b, o, none⟩ := by
        rcases H2.out with h | ⟨b, o, e, _⟩
        · rw [h] at hx; simp at hx
        · exact ⟨b, o, e⟩
      obtain ⟨y0, y1, y2, y3, y4, y5, y6, y7, y8, y9⟩ := EAt.at (H2.out.ext hb2) hx
      have HST := Lib.hid (show (es.take (J + 1)).map (·.c) = S ++ [x.c] from by rw [List.take_add_one, hx, List.map_append, HS.out]; rfl)
      have D3 : Below w2.heap.size w2 (w2.alloc (.cells #[.string x.c.a, .string x.c.i, .int .i64 x.c.s, .int .i64 x.c.o, .int .i64 x.c.l, .int .i64 x.c.t, .int .i64 x.c.k, .int .i64 x.c.n, .bool x.c.g, .int .i64 x.seen] 58)) := (Below.refl _ _).alloc (Nat.le_refl _) _
      have HX3 := Lib.hid (blk_new w2 #[.string x.c.a, .string x.c.i, .int .i64 x.c.s, .int .i64 x.c.o, .int .i64 x.c.l, .int .i64 x.c.t, .int .i64 x.c.k, .int .i64 x.c.n, .bool x.c.g, .int .i64 x.seen] 58)
      have HO3 := Lib.hid (HO2.out.ext D3)
      have HB3 := Lib.hid (HB2.out.trans (D3.mono HB2.out.size))
      clear hx hb2 D3 HO2 HB2
      go_upto_region 5 with (fail)
      generalize (w2.alloc (.cells #[.string x.c.a, .string x.c.i, .int .i64 x.c.s, .int .i64 x.c.o, .int .i64 x.c.l, .int .i64 x.c.t, .int .i64 x.c.k, .int .i64 x.c.n, .bool x.c.g, .int .i64 x.seen] 58)) = w3 at *
      have hk3 := blk_cell HX3.out
      have hl3 := blk_lt HX3.out
      have E4 : Below w3.heap.size w3 (w3.alloc (.cells #[.string x.c.a, .string x.c.i, .int .i64 x.c.s, .int .i64 x.c.o, .int .i64 x.c.l, .int .i64 x.c.t, .int .i64 x.c.k, .int .i64 x.c.n, .bool x.c.g] 37)) := (Below.refl _ _).alloc (Nat.le_refl _) _
      have HO4 := Lib.hid (show (w3.alloc (.cells #[.string x.c.a, .string x.c.i, .int .i64 x.c.s, .int .i64 x.c.o, .int .i64 x.c.l, .int .i64 x.c.t, .int .i64 x.c.k, .int .i64 x.c.n, .bool x.c.g] 37)).ownsRow w.heap.size 37 9 (.slice ga J gc) J (flat cc S) from by
        have := OwnR.ext HO3.out E4
        unfold OwnR at this
        rwa [HLEN.out] at this)
      have HV4 := Lib.hid (blk_new w3 #[.string x.c.a, .string x.c.i, .int .i64 x.c.s, .int .i64 x.c.o, .int .i64 x.c.l, .int .i64 x.c.t, .int .i64 x.c.k, .int .i64 x.c.n, .bool x.c.g] 37)
      have HB4 := Lib.hid (HB3.out.trans (E4.mono HB3.out.size))
      clear E4 HO3
      go_wp2_with (at_builtin; refine wpList_append_own _ rfl _ _ 30 rfl (w.heap.size) 37 i0 Cd.zero.v 9 88 Tryz.underlying30 hi hz0 hz1 hz2 rfl (by decide) (.slice ga J gc) J (flat cc S) rfl HO4.out ⟨w3.heap.size, 0, none⟩ 1 1 (cc x.c) rfl rfl ?c1 ?c2 ?c3 ?c4 ?c5 ?_)
      case c1 => intro j u hj; rw [add_off, Nat.zero_add, blk_cell HV4.out]; simpa [cc] using hj
      case c2 => exact cc_one x.c
      case c3 => unfold maxLen; omega
      case c4 => omega
      case c5 => exact HB4.out.size
      intro v5 w5 ho5 hg5 _
      have HB5 := Lib.hid (show Below w.heap.size w w5 from HB4.out.grown hg5 HB4.out.size (fun q hq => own_ge HO4.out hq))
      have HO5 := Lib.hid (show OwnC w.heap.size w5 v5 (S ++ [x.c]) from by unfold OwnC OwnR; rw [flat_snoc, List.length_append, HLEN.out]; exact ho5)
      obtain ⟨a5, c5, rfl, -, -, -⟩ := OwnR.form HO5.out
      clear ho5 hg5 HO4 HV4 HB4 hk3 hl3
      go_wp2
      go_roundw
      case rel => exact ⟨J + 1, by omega, by go_num, by rw [HST.out]; exact HO5.out, HB5.out⟩
      case measure => simp [intOf]; omega
    · have hJn : J = n := by omega
      have hlt2 : decide ((J : Int) < (n : Int)) = false := by simp; omega
      have HF := Lib.hid (show OwnC w.heap.size w2 (.slice ga J gc) (es.map (·.c)) from by
        have e : es.map (·.c) = S := by rw [← HS.out, hJn, List.take_of_length_le (by have := HL.out; omega)]
        rw [e]
        exact HO2.out)
      clear hb2 hJn
      go_wp2
      go_ret
      exact ⟨_, rfl, HF.out, HB2.out⟩
/-- the card of a key by now; one that is gone, if there is none -/
def cur (es : List En) (k : Ky) : Cd := if isIn k es = true then ((es[low k es]?).map (·.c)).getD Cd.zero else ⟨k.1, k.2, 2, 0, 1, 0, 0, 0, true⟩
theorem cur_yes {es : List En} {k : Ky} {x : En} (hi : isIn k es = true) (hx : es[low k es]? = some x) : cur es k = x.c := by unfold cur; rw [if_pos hi, hx]; rfl
theorem cur_no {es : List En} {k : Ky} (hi : isIn k es = false) : cur es k = ⟨k.1, k.2, 2, 0, 1, 0, 0, 0, true⟩ := by unfold cur; rw [if_neg (by rw [hi]; simp)]
set_option maxRecDepth 100000 in
set_option maxHeartbeats 2000000 in
theorem feedCurrentD (Dk0 : DkR) (sb : Nat) (most : Int) (es : List En) (k : Ky) (w : World) (h : DkS Dk0 w sb most es) (hs : Asc es) (hn : es.length ≤ 900) :
    Calls Tryz.prog 131 #[.pointer (some ⟨sb, 4, none⟩), .agg #[.string k.1, .string k.2]] w fun r w' => r = .returned (.agg #[.string (cur es k).a, .string (cur es k).i, .int .i64 (cur es k).s, .int .i64 (cur es k).o, .int .i64 (cur es k).l, .int .i64 (cur es k).t, .int .i64 (cur es k).k, .int .i64 (cur es k).n, .bool (cur es k).g]) ∧ Below w.heap.size w w' := by
  have D0 : Below w.heap.size w ((w.alloc (.cells #[.string k.1, .string k.2] 28)).alloc (.cells #[.string ⟨#[]⟩, .string ⟨#[]⟩, .int .i64 0, .int .i64 0, .int .i64 0, .int .i64 0, .int .i64 0, .int .i64 0, .bool false] 37)) := ((Below.refl _ _).alloc (Nat.le_refl _) _).alloc (by simp) _
  have HK := Lib.hid (blk_alloc (blk_new w #[.string k.1, .string k.2] 28) (.cells #[.string ⟨#[]⟩, .string ⟨#[]⟩, .int .i64 0, .int .i64 0, .int .i64 0, .int .i64 0, .int .i64 0, .int .i64 0, .bool false] 37))
  have HR := Lib.hid (show ((w.alloc (.cells #[.string k.1, .string k.2] 28)).alloc (.cells #[.string ⟨#[]⟩, .string ⟨#[]⟩, .int .i64 0, .int .i64 0, .int .i64 0, .int .i64 0, .int .i64 0, .int .i64 0, .bool false] 37)).heap[w.heap.size + 1]? = some (.cells #[.string ⟨#[]⟩, .string ⟨#[]⟩, .int .i64 0, .int .i64 0, .int .i64 0, .int .i64 0, .int .i64 0, .int .i64 0, .bool false] 37 (0, 0)) from blk_new_at (by simp) _ _)
  have HS := Lib.hid (h.ext D0)
  have HB0 := Lib.hid D0
  clear h D0
  go_enter Tryz.func131, Tryz.ntmps131
  go_upto_region 1 with (fail)
  obtain ⟨p, hp⟩ : ∃ p, w.heap.size = p := ⟨_, rfl⟩
  obtain ⟨r, hr⟩ : ∃ r, w.heap.size + 1 = r := ⟨_, rfl⟩
  have HRP := Lib.hid (show w.heap.size ≤ r by omega)
  rw [hp] at HK
  rw [hr] at HR
  try rw [hp]
  try rw [hp] at hr
  try rw [hr]
  clear hr hp
  generalize ((w.alloc (.cells #[.string k.1, .string k.2] 28)).alloc (.cells #[.string ⟨#[]⟩, .string ⟨#[]⟩, .int .i64 0, .int .i64 0, .int .i64 0, .int .i64 0, .int .i64 0, .int .i64 0, .bool false] 37)) = w0 at *
  have hk0 := blk_cell HK.out
  have hl0 := blk_lt HK.out
  cases hin : isIn k es
  · go_wp2_with fail
    refine (dkGetNo Dk0 sb most es k _ HS.out hs hn hin).mono ?_
    rintro q w1 ⟨rfl, hb1⟩
    have HCU := Lib.hid (cur_no hin)
    have HR2 := Lib.hid (blk_ext hb1 HR.out)
    have HK2 := Lib.hid (blk_ext hb1 HK.out)
    have HB2 := Lib.hid (ext_trans HB0.out hb1)
    have D2 := Lib.hid (show Below w1.heap.size w1 (w1.alloc (.cells #[.string ⟨#[]⟩, .string ⟨#[]⟩, .int .i64 0, .int .i64 0, .int .i64 0, .int .i64 0, .int .i64 0, .int .i64 0, .bool false, .int .i64 0] 58)) from (Below.refl _ _).alloc (Nat.le_refl _) _)
    clear hb1 hk0 hl0 HR HK HB0 HS
    go_upto_region 2 with (fail)
    have HR3 := Lib.hid (blk_ext D2.out HR2.out)
    have HK3 := Lib.hid (blk_ext D2.out HK2.out)
    have HB3 := Lib.hid (ext_trans HB2.out D2.out)
    clear HR2 HK2 HB2 D2
    generalize (w1.alloc (.cells #[.string ⟨#[]⟩, .string ⟨#[]⟩, .int .i64 0, .int .i64 0, .int .i64 0, .int .i64 0, .int .i64 0, .int .i64 0, .bool false, .int .i64 0] 58)) = w3 at *
    have hk3 := blk_cell HK3.out
    have hl3 := blk_lt HK3.out
    have hrk := blk_cell HR3.out
    have hrf := blk_free HR3.out
    have hrl := blk_lt HR3.out
    go_wp2_with fail
    exact bodyPost_ret (v := .agg #[.string k.1, .string k.2, .int .i64 2, .int .i64 0, .int .i64 1, .int .i64 0, .int .i64 0, .int .i64 0, .bool true]) (by have hk2 := blk_cell (blk_fill9 (v0 := .string k.1) (v1 := .string k.2) (v2 := .int .i64 2) (v3 := .int .i64 0) (v4 := .int .i64 1) (v5 := .int .i64 0) (v6 := .int .i64 0) (v7 := .int .i64 0) (v8 := .bool true) HR3.out rfl); simp [results, Tryz.results131, go_sem, hk2]) rfl ⟨by rw [HCU.out], below_fill9 HB3.out HRP.out⟩
  · obtain ⟨x, hx, -, -⟩ := isIn_at hin
    go_wp2_with fail
    refine (dkGetYes Dk0 sb most es k _ HS.out x hs hn hx hin).mono ?_
    rintro q w1 ⟨rfl, hb1⟩
    have HCU := Lib.hid (cur_yes hin hx)
    have HR2 := Lib.hid (blk_ext hb1 HR.out)
    have HB2 := Lib.hid (ext_trans HB0.out hb1)
    have D2 := Lib.hid (show Below w1.heap.size w1 (w1.alloc (.cells #[.string x.c.a, .string x.c.i, .int .i64 x.c.s, .int .i64 x.c.o, .int .i64 x.c.l, .int .i64 x.c.t, .int .i64 x.c.k, .int .i64 x.c.n, .bool x.c.g, .int .i64 x.seen] 58)) from (Below.refl _ _).alloc (Nat.le_refl _) _)
    have HX2 := Lib.hid (blk_new w1 #[.string x.c.a, .string x.c.i, .int .i64 x.c.s, .int .i64 x.c.o, .int .i64 x.c.l, .int .i64 x.c.t, .int .i64 x.c.k, .int .i64 x.c.n, .bool x.c.g, .int .i64 x.seen] 58)
    clear hb1 hk0 hl0 HR HK HB0 HS hx hin
    go_upto_region 2 with (fail)
    obtain ⟨q, hq⟩ : ∃ q, w1.heap.size = q := ⟨_, rfl⟩
    have HR3 := Lib.hid (blk_ext D2.out HR2.out)
    have HB3 := Lib.hid (ext_trans HB2.out D2.out)
    try rw [hq]
    rw [hq] at HX2
    clear HR2 HB2 D2 hq
    generalize (w1.alloc (.cells #[.string x.c.a, .string x.c.i, .int .i64 x.c.s, .int .i64 x.c.o, .int .i64 x.c.l, .int .i64 x.c.t, .int .i64 x.c.k, .int .i64 x.c.n, .bool x.c.g, .int .i64 x.seen] 58)) = w3 at *
    have hk3 := blk_cell HX2.out
    have hl3 := blk_lt HX2.out
    have hrk := blk_cell HR3.out
    have hrf := blk_free HR3.out
    have hrl := blk_lt HR3.out
    go_wp2_with fail
    exact bodyPost_ret (v := .agg #[.string x.c.a, .string x.c.i, .int .i64 x.c.s, .int .i64 x.c.o, .int .i64 x.c.l, .int .i64 x.c.t, .int .i64 x.c.k, .int .i64 x.c.n, .bool x.c.g]) (by have hk2 := blk_cell (blk_fill9 (v0 := .string x.c.a) (v1 := .string x.c.i) (v2 := .int .i64 x.c.s) (v3 := .int .i64 x.c.o) (v4 := .int .i64 x.c.l) (v5 := .int .i64 x.c.t) (v6 := .int .i64 x.c.k) (v7 := .int .i64 x.c.n) (v8 := .bool x.c.g) HR3.out rfl); simp [results, Tryz.results131, go_sem, hk2]) rfl ⟨by rw [HCU.out], below_fill9 HB3.out HRP.out⟩
theorem blk_fill13 {w : World} {b : Nat} {T : TypeId} {vs : Array Value} {v0 v1 v2 v3 v4 v5 v6 v7 v8 v9 v10 v11 v12 : Value} (h : w.heap[b]? = some (.cells vs T (0, 0))) (hs : vs.size = 13) : (((((((((((((w.setCell ⟨b, 0, none⟩ v0).setCell ⟨b, 1, none⟩ v1).setCell ⟨b, 2, none⟩ v2).setCell ⟨b, 3, none⟩ v3).setCell ⟨b, 4, none⟩ v4).setCell ⟨b, 5, none⟩ v5).setCell ⟨b, 6, none⟩ v6).setCell ⟨b, 7, none⟩ v7).setCell ⟨b, 8, none⟩ v8).setCell ⟨b, 9, none⟩ v9).setCell ⟨b, 10, none⟩ v10).setCell ⟨b, 11, none⟩ v11).setCell ⟨b, 12, none⟩ v12).heap[b]? = some (.cells #[v0, v1, v2, v3, v4, v5, v6, v7, v8, v9, v10, v11, v12] T (0, 0)) := by
  obtain ⟨l⟩ := vs
  match l, hs with
  | [x0, x1, x2, x3, x4, x5, x6, x7, x8, x9, x10, x11, x12], _ =>
    have h0 := blk_set (n := 0) (u := v0) (vs' := #[v0, x1, x2, x3, x4, x5, x6, x7, x8, x9, x10, x11, x12]) h (by simp)
    have h1 := blk_set (n := 1) (u := v1) (vs' := #[v0, v1, x2, x3, x4, x5, x6, x7, x8, x9, x10, x11, x12]) h0 (by simp)
    have h2 := blk_set (n := 2) (u := v2) (vs' := #[v0, v1, v2, x3, x4, x5, x6, x7, x8, x9, x10, x11, x12]) h1 (by simp)
    have h3 := blk_set (n := 3) (u := v3) (vs' := #[v0, v1, v2, v3, x4, x5, x6, x7, x8, x9, x10, x11, x12]) h2 (by simp)
    have h4 := blk_set (n := 4) (u := v4) (vs' := #[v0, v1, v2, v3, v4, x5, x6, x7, x8, x9, x10, x11, x12]) h3 (by simp)
    have h5 := blk_set (n := 5) (u := v5) (vs' := #[v0, v1, v2, v3, v4, v5, x6, x7, x8, x9, x10, x11, x12]) h4 (by simp)
    have h6 := blk_set (n := 6) (u := v6) (vs' := #[v0, v1, v2, v3, v4, v5, v6, x7, x8, x9, x10, x11, x12]) h5 (by simp)
    have h7 := blk_set (n := 7) (u := v7) (vs' := #[v0, v1, v2, v3, v4, v5, v6, v7, x8, x9, x10, x11, x12]) h6 (by simp)
    have h8 := blk_set (n := 8) (u := v8) (vs' := #[v0, v1, v2, v3, v4, v5, v6, v7, v8, x9, x10, x11, x12]) h7 (by simp)
    have h9 := blk_set (n := 9) (u := v9) (vs' := #[v0, v1, v2, v3, v4, v5, v6, v7, v8, v9, x10, x11, x12]) h8 (by simp)
    have h10 := blk_set (n := 10) (u := v10) (vs' := #[v0, v1, v2, v3, v4, v5, v6, v7, v8, v9, v10, x11, x12]) h9 (by simp)
    have h11 := blk_set (n := 11) (u := v11) (vs' := #[v0, v1, v2, v3, v4, v5, v6, v7, v8, v9, v10, v11, x12]) h10 (by simp)
    have h12 := blk_set (n := 12) (u := v12) (vs' := #[v0, v1, v2, v3, v4, v5, v6, v7, v8, v9, v10, v11, v12]) h11 (by simp)
    exact h12
theorem blk_over13 {w : World} {b c : Nat} {o : Obj} {v0 v1 v2 v3 v4 v5 v6 v7 v8 v9 v10 v11 v12 : Value} (hn : c ≠ b) (h : w.heap[c]? = some o) : (((((((((((((w.setCell ⟨b, 0, none⟩ v0).setCell ⟨b, 1, none⟩ v1).setCell ⟨b, 2, none⟩ v2).setCell ⟨b, 3, none⟩ v3).setCell ⟨b, 4, none⟩ v4).setCell ⟨b, 5, none⟩ v5).setCell ⟨b, 6, none⟩ v6).setCell ⟨b, 7, none⟩ v7).setCell ⟨b, 8, none⟩ v8).setCell ⟨b, 9, none⟩ v9).setCell ⟨b, 10, none⟩ v10).setCell ⟨b, 11, none⟩ v11).setCell ⟨b, 12, none⟩ v12).heap[c]? = some o := by
  exact (blk_set_other hn (blk_set_other hn (blk_set_other hn (blk_set_other hn (blk_set_other hn (blk_set_other hn (blk_set_other hn (blk_set_other hn (blk_set_other hn (blk_set_other hn (blk_set_other hn (blk_set_other hn (blk_set_other hn h)))))))))))))
theorem below_fill13 {m : Nat} {u w : World} {b : Nat} {v0 v1 v2 v3 v4 v5 v6 v7 v8 v9 v10 v11 v12 : Value} (h : Below m u w) (hb : m ≤ b) : Below m u (((((((((((((w.setCell ⟨b, 0, none⟩ v0).setCell ⟨b, 1, none⟩ v1).setCell ⟨b, 2, none⟩ v2).setCell ⟨b, 3, none⟩ v3).setCell ⟨b, 4, none⟩ v4).setCell ⟨b, 5, none⟩ v5).setCell ⟨b, 6, none⟩ v6).setCell ⟨b, 7, none⟩ v7).setCell ⟨b, 8, none⟩ v8).setCell ⟨b, 9, none⟩ v9).setCell ⟨b, 10, none⟩ v10).setCell ⟨b, 11, none⟩ v11).setCell ⟨b, 12, none⟩ v12) := (((((((((((((h.setCell hb _).setCell hb _).setCell hb _).setCell hb _).setCell hb _).setCell hb _).setCell hb _).setCell hb _).setCell hb _).setCell hb _).setCell hb _).setCell hb _).setCell hb _)
/-- what a feed is: full or not, its number, its sum, its cards -/
def FdP (full : Bool) (q s : Int) (cs : List Cd) (w : World) (e : Ending) (w' : World) : Prop := ∃ a n c, e = .returned (.agg #[.int .i64 2, .int .i64 5, .int .i64 0, .int .i64 0, .int .i64 0, .int .i64 0, .int .i64 q, .string ⟨#[]⟩, .string ⟨#[]⟩, .bool full, .int .u32 s, .slice a n c, .slice none 0 0]) ∧ cs.length = n ∧ n ≤ c ∧ c ≤ maxLen ∧ CAt w' a cs ∧ Below w.heap.size w w'
set_option maxRecDepth 100000 in
set_option maxHeartbeats 2000000 in
theorem feedHeadD (Dk0 : DkR) (Dq : DkQ) (sb rb q : Nat) (most : Int) (es : List En) (ks : List Ky) (w : World) (h : DkS Dk0 w sb most es) (h2 : RecAtD Dq w rb q ks) (hn : es.length ≤ 100) (hc : ∀ x ∈ es, CdS x.c) :
    Calls Tryz.prog 127 #[.pointer (some ⟨sb, 4, none⟩), .pointer (some ⟨rb, 9, none⟩)] w fun r w' => r = .returned (.agg #[.int .i64 2, .int .i64 5, .int .i64 0, .int .i64 0, .int .i64 0, .int .i64 0, .int .i64 q, .string ⟨#[]⟩, .string ⟨#[]⟩, .bool false, .int .u32 (sm (sealB (es.map (·.c)))), .slice none 0 0, .slice none 0 0]) ∧ Below w.heap.size w w' := by
  have D0 : Below w.heap.size w (w.alloc (.cells #[.int .i64 0, .int .i64 0, .int .i64 0, .int .i64 0, .int .i64 0, .int .i64 0, .int .i64 0, .string ⟨#[]⟩, .string ⟨#[]⟩, .bool false, .int .u32 0, .slice none 0 0, .slice none 0 0] 33)) := (Below.refl _ _).alloc (Nat.le_refl _) _
  have HX := Lib.hid (blk_new w #[.int .i64 0, .int .i64 0, .int .i64 0, .int .i64 0, .int .i64 0, .int .i64 0, .int .i64 0, .string ⟨#[]⟩, .string ⟨#[]⟩, .bool false, .int .u32 0, .slice none 0 0, .slice none 0 0] 33)
  have HS := Lib.hid (h.ext D0)
  have HQ := Lib.hid (h2.ext D0)
  have HB0 := Lib.hid D0
  have HCS := Lib.hid (show ∀ x ∈ (es.map (·.c)), CdS x from fun x hx => by obtain ⟨e, he, rfl⟩ := List.mem_map.1 hx; exact hc e he)
  clear h h2 D0 hc
  go_enter Tryz.func127, Tryz.ntmps127
  go_upto_region 1 with (fail)
  obtain ⟨r, hr⟩ : ∃ r, w.heap.size = r := ⟨_, rfl⟩
  rw [hr] at HX
  try rw [hr]
  have HRr := Lib.hid (show w.heap.size ≤ r by omega)
  clear hr
  generalize (w.alloc (.cells #[.int .i64 0, .int .i64 0, .int .i64 0, .int .i64 0, .int .i64 0, .int .i64 0, .int .i64 0, .string ⟨#[]⟩, .string ⟨#[]⟩, .bool false, .int .u32 0, .slice none 0 0, .slice none 0 0] 33)) = w0 at *
  go_wp2_with fail
  refine (recentSeqD Dq rb q ks _ HQ.out).mono ?_
  rintro e w1 ⟨rfl, hw1⟩
  have HX1 := Lib.hid (show w1.heap[r]? = some (.cells #[.int .i64 0, .int .i64 0, .int .i64 0, .int .i64 0, .int .i64 0, .int .i64 0, .int .i64 0, .string ⟨#[]⟩, .string ⟨#[]⟩, .bool false, .int .u32 0, .slice none 0 0, .slice none 0 0] 33 (0, 0)) from by rw [← hw1]; exact HX.out)
  have HS1 := Lib.hid (show DkS Dk0 w1 sb most es from by rw [← hw1]; exact HS.out)
  have HB1 := Lib.hid (show Below w.heap.size w w1 from by rw [← hw1]; exact HB0.out)
  clear hw1 HX HS HB0 HQ
  go_wp2_with fail
  refine (dkCards Dk0 sb most es _ HS1.out (by omega)).mono ?_
  rintro e w2 ⟨v, rfl, ho, hb⟩
  obtain ⟨ca, cc', rfl, hcc, hcm, hcat, -, -⟩ := ho.read
  rw [List.length_map] at hcc ⊢
  have HX2 := Lib.hid (blk_ext hb HX1.out)
  have HB2 := Lib.hid (ext_trans HB1.out hb)
  have HC2 := Lib.hid hcat
  clear ho hb hcat HX1 HS1 HB1
  go_wp2_with fail
  refine (sealOf ca es.length cc' (es.map (·.c)) _ HC2.out (List.length_map ..) hn hcc HCS.out).mono ?_
  rintro e w3 ⟨rfl, hb⟩
  obtain ⟨S, hS⟩ : ∃ S, sm (sealB (es.map (·.c))) = S := ⟨_, rfl⟩
  have HSS := Lib.hid hS
  rw [hS]
  have HX3 := Lib.hid (blk_ext hb HX2.out)
  have HB3 := Lib.hid (ext_trans HB2.out hb)
  have hk3 := blk_cell HX3.out
  have hf3 := blk_free HX3.out
  have hl3 := blk_lt HX3.out
  clear hb HX2 HB2 HC2 hS
  go_wp2_with fail
  exact bodyPost_ret (v := .agg #[.int .i64 2, .int .i64 5, .int .i64 0, .int .i64 0, .int .i64 0, .int .i64 0, .int .i64 q, .string ⟨#[]⟩, .string ⟨#[]⟩, .bool false, .int .u32 S, .slice none 0 0, .slice none 0 0]) (by have hk2 := blk_cell (blk_fill13 (v0 := .int .i64 2) (v1 := .int .i64 5) (v2 := .int .i64 0) (v3 := .int .i64 0) (v4 := .int .i64 0) (v5 := .int .i64 0) (v6 := .int .i64 q) (v7 := .string ⟨#[]⟩) (v8 := .string ⟨#[]⟩) (v9 := .bool false) (v10 := .int .u32 S) (v11 := .slice none 0 0) (v12 := .slice none 0 0) HX3.out rfl); simp [results, Tryz.results127, go_sem, hk2]) rfl ⟨by rw [HSS.out], below_fill13 HB3.out HRr.out⟩
set_option maxRecDepth 100000 in
set_option maxHeartbeats 2000000 in
theorem feedFullD (Dk0 : DkR) (Dq : DkQ) (sb rb q : Nat) (most : Int) (es : List En) (ks : List Ky) (w : World) (h : DkS Dk0 w sb most es) (h2 : RecAtD Dq w rb q ks) (hn : es.length ≤ 100) (hc : ∀ x ∈ es, CdS x.c) :
    Calls Tryz.prog 86 #[.pointer (some ⟨sb, 4, none⟩), .pointer (some ⟨rb, 9, none⟩)] w fun r w' => FdP true q (sm (sealB (es.map (·.c)))) (seenL (es.map (·.c))) w r w' := by
  have D0 : Below w.heap.size w (w.alloc (.cells #[.int .i64 0, .int .i64 0, .int .i64 0, .int .i64 0, .int .i64 0, .int .i64 0, .int .i64 0, .string ⟨#[]⟩, .string ⟨#[]⟩, .bool false, .int .u32 0, .slice none 0 0, .slice none 0 0] 33)) := (Below.refl _ _).alloc (Nat.le_refl _) _
  have HX := Lib.hid (blk_new w #[.int .i64 0, .int .i64 0, .int .i64 0, .int .i64 0, .int .i64 0, .int .i64 0, .int .i64 0, .string ⟨#[]⟩, .string ⟨#[]⟩, .bool false, .int .u32 0, .slice none 0 0, .slice none 0 0] 33)
  have HS := Lib.hid (h.ext D0)
  have HQ := Lib.hid (h2.ext D0)
  have HB0 := Lib.hid D0
  clear h h2 D0
  go_enter Tryz.func86, Tryz.ntmps86
  go_upto_region 1 with (fail)
  obtain ⟨r, hr⟩ : ∃ r, w.heap.size = r := ⟨_, rfl⟩
  rw [hr] at HX
  try rw [hr]
  have HRr := Lib.hid (show w.heap.size ≤ r by omega)
  clear hr
  generalize (w.alloc (.cells #[.int .i64 0, .int .i64 0, .int .i64 0, .int .i64 0, .int .i64 0, .int .i64 0, .int .i64 0, .string ⟨#[]⟩, .string ⟨#[]⟩, .bool false, .int .u32 0, .slice none 0 0, .slice none 0 0] 33)) = w0 at *
  go_wp2_with fail
  refine (feedHeadD Dk0 Dq sb rb q most es ks _ HS.out HQ.out hn hc).mono ?_
  rintro e w1 ⟨rfl, hb⟩
  obtain ⟨CS, hCS⟩ : ∃ CS, (es.map (·.c)) = CS := ⟨_, rfl⟩
  have HCS := Lib.hid hCS
  rw [hCS]
  obtain ⟨S, hS⟩ : ∃ S, sm (sealB CS) = S := ⟨_, rfl⟩
  have HSS := Lib.hid hS
  rw [hS]
  have HX1 := Lib.hid (blk_ext hb HX.out)
  have HS1 := Lib.hid (HS.out.ext hb)
  have HB1 := Lib.hid (ext_trans HB0.out hb)
  have hl1 := blk_lt HX1.out
  have D2 := Lib.hid (show Below w1.heap.size w1 (w1.alloc (.cells #[.int .i64 2, .int .i64 5, .int .i64 0, .int .i64 0, .int .i64 0, .int .i64 0, .int .i64 q, .string ⟨#[]⟩, .string ⟨#[]⟩, .bool false, .int .u32 S, .slice none 0 0, .slice none 0 0] 33)) from (Below.refl _ _).alloc (Nat.le_refl _) _)
  have HM2 := Lib.hid (blk_new w1 #[.int .i64 2, .int .i64 5, .int .i64 0, .int .i64 0, .int .i64 0, .int .i64 0, .int .i64 q, .string ⟨#[]⟩, .string ⟨#[]⟩, .bool false, .int .u32 S, .slice none 0 0, .slice none 0 0] 33)
  clear hb HX HS HQ HB0 hCS hS
  go_upto_region 4 with (fail)
  obtain ⟨m, hm⟩ : ∃ m, w1.heap.size = m := ⟨_, rfl⟩
  have hrm : r ≠ m := by omega
  have HM0 := Lib.hid (show w.heap.size ≤ m from by rw [← hm]; exact HB1.out.size)
  rw [hm] at HM2
  try rw [hm]
  have HX2 := Lib.hid (blk_ext D2.out HX1.out)
  have HS2 := Lib.hid (HS1.out.ext D2.out)
  have HB2 := Lib.hid (ext_trans HB1.out D2.out)
  have HW2 := Lib.hid (show m < (w1.alloc (.cells #[.int .i64 2, .int .i64 5, .int .i64 0, .int .i64 0, .int .i64 0, .int .i64 0, .int .i64 q, .string ⟨#[]⟩, .string ⟨#[]⟩, .bool false, .int .u32 S, .slice none 0 0, .slice none 0 0] 33)).heap.size from blk_lt HM2.out)
  clear HX1 HS1 HB1 D2 hm
  generalize (w1.alloc (.cells #[.int .i64 2, .int .i64 5, .int .i64 0, .int .i64 0, .int .i64 0, .int .i64 0, .int .i64 q, .string ⟨#[]⟩, .string ⟨#[]⟩, .bool false, .int .u32 S, .slice none 0 0, .slice none 0 0] 33)) = w2 at *
  go_wp2_with fail
  refine (dkCards Dk0 sb most es _ HS2.out (by omega)).mono ?_
  rintro e w3 ⟨v, rfl, ho, hb⟩
  obtain ⟨ca, cc', rfl, hcc, hcm, hcat, -, -⟩ := ho.read
  rw [HCS.out] at hcc hcat ⊢
  have hCl : CS.length = es.length := by rw [← HCS.out, List.length_map]
  have HCL := Lib.hid hCl
  rw [hCl] at hcc ⊢
  clear hCl
  have HX3 := Lib.hid (blk_ext hb HX2.out)
  have HM3 := Lib.hid (blk_ext hb HM2.out)
  have HB3 := Lib.hid (ext_trans HB2.out hb)
  have HC3 := Lib.hid hcat
  clear ho hb hcat HX2 HS2 HB2 HM2
  go_wp2_with fail
  refine (sealSeen ca es.length cc' CS _ HC3.out HCL.out hn hcc).mono ?_
  rintro e w4 ⟨v, rfl, ho, hb⟩
  obtain ⟨va, vc, rfl, hvc, hvm, hvat, hvb, -⟩ := ho.read
  obtain ⟨k, hk⟩ : ∃ k, (seenL CS).length = k := ⟨_, rfl⟩
  have HKL := Lib.hid hk
  rw [hk] at hvc ⊢
  clear hk
  have HX4 := Lib.hid (blk_ext hb HX3.out)
  have HM4 := Lib.hid (blk_ext hb HM3.out)
  have HB4 := Lib.hid (ext_trans HB3.out hb)
  have HV4 := Lib.hid hvat
  have hz3 := blk_lt HX3.out
  have hz3m := blk_lt HM3.out
  have HVB := Lib.hid (show ∀ b o, va = some ⟨b, o, none⟩ → b ≠ r ∧ b ≠ m from fun b o e => by have := (hvb b o e).1; omega)
  have hk4 := blk_cell HM4.out
  have hf4 := blk_free HM4.out
  have hl4 := blk_lt HM4.out
  clear ho hb hvat hvb HX3 HM3 HB3 HC3
  go_upto_region 5 with (fail)
  have HM5 : ((w4.setCell ⟨m, 9, none⟩ (.bool true)).setCell ⟨m, 11, none⟩ (.slice va k vc)).heap[m]? = some (.cells #[.int .i64 2, .int .i64 5, .int .i64 0, .int .i64 0, .int .i64 0, .int .i64 0, .int .i64 q, .string ⟨#[]⟩, .string ⟨#[]⟩, .bool true, .int .u32 S, .slice va k vc, .slice none 0 0] 33 (0, 0)) := blk_set (blk_set HM4.out (by first | rfl | simp)) (by first | rfl | simp)
  have hkp : Kept m w4 ((w4.setCell ⟨m, 9, none⟩ (.bool true)).setCell ⟨m, 11, none⟩ (.slice va k vc)) := ((Kept.refl m w4).setCell _ _).setCell _ _
  have HV5 := Lib.hid (show CAt ((w4.setCell ⟨m, 9, none⟩ (.bool true)).setCell ⟨m, 11, none⟩ (.slice va k vc)) va (seenL CS) from HV4.out.keep fun b cur hc he => hkp.block b (by obtain ⟨o, e⟩ := he; exact (HVB.out b o e).2))
  have HX5 := Lib.hid ((hkp.block r hrm).trans HX4.out)
  have HB5 := Lib.hid (show Below w.heap.size w ((w4.setCell ⟨m, 9, none⟩ (.bool true)).setCell ⟨m, 11, none⟩ (.slice va k vc)) from (HB4.out.setCell HM0.out _).setCell HM0.out _)
  have HM6 := Lib.hid HM5
  clear hk4 hf4 hl4 hkp HM5 HX4 HM4 HB4 HV4 hl1 hz3 hz3m HW2 hrm
  generalize ((w4.setCell ⟨m, 9, none⟩ (.bool true)).setCell ⟨m, 11, none⟩ (.slice va k vc)) = w5 at *
  have hk5 := blk_cell HM6.out
  have hl5 := blk_lt HM6.out
  have hr5 := blk_cell HX5.out
  have hf5 := blk_free HX5.out
  have hlr5 := blk_lt HX5.out
  go_wp2_with fail
  refine bodyPost_ret (v := .agg #[.int .i64 2, .int .i64 5, .int .i64 0, .int .i64 0, .int .i64 0, .int .i64 0, .int .i64 q, .string ⟨#[]⟩, .string ⟨#[]⟩, .bool true, .int .u32 S, .slice va k vc, .slice none 0 0]) (by have hk2 := blk_cell (blk_fill13 (v0 := .int .i64 2) (v1 := .int .i64 5) (v2 := .int .i64 0) (v3 := .int .i64 0) (v4 := .int .i64 0) (v5 := .int .i64 0) (v6 := .int .i64 q) (v7 := .string ⟨#[]⟩) (v8 := .string ⟨#[]⟩) (v9 := .bool true) (v10 := .int .u32 S) (v11 := .slice va k vc) (v12 := .slice none 0 0) HX5.out rfl); simp [results, Tryz.results86, go_sem, hk2]) rfl ?_
  rw [HCS.out, HSS.out]
  exact ⟨va, k, vc, rfl, HKL.out, hvc, hvm, HV5.out.keep (fun b cur hc he => by
    obtain ⟨o, e⟩ := he
    exact (blk_over13 (HVB.out b o e).1 hc).trans hc.symm), below_fill13 HB5.out HRr.out⟩
end Go.Proofs.YtcjpemphdgndkaaGreat
