/- Feeds: the document's Cards; the card of a key by now. -/
import Derived.Test.YtgnmlkomgokimaaShfXC
import Derived.Test.YtgnmlkomgokimaaShfNN
import Derived.Test.YtgnmlkomgokimaaBh
import Derived.Test.YtgnmlkomgokimaaBi
namespace Go.Proofs.Ytgnmlkomgokimaa
open Go.RowKit
set_option linter.unusedVariables false
set_option linter.unusedSimpArgs false

set_option maxRecDepth 100000 in
set_option maxHeartbeats 2000000 in
theorem rshCards (sb : Nat) (most : Int) (es : List En) (w : World) (h : RShP w sb most es) (hn : es.length ≤ 900) :
    Calls Try.prog 48 #[.pointer (some ⟨sb, 0, none⟩)] w fun r w' => ∃ v, r = .returned v ∧ OwnC w.heap.size w' v (es.map (·.c)) ∧ Below w.heap.size w w' := by
  obtain ⟨a, c, h1, h2, h3, h4, h5⟩ := h
  obtain ⟨i0, hi, hz0, hz1, hz2⟩ := info_parts' info_card
  have H1 := Lib.hid h1
  have H2 := Lib.hid h2
  have c1 := blk_cell h1 1
  simp only [List.getElem?_toArray, List.getElem?_cons_zero, List.getElem?_cons_succ] at c1
  obtain ⟨n, hl⟩ : ∃ n, es.length = n := ⟨_, rfl⟩
  have HL := Lib.hid hl
  rw [hl] at c1 h3 hn H1
  have R0 := Below.refl w.heap.size w
  clear h1 h2 hl h5
  unfold maxLen at h4
  go_enter Try.func48, Try.ntmps48
  have HO1 := Lib.hid (show OwnC w.heap.size w (.slice none 0 0) [] from OwnR.nil _ _)
  have HB1 := Lib.hid R0
  clear R0
  go_wp2_with fail
  go_loopw [3, 11] (fun v j wr => ∃ J : Nat, J ≤ n ∧ j = .int .i64 (J : Int) ∧ OwnC w.heap.size wr v ((es.take J).map (·.c)) ∧ Below w.heap.size w wr) (fun v j _ => n - (intOf j).toNat)
  case atStart => exact ⟨0, by omega, rfl, HO1.out, HB1.out⟩
  case round =>
    obtain ⟨w2, rfl⟩ : ∃ y : World, y = wr := ⟨_, rfl⟩
    obtain ⟨J, hJ, rfl, ho2, hb2⟩ := hrel
    have hlen : ((es.take J).map (·.c)).length = J := by rw [List.length_map, List.length_take, HL.out]; omega
    obtain ⟨S, hS⟩ : ∃ S, (es.take J).map (·.c) = S := ⟨_, rfl⟩
    rw [hS] at ho2 hlen
    have HS := Lib.hid hS
    obtain ⟨ga, gc, rfl, hgn, hgm, hgf⟩ := OwnR.form ho2
    rw [hlen] at hgn ho2 ⊢
    have HLEN := Lib.hid hlen
    have HO2 := Lib.hid ho2
    have HB2 := Lib.hid hb2
    clear hS hlen ho2
    by_cases hlt : J < n
    · obtain ⟨x, hx⟩ : ∃ x, es[J]? = some x := ⟨_, List.getElem?_eq_getElem (by have := HL.out; omega)⟩
      obtain ⟨b, o, rfl⟩ : ∃ b o, a = some ⟨b, o, none⟩ := by
        rcases H2.out with h | ⟨b, o, e, _⟩
        · rw [h] at hx; simp at hx
        · exact ⟨b, o, e⟩
      obtain ⟨y0, y1, y2, y3, y4, y5, y6, y7, y8, y9⟩ := REAt.at (H2.out.ext hb2) hx
      have HST := Lib.hid (show (es.take (J + 1)).map (·.c) = S ++ [x.c] from by rw [List.take_add_one, hx, List.map_append, HS.out]; rfl)
      have D3 : Below w2.heap.size w2 (w2.alloc (.cells #[.string x.c.a, .string x.c.i, .int .i64 x.c.s, .int .i64 x.c.o, .int .i64 x.c.l, .int .i64 x.c.t, .int .i64 x.c.k, .int .i64 x.c.n, .bool x.c.g, .int .i64 x.seen] 73)) := (Below.refl _ _).alloc (Nat.le_refl _) _
      have HX3 := Lib.hid (blk_new w2 #[.string x.c.a, .string x.c.i, .int .i64 x.c.s, .int .i64 x.c.o, .int .i64 x.c.l, .int .i64 x.c.t, .int .i64 x.c.k, .int .i64 x.c.n, .bool x.c.g, .int .i64 x.seen] 73)
      have HO3 := Lib.hid (HO2.out.ext D3)
      have HB3 := Lib.hid (HB2.out.trans (D3.mono HB2.out.size))
      clear hx hb2 D3 HO2 HB2
      go_upto_region 5 with (fail)
      generalize (w2.alloc (.cells #[.string x.c.a, .string x.c.i, .int .i64 x.c.s, .int .i64 x.c.o, .int .i64 x.c.l, .int .i64 x.c.t, .int .i64 x.c.k, .int .i64 x.c.n, .bool x.c.g, .int .i64 x.seen] 73)) = w3 at *
      have hk3 := blk_cell HX3.out
      have hl3 := blk_lt HX3.out
      have E4 : Below w3.heap.size w3 (w3.alloc (.cells #[.string x.c.a, .string x.c.i, .int .i64 x.c.s, .int .i64 x.c.o, .int .i64 x.c.l, .int .i64 x.c.t, .int .i64 x.c.k, .int .i64 x.c.n, .bool x.c.g] 43)) := (Below.refl _ _).alloc (Nat.le_refl _) _
      have HO4 := Lib.hid (show (w3.alloc (.cells #[.string x.c.a, .string x.c.i, .int .i64 x.c.s, .int .i64 x.c.o, .int .i64 x.c.l, .int .i64 x.c.t, .int .i64 x.c.k, .int .i64 x.c.n, .bool x.c.g] 43)).ownsRow w.heap.size 43 9 (.slice ga J gc) J (flat cc S) from by
        have := OwnR.ext HO3.out E4
        unfold OwnR at this
        rwa [HLEN.out] at this)
      have HV4 := Lib.hid (blk_new w3 #[.string x.c.a, .string x.c.i, .int .i64 x.c.s, .int .i64 x.c.o, .int .i64 x.c.l, .int .i64 x.c.t, .int .i64 x.c.k, .int .i64 x.c.n, .bool x.c.g] 43)
      have HB4 := Lib.hid (HB3.out.trans (E4.mono HB3.out.size))
      clear E4 HO3
      go_wp2_with (at_builtin; refine wpList_append_own _ rfl _ _ 35 rfl (w.heap.size) 43 i0 Cd.zero.v 9 88 Try.underlying35 hi hz0 hz1 hz2 rfl (by decide) (.slice ga J gc) J (flat cc S) rfl HO4.out ⟨w3.heap.size, 0, none⟩ 1 1 (cc x.c) rfl rfl ?c1 ?c2 ?c3 ?c4 ?c5 ?_)
      case c1 => intro j u hj; rw [add_off, Nat.zero_add, blk_cell HV4.out]; simpa [cc] using hj
      case c2 => exact cc_one x.c
      case c3 => unfold maxLen; omega
      case c4 => omega
      case c5 => exact HB4.out.size
      intro v5 w5 ho5 hg5 _
      have HB5 := Lib.hid (show Below w.heap.size w w5 from HB4.out.grown hg5 HB4.out.size (fun q hq => own_ge HO4.out hq))
      have HO5 := Lib.hid (show OwnC w.heap.size w5 v5 (S ++ [x.c]) from by unfold OwnC OwnR; rw [flat_snoc, List.length_append, HLEN.out]; exact ho5)
      obtain ⟨a5, c5, rfl, -, -, -⟩ := OwnR.form HO5.out
      clear ho5 hg5 HO4 HV4 HB4 hk3 hl3
      go_wp2
      go_roundw
      case rel => exact ⟨J + 1, by omega, by go_num, by rw [HST.out]; exact HO5.out, HB5.out⟩
      case measure => simp [intOf]; omega
    · have hJn : J = n := by omega
      have hlt2 : decide ((J : Int) < (n : Int)) = false := by simp; omega
      have HF := Lib.hid (show OwnC w.heap.size w2 (.slice ga J gc) (es.map (·.c)) from by
        have e : es.map (·.c) = S := by rw [← HS.out, hJn, List.take_of_length_le (by have := HL.out; omega)]
        rw [e]
        exact HO2.out)
      clear hb2 hJn
      go_wp2
      go_ret
      exact ⟨_, rfl, HF.out, HB2.out⟩

/-- the card of a key by now; one that is gone, if there is none -/
def cur (es : List En) (k : Ky) : Cd := if isIn k es = true then ((es[low k es]?).map (·.c)).getD Cd.zero else ⟨k.1, k.2, 2, 0, 1, 0, 0, 0, true⟩
theorem cur_yes {es : List En} {k : Ky} {x : En} (hi : isIn k es = true) (hx : es[low k es]? = some x) : cur es k = x.c := by unfold cur; rw [if_pos hi, hx]; rfl
theorem cur_no {es : List En} {k : Ky} (hi : isIn k es = false) : cur es k = ⟨k.1, k.2, 2, 0, 1, 0, 0, 0, true⟩ := by unfold cur; rw [if_neg (by rw [hi]; simp)]

set_option maxRecDepth 100000 in
set_option maxHeartbeats 2000000 in
theorem feedCurrent (sb : Nat) (most : Int) (es : List En) (k : Ky) (w : World) (h : ShP w sb most es) (hs : Asc es) (hn : es.length ≤ 900) :
    Calls Try.prog 41 #[.pointer (some ⟨sb, 0, none⟩), .agg #[.string k.1, .string k.2]] w fun r w' => r = .returned (.agg #[.string (cur es k).a, .string (cur es k).i, .int .i64 (cur es k).s, .int .i64 (cur es k).o, .int .i64 (cur es k).l, .int .i64 (cur es k).t, .int .i64 (cur es k).k, .int .i64 (cur es k).n, .bool (cur es k).g]) ∧ Below w.heap.size w w' := by
  have D0 : Below w.heap.size w ((w.alloc (.cells #[.string k.1, .string k.2] 33)).alloc (.cells #[.string ⟨#[]⟩, .string ⟨#[]⟩, .int .i64 0, .int .i64 0, .int .i64 0, .int .i64 0, .int .i64 0, .int .i64 0, .bool false] 43)) := ((Below.refl _ _).alloc (Nat.le_refl _) _).alloc (by simp) _
  have HK := Lib.hid (blk_alloc (blk_new w #[.string k.1, .string k.2] 33) (.cells #[.string ⟨#[]⟩, .string ⟨#[]⟩, .int .i64 0, .int .i64 0, .int .i64 0, .int .i64 0, .int .i64 0, .int .i64 0, .bool false] 43))
  have HR := Lib.hid (show ((w.alloc (.cells #[.string k.1, .string k.2] 33)).alloc (.cells #[.string ⟨#[]⟩, .string ⟨#[]⟩, .int .i64 0, .int .i64 0, .int .i64 0, .int .i64 0, .int .i64 0, .int .i64 0, .bool false] 43)).heap[w.heap.size + 1]? = some (.cells #[.string ⟨#[]⟩, .string ⟨#[]⟩, .int .i64 0, .int .i64 0, .int .i64 0, .int .i64 0, .int .i64 0, .int .i64 0, .bool false] 43 (0, 0)) from blk_new_at (by simp) _ _)
  have HS := Lib.hid (h.ext D0)
  have HB0 := Lib.hid D0
  clear h D0
  go_enter Try.func41, Try.ntmps41
  go_upto_region 1 with (fail)
  obtain ⟨p, hp⟩ : ∃ p, w.heap.size = p := ⟨_, rfl⟩
  obtain ⟨r, hr⟩ : ∃ r, w.heap.size + 1 = r := ⟨_, rfl⟩
  have HRP := Lib.hid (show w.heap.size ≤ r by omega)
  rw [hp] at HK
  rw [hr] at HR
  try rw [hp]
  try rw [hp] at hr
  try rw [hr]
  clear hr hp
  generalize ((w.alloc (.cells #[.string k.1, .string k.2] 33)).alloc (.cells #[.string ⟨#[]⟩, .string ⟨#[]⟩, .int .i64 0, .int .i64 0, .int .i64 0, .int .i64 0, .int .i64 0, .int .i64 0, .bool false] 43)) = w0 at *
  have hk0 := blk_cell HK.out
  have hl0 := blk_lt HK.out
  cases hin : isIn k es
  · go_wp2_with fail
    refine (shGetNo sb most es k _ HS.out hs hn hin).mono ?_
    rintro q w1 ⟨rfl, hb1⟩
    have HCU := Lib.hid (cur_no hin)
    have HR2 := Lib.hid (blk_ext hb1 HR.out)
    have HK2 := Lib.hid (blk_ext hb1 HK.out)
    have HB2 := Lib.hid (ext_trans HB0.out hb1)
    have D2 := Lib.hid (show Below w1.heap.size w1 (w1.alloc (.cells #[.string ⟨#[]⟩, .string ⟨#[]⟩, .int .i64 0, .int .i64 0, .int .i64 0, .int .i64 0, .int .i64 0, .int .i64 0, .bool false, .int .i64 0] 53)) from (Below.refl _ _).alloc (Nat.le_refl _) _)
    clear hb1 hk0 hl0 HR HK HB0 HS
    go_upto_region 2 with (fail)
    have HR3 := Lib.hid (blk_ext D2.out HR2.out)
    have HK3 := Lib.hid (blk_ext D2.out HK2.out)
    have HB3 := Lib.hid (ext_trans HB2.out D2.out)
    clear HR2 HK2 HB2 D2
    generalize (w1.alloc (.cells #[.string ⟨#[]⟩, .string ⟨#[]⟩, .int .i64 0, .int .i64 0, .int .i64 0, .int .i64 0, .int .i64 0, .int .i64 0, .bool false, .int .i64 0] 53)) = w3 at *
    have hk3 := blk_cell HK3.out
    have hl3 := blk_lt HK3.out
    have hrk := blk_cell HR3.out
    have hrf := blk_free HR3.out
    have hrl := blk_lt HR3.out
    go_wp2_with fail
    exact bodyPost_ret (v := .agg #[.string k.1, .string k.2, .int .i64 2, .int .i64 0, .int .i64 1, .int .i64 0, .int .i64 0, .int .i64 0, .bool true]) (by have hk2 := blk_cell (blk_fill9 (v0 := .string k.1) (v1 := .string k.2) (v2 := .int .i64 2) (v3 := .int .i64 0) (v4 := .int .i64 1) (v5 := .int .i64 0) (v6 := .int .i64 0) (v7 := .int .i64 0) (v8 := .bool true) HR3.out rfl); simp [results, Try.results41, go_sem, hk2]) rfl ⟨by rw [HCU.out], below_fill9 HB3.out HRP.out⟩
  · obtain ⟨x, hx, -, -⟩ := isIn_at hin
    go_wp2_with fail
    refine (shGetYes sb most es k _ HS.out x hs hn hx hin).mono ?_
    rintro q w1 ⟨rfl, hb1⟩
    have HCU := Lib.hid (cur_yes hin hx)
    have HR2 := Lib.hid (blk_ext hb1 HR.out)
    have HB2 := Lib.hid (ext_trans HB0.out hb1)
    have D2 := Lib.hid (show Below w1.heap.size w1 (w1.alloc (.cells #[.string x.c.a, .string x.c.i, .int .i64 x.c.s, .int .i64 x.c.o, .int .i64 x.c.l, .int .i64 x.c.t, .int .i64 x.c.k, .int .i64 x.c.n, .bool x.c.g, .int .i64 x.seen] 53)) from (Below.refl _ _).alloc (Nat.le_refl _) _)
    have HX2 := Lib.hid (blk_new w1 #[.string x.c.a, .string x.c.i, .int .i64 x.c.s, .int .i64 x.c.o, .int .i64 x.c.l, .int .i64 x.c.t, .int .i64 x.c.k, .int .i64 x.c.n, .bool x.c.g, .int .i64 x.seen] 53)
    clear hb1 hk0 hl0 HR HK HB0 HS hx hin
    go_upto_region 2 with (fail)
    obtain ⟨q, hq⟩ : ∃ q, w1.heap.size = q := ⟨_, rfl⟩
    have HR3 := Lib.hid (blk_ext D2.out HR2.out)
    have HB3 := Lib.hid (ext_trans HB2.out D2.out)
    try rw [hq]
    rw [hq] at HX2
    clear HR2 HB2 D2 hq
    generalize (w1.alloc (.cells #[.string x.c.a, .string x.c.i, .int .i64 x.c.s, .int .i64 x.c.o, .int .i64 x.c.l, .int .i64 x.c.t, .int .i64 x.c.k, .int .i64 x.c.n, .bool x.c.g, .int .i64 x.seen] 53)) = w3 at *
    have hk3 := blk_cell HX2.out
    have hl3 := blk_lt HX2.out
    have hrk := blk_cell HR3.out
    have hrf := blk_free HR3.out
    have hrl := blk_lt HR3.out
    go_wp2_with fail
    exact bodyPost_ret (v := .agg #[.string x.c.a, .string x.c.i, .int .i64 x.c.s, .int .i64 x.c.o, .int .i64 x.c.l, .int .i64 x.c.t, .int .i64 x.c.k, .int .i64 x.c.n, .bool x.c.g]) (by have hk2 := blk_cell (blk_fill9 (v0 := .string x.c.a) (v1 := .string x.c.i) (v2 := .int .i64 x.c.s) (v3 := .int .i64 x.c.o) (v4 := .int .i64 x.c.l) (v5 := .int .i64 x.c.t) (v6 := .int .i64 x.c.k) (v7 := .int .i64 x.c.n) (v8 := .bool x.c.g) HR3.out rfl); simp [results, Try.results41, go_sem, hk2]) rfl ⟨by rw [HCU.out], below_fill9 HB3.out HRP.out⟩

end Go.Proofs.Ytgnmlkomgokimaa
