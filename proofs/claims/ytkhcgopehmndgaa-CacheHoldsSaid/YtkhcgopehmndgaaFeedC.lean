/- Feeds: the document's Cards; the card of a key by now. -/
import Derived.Test.YtkhcgopehmndgaaBh
import Derived.Test.YtkhcgopehmndgaaBi
namespace Go.Proofs.Ytkhcgopehmndgaa
open Go.RowKit
set_option linter.unusedVariables false
set_option linter.unusedSimpArgs false

/-- the card of a key by now; one that is gone, if there is none -/
def cur (es : List En) (k : Ky) : Cd := if isIn k es = true then ((es[low k es]?).map (·.c)).getD Cd.zero else ⟨k.1, k.2, 2, 0, 1, 0, 0, 0, true⟩
theorem cur_yes {es : List En} {k : Ky} {x : En} (hi : isIn k es = true) (hx : es[low k es]? = some x) : cur es k = x.c := by unfold cur; rw [if_pos hi, hx]; rfl
theorem cur_no {es : List En} {k : Ky} (hi : isIn k es = false) : cur es k = ⟨k.1, k.2, 2, 0, 1, 0, 0, 0, true⟩ := by unfold cur; rw [if_neg (by rw [hi]; simp)]

set_option maxRecDepth 100000 in
set_option maxHeartbeats 2000000 in
theorem feedCurrent (sb : Nat) (most : Int) (es : List En) (k : Ky) (w : World) (h : ShP w sb most es) (hs : Asc es) (hn : es.length ≤ 900) :
    Calls Try.prog 42 #[.pointer (some ⟨sb, 0, none⟩), .agg #[.string k.1, .string k.2]] w fun r w' => r = .returned (.agg #[.string (cur es k).a, .string (cur es k).i, .int .i64 (cur es k).s, .int .i64 (cur es k).o, .int .i64 (cur es k).l, .int .i64 (cur es k).t, .int .i64 (cur es k).k, .int .i64 (cur es k).n, .bool (cur es k).g]) ∧ Below w.heap.size w w' := by
  have D0 : Below w.heap.size w ((w.alloc (.cells #[.string k.1, .string k.2] 31)).alloc (.cells #[.string ⟨#[]⟩, .string ⟨#[]⟩, .int .i64 0, .int .i64 0, .int .i64 0, .int .i64 0, .int .i64 0, .int .i64 0, .bool false] 49)) := ((Below.refl _ _).alloc (Nat.le_refl _) _).alloc (by simp) _
  have HK := Lib.hid (blk_alloc (blk_new w #[.string k.1, .string k.2] 31) (.cells #[.string ⟨#[]⟩, .string ⟨#[]⟩, .int .i64 0, .int .i64 0, .int .i64 0, .int .i64 0, .int .i64 0, .int .i64 0, .bool false] 49))
  have HR := Lib.hid (show ((w.alloc (.cells #[.string k.1, .string k.2] 31)).alloc (.cells #[.string ⟨#[]⟩, .string ⟨#[]⟩, .int .i64 0, .int .i64 0, .int .i64 0, .int .i64 0, .int .i64 0, .int .i64 0, .bool false] 49)).heap[w.heap.size + 1]? = some (.cells #[.string ⟨#[]⟩, .string ⟨#[]⟩, .int .i64 0, .int .i64 0, .int .i64 0, .int .i64 0, .int .i64 0, .int .i64 0, .bool false] 49 (0, 0)) from blk_new_at (by simp) _ _)
  have HS := Lib.hid (h.ext D0)
  have HB0 := Lib.hid D0
  clear h D0
  go_enter Try.func42, Try.ntmps42
  go_upto_region 1 with (fail)
  obtain ⟨p, hp⟩ : ∃ p, w.heap.size = p := ⟨_, rfl⟩
  obtain ⟨r, hr⟩ : ∃ r, w.heap.size + 1 = r := ⟨_, rfl⟩
  have HRP := Lib.hid (show w.heap.size ≤ r by omega)
  rw [hp] at HK
  rw [hr] at HR
  try rw [hp]
  try rw [hp] at hr
  try rw [hr]
  clear hr hp
  generalize ((w.alloc (.cells #[.string k.1, .string k.2] 31)).alloc (.cells #[.string ⟨#[]⟩, .string ⟨#[]⟩, .int .i64 0, .int .i64 0, .int .i64 0, .int .i64 0, .int .i64 0, .int .i64 0, .bool false] 49)) = w0 at *
  have hk0 := blk_cell HK.out
  have hl0 := blk_lt HK.out
  cases hin : isIn k es
  · go_wp2_with fail
    refine (shGetNo sb most es k _ HS.out hs hn hin).mono ?_
    rintro q w1 ⟨rfl, hb1⟩
    have HCU := Lib.hid (cur_no hin)
    have HR2 := Lib.hid (blk_ext hb1 HR.out)
    have HK2 := Lib.hid (blk_ext hb1 HK.out)
    have HB2 := Lib.hid (ext_trans HB0.out hb1)
    have D2 := Lib.hid (show Below w1.heap.size w1 (w1.alloc (.cells #[.string ⟨#[]⟩, .string ⟨#[]⟩, .int .i64 0, .int .i64 0, .int .i64 0, .int .i64 0, .int .i64 0, .int .i64 0, .bool false, .int .i64 0] 54)) from (Below.refl _ _).alloc (Nat.le_refl _) _)
    clear hb1 hk0 hl0 HR HK HB0 HS
    go_upto_region 2 with (fail)
    have HR3 := Lib.hid (blk_ext D2.out HR2.out)
    have HK3 := Lib.hid (blk_ext D2.out HK2.out)
    have HB3 := Lib.hid (ext_trans HB2.out D2.out)
    clear HR2 HK2 HB2 D2
    generalize (w1.alloc (.cells #[.string ⟨#[]⟩, .string ⟨#[]⟩, .int .i64 0, .int .i64 0, .int .i64 0, .int .i64 0, .int .i64 0, .int .i64 0, .bool false, .int .i64 0] 54)) = w3 at *
    have hk3 := blk_cell HK3.out
    have hl3 := blk_lt HK3.out
    have hrk := blk_cell HR3.out
    have hrf := blk_free HR3.out
    have hrl := blk_lt HR3.out
    go_wp2_with fail
    exact bodyPost_ret (v := .agg #[.string k.1, .string k.2, .int .i64 2, .int .i64 0, .int .i64 1, .int .i64 0, .int .i64 0, .int .i64 0, .bool true]) (by have hk2 := blk_cell (blk_fill9 (v0 := .string k.1) (v1 := .string k.2) (v2 := .int .i64 2) (v3 := .int .i64 0) (v4 := .int .i64 1) (v5 := .int .i64 0) (v6 := .int .i64 0) (v7 := .int .i64 0) (v8 := .bool true) HR3.out rfl); simp [results, Try.results42, go_sem, hk2]) rfl ⟨by rw [HCU.out], below_fill9 HB3.out HRP.out⟩
  · obtain ⟨x, hx, -, -⟩ := isIn_at hin
    go_wp2_with fail
    refine (shGetYes sb most es k _ HS.out x hs hn hx hin).mono ?_
    rintro q w1 ⟨rfl, hb1⟩
    have HCU := Lib.hid (cur_yes hin hx)
    have HR2 := Lib.hid (blk_ext hb1 HR.out)
    have HB2 := Lib.hid (ext_trans HB0.out hb1)
    have D2 := Lib.hid (show Below w1.heap.size w1 (w1.alloc (.cells #[.string x.c.a, .string x.c.i, .int .i64 x.c.s, .int .i64 x.c.o, .int .i64 x.c.l, .int .i64 x.c.t, .int .i64 x.c.k, .int .i64 x.c.n, .bool x.c.g, .int .i64 x.seen] 54)) from (Below.refl _ _).alloc (Nat.le_refl _) _)
    have HX2 := Lib.hid (blk_new w1 #[.string x.c.a, .string x.c.i, .int .i64 x.c.s, .int .i64 x.c.o, .int .i64 x.c.l, .int .i64 x.c.t, .int .i64 x.c.k, .int .i64 x.c.n, .bool x.c.g, .int .i64 x.seen] 54)
    clear hb1 hk0 hl0 HR HK HB0 HS hx hin
    go_upto_region 2 with (fail)
    obtain ⟨q, hq⟩ : ∃ q, w1.heap.size = q := ⟨_, rfl⟩
    have HR3 := Lib.hid (blk_ext D2.out HR2.out)
    have HB3 := Lib.hid (ext_trans HB2.out D2.out)
    try rw [hq]
    rw [hq] at HX2
    clear HR2 HB2 D2 hq
    generalize (w1.alloc (.cells #[.string x.c.a, .string x.c.i, .int .i64 x.c.s, .int .i64 x.c.o, .int .i64 x.c.l, .int .i64 x.c.t, .int .i64 x.c.k, .int .i64 x.c.n, .bool x.c.g, .int .i64 x.seen] 54)) = w3 at *
    have hk3 := blk_cell HX2.out
    have hl3 := blk_lt HX2.out
    have hrk := blk_cell HR3.out
    have hrf := blk_free HR3.out
    have hrl := blk_lt HR3.out
    go_wp2_with fail
    exact bodyPost_ret (v := .agg #[.string x.c.a, .string x.c.i, .int .i64 x.c.s, .int .i64 x.c.o, .int .i64 x.c.l, .int .i64 x.c.t, .int .i64 x.c.k, .int .i64 x.c.n, .bool x.c.g]) (by have hk2 := blk_cell (blk_fill9 (v0 := .string x.c.a) (v1 := .string x.c.i) (v2 := .int .i64 x.c.s) (v3 := .int .i64 x.c.o) (v4 := .int .i64 x.c.l) (v5 := .int .i64 x.c.t) (v6 := .int .i64 x.c.k) (v7 := .int .i64 x.c.n) (v8 := .bool x.c.g) HR3.out rfl); simp [results, Try.results42, go_sem, hk2]) rfl ⟨by rw [HCU.out], below_fill9 HB3.out HRP.out⟩

end Go.Proofs.Ytkhcgopehmndgaa
