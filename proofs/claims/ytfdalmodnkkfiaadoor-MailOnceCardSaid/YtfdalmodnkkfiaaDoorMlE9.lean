/- Messages held against one another. -/
import Derived.Test.YtfdalmodnkkfiaaDoorMlEk
import Derived.Test.YtfdalmodnkkfiaaDoorMlEc
namespace Go.Proofs.YtfdalmodnkkfiaaDoor
open Go.RowKit
set_option linter.unusedVariables false
set_option linter.unusedSimpArgs false

set_option maxRecDepth 100000 in
set_option maxHeartbeats 1000000 in
theorem cardSame (a1 a2 : Option Addr) (n1 c1 n2 c2 : Nat) (xs ys : List Cd) (w : World) (h1 : CAt w a1 xs) (h2 : CAt w a2 ys) (hl1 : xs.length = n1) (hl2 : ys.length = n2) (hn1 : n1 ≤ 1000) (hn2 : n2 ≤ 1000) :
    Calls Tryd.prog 35 #[.slice a1 n1 c1, .slice a2 n2 c2] w fun r w' => ∃ b : Bool, r = .returned (.bool b) ∧ (b = true ↔ xs = ys) ∧ Below w.heap.size w w' := by
  go_enter Tryd.func35, Tryd.ntmps35
  go_wp2_with fail
  refine (equalCards a1 a2 n1 c1 n2 c2 xs ys _ h1 h2 hl1 hl2 hn1 hn2).mono ?_
  rintro e w3 ⟨b, rfl, hb1, hb⟩
  go_wp2
  go_ret
  exact ⟨b, rfl, hb1, hb⟩

set_option maxRecDepth 100000 in
set_option maxHeartbeats 8000000 in
theorem mailSameRows (kd : Int) (op : Int) (st : Int) (cod : Int) (tag : Int) (n : Int) (sq : Int) (k1 : ByteArray) (k2 : ByteArray) (fu : Bool) (su : Int) (ca : Option Addr) (cn cc : Nat) (ka : Option Addr) (kn kc : Nat) (cb : Option Addr) (cm cd : Nat) (kb : Option Addr) (km ke : Nat) (cs ds : List Cd) (ks ls : List Ky) (w : World) (hc1 : CAt w ca cs) (hc2 : CAt w cb ds) (hl1 : cs.length = cn) (hl2 : ds.length = cm) (hn1 : cn ≤ 1000) (hn2 : cm ≤ 1000) (hy1 : KyAt w ka ks) (hy2 : KyAt w kb ls) (hm1 : ks.length = kn) (hm2 : ls.length = km) (hn3 : kn ≤ 1000) (hn4 : km ≤ 1000) :
    Calls Tryd.prog 16 #[.agg #[.int .i64 kd, .int .i64 op, .int .i64 st, .int .i64 cod, .int .i64 tag, .int .i64 n, .int .i64 sq, .string k1, .string k2, .bool fu, .int .u32 su, .slice ca cn cc, .slice ka kn kc], .agg #[.int .i64 kd, .int .i64 op, .int .i64 st, .int .i64 cod, .int .i64 tag, .int .i64 n, .int .i64 sq, .string k1, .string k2, .bool fu, .int .u32 su, .slice cb cm cd, .slice kb km ke]] w fun r w' => ∃ b : Bool, r = .returned (.bool b) ∧ (b = true ↔ cs = ds ∧ ks = ls) ∧ Below w.heap.size w w' := by
  have HB0 := Lib.hid (show Below w.heap.size w ((w.alloc (.cells #[.int .i64 kd, .int .i64 op, .int .i64 st, .int .i64 cod, .int .i64 tag, .int .i64 n, .int .i64 sq, .string k1, .string k2, .bool fu, .int .u32 su, .slice ca cn cc, .slice ka kn kc] 29)).alloc (.cells #[.int .i64 kd, .int .i64 op, .int .i64 st, .int .i64 cod, .int .i64 tag, .int .i64 n, .int .i64 sq, .string k1, .string k2, .bool fu, .int .u32 su, .slice cb cm cd, .slice kb km ke] 29)) from ((Below.refl _ _).alloc (Nat.le_refl _) _).alloc (by simp) _)
  have HK := Lib.hid (blk_alloc (blk_new w #[.int .i64 kd, .int .i64 op, .int .i64 st, .int .i64 cod, .int .i64 tag, .int .i64 n, .int .i64 sq, .string k1, .string k2, .bool fu, .int .u32 su, .slice ca cn cc, .slice ka kn kc] 29) (.cells #[.int .i64 kd, .int .i64 op, .int .i64 st, .int .i64 cod, .int .i64 tag, .int .i64 n, .int .i64 sq, .string k1, .string k2, .bool fu, .int .u32 su, .slice cb cm cd, .slice kb km ke] 29))
  have HR := Lib.hid (show ((w.alloc (.cells #[.int .i64 kd, .int .i64 op, .int .i64 st, .int .i64 cod, .int .i64 tag, .int .i64 n, .int .i64 sq, .string k1, .string k2, .bool fu, .int .u32 su, .slice ca cn cc, .slice ka kn kc] 29)).alloc (.cells #[.int .i64 kd, .int .i64 op, .int .i64 st, .int .i64 cod, .int .i64 tag, .int .i64 n, .int .i64 sq, .string k1, .string k2, .bool fu, .int .u32 su, .slice cb cm cd, .slice kb km ke] 29)).heap[w.heap.size + 1]? = some (.cells #[.int .i64 kd, .int .i64 op, .int .i64 st, .int .i64 cod, .int .i64 tag, .int .i64 n, .int .i64 sq, .string k1, .string k2, .bool fu, .int .u32 su, .slice cb cm cd, .slice kb km ke] 29 (0, 0)) from blk_new_at (by simp) _ _)
  have HC1 := Lib.hid (hc1.ext HB0.out)
  have HC2 := Lib.hid (hc2.ext HB0.out)
  have HY1 := Lib.hid (SAt.ext hy1 HB0.out)
  have HY2 := Lib.hid (SAt.ext hy2 HB0.out)
  clear hc1 hc2 hy1 hy2
  have hee : ∀ z : Int, (z == z) = true := fun z => by simp
  have hff : ∀ z : Bool, (z == z) = true := fun z => by simp
  go_enter Tryd.func16, Tryd.ntmps16
  go_upto_region 1 with (fail)
  obtain ⟨p, hp⟩ : ∃ p, w.heap.size = p := ⟨_, rfl⟩
  obtain ⟨r, hr⟩ : ∃ r, w.heap.size + 1 = r := ⟨_, rfl⟩
  have HRr := Lib.hid (show w.heap.size ≤ r by omega)
  rw [hp] at HK
  rw [hr] at HR
  try rw [hr]
  try rw [hp]
  try rw [hp] at hr
  try rw [hr]
  clear hr hp
  generalize ((w.alloc (.cells #[.int .i64 kd, .int .i64 op, .int .i64 st, .int .i64 cod, .int .i64 tag, .int .i64 n, .int .i64 sq, .string k1, .string k2, .bool fu, .int .u32 su, .slice ca cn cc, .slice ka kn kc] 29)).alloc (.cells #[.int .i64 kd, .int .i64 op, .int .i64 st, .int .i64 cod, .int .i64 tag, .int .i64 n, .int .i64 sq, .string k1, .string k2, .bool fu, .int .u32 su, .slice cb cm cd, .slice kb km ke] 29)) = w1 at *
  have hk1 := blk_cell HK.out
  have hl1' := blk_lt HK.out
  have hk2 := blk_cell HR.out
  have hl2' := blk_lt HR.out
  go_wp2_with fail
  refine (cardSame ca cb cn cc cm cd cs ds _ HC1.out HC2.out hl1 hl2 hn1 hn2).mono ?_
  rintro e w3 ⟨b, rfl, hbc, hb⟩
  have HBC := Lib.hid hbc
  have HK3 := Lib.hid (blk_ext hb HK.out)
  have HR3 := Lib.hid (blk_ext hb HR.out)
  have HB3 := Lib.hid (ext_trans HB0.out hb)
  have HY3 := Lib.hid (SAt.ext HY1.out hb)
  have HY4 := Lib.hid (SAt.ext HY2.out hb)
  clear hk1 hl1' hk2 hl2' HK HR HB0 HC1 HC2 HY1 HY2 hb hbc
  cases b with
  | false =>
    go_wp2
    go_ret
    exact ⟨false, rfl, ⟨fun h => by simp at h, fun h => absurd (HBC.out.2 h.1) (by simp)⟩, HB3.out⟩
  | true =>
    have hk1 := blk_cell HK3.out
    have hl1' := blk_lt HK3.out
    have hk2 := blk_cell HR3.out
    have hl2' := blk_lt HR3.out
    go_wp2_with fail
    refine (equalKeys ka kb kn kc km ke ks ls _ HY3.out HY4.out hm1 hm2 hn3 hn4).mono ?_
    rintro e w4 ⟨b, rfl, hbk, hb⟩
    have HB4 := Lib.hid (ext_trans HB3.out hb)
    have HBK := Lib.hid hbk
    clear hk1 hl1' hk2 hl2' HK3 HR3 HB3 hb hbk
    go_wp2
    go_ret
    exact ⟨b, rfl, ⟨fun h => ⟨HBC.out.1 (by simp), HBK.out.1 h⟩, fun h => HBK.out.2 h.2⟩, HB4.out⟩

end Go.Proofs.YtfdalmodnkkfiaaDoor
