/- The document's own Same, of equal messages. -/
import Derived.Test.YtfdalmodnkkfiaaDoorMlO
import Derived.Test.YtfdalmodnkkfiaaDoorBd
namespace Go.Proofs.YtfdalmodnkkfiaaDoor
open Go.RowKit
set_option linter.unusedVariables false
set_option linter.unusedSimpArgs false

set_option maxRecDepth 100000 in
set_option maxHeartbeats 2000000 in
theorem keys5 (a1 a2 : Option Addr) (n c1 c2 : Nat) (ks : List Ky) (w : World) (h1 : KyAt w a1 ks) (h2 : KyAt w a2 ks) (hl : ks.length = n) (hn : n ≤ 1000) :
    Calls Tryd.prog 30 #[.slice a1 n c1, .slice a2 n c2] w fun e w' => e = .returned (.bool true) ∧ Below w.heap.size w w' := by
  have H1 := Lib.hid h1
  have H2 := Lib.hid h2
  have HN := Lib.hid hl
  clear h1 h2 hl
  go_enter Tryd.func30, Tryd.ntmps30
  go_wp2_with fail
  go_loopw [13] (fun j wr => ∃ J : Nat, J ≤ n ∧ j = .int .i64 (J : Int) ∧ Below w.heap.size w wr) (fun j _ => n - (intOf j).toNat)
  case atStart => exact ⟨0, by omega, rfl, Below.refl _ _⟩
  case round =>
    obtain ⟨w2, rfl⟩ : ∃ y : World, y = wr := ⟨_, rfl⟩
    obtain ⟨J, hJ, rfl, hb2⟩ := hrel
    by_cases hlt : J < n
    · obtain ⟨x, hx⟩ : ∃ x, ks[J]? = some x := ⟨_, List.getElem?_eq_getElem (by have := HN.out; omega)⟩
      obtain ⟨b1, o1, rfl⟩ : ∃ b o, a1 = some ⟨b, o, none⟩ := by
        rcases H1.out with h | ⟨b, o, e, _⟩
        · rw [h] at hx; simp at hx
        · exact ⟨b, o, e⟩
      obtain ⟨b2, o2, rfl⟩ : ∃ b o, a2 = some ⟨b, o, none⟩ := by
        rcases H2.out with h | ⟨b, o, e, _⟩
        · rw [h] at hx; simp at hx
        · exact ⟨b, o, e⟩
      obtain ⟨y0, y1⟩ := KyAt.at (H1.out.ext hb2) hx
      obtain ⟨z0, z1⟩ := KyAt.at (H2.out.ext hb2) hx
      have HB2 := Lib.hid hb2
      clear hb2 hx
      go_wp2_with fail
      haveI hIq : Nonempty (Of w2) := of_some _
      have hF0 := of_cell y0
      have hF1 := of_cell y1
      have hF2 := of_cell z0
      have hF3 := of_cell z1
      first | (refine wp_region_stay w2 (by kernel_rfl) (by kernel_rfl) (by go_grown) ?_) | (refine wp_region_stay_seq w2 (by go_grown) ?_)
      repeat (go_big_quiet_step (fail))
      refine wpQuiet_nil ?_
      intro w6 hb6
      have HB6 := Lib.hid (ext_trans HB2.out hb6)
      clear hIq hF0 hF1 hF2 hF3 hb6
      go_wp2
      go_roundw
      case rel => exact ⟨J + 1, by omega, by go_num, HB6.out⟩
      case measure => simp [intOf]; omega
    · obtain rfl : J = n := by omega
      go_wp2
      go_ret
      exact ⟨rfl, hb2⟩

set_option maxRecDepth 100000 in
set_option maxHeartbeats 8000000 in
theorem msgSame6 (kd op st cod tag n sq : Int) (k1 k2 : ByteArray) (fu : Bool) (su : Int) (ca : Option Addr) (cn cc : Nat) (ka : Option Addr) (kn kc : Nat) (cb : Option Addr) (cd : Nat) (kb : Option Addr) (ke : Nat) (cs : List Cd) (ks : List Ky) (w : World) (hc1 : CAt w ca cs) (hc2 : CAt w cb cs) (hcl : cs.length = cn) (b1 : cn ≤ cc) (b2 : cc ≤ maxLen) (b3 : cn ≤ cd) (b4 : cd ≤ maxLen) (hy1 : KyAt w ka ks) (hy2 : KyAt w kb ks) (hyl : ks.length = kn) (hkn : kn ≤ 1000) :
    Calls Tryd.prog 9 #[.agg #[.int .i64 kd, .int .i64 op, .int .i64 st, .int .i64 cod, .int .i64 tag, .int .i64 n, .int .i64 sq, .string k1, .string k2, .bool fu, .int .u32 su, .slice ca cn cc, .slice ka kn kc], .agg #[.int .i64 kd, .int .i64 op, .int .i64 st, .int .i64 cod, .int .i64 tag, .int .i64 n, .int .i64 sq, .string k1, .string k2, .bool fu, .int .u32 su, .slice cb cn cd, .slice kb kn ke]] w fun r w' => r = .returned (.bool true) ∧ Below w.heap.size w w' := by
  have HB0 := Lib.hid (show Below w.heap.size w ((w.alloc (.cells #[.int .i64 kd, .int .i64 op, .int .i64 st, .int .i64 cod, .int .i64 tag, .int .i64 n, .int .i64 sq, .string k1, .string k2, .bool fu, .int .u32 su, .slice ca cn cc, .slice ka kn kc] 29)).alloc (.cells #[.int .i64 kd, .int .i64 op, .int .i64 st, .int .i64 cod, .int .i64 tag, .int .i64 n, .int .i64 sq, .string k1, .string k2, .bool fu, .int .u32 su, .slice cb cn cd, .slice kb kn ke] 29)) from ((Below.refl _ _).alloc (Nat.le_refl _) _).alloc (by simp) _)
  have HK := Lib.hid (blk_alloc (blk_new w #[.int .i64 kd, .int .i64 op, .int .i64 st, .int .i64 cod, .int .i64 tag, .int .i64 n, .int .i64 sq, .string k1, .string k2, .bool fu, .int .u32 su, .slice ca cn cc, .slice ka kn kc] 29) (.cells #[.int .i64 kd, .int .i64 op, .int .i64 st, .int .i64 cod, .int .i64 tag, .int .i64 n, .int .i64 sq, .string k1, .string k2, .bool fu, .int .u32 su, .slice cb cn cd, .slice kb kn ke] 29))
  have HR := Lib.hid (show ((w.alloc (.cells #[.int .i64 kd, .int .i64 op, .int .i64 st, .int .i64 cod, .int .i64 tag, .int .i64 n, .int .i64 sq, .string k1, .string k2, .bool fu, .int .u32 su, .slice ca cn cc, .slice ka kn kc] 29)).alloc (.cells #[.int .i64 kd, .int .i64 op, .int .i64 st, .int .i64 cod, .int .i64 tag, .int .i64 n, .int .i64 sq, .string k1, .string k2, .bool fu, .int .u32 su, .slice cb cn cd, .slice kb kn ke] 29)).heap[w.heap.size + 1]? = some (.cells #[.int .i64 kd, .int .i64 op, .int .i64 st, .int .i64 cod, .int .i64 tag, .int .i64 n, .int .i64 sq, .string k1, .string k2, .bool fu, .int .u32 su, .slice cb cn cd, .slice kb kn ke] 29 (0, 0)) from blk_new_at (by simp) _ _)
  have HC1 := Lib.hid (hc1.ext HB0.out)
  have HC2 := Lib.hid (hc2.ext HB0.out)
  have HY1 := Lib.hid (SAt.ext hy1 HB0.out)
  have HY2 := Lib.hid (SAt.ext hy2 HB0.out)
  have HCL := Lib.hid hcl
  have HYL := Lib.hid hyl
  clear hc1 hc2 hy1 hy2 hcl hyl
  have hee : ∀ z : Int, (z == z) = true := fun z => by simp
  have hfu : (fu == fu) = true := by simp
  go_enter Tryd.func9, Tryd.ntmps9
  go_upto_region 1 with (fail)
  obtain ⟨p, hp⟩ : ∃ p, w.heap.size = p := ⟨_, rfl⟩
  obtain ⟨r, hr⟩ : ∃ r, w.heap.size + 1 = r := ⟨_, rfl⟩
  have HRr := Lib.hid (show w.heap.size ≤ r by omega)
  rw [hp] at HK
  rw [hr] at HR
  try rw [hr]
  try rw [hp]
  try rw [hp] at hr
  try rw [hr]
  clear hr hp
  generalize ((w.alloc (.cells #[.int .i64 kd, .int .i64 op, .int .i64 st, .int .i64 cod, .int .i64 tag, .int .i64 n, .int .i64 sq, .string k1, .string k2, .bool fu, .int .u32 su, .slice ca cn cc, .slice ka kn kc] 29)).alloc (.cells #[.int .i64 kd, .int .i64 op, .int .i64 st, .int .i64 cod, .int .i64 tag, .int .i64 n, .int .i64 sq, .string k1, .string k2, .bool fu, .int .u32 su, .slice cb cn cd, .slice kb kn ke] 29)) = w1 at *
  have hk1 := blk_cell HK.out
  have hl1 := blk_lt HK.out
  have hk2 := blk_cell HR.out
  have hl2 := blk_lt HR.out
  go_wp2_with fail
  refine (same5 ca cb cn cc cd cs _ HC1.out HC2.out HCL.out b1 b3 b2 b4).mono ?_
  rintro e w3 ⟨rfl, hb⟩
  have HK3 := Lib.hid (blk_ext hb HK.out)
  have HR3 := Lib.hid (blk_ext hb HR.out)
  have HB3 := Lib.hid (ext_trans HB0.out hb)
  have HY3 := Lib.hid (SAt.ext HY1.out hb)
  have HY4 := Lib.hid (SAt.ext HY2.out hb)
  clear hk1 hl1 hk2 hl2 HK HR HB0 HC1 HC2 HY1 HY2 hb
  have hk1 := blk_cell HK3.out
  have hl1 := blk_lt HK3.out
  have hk2 := blk_cell HR3.out
  have hl2 := blk_lt HR3.out
  go_wp2_with fail
  refine (keys5 ka kb kn kc ke ks _ HY3.out HY4.out HYL.out hkn).mono ?_
  rintro e w4 ⟨rfl, hb⟩
  have HB4 := Lib.hid (ext_trans HB3.out hb)
  clear hk1 hl1 hk2 hl2 HK3 HR3 HB3 hb
  go_wp2
  go_ret
  exact ⟨rfl, HB4.out⟩

theorem msgSameMg (m : Mg) (ca : Option Addr) (cn cc : Nat) (ka : Option Addr) (kn kc : Nat) (cb : Option Addr) (cm cd : Nat) (kb : Option Addr) (km ke : Nat) (w : World) (h1 : MgMem w m ca cn cc ka kn kc) (h2 : MgMem w m cb cm cd kb km ke) (hk : kn ≤ 1000) :
    Calls Tryd.prog 9 #[.agg #[.int .i64 m.kd, .int .i64 m.op, .int .i64 m.st, .int .i64 m.cod, .int .i64 m.tag, .int .i64 m.n, .int .i64 m.sq, .string m.k.1, .string m.k.2, .bool m.fu, .int .u32 m.su, .slice ca cn cc, .slice ka kn kc], .agg #[.int .i64 m.kd, .int .i64 m.op, .int .i64 m.st, .int .i64 m.cod, .int .i64 m.tag, .int .i64 m.n, .int .i64 m.sq, .string m.k.1, .string m.k.2, .bool m.fu, .int .u32 m.su, .slice cb cm cd, .slice kb km ke]] w fun r w' => r = .returned (.bool true) ∧ Below w.heap.size w w' := by
  obtain ⟨kd, op, st, cod, tag, n, sq, ⟨k1, k2⟩, fu, su, cs, ks⟩ := m
  obtain ⟨a1, a2, a3, a4, a5, a6, a7, a8, -, -⟩ := h1
  obtain ⟨b1, b2, b3, b4, b5, b6, b7, b8, -, -⟩ := h2
  simp only [] at *
  obtain rfl : cm = cn := b2.symm.trans a2
  obtain rfl : km = kn := b6.symm.trans a6
  exact msgSame6 kd op st cod tag n sq k1 k2 fu su ca cm cc ka km kc cb cd kb ke cs ks w a1 b1 a2 a3 a4 b3 b4 a5 b5 a6 hk
end Go.Proofs.YtfdalmodnkkfiaaDoor
