/- Package shelf: New, All, Len, Live, Drop of none; lease.Same of one list. -/
import Derived.Test.YtnmpjagdkbaidaaShfP
namespace Go.Proofs.Ytnmpjagdkbaidaa
open Go.RowKit
set_option linter.unusedVariables false
set_option linter.unusedSimpArgs false

def livN (es : List En) : Nat := (es.filter (fun e => !e.c.g)).length
theorem livN_snoc (es : List En) (x : En) : livN (es ++ [x]) = livN es + (if x.c.g then 0 else 1) := by
  unfold livN
  rw [List.filter_append]
  cases h : x.c.g <;> simp [h]
theorem livN_le (es : List En) : livN es ≤ es.length := List.length_filter_le _ _

set_option maxRecDepth 100000 in
set_option maxHeartbeats 1000000 in
theorem shNew (m : Nat) (w : World) (hm : m ≤ 32) :
    Calls Try.prog 13 #[.int .i64 m] w fun r w' => r = .returned (.pointer (some ⟨w.heap.size, 0, none⟩)) ∧ ShP w' w.heap.size m [] ∧ Below w.heap.size w w' := by
  have h1 : max (m : Int) 0 = (m : Int) := by omega
  have h2 : min (m : Int) 32 = (m : Int) := by omega
  have HR := Lib.hid (show ShP (w.alloc (.cells #[.int .i64 m, .slice none 0 0] 69)) w.heap.size m [] from ⟨none, 0, blk_new _ _ _, .inl rfl, Nat.le_refl _, by unfold maxLen; omega, .inl ⟨rfl, rfl⟩⟩)
  have HB := Lib.hid (show Below w.heap.size w (w.alloc (.cells #[.int .i64 m, .slice none 0 0] 69)) from (Below.refl _ _).alloc (Nat.le_refl _) _)
  go_enter Try.func13, Try.ntmps13
  go_wp2
  go_ret
  exact ⟨rfl, HR.out, HB.out⟩

set_option maxRecDepth 100000 in
set_option maxHeartbeats 1000000 in
theorem shAll (sb : Nat) (most : Int) (es : List En) (w : World) (h : ShP w sb most es) (hn : es.length ≤ 900) :
    Calls Try.prog 16 #[.pointer (some ⟨sb, 0, none⟩)] w fun r w' => ∃ v, r = .returned v ∧ OwnE w.heap.size w' v es ∧ Below w.heap.size w w' := by
  obtain ⟨a, c, h1, h2, h3, h4, h5⟩ := h
  have H1 := Lib.hid h1
  have H2 := Lib.hid h2
  have c1 := blk_cell h1 1
  simp only [List.getElem?_toArray, List.getElem?_cons_zero, List.getElem?_cons_succ] at c1
  obtain ⟨n, hl⟩ : ∃ n, es.length = n := ⟨_, rfl⟩
  have HL := Lib.hid hl
  rw [hl] at c1 h3 hn H1
  clear h1 h2 hl
  unfold maxLen at h4
  go_enter Try.func16, Try.ntmps16
  go_wp2_with fail
  refine (cloneE a n c es _ H2.out HL.out (by omega) h5).mono ?_
  rintro r w1 ⟨v, rfl, ho, hb⟩
  have HO := Lib.hid ho
  have HB := Lib.hid hb
  obtain ⟨a5, c5, rfl, -, -, -⟩ := OwnR.form ho
  clear ho hb
  go_wp2
  go_ret
  exact ⟨_, rfl, HO.out, HB.out⟩

set_option maxRecDepth 100000 in
set_option maxHeartbeats 1000000 in
theorem shLen (sb : Nat) (most : Int) (es : List En) (w : World) (h : ShP w sb most es) (hn : es.length ≤ 900) :
    Calls Try.prog 17 #[.pointer (some ⟨sb, 0, none⟩)] w fun r w' => r = .returned (.int .i64 es.length) ∧ Below w.heap.size w w' := by
  obtain ⟨a, c, h1, h2, h3, h4, h5⟩ := h
  have H1 := Lib.hid h1
  have H2 := Lib.hid h2
  have c1 := blk_cell h1 1
  simp only [List.getElem?_toArray, List.getElem?_cons_zero, List.getElem?_cons_succ] at c1
  obtain ⟨n, hl⟩ : ∃ n, es.length = n := ⟨_, rfl⟩
  have HL := Lib.hid hl
  rw [hl] at c1 h3 hn H1 ⊢
  clear h1 h2 hl
  unfold maxLen at h4
  go_enter Try.func17, Try.ntmps17
  go_wp2
  go_ret
  exact ⟨rfl, Below.refl _ _⟩

set_option maxRecDepth 100000 in
set_option maxHeartbeats 1000000 in
theorem shLive (sb : Nat) (most : Int) (es : List En) (w : World) (h : ShP w sb most es) (hn : es.length ≤ 900) :
    Calls Try.prog 22 #[.pointer (some ⟨sb, 0, none⟩)] w fun r w' => r = .returned (.int .i64 (livN es)) ∧ Below w.heap.size w w' := by
  obtain ⟨a, c, h1, h2, h3, h4, h5⟩ := h
  have H1 := Lib.hid h1
  have H2 := Lib.hid h2
  have c1 := blk_cell h1 1
  simp only [List.getElem?_toArray, List.getElem?_cons_zero, List.getElem?_cons_succ] at c1
  obtain ⟨n, hl⟩ : ∃ n, es.length = n := ⟨_, rfl⟩
  have HL := Lib.hid hl
  rw [hl] at c1 h3 hn H1
  clear h1 h2 hl
  unfold maxLen at h4
  go_enter Try.func22, Try.ntmps22
  go_wp2_with fail
  go_loopw [3, 11] (fun l i wr => ∃ J : Nat, J ≤ n ∧ i = .int .i64 (J : Int) ∧ l = .int .i64 (livN (es.take J) : Int) ∧ Below w.heap.size w wr) (fun l i _ => n - (intOf i).toNat)
  case atStart => exact ⟨0, by omega, rfl, rfl, Below.refl _ _⟩
  case round =>
    obtain ⟨w2, rfl⟩ : ∃ y : World, y = wr := ⟨_, rfl⟩
    obtain ⟨J, hJ, rfl, rfl, hb2⟩ := hrel
    obtain ⟨V, hV⟩ : ∃ V, livN (es.take J) = V := ⟨_, rfl⟩
    have hVb : V ≤ 900 := by
      have h1 := livN_le (es.take J)
      rw [List.length_take, HL.out] at h1
      omega
    have HV := Lib.hid hV
    rw [hV]
    clear hV
    by_cases hlt : J < n
    · obtain ⟨x, hx⟩ : ∃ x, es[J]? = some x := ⟨_, List.getElem?_eq_getElem (by have := HL.out; omega)⟩
      obtain ⟨b, o, rfl⟩ : ∃ b o, a = some ⟨b, o, none⟩ := by
        rcases H2.out with h | ⟨b, o, e, _⟩
        · rw [h] at hx; simp at hx
        · exact ⟨b, o, e⟩
      obtain ⟨y0, y1, y2, y3, y4, y5, y6, y7, y8, y9⟩ := EAt.at (H2.out.ext hb2) hx
      have HST := Lib.hid (show livN (es.take (J + 1)) = V + (if x.c.g then 0 else 1) from by rw [List.take_add_one, hx]; show livN (es.take J ++ [x]) = _; rw [livN_snoc, HV.out])
      have HB3 := Lib.hid (show Below w.heap.size w (w2.alloc (.cells #[.string x.c.a, .string x.c.i, .int .i64 x.c.s, .int .i64 x.c.o, .int .i64 x.c.l, .int .i64 x.c.t, .int .i64 x.c.k, .int .i64 x.c.n, .bool x.c.g, .int .i64 x.seen] 48)) from hb2.alloc hb2.size _)
      clear hx hb2
      obtain ⟨⟨ca, ci, cs, co, cl, ct, ck, cn, cg⟩, seen⟩ := x
      simp only at y0 y1 y2 y3 y4 y5 y6 y7 y8 y9 HST HB3
      cases cg
      · go_wp2_with fail
        go_roundw
        case rel => exact ⟨J + 1, by omega, by go_num, by rw [HST.out]; go_num, HB3.out⟩
        case measure => simp [intOf]; omega
      · go_wp2_with fail
        go_roundw
        case rel => exact ⟨J + 1, by omega, by go_num, by rw [HST.out]; go_num, HB3.out⟩
        case measure => simp [intOf]; omega
    · have hJn : n = J := by omega
      have HF := Lib.hid (show livN es = V from by rw [← HV.out, List.take_of_length_le (by have := HL.out; omega)])
      go_wp2
      go_ret
      exact ⟨by rw [HF.out]; rfl, hb2⟩

set_option maxRecDepth 100000 in
set_option maxHeartbeats 1000000 in
theorem shDropNo (sb : Nat) (most : Int) (es : List En) (k : Ky) (w : World) (h : ShP w sb most es) (hs : Asc es) (hn : es.length ≤ 900) (hin : isIn k es = false) :
    Calls Try.prog 20 #[.pointer (some ⟨sb, 0, none⟩), .agg #[.string k.1, .string k.2]] w fun r w' => r = .returned (.bool false) ∧ Below w.heap.size w w' := by
  obtain ⟨a, c, h1, h2, h3, h4, h5⟩ := h
  have H1 := Lib.hid h1
  have H2 := Lib.hid h2
  have c1 := blk_cell h1 1
  simp only [List.getElem?_toArray, List.getElem?_cons_zero, List.getElem?_cons_succ] at c1
  obtain ⟨n, hl⟩ : ∃ n, es.length = n := ⟨_, rfl⟩
  have HL := Lib.hid hl
  rw [hl] at c1 h3 hn H1
  clear h1 h2 hl
  unfold maxLen at h4
  have E0 : Below w.heap.size w (w.alloc (.cells #[.string k.1, .string k.2] 27)) := (Below.refl _ _).alloc (Nat.le_refl _) _
  have HK := Lib.hid (show (w.alloc (.cells #[.string k.1, .string k.2] 27)).heap[w.heap.size]? = some (.cells #[.string k.1, .string k.2] 27 (0, 0)) from blk_new _ _ _)
  have H10 := Lib.hid (show BoxS (w.alloc (.cells #[.string k.1, .string k.2] 27)) sb most a n c from blk_ext E0 H1.out)
  have H20 := Lib.hid (SAt.ext H2.out E0)
  have HB0 := Lib.hid E0
  have HIN := Lib.hid hin
  clear E0 hin c1
  go_enter Try.func20, Try.ntmps20
  go_upto_region 1 with (fail)
  generalize (w.alloc (.cells #[.string k.1, .string k.2] 27)) = w0 at *
  have hk0 := blk_cell HK.out
  have hl0 := blk_lt HK.out
  go_wp2_with fail
  refine (shFind sb most a n c es k _ H10.out H20.out hs HL.out (by omega)).mono ?_
  rintro r w1 ⟨rfl, hb1⟩
  rw [HIN.out]
  clear hk0 hl0
  have HB1 := Lib.hid (ext_trans HB0.out hb1)
  clear hb1
  go_wp2
  go_ret
  exact ⟨rfl, HB1.out⟩

set_option maxRecDepth 100000 in
set_option maxHeartbeats 1000000 in
theorem equalE (a1 a2 : Option Addr) (n c1 c2 : Nat) (es : List En) (w : World) (h1 : EAt w a1 es) (h2 : EAt w a2 es) (hl : es.length = n) (hn : n ≤ 1000) :
    Calls Try.prog 32 #[.slice a1 n c1, .slice a2 n c2] w fun r w' => r = .returned (.bool true) ∧ Below w.heap.size w w' := by
  have H1 := Lib.hid h1
  have H2 := Lib.hid h2
  have HN := Lib.hid hl
  clear h1 h2 hl
  go_enter Try.func32, Try.ntmps32
  go_wp2_with fail
  go_loopw [13] (fun j wr => ∃ J : Nat, J ≤ n ∧ j = .int .i64 (J : Int) ∧ Below w.heap.size w wr) (fun j _ => n - (intOf j).toNat)
  case atStart => exact ⟨0, by omega, rfl, Below.refl _ _⟩
  case round =>
    obtain ⟨w2, rfl⟩ : ∃ y : World, y = wr := ⟨_, rfl⟩
    obtain ⟨J, hJ, rfl, hb2⟩ := hrel
    by_cases hlt : J < n
    · obtain ⟨x, hx⟩ : ∃ x, es[J]? = some x := ⟨_, List.getElem?_eq_getElem (by have := HN.out; omega)⟩
      obtain ⟨b1, o1, rfl⟩ : ∃ b o, a1 = some ⟨b, o, none⟩ := by
        rcases H1.out with h | ⟨b, o, e, _⟩
        · rw [h] at hx; simp at hx
        · exact ⟨b, o, e⟩
      obtain ⟨b2, o2, rfl⟩ : ∃ b o, a2 = some ⟨b, o, none⟩ := by
        rcases H2.out with h | ⟨b, o, e, _⟩
        · rw [h] at hx; simp at hx
        · exact ⟨b, o, e⟩
      obtain ⟨y0, y1, y2, y3, y4, y5, y6, y7, y8, y9⟩ := EAt.at (H1.out.ext hb2) hx
      obtain ⟨z0, z1, z2, z3, z4, z5, z6, z7, z8, z9⟩ := EAt.at (H2.out.ext hb2) hx
      have HB2 := Lib.hid hb2
      clear hb2 hx
      go_wp2_with fail
      haveI hIq : Nonempty (Of w2) := of_some _
      have hF0 := of_cell y0
      have hF1 := of_cell y1
      have hF2 := of_cell y2
      have hF3 := of_cell y3
      have hF4 := of_cell y4
      have hF5 := of_cell y5
      have hF6 := of_cell y6
      have hF7 := of_cell y7
      have hF8 := of_cell y8
      have hF9 := of_cell y9
      have hF10 := of_cell z0
      have hF11 := of_cell z1
      have hF12 := of_cell z2
      have hF13 := of_cell z3
      have hF14 := of_cell z4
      have hF15 := of_cell z5
      have hF16 := of_cell z6
      have hF17 := of_cell z7
      have hF18 := of_cell z8
      have hF19 := of_cell z9
      first | (refine wp_region_stay w2 (by kernel_rfl) (by kernel_rfl) (by go_grown) ?_) | (refine wp_region_stay_seq w2 (by go_grown) ?_)
      repeat (go_big_quiet_step (fail))
      refine wpQuiet_nil ?_
      intro w6 hb6
      clear hIq hF0 hF1 hF2 hF3 hF4 hF5 hF6 hF7 hF8 hF9 hF10 hF11 hF12 hF13 hF14 hF15 hF16 hF17 hF18 hF19

      have HB6 := Lib.hid (ext_trans HB2.out hb6)
      clear hb6 y0 y1 y2 y3 y4 y5 y6 y7 y8 y9 z0 z1 z2 z3 z4 z5 z6 z7 z8 z9
      go_wp2
      go_roundw
      case rel => exact ⟨J + 1, by omega, by go_num, HB6.out⟩
      case measure => simp [intOf]; omega
    · obtain rfl : J = n := by omega
      go_wp2
      go_ret
      exact ⟨rfl, hb2⟩

set_option maxRecDepth 100000 in
set_option maxHeartbeats 1000000 in
theorem sameE (a1 a2 : Option Addr) (n c1 c2 : Nat) (es : List En) (w : World) (h1 : EAt w a1 es) (h2 : EAt w a2 es) (hl : es.length = n) (hn : n ≤ 1000) :
    Calls Try.prog 15 #[.slice a1 n c1, .slice a2 n c2] w fun r w' => r = .returned (.bool true) ∧ Below w.heap.size w w' := by
  go_enter Try.func15, Try.ntmps15
  go_wp2_with fail
  refine (equalE a1 a2 n c1 c2 es _ h1 h2 hl hn).mono ?_
  rintro r w1 ⟨rfl, hb1⟩
  go_wp2
  go_ret
  exact ⟨rfl, hb1⟩

end Go.Proofs.Ytnmpjagdkbaidaa
