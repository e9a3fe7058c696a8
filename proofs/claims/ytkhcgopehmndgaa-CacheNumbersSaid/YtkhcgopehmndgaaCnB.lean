/- The document's own: which feeds are right. -/
import Derived.Test.YtkhcgopehmndgaaCnR
namespace Go.Proofs.Ytkhcgopehmndgaa
open Go.RowKit
set_option linter.unusedVariables false
set_option linter.unusedSimpArgs false

open Go.PlainAid (bt get_bt)
set_option maxRecDepth 100000 in
set_option maxHeartbeats 2000000 in
theorem refNameOk (s : ByteArray) (w : World) (h : NmOk s) :
    Calls Try.prog 107 #[.string s] w fun r w' => r = .returned (.bool true) ∧ Below w.heap.size w w' := by
  obtain ⟨h1, h2, h3⟩ := h
  have HL := Lib.hid h3
  clear h3
  obtain ⟨n, hn⟩ : ∃ n, s.size = n := ⟨_, rfl⟩
  have hb := get_bt s
  go_enter Try.func107, Try.ntmps107
  go_wp2_with fail
  go_loopw [3] (fun j wr => ∃ J : Nat, J ≤ n ∧ j = .int .i64 (J : Int) ∧ Below w.heap.size w wr) (fun j _ => n - (intOf j).toNat)
  case atStart => exact ⟨0, by omega, rfl, Below.refl _ _⟩
  case round =>
    obtain ⟨w2, rfl⟩ : ∃ y : World, y = wr := ⟨_, rfl⟩
    obtain ⟨J, hJ, rfl, hb2⟩ := hrel
    have HB2 := Lib.hid hb2
    clear hb2
    by_cases hlt : J < n
    · have hlt2 : (J : Int) < (n : Int) := by omega
      have hd : decide ((J : Int) < (n : Int)) = true := decide_eq_true hlt2
      have hL := HL.out J (by omega)
      obtain ⟨q, hq⟩ : ∃ q, bt s J = q := ⟨_, rfl⟩
      rw [hq] at hL
      have HQ := Lib.hid hq
      have hbj : ∃ a b c d : Bool, decide (q < 97) = a ∧ decide (122 < q) = b ∧ decide (q < 48) = c ∧ decide (57 < q) = d ∧ ((a = false ∧ b = false) ∨ (c = false ∧ d = false)) := by
        refine ⟨_, _, _, _, rfl, rfl, rfl, rfl, ?_⟩
        rcases hL with h | h
        · exact .inl ⟨decide_eq_false (by omega), decide_eq_false (by omega)⟩
        · exact .inr ⟨decide_eq_false (by omega), decide_eq_false (by omega)⟩
      obtain ⟨a, b, c, d, e1, e2, e3, e4, e5⟩ := hbj
      clear hL
      have e1' : decide (bt s J < 97) = a := by rw [HQ.out]; exact e1
      have e2' : decide (122 < bt s J) = b := by rw [HQ.out]; exact e2
      have e3' : decide (bt s J < 48) = c := by rw [HQ.out]; exact e3
      have e4' : decide (57 < bt s J) = d := by rw [HQ.out]; exact e4
      clear e1 e2 e3 e4 hq
      cases a
      all_goals cases b
      all_goals cases c
      all_goals cases d
      all_goals first
        | (exfalso; simp at e5; done)
        | skip
      all_goals
        clear e5
        go_wp2
        go_roundw
        case rel => exact ⟨J + 1, by omega, by go_num, HB2.out⟩
        case measure => simp [intOf]; omega
    · obtain rfl : J = n := by omega
      have hlt2 : decide ((J : Int) < (J : Int)) = false := by simp
      have d1 : decide (1 ≤ (J : Int)) = true := decide_eq_true (by omega)
      have d2 : decide ((J : Int) ≤ 16) = true := decide_eq_true (by omega)
      go_wp2
      go_ret
      exact ⟨rfl, HB2.out⟩

set_option maxRecDepth 100000 in
set_option maxHeartbeats 1000000 in
theorem refStampOk (t k n : Int) (w : World) (h1 : 0 ≤ t) (h2 : 0 ≤ k) (h3 : k < 6) (h4 : 0 ≤ n) :
    Calls Try.prog 108 #[.agg #[.int .i64 t, .int .i64 k, .int .i64 n]] w fun r w' => r = .returned (.bool true) ∧ Below w.heap.size w w' := by
  have D0 := Lib.hid (show Below w.heap.size w (w.alloc (.cells #[.int .i64 t, .int .i64 k, .int .i64 n] 47)) from (Below.refl _ _).alloc (Nat.le_refl _) _)
  have HX := Lib.hid (blk_new w #[.int .i64 t, .int .i64 k, .int .i64 n] 47)
  have d1 : decide (0 ≤ t) = true := decide_eq_true (by omega)
  have d2 : decide (0 ≤ k) = true := decide_eq_true (by omega)
  have d3 : decide (k < 6) = true := decide_eq_true (by omega)
  have d4 : decide (0 ≤ n) = true := decide_eq_true (by omega)
  go_enter Try.func108, Try.ntmps108
  go_upto_region 1 with (fail)
  obtain ⟨p, hp⟩ : ∃ p, w.heap.size = p := ⟨_, rfl⟩
  rw [hp] at HX
  try rw [hp]
  clear hp
  generalize (w.alloc (.cells #[.int .i64 t, .int .i64 k, .int .i64 n] 47)) = w1 at *
  have hk := blk_cell HX.out
  have hl := blk_lt HX.out
  go_wp2
  go_ret
  exact ⟨rfl, D0.out⟩

set_option maxRecDepth 100000 in
set_option maxHeartbeats 2000000 in
theorem refCdOk (c : Cd) (w : World) (h : CdR c) :
    Calls Try.prog 95 #[.agg #[.string c.a, .string c.i, .int .i64 c.s, .int .i64 c.o, .int .i64 c.l, .int .i64 c.t, .int .i64 c.k, .int .i64 c.n, .bool c.g]] w fun r w' => r = .returned (.bool true) ∧ Below w.heap.size w w' := by
  obtain ⟨ha, hi, h3, h4, h5, h6, h7, h8, h9, h10, h11, h12⟩ := h
  have HA := Lib.hid ha
  have HI := Lib.hid hi
  have HS := Lib.hid (And.intro h9 (And.intro h10 (And.intro h11 h12)))
  have D0 := Lib.hid (show Below w.heap.size w (w.alloc (.cells #[.string c.a, .string c.i, .int .i64 c.s, .int .i64 c.o, .int .i64 c.l, .int .i64 c.t, .int .i64 c.k, .int .i64 c.n, .bool c.g] 49)) from (Below.refl _ _).alloc (Nat.le_refl _) _)
  have HX := Lib.hid (blk_new w #[.string c.a, .string c.i, .int .i64 c.s, .int .i64 c.o, .int .i64 c.l, .int .i64 c.t, .int .i64 c.k, .int .i64 c.n, .bool c.g] 49)
  have d5 : decide (0 ≤ c.o) = true := decide_eq_true (by omega)
  have d6 : decide (c.o ≤ 3) = true := decide_eq_true (by omega)
  have d7 : decide (1 ≤ c.l) = true := decide_eq_true (by omega)
  have d8 : decide (c.l ≤ 1048576) = true := decide_eq_true (by omega)
  have hs : c.s = 1 ∨ c.s = 2 := by omega
  clear ha hi h3 h4 h5 h6 h7 h8 h9 h10 h11 h12
  go_enter Try.func95, Try.ntmps95
  go_upto_region 1 with (fail)
  obtain ⟨p, hp⟩ : ∃ p, w.heap.size = p := ⟨_, rfl⟩
  rw [hp] at HX
  try rw [hp]
  clear hp
  generalize (w.alloc (.cells #[.string c.a, .string c.i, .int .i64 c.s, .int .i64 c.o, .int .i64 c.l, .int .i64 c.t, .int .i64 c.k, .int .i64 c.n, .bool c.g] 49)) = w1 at *
  have hk := blk_cell HX.out
  have hl := blk_lt HX.out
  go_wp2_with fail
  refine (refNameOk c.a _ HA.out).mono ?_
  rintro e w2 ⟨rfl, hb⟩
  have HX2 := Lib.hid (blk_ext hb HX.out)
  have D2 := Lib.hid (ext_trans D0.out hb)
  clear hk hl hb HX D0
  have hk := blk_cell HX2.out
  have hl := blk_lt HX2.out
  go_wp2_with fail
  refine (refNameOk c.i _ HI.out).mono ?_
  rintro e w3 ⟨rfl, hb⟩
  have HX3 := Lib.hid (blk_ext hb HX2.out)
  have D3 := Lib.hid (ext_trans D2.out hb)
  clear hk hl hb HX2 D2
  have hk := blk_cell HX3.out
  have hl := blk_lt HX3.out
  rcases hs with hs | hs
  · skip
    have e1 : (c.s == 1) = true := by rw [hs]; rfl
    have e2 : (c.s == 2) = false := by rw [hs]; rfl
    go_wp2_with fail
    refine (refStampOk c.t c.k c.n _ HS.out.1 HS.out.2.1 HS.out.2.2.1 HS.out.2.2.2).mono ?_
    rintro e w4 ⟨rfl, hb⟩
    have D4 := Lib.hid (ext_trans D3.out hb)
    clear hb
    go_wp2
    go_ret
    exact ⟨rfl, D4.out⟩
  · skip
    have e1 : (c.s == 1) = false := by rw [hs]; rfl
    have e2 : (c.s == 2) = true := by rw [hs]; rfl
    go_wp2_with fail
    refine (refStampOk c.t c.k c.n _ HS.out.1 HS.out.2.1 HS.out.2.2.1 HS.out.2.2.2).mono ?_
    rintro e w4 ⟨rfl, hb⟩
    have D4 := Lib.hid (ext_trans D3.out hb)
    clear hb
    go_wp2
    go_ret
    exact ⟨rfl, D4.out⟩

set_option maxRecDepth 100000 in
set_option maxHeartbeats 2000000 in
theorem refZero5 (full : Bool) (tg q s : Int) (a : Option Addr) (n c : Nat) (w : World) :
    Calls Try.prog 93 #[.agg #[.int .i64 2, .int .i64 5, .int .i64 0, .int .i64 0, .int .i64 tg, .int .i64 0, .int .i64 q, .string ⟨#[]⟩, .string ⟨#[]⟩, .bool full, .int .u32 s, .slice a n c, .slice none 0 0]] w fun r w' => r = .returned (.bool true) ∧ Below w.heap.size w w' := by
  have D0 := Lib.hid (show Below w.heap.size w (w.alloc (.cells #[.int .i64 2, .int .i64 5, .int .i64 0, .int .i64 0, .int .i64 tg, .int .i64 0, .int .i64 q, .string ⟨#[]⟩, .string ⟨#[]⟩, .bool full, .int .u32 s, .slice a n c, .slice none 0 0] 36)) from (Below.refl _ _).alloc (Nat.le_refl _) _)
  have HX := Lib.hid (blk_new w #[.int .i64 2, .int .i64 5, .int .i64 0, .int .i64 0, .int .i64 tg, .int .i64 0, .int .i64 q, .string ⟨#[]⟩, .string ⟨#[]⟩, .bool full, .int .u32 s, .slice a n c, .slice none 0 0] 36)
  go_enter Try.func93, Try.ntmps93
  go_upto_region 1 with (fail)
  obtain ⟨p, hp⟩ : ∃ p, w.heap.size = p := ⟨_, rfl⟩
  rw [hp] at HX
  try rw [hp]
  clear hp
  generalize (w.alloc (.cells #[.int .i64 2, .int .i64 5, .int .i64 0, .int .i64 0, .int .i64 tg, .int .i64 0, .int .i64 q, .string ⟨#[]⟩, .string ⟨#[]⟩, .bool full, .int .u32 s, .slice a n c, .slice none 0 0] 36)) = w1 at *
  have hk := blk_cell HX.out
  have hl := blk_lt HX.out
  haveI hIq : Nonempty (Of w1) := of_some _
  have hG0 := blk_of HX.out
  first | (refine wp_region_stay w1 (by kernel_rfl) (by kernel_rfl) (Below.refl _ _) ?_) | (refine wp_region_stay_seq w1 (Below.refl _ _) ?_)
  repeat (go_big_quiet_step (fail))
  refine wpQuiet_nil ?_
  intro w2 hb2
  clear hIq hG0
  have HX2 := Lib.hid (blk_ext hb2 HX.out)
  have D2 := Lib.hid (ext_trans D0.out hb2)
  clear hk hl hb2 HX D0
  have hk := blk_cell HX2.out
  have hl := blk_lt HX2.out
  go_wp2
  go_ret
  exact ⟨rfl, D2.out⟩

set_option maxRecDepth 100000 in
set_option maxHeartbeats 2000000 in
theorem refWhy5 (full : Bool) (tg q s : Int) (a : Option Addr) (n c : Nat) (w : World) (ls : List Cd) (h : CAt w a ls) (hl0 : ls.length = n) (hn : n ≤ 64) (hr : ∀ x ∈ ls, CdR x) (hq : -1 ≤ q) :
    Calls Try.prog 78 #[.agg #[.int .i64 2, .int .i64 5, .int .i64 0, .int .i64 0, .int .i64 tg, .int .i64 0, .int .i64 q, .string ⟨#[]⟩, .string ⟨#[]⟩, .bool full, .int .u32 s, .slice a n c, .slice none 0 0]] w fun r w' => r = .returned (.tuple #[.string ⟨#[]⟩, .int .i64 0]) ∧ Below w.heap.size w w' := by
  have D0 := Lib.hid (show Below w.heap.size w (w.alloc (.cells #[.int .i64 2, .int .i64 5, .int .i64 0, .int .i64 0, .int .i64 tg, .int .i64 0, .int .i64 q, .string ⟨#[]⟩, .string ⟨#[]⟩, .bool full, .int .u32 s, .slice a n c, .slice none 0 0] 36)) from (Below.refl _ _).alloc (Nat.le_refl _) _)
  have HX := Lib.hid (blk_new w #[.int .i64 2, .int .i64 5, .int .i64 0, .int .i64 0, .int .i64 tg, .int .i64 0, .int .i64 q, .string ⟨#[]⟩, .string ⟨#[]⟩, .bool full, .int .u32 s, .slice a n c, .slice none 0 0] 36)
  have HA := Lib.hid (h.ext D0.out)
  have HL := Lib.hid hl0
  have HR := Lib.hid hr
  have d1 : decide (q < -1) = false := decide_eq_false (by omega)
  have d2 : decide (64 < (n : Int)) = false := decide_eq_false (by omega)
  have d3 : decide (64 < n) = false := decide_eq_false (by omega)
  clear h hl0 hr
  go_enter Try.func78, Try.ntmps78
  go_upto_region 1 with (fail)
  obtain ⟨p, hp⟩ : ∃ p, w.heap.size = p := ⟨_, rfl⟩
  rw [hp] at HX
  try rw [hp]
  clear hp
  generalize (w.alloc (.cells #[.int .i64 2, .int .i64 5, .int .i64 0, .int .i64 0, .int .i64 tg, .int .i64 0, .int .i64 q, .string ⟨#[]⟩, .string ⟨#[]⟩, .bool full, .int .u32 s, .slice a n c, .slice none 0 0] 36)) = w1 at *
  have hk := blk_cell HX.out
  have hl := blk_lt HX.out
  go_wp2_with fail
  refine (refZero5 full tg q s a n c _).mono ?_
  rintro r w2 ⟨rfl, hb⟩
  have HX2 := Lib.hid (blk_ext hb HX.out)
  have D2 := Lib.hid (ext_trans D0.out hb)
  have HA2 := Lib.hid (HA.out.ext hb)
  clear hk hl hb HX D0 HA
  have hk := blk_cell HX2.out
  have hl := blk_lt HX2.out
  go_wp2_with fail
  go_loopw [102] (fun i wr => ∃ p : Nat, p ≤ n ∧ i = .int .i64 (p : Int) ∧ Below w2.heap.size w2 wr) (fun i _ => n - (intOf i).toNat)
  case atStart => exact ⟨0, by omega, rfl, Below.refl _ _⟩
  case round =>
    obtain ⟨w3, rfl⟩ : ∃ y : World, y = wr := ⟨_, rfl⟩
    obtain ⟨p1, hp, rfl, B2⟩ := hrel
    have HB2 := Lib.hid B2
    have HX3 := Lib.hid (blk_ext B2 HX2.out)
    have HA3 := Lib.hid (HA2.out.ext B2)
    clear hk hl B2
    have hk := blk_cell HX3.out
    have hl := blk_lt HX3.out
    by_cases hlt : p1 < n
    · obtain ⟨x, hx⟩ : ∃ x, ls[p1]? = some x := ⟨_, List.getElem?_eq_getElem (by have := HL.out; omega)⟩
      have HXR := Lib.hid (HR.out x (List.mem_of_getElem? hx))
      obtain ⟨b, o, rfl⟩ : ∃ b o, a = some ⟨b, o, none⟩ := by
        rcases HA3.out with h | ⟨b, o, e, _⟩
        · rw [h] at hx; simp at hx
        · exact ⟨b, o, e⟩
      obtain ⟨x0, x1, x2, x3, x4, x5, x6, x7, x8⟩ := HA3.out.at hx
      have hlt2 : (p1 : Int) < (n : Int) := by omega
      have E3 := Lib.hid (show Below w3.heap.size w3 (w3.alloc (.cells #[.string x.a, .string x.i, .int .i64 x.s, .int .i64 x.o, .int .i64 x.l, .int .i64 x.t, .int .i64 x.k, .int .i64 x.n, .bool x.g] 49)) from (Below.refl _ _).alloc (Nat.le_refl _) _)
      have HK3 := Lib.hid (blk_new w3 #[.string x.a, .string x.i, .int .i64 x.s, .int .i64 x.o, .int .i64 x.l, .int .i64 x.t, .int .i64 x.k, .int .i64 x.n, .bool x.g] 49)
      clear hx
      go_upto_region 16 with (fail)
      clear x0 x1 x2 x3 x4 x5 x6 x7 x8 hk hl
      generalize (w3.alloc (.cells #[.string x.a, .string x.i, .int .i64 x.s, .int .i64 x.o, .int .i64 x.l, .int .i64 x.t, .int .i64 x.k, .int .i64 x.n, .bool x.g] 49)) = w4 at *
      have hk4 := blk_cell HK3.out
      have hl4 := blk_lt HK3.out
      go_wp2_with fail
      refine (refCdOk x _ HXR.out).mono ?_
      rintro e w5 ⟨rfl, hb⟩
      have B3 := Lib.hid (ext_trans HB2.out (ext_trans E3.out hb))
      clear hb hk4 hl4
      go_wp2
      go_roundw
      case rel => exact ⟨p1 + 1, by omega, by go_num, B3.out⟩
      case measure => simp [intOf]; omega
    · obtain rfl : p1 = n := by omega
      have hlt2 : decide ((p1 : Int) < (p1 : Int)) = false := by simp
      have DE := Lib.hid (ext_trans D2.out HB2.out)
      clear D2 HB2
      go_wp2_with fail
      refine wp_loop_rounds 1 ?_
      rw [rounds_succ]
      go_wp2
      go_ret2
      exact ⟨rfl, DE.out⟩

set_option maxRecDepth 100000 in
set_option maxHeartbeats 2000000 in
theorem refRight5 (full : Bool) (tg q s : Int) (a : Option Addr) (n c : Nat) (w : World) (ls : List Cd) (h : CAt w a ls) (hl0 : ls.length = n) (hn : n ≤ 64) (hr : ∀ x ∈ ls, CdR x) (hq : -1 ≤ q) :
    Calls Try.prog 54 #[.agg #[.int .i64 2, .int .i64 5, .int .i64 0, .int .i64 0, .int .i64 tg, .int .i64 0, .int .i64 q, .string ⟨#[]⟩, .string ⟨#[]⟩, .bool full, .int .u32 s, .slice a n c, .slice none 0 0]] w fun r w' => r = .returned (.bool true) ∧ Below w.heap.size w w' := by
  have D0 := Lib.hid (show Below w.heap.size w (w.alloc (.cells #[.int .i64 2, .int .i64 5, .int .i64 0, .int .i64 0, .int .i64 tg, .int .i64 0, .int .i64 q, .string ⟨#[]⟩, .string ⟨#[]⟩, .bool full, .int .u32 s, .slice a n c, .slice none 0 0] 36)) from (Below.refl _ _).alloc (Nat.le_refl _) _)
  have HX := Lib.hid (blk_new w #[.int .i64 2, .int .i64 5, .int .i64 0, .int .i64 0, .int .i64 tg, .int .i64 0, .int .i64 q, .string ⟨#[]⟩, .string ⟨#[]⟩, .bool full, .int .u32 s, .slice a n c, .slice none 0 0] 36)
  have HA := Lib.hid (h.ext D0.out)
  have HL := Lib.hid hl0
  have HR := Lib.hid hr
  have d1 : decide (q < -1) = false := decide_eq_false (by omega)
  have d2 : decide (64 < (n : Int)) = false := decide_eq_false (by omega)
  have d3 : decide (64 < n) = false := decide_eq_false (by omega)
  clear h hl0 hr
  go_enter Try.func54, Try.ntmps54
  go_upto_region 1 with (fail)
  obtain ⟨p, hp⟩ : ∃ p, w.heap.size = p := ⟨_, rfl⟩
  rw [hp] at HX
  try rw [hp]
  clear hp
  generalize (w.alloc (.cells #[.int .i64 2, .int .i64 5, .int .i64 0, .int .i64 0, .int .i64 tg, .int .i64 0, .int .i64 q, .string ⟨#[]⟩, .string ⟨#[]⟩, .bool full, .int .u32 s, .slice a n c, .slice none 0 0] 36)) = w1 at *
  have hk := blk_cell HX.out
  have hl := blk_lt HX.out
  go_wp2_with fail
  refine (refWhy5 full tg q s a n c _ ls HA.out HL.out hn HR.out hq).mono ?_
  rintro r w2 ⟨rfl, hb⟩
  have D2 := Lib.hid (ext_trans D0.out hb)
  go_wp2
  go_ret
  exact ⟨rfl, D2.out⟩

end Go.Proofs.Ytkhcgopehmndgaa
