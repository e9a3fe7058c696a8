/- Which cards are right; which messages of a feed are. -/
import Derived.Test.YtkhcgopehmndgaaBe
import Derived.Test.YtkhcgopehmndgaaTapeF
import Derived.PlainAid
import Derived.IntWalk
namespace Go.Proofs.Ytkhcgopehmndgaa
open Go.RowKit
set_option linter.unusedVariables false
set_option linter.unusedSimpArgs false

open Go.PlainAid (bt get_bt)
/-- a letter of a name -/
def Ltr (x : Int) : Prop := (97 ≤ x ∧ x ≤ 122) ∨ (48 ≤ x ∧ x ≤ 57)
instance (x : Int) : Decidable (Ltr x) := by unfold Ltr; exact inferInstance
def NmOk (s : ByteArray) : Prop := 1 ≤ s.size ∧ s.size ≤ 16 ∧ ∀ k, k < s.size → Ltr (bt s k)
/-- a card that is right -/
def CdR (c : Cd) : Prop := NmOk c.a ∧ NmOk c.i ∧ 1 ≤ c.s ∧ c.s ≤ 2 ∧ 0 ≤ c.o ∧ c.o ≤ 3 ∧ 1 ≤ c.l ∧ c.l ≤ 1048576 ∧ 0 ≤ c.t ∧ 0 ≤ c.k ∧ c.k < 6 ∧ 0 ≤ c.n
theorem nm_of {s : ByteArray} (h : 1 ≤ s.size) (h2 : s.size ≤ 5) (h0 : Ltr (bt s 0)) (h1 : 1 < s.size → Ltr (bt s 1)) (h3 : 2 < s.size → Ltr (bt s 2)) (h4 : 3 < s.size → Ltr (bt s 3)) (h5 : 4 < s.size → Ltr (bt s 4)) : NmOk s :=
  ⟨h, by omega, fun k hk => by
    match k, hk with
    | 0, _ => exact h0
    | 1, hk => exact h1 hk
    | 2, hk => exact h3 hk
    | 3, hk => exact h4 hk
    | 4, hk => exact h5 hk
    | k + 5, hk => omega⟩
theorem KA.nm {s : ByteArray} (h : KA s) : NmOk s := by
  rcases h with rfl | rfl | rfl | rfl <;> exact nm_of (by decide) (by decide) (by decide) (by decide) (by decide) (by decide) (by decide)
theorem KI.nm {s : ByteArray} (h : KI s) : NmOk s := by
  rcases h with rfl | rfl | rfl | rfl | rfl <;> exact nm_of (by decide) (by decide) (by decide) (by decide) (by decide) (by decide) (by decide)
theorem CdOk.r {c : Cd} (h : CdOk c) (ha : KA c.a) (hi : KI c.i) : CdR c := by
  obtain ⟨-, -, h3, h4, h5, h6, h7, h8, h9, h10, h11, h12, h13, h14⟩ := h
  exact ⟨ha.nm, hi.nm, h3, h4, h5, h6, h7, by omega, h9, h11, h12, h13⟩
set_option maxRecDepth 100000 in
set_option maxHeartbeats 1000000 in
theorem letterOk (x : Int) (w : World) (h : Ltr x) :
    Calls Try.prog 100 #[.int .u8 x] w fun r w' => r = .returned (.bool true) ∧ w = w' := by
  rcases h with ⟨h1, h2⟩ | ⟨h1, h2⟩
  · have d1 : decide (97 ≤ x) = true := decide_eq_true h1
    have d2 : decide (x ≤ 122) = true := decide_eq_true h2
    go_enter Try.func100, Try.ntmps100
    go_wp2
    go_ret
    exact ⟨rfl, rfl⟩
  · have d1 : decide (97 ≤ x) = false := decide_eq_false (by omega)
    have d3 : decide (48 ≤ x) = true := decide_eq_true h1
    have d4 : decide (x ≤ 57) = true := decide_eq_true h2
    go_enter Try.func100, Try.ntmps100
    go_wp2
    go_ret
    exact ⟨rfl, rfl⟩

set_option maxRecDepth 100000 in
set_option maxHeartbeats 1000000 in
theorem nameOk (s : ByteArray) (w : World) (h : NmOk s) :
    Calls Try.prog 87 #[.string s] w fun r w' => r = .returned (.bool true) ∧ Below w.heap.size w w' := by
  obtain ⟨h1, h2, h3⟩ := h
  have HL := Lib.hid h3
  clear h3
  obtain ⟨n, hn⟩ : ∃ n, s.size = n := ⟨_, rfl⟩
  have d1 : decide (n < 1) = false := decide_eq_false (by omega)
  have d2 : decide (16 < n) = false := decide_eq_false (by omega)
  have hb := get_bt s
  go_enter Try.func87, Try.ntmps87
  go_wp2_with fail
  go_loopw [14] (fun j wr => ∃ J : Nat, J ≤ n ∧ j = .int .i64 (J : Int) ∧ Below w.heap.size w wr) (fun j _ => n - (intOf j).toNat)
  case atStart => exact ⟨0, by omega, rfl, Below.refl _ _⟩
  case round =>
    obtain ⟨w2, rfl⟩ : ∃ y : World, y = wr := ⟨_, rfl⟩
    obtain ⟨J, hJ, rfl, hb2⟩ := hrel
    have HB2 := Lib.hid hb2
    clear hb2
    by_cases hlt : J < n
    · have hlt2 : (J : Int) < (n : Int) := by omega
      have HJ := Lib.hid (HL.out J (by omega))
      go_wp2_with fail
      refine (letterOk (bt s J) _ HJ.out).mono ?_
      rintro e w3 ⟨rfl, rfl⟩
      go_wp2
      go_roundw
      case rel => exact ⟨J + 1, by omega, by go_num, HB2.out⟩
      case measure => simp [intOf]; omega
    · obtain rfl : J = n := by omega
      have hlt2 : decide ((J : Int) < (J : Int)) = false := by simp
      go_wp2
      go_ret
      exact ⟨rfl, HB2.out⟩

set_option maxRecDepth 100000 in
set_option maxHeartbeats 1000000 in
theorem stampRightOk (t k n : Int) (w : World) (h1 : 0 ≤ t) (h2 : 0 ≤ k) (h3 : k < 6) (h4 : 0 ≤ n) :
    Calls Try.prog 99 #[.agg #[.int .i64 t, .int .i64 k, .int .i64 n]] w fun r w' => r = .returned (.bool true) ∧ Below w.heap.size w w' := by
  have D0 := Lib.hid (show Below w.heap.size w (w.alloc (.cells #[.int .i64 t, .int .i64 k, .int .i64 n] 47)) from (Below.refl _ _).alloc (Nat.le_refl _) _)
  have HX := Lib.hid (blk_new w #[.int .i64 t, .int .i64 k, .int .i64 n] 47)
  have d1 : decide (t < 0) = false := decide_eq_false (by omega)
  have d2 : decide (k < 0) = false := decide_eq_false (by omega)
  have d3 : decide (6 ≤ k) = false := decide_eq_false (by omega)
  have d4 : decide (n < 0) = false := decide_eq_false (by omega)
  go_enter Try.func99, Try.ntmps99
  go_upto_region 1 with (fail)
  obtain ⟨p, hp⟩ : ∃ p, w.heap.size = p := ⟨_, rfl⟩
  rw [hp] at HX
  try rw [hp]
  clear hp
  generalize (w.alloc (.cells #[.int .i64 t, .int .i64 k, .int .i64 n] 47)) = w1 at *
  have hk := blk_cell HX.out
  have hl := blk_lt HX.out
  go_wp2
  go_ret
  exact ⟨rfl, D0.out⟩

set_option maxRecDepth 100000 in
set_option maxHeartbeats 2000000 in
theorem cardRightOk (c : Cd) (w : World) (h : CdR c) :
    Calls Try.prog 85 #[.agg #[.string c.a, .string c.i, .int .i64 c.s, .int .i64 c.o, .int .i64 c.l, .int .i64 c.t, .int .i64 c.k, .int .i64 c.n, .bool c.g]] w fun r w' => r = .returned (.bool true) ∧ Below w.heap.size w w' := by
  obtain ⟨ha, hi, h3, h4, h5, h6, h7, h8, h9, h10, h11, h12⟩ := h
  have HA := Lib.hid ha
  have HI := Lib.hid hi
  have HS := Lib.hid (And.intro h9 (And.intro h10 (And.intro h11 h12)))
  have D0 := Lib.hid (show Below w.heap.size w (w.alloc (.cells #[.string c.a, .string c.i, .int .i64 c.s, .int .i64 c.o, .int .i64 c.l, .int .i64 c.t, .int .i64 c.k, .int .i64 c.n, .bool c.g] 49)) from (Below.refl _ _).alloc (Nat.le_refl _) _)
  have HX := Lib.hid (blk_new w #[.string c.a, .string c.i, .int .i64 c.s, .int .i64 c.o, .int .i64 c.l, .int .i64 c.t, .int .i64 c.k, .int .i64 c.n, .bool c.g] 49)
  have d5 : decide (c.o < 0) = false := decide_eq_false (by omega)
  have d6 : decide (3 < c.o) = false := decide_eq_false (by omega)
  have d7 : decide (c.l < 1) = false := decide_eq_false (by omega)
  have d8 : decide (1048576 < c.l) = false := decide_eq_false (by omega)
  have hs : c.s = 1 ∨ c.s = 2 := by omega
  clear ha hi h3 h4 h5 h6 h7 h8 h9 h10 h11 h12
  go_enter Try.func85, Try.ntmps85
  go_upto_region 1 with (fail)
  obtain ⟨p, hp⟩ : ∃ p, w.heap.size = p := ⟨_, rfl⟩
  rw [hp] at HX
  try rw [hp]
  clear hp
  generalize (w.alloc (.cells #[.string c.a, .string c.i, .int .i64 c.s, .int .i64 c.o, .int .i64 c.l, .int .i64 c.t, .int .i64 c.k, .int .i64 c.n, .bool c.g] 49)) = w1 at *
  have hk := blk_cell HX.out
  have hl := blk_lt HX.out
  go_wp2_with fail
  refine (nameOk c.a _ HA.out).mono ?_
  rintro e w2 ⟨rfl, hb⟩
  have HX2 := Lib.hid (blk_ext hb HX.out)
  have D2 := Lib.hid (ext_trans D0.out hb)
  clear hk hl hb HX D0
  have hk := blk_cell HX2.out
  have hl := blk_lt HX2.out
  go_wp2_with fail
  refine (nameOk c.i _ HI.out).mono ?_
  rintro e w3 ⟨rfl, hb⟩
  have HX3 := Lib.hid (blk_ext hb HX2.out)
  have D3 := Lib.hid (ext_trans D2.out hb)
  clear hk hl hb HX2 D2
  have hk := blk_cell HX3.out
  have hl := blk_lt HX3.out
  rcases hs with hs | hs
  · skip
    have e1 : (c.s == 1) = true := by rw [hs]; rfl
    have e2 : (c.s == 2) = false := by rw [hs]; rfl
    go_wp2_with fail
    refine (stampRightOk c.t c.k c.n _ HS.out.1 HS.out.2.1 HS.out.2.2.1 HS.out.2.2.2).mono ?_
    rintro e w4 ⟨rfl, hb⟩
    have D4 := Lib.hid (ext_trans D3.out hb)
    clear hb
    go_wp2
    go_ret
    exact ⟨rfl, D4.out⟩
  · skip
    have e1 : (c.s == 1) = false := by rw [hs]; rfl
    have e2 : (c.s == 2) = true := by rw [hs]; rfl
    go_wp2_with fail
    refine (stampRightOk c.t c.k c.n _ HS.out.1 HS.out.2.1 HS.out.2.2.1 HS.out.2.2.2).mono ?_
    rintro e w4 ⟨rfl, hb⟩
    have D4 := Lib.hid (ext_trans D3.out hb)
    clear hb
    go_wp2
    go_ret
    exact ⟨rfl, D4.out⟩

set_option maxRecDepth 100000 in
set_option maxHeartbeats 1000000 in
theorem cardWrongNo (c : Cd) (w : World) (h : CdR c) :
    Calls Try.prog 68 #[.agg #[.string c.a, .string c.i, .int .i64 c.s, .int .i64 c.o, .int .i64 c.l, .int .i64 c.t, .int .i64 c.k, .int .i64 c.n, .bool c.g]] w fun r w' => r = .returned (.bool false) ∧ Below w.heap.size w w' := by
  have D0 := Lib.hid (show Below w.heap.size w (w.alloc (.cells #[.string c.a, .string c.i, .int .i64 c.s, .int .i64 c.o, .int .i64 c.l, .int .i64 c.t, .int .i64 c.k, .int .i64 c.n, .bool c.g] 49)) from (Below.refl _ _).alloc (Nat.le_refl _) _)
  have HX := Lib.hid (blk_new w #[.string c.a, .string c.i, .int .i64 c.s, .int .i64 c.o, .int .i64 c.l, .int .i64 c.t, .int .i64 c.k, .int .i64 c.n, .bool c.g] 49)
  go_enter Try.func68, Try.ntmps68
  go_upto_region 1 with (fail)
  obtain ⟨p, hp⟩ : ∃ p, w.heap.size = p := ⟨_, rfl⟩
  rw [hp] at HX
  try rw [hp]
  clear hp
  generalize (w.alloc (.cells #[.string c.a, .string c.i, .int .i64 c.s, .int .i64 c.o, .int .i64 c.l, .int .i64 c.t, .int .i64 c.k, .int .i64 c.n, .bool c.g] 49)) = w1 at *
  have hk := blk_cell HX.out
  have hl := blk_lt HX.out
  go_wp2_with fail
  refine (cardRightOk c _ h).mono ?_
  rintro e w2 ⟨rfl, hb⟩
  have D2 := Lib.hid (ext_trans D0.out hb)
  clear hk hl hb HX D0
  go_wp2
  go_ret
  exact ⟨rfl, D2.out⟩

set_option maxRecDepth 100000 in
set_option maxHeartbeats 1000000 in
theorem indexWrong (a : Option Addr) (n c : Nat) (ls : List Cd) (w : World) (h : CAt w a ls) (hl : ls.length = n) (hn : n ≤ 1000) (hr : ∀ x ∈ ls, CdR x) :
    Calls Try.prog 84 #[.slice a n c, .func (.func 68) #[] #[]] w fun r w' => r = .returned (.int .i64 (-1)) ∧ Below w.heap.size w w' := by
  have HA := Lib.hid h
  have HL := Lib.hid hl
  have HR := Lib.hid hr
  clear h hl hr
  go_enter Try.func84, Try.ntmps84
  go_wp2_with fail
  go_loopw [8] (fun i wr => ∃ p : Nat, p ≤ n ∧ i = .int .i64 (p : Int) ∧ Below w.heap.size w wr) (fun i _ => n - (intOf i).toNat)
  case atStart => exact ⟨0, by omega, rfl, Below.refl _ _⟩
  case round =>
    obtain ⟨w2, rfl⟩ : ∃ y : World, y = wr := ⟨_, rfl⟩
    obtain ⟨p, hp, rfl, B2⟩ := hrel
    by_cases hlt : p < n
    · obtain ⟨x, hx⟩ : ∃ x, ls[p]? = some x := ⟨_, List.getElem?_eq_getElem (by have := HL.out; omega)⟩
      have HX := Lib.hid (HR.out x (List.mem_of_getElem? hx))
      obtain ⟨b, o, rfl⟩ : ∃ b o, a = some ⟨b, o, none⟩ := by
        rcases HA.out with h | ⟨b, o, e, _⟩
        · rw [h] at hx; simp at hx
        · exact ⟨b, o, e⟩
      obtain ⟨x0, x1, x2, x3, x4, x5, x6, x7, x8⟩ := (HA.out.ext B2).at hx
      have hlt2 : (p : Int) < (n : Int) := by omega
      clear hx
      go_wp2_with fail
      refine (cardWrongNo x _ HX.out).mono ?_
      rintro e w3 ⟨rfl, hb⟩
      have B3 := Lib.hid (ext_trans B2 hb)
      clear hb
      go_wp2
      go_roundw
      case rel => exact ⟨p + 1, by omega, by go_num, B3.out⟩
      case measure => simp [intOf]; omega
    · obtain rfl : p = n := by omega
      have hlt2 : decide ((p : Int) < (p : Int)) = false := by simp
      go_wp2
      go_ret
      exact ⟨rfl, B2⟩

set_option maxRecDepth 100000 in
set_option maxHeartbeats 1000000 in
theorem containsWrong (a : Option Addr) (n c : Nat) (ls : List Cd) (w : World) (h : CAt w a ls) (hl : ls.length = n) (hn : n ≤ 1000) (hr : ∀ x ∈ ls, CdR x) :
    Calls Try.prog 67 #[.slice a n c, .func (.func 68) #[] #[]] w fun r w' => r = .returned (.bool false) ∧ Below w.heap.size w w' := by
  go_enter Try.func67, Try.ntmps67
  go_wp2_with fail
  refine (indexWrong a n c ls _ h hl hn hr).mono ?_
  rintro e w3 ⟨rfl, hb⟩
  go_wp2
  go_ret
  exact ⟨rfl, hb⟩

set_option maxRecDepth 100000 in
set_option maxHeartbeats 1000000 in
theorem indexKeysNone (w : World) :
    Calls Try.prog 86 #[.slice none 0 0, .func (.func 70) #[] #[]] w fun r w' => r = .returned (.int .i64 (-1)) ∧ Below w.heap.size w w' := by
  go_enter Try.func86, Try.ntmps86
  go_wp2_with fail
  go_loopw [8] (fun i wr => i = .int .i64 0 ∧ Below w.heap.size w wr) (fun i _ => 0)
  case atStart => exact ⟨rfl, Below.refl _ _⟩
  case round =>
    obtain ⟨w2, rfl⟩ : ∃ y : World, y = wr := ⟨_, rfl⟩
    obtain ⟨rfl, B2⟩ := hrel
    go_wp2
    go_ret
    exact ⟨rfl, B2⟩

set_option maxRecDepth 100000 in
set_option maxHeartbeats 1000000 in
theorem containsKeysNone (w : World) :
    Calls Try.prog 69 #[.slice none 0 0, .func (.func 70) #[] #[]] w fun r w' => r = .returned (.bool false) ∧ Below w.heap.size w w' := by
  go_enter Try.func69, Try.ntmps69
  go_wp2_with fail
  refine (indexKeysNone _).mono ?_
  rintro e w3 ⟨rfl, hb⟩
  go_wp2
  go_ret
  exact ⟨rfl, hb⟩

end Go.Proofs.Ytkhcgopehmndgaa
