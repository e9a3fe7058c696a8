/- Which cards are right; which messages of a feed are. -/
import Derived.Test.YtloeabdohgdmkaaBeZ
import Derived.Test.YtloeabdohgdmkaaTapeFZ
import Derived.PlainAid
import Derived.IntWalk
namespace Go.Proofs.Ytloeabdohgdmkaa
open Go.RowKit
set_option linter.unusedVariables false
set_option linter.unusedSimpArgs false

open Go.PlainAid (bt get_bt)
/-- a letter of a name -/
def Ltr (x : Int) : Prop := (97 ≤ x ∧ x ≤ 122) ∨ (48 ≤ x ∧ x ≤ 57)
instance (x : Int) : Decidable (Ltr x) := by unfold Ltr; exact inferInstance
def NmOk (s : ByteArray) : Prop := 1 ≤ s.size ∧ s.size ≤ 16 ∧ ∀ k, k < s.size → Ltr (bt s k)
/-- a card that is right -/
def CdR (c : Cd) : Prop := NmOk c.a ∧ NmOk c.i ∧ 1 ≤ c.s ∧ c.s ≤ 2 ∧ 0 ≤ c.o ∧ c.o ≤ 3 ∧ 1 ≤ c.l ∧ c.l ≤ 1048576 ∧ 0 ≤ c.t ∧ 0 ≤ c.k ∧ c.k < 6 ∧ 0 ≤ c.n
theorem nm_of {s : ByteArray} (h : 1 ≤ s.size) (h2 : s.size ≤ 5) (h0 : Ltr (bt s 0)) (h1 : 1 < s.size → Ltr (bt s 1)) (h3 : 2 < s.size → Ltr (bt s 2)) (h4 : 3 < s.size → Ltr (bt s 3)) (h5 : 4 < s.size → Ltr (bt s 4)) : NmOk s :=
  ⟨h, by omega, fun k hk => by
    match k, hk with
    | 0, _ => exact h0
    | 1, hk => exact h1 hk
    | 2, hk => exact h3 hk
    | 3, hk => exact h4 hk
    | 4, hk => exact h5 hk
    | k + 5, hk => omega⟩
theorem KA.nm {s : ByteArray} (h : KA s) : NmOk s := by
  rcases h with rfl | rfl | rfl | rfl <;> exact nm_of (by decide) (by decide) (by decide) (by decide) (by decide) (by decide) (by decide)
theorem KI.nm {s : ByteArray} (h : KI s) : NmOk s := by
  rcases h with rfl | rfl | rfl | rfl | rfl <;> exact nm_of (by decide) (by decide) (by decide) (by decide) (by decide) (by decide) (by decide)
theorem CdOk.r {c : Cd} (h : CdOk c) (ha : KA c.a) (hi : KI c.i) : CdR c := by
  obtain ⟨-, -, h3, h4, h5, h6, h7, h8, h9, h10, h11, h12, h13, h14⟩ := h
  exact ⟨ha.nm, hi.nm, h3, h4, h5, h6, h7, by omega, h9, h11, h12, h13⟩
set_option maxRecDepth 100000 in
set_option maxHeartbeats 1000000 in
theorem letterOk (x : Int) (w : World) (h : Ltr x) :
    Calls Try.prog 77 #[.int .u8 x] w fun r w' => r = .returned (.bool true) ∧ w = w' := by
  rcases h with ⟨h1, h2⟩ | ⟨h1, h2⟩
  · have d1 : decide (97 ≤ x) = true := decide_eq_true h1
    have d2 : decide (x ≤ 122) = true := decide_eq_true h2
    go_enter Try.func77, Try.ntmps77
    go_wp2
    go_ret
    exact ⟨rfl, rfl⟩
  · have d1 : decide (97 ≤ x) = false := decide_eq_false (by omega)
    have d3 : decide (48 ≤ x) = true := decide_eq_true h1
    have d4 : decide (x ≤ 57) = true := decide_eq_true h2
    go_enter Try.func77, Try.ntmps77
    go_wp2
    go_ret
    exact ⟨rfl, rfl⟩

set_option maxRecDepth 100000 in
set_option maxHeartbeats 1000000 in
theorem nameOk (s : ByteArray) (w : World) (h : NmOk s) :
    Calls Try.prog 56 #[.string s] w fun r w' => r = .returned (.bool true) ∧ Below w.heap.size w w' := by
  obtain ⟨h1, h2, h3⟩ := h
  have HL := Lib.hid h3
  clear h3
  obtain ⟨n, hn⟩ : ∃ n, s.size = n := ⟨_, rfl⟩
  have d1 : decide (n < 1) = false := decide_eq_false (by omega)
  have d2 : decide (16 < n) = false := decide_eq_false (by omega)
  have hb := get_bt s
  go_enter Try.func56, Try.ntmps56
  go_wp2_with fail
  go_loopw [14] (fun j wr => ∃ J : Nat, J ≤ n ∧ j = .int .i64 (J : Int) ∧ Below w.heap.size w wr) (fun j _ => n - (intOf j).toNat)
  case atStart => exact ⟨0, by omega, rfl, Below.refl _ _⟩
  case round =>
    obtain ⟨w2, rfl⟩ : ∃ y : World, y = wr := ⟨_, rfl⟩
    obtain ⟨J, hJ, rfl, hb2⟩ := hrel
    have HB2 := Lib.hid hb2
    clear hb2
    by_cases hlt : J < n
    · have hlt2 : (J : Int) < (n : Int) := by omega
      have HJ := Lib.hid (HL.out J (by omega))
      go_wp2_with fail
      refine (letterOk (bt s J) _ HJ.out).mono ?_
      rintro e w3 ⟨rfl, rfl⟩
      go_wp2
      go_roundw
      case rel => exact ⟨J + 1, by omega, by go_num, HB2.out⟩
      case measure => simp [intOf]; omega
    · obtain rfl : J = n := by omega
      have hlt2 : decide ((J : Int) < (J : Int)) = false := by simp
      go_wp2
      go_ret
      exact ⟨rfl, HB2.out⟩

set_option maxRecDepth 100000 in
set_option maxHeartbeats 1000000 in
theorem stampRightOk (t k n : Int) (w : World) (h1 : 0 ≤ t) (h2 : 0 ≤ k) (h3 : k < 6) (h4 : 0 ≤ n) :
    Calls Try.prog 57 #[.agg #[.int .i64 t, .int .i64 k, .int .i64 n]] w fun r w' => r = .returned (.bool true) ∧ Below w.heap.size w w' := by
  have D0 := Lib.hid (show Below w.heap.size w (w.alloc (.cells #[.int .i64 t, .int .i64 k, .int .i64 n] 32)) from (Below.refl _ _).alloc (Nat.le_refl _) _)
  have HX := Lib.hid (blk_new w #[.int .i64 t, .int .i64 k, .int .i64 n] 32)
  have d1 : decide (t < 0) = false := decide_eq_false (by omega)
  have d2 : decide (k < 0) = false := decide_eq_false (by omega)
  have d3 : decide (6 ≤ k) = false := decide_eq_false (by omega)
  have d4 : decide (n < 0) = false := decide_eq_false (by omega)
  go_enter Try.func57, Try.ntmps57
  go_upto_region 1 with (fail)
  obtain ⟨p, hp⟩ : ∃ p, w.heap.size = p := ⟨_, rfl⟩
  rw [hp] at HX
  try rw [hp]
  clear hp
  generalize (w.alloc (.cells #[.int .i64 t, .int .i64 k, .int .i64 n] 32)) = w1 at *
  have hk := blk_cell HX.out
  have hl := blk_lt HX.out
  go_wp2
  go_ret
  exact ⟨rfl, D0.out⟩

set_option maxRecDepth 100000 in
set_option maxHeartbeats 2000000 in
theorem cardRightOk (c : Cd) (w : World) (h : CdR c) :
    Calls Try.prog 33 #[.agg #[.string c.a, .string c.i, .int .i64 c.s, .int .i64 c.o, .int .i64 c.l, .int .i64 c.t, .int .i64 c.k, .int .i64 c.n, .bool c.g]] w fun r w' => r = .returned (.bool true) ∧ Below w.heap.size w w' := by
  obtain ⟨ha, hi, h3, h4, h5, h6, h7, h8, h9, h10, h11, h12⟩ := h
  have HA := Lib.hid ha
  have HI := Lib.hid hi
  have HS := Lib.hid (And.intro h9 (And.intro h10 (And.intro h11 h12)))
  have D0 := Lib.hid (show Below w.heap.size w (w.alloc (.cells #[.string c.a, .string c.i, .int .i64 c.s, .int .i64 c.o, .int .i64 c.l, .int .i64 c.t, .int .i64 c.k, .int .i64 c.n, .bool c.g] 34)) from (Below.refl _ _).alloc (Nat.le_refl _) _)
  have HX := Lib.hid (blk_new w #[.string c.a, .string c.i, .int .i64 c.s, .int .i64 c.o, .int .i64 c.l, .int .i64 c.t, .int .i64 c.k, .int .i64 c.n, .bool c.g] 34)
  have d5 : decide (c.o < 0) = false := decide_eq_false (by omega)
  have d6 : decide (3 < c.o) = false := decide_eq_false (by omega)
  have d7 : decide (c.l < 1) = false := decide_eq_false (by omega)
  have d8 : decide (1048576 < c.l) = false := decide_eq_false (by omega)
  have hs : c.s = 1 ∨ c.s = 2 := by omega
  clear ha hi h3 h4 h5 h6 h7 h8 h9 h10 h11 h12
  go_enter Try.func33, Try.ntmps33
  go_upto_region 1 with (fail)
  obtain ⟨p, hp⟩ : ∃ p, w.heap.size = p := ⟨_, rfl⟩
  rw [hp] at HX
  try rw [hp]
  clear hp
  generalize (w.alloc (.cells #[.string c.a, .string c.i, .int .i64 c.s, .int .i64 c.o, .int .i64 c.l, .int .i64 c.t, .int .i64 c.k, .int .i64 c.n, .bool c.g] 34)) = w1 at *
  have hk := blk_cell HX.out
  have hl := blk_lt HX.out
  go_wp2_with fail
  refine (nameOk c.a _ HA.out).mono ?_
  rintro e w2 ⟨rfl, hb⟩
  have HX2 := Lib.hid (blk_ext hb HX.out)
  have D2 := Lib.hid (ext_trans D0.out hb)
  clear hk hl hb HX D0
  have hk := blk_cell HX2.out
  have hl := blk_lt HX2.out
  go_wp2_with fail
  refine (nameOk c.i _ HI.out).mono ?_
  rintro e w3 ⟨rfl, hb⟩
  have HX3 := Lib.hid (blk_ext hb HX2.out)
  have D3 := Lib.hid (ext_trans D2.out hb)
  clear hk hl hb HX2 D2
  have hk := blk_cell HX3.out
  have hl := blk_lt HX3.out
  rcases hs with hs | hs
  · skip
    have e1 : (c.s == 1) = true := by rw [hs]; rfl
    have e2 : (c.s == 2) = false := by rw [hs]; rfl
    go_wp2_with fail
    refine (stampRightOk c.t c.k c.n _ HS.out.1 HS.out.2.1 HS.out.2.2.1 HS.out.2.2.2).mono ?_
    rintro e w4 ⟨rfl, hb⟩
    have D4 := Lib.hid (ext_trans D3.out hb)
    clear hb
    go_wp2
    go_ret
    exact ⟨rfl, D4.out⟩
  · skip
    have e1 : (c.s == 1) = false := by rw [hs]; rfl
    have e2 : (c.s == 2) = true := by rw [hs]; rfl
    go_wp2_with fail
    refine (stampRightOk c.t c.k c.n _ HS.out.1 HS.out.2.1 HS.out.2.2.1 HS.out.2.2.2).mono ?_
    rintro e w4 ⟨rfl, hb⟩
    have D4 := Lib.hid (ext_trans D3.out hb)
    clear hb
    go_wp2
    go_ret
    exact ⟨rfl, D4.out⟩

end Go.Proofs.Ytloeabdohgdmkaa
