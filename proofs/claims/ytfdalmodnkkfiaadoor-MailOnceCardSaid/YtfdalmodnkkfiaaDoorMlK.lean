/- What is right: names, cards, keys, as bools. -/
import Derived.Test.YtfdalmodnkkfiaaDoorMlR
import Derived.PlainAid
import Derived.IntWalk
namespace Go.Proofs.YtfdalmodnkkfiaaDoor
open Go.RowKit
set_option linter.unusedVariables false
set_option linter.unusedSimpArgs false

open Go.PlainAid (bt get_bt)
/-- a letter of a name -/
def Ltr (x : Int) : Prop := (97 ≤ x ∧ x ≤ 122) ∨ (48 ≤ x ∧ x ≤ 57)
instance (x : Int) : Decidable (Ltr x) := by unfold Ltr; exact inferInstance
def NmOk (s : ByteArray) : Prop := 1 ≤ s.size ∧ s.size ≤ 16 ∧ ∀ k, k < s.size → Ltr (bt s k)
instance (s : ByteArray) : Decidable (NmOk s) := by unfold NmOk; exact inferInstance
def nmB (s : ByteArray) : Bool := decide (NmOk s)
def stB (t k n : Int) : Bool := decide (0 ≤ t) && decide (0 ≤ n) && decide (0 ≤ k) && decide (k < 6)
/-- is a card right? -/
def cdRB (c : Cd) : Bool := nmB c.a && nmB c.i && (decide (c.s = 1) || decide (c.s = 2)) && (decide (0 ≤ c.o) && decide (c.o ≤ 3)) && (decide (1 ≤ c.l) && decide (c.l ≤ 1048576)) && stB c.t c.k c.n
def kyB (k : ByteArray × ByteArray) : Bool := nmB k.1 && nmB k.2
set_option maxRecDepth 100000 in
set_option maxHeartbeats 1000000 in
theorem letterIs (x : Int) (w : World) :
    Calls Tryd.prog 80 #[.int .u8 x] w fun r w' => r = .returned (.bool (decide (Ltr x))) ∧ w = w' := by
  by_cases h1 : 97 ≤ x
  · by_cases h2 : x ≤ 122
    · have d1 : decide (97 ≤ x) = true := decide_eq_true h1
      have d2 : decide (x ≤ 122) = true := decide_eq_true h2
      have hd : decide (Ltr x) = true := decide_eq_true (.inl ⟨h1, h2⟩)
      rw [hd]
      clear hd
      go_enter Tryd.func80, Tryd.ntmps80
      go_wp2
      go_ret
      exact ⟨rfl, rfl⟩
    · have d1 : decide (97 ≤ x) = true := decide_eq_true h1
      have d2 : decide (x ≤ 122) = false := decide_eq_false h2
      have d3 : decide (48 ≤ x) = true := decide_eq_true (by omega)
      have d4 : decide (x ≤ 57) = false := decide_eq_false (by omega)
      have hd : decide (Ltr x) = false := decide_eq_false (by unfold Ltr; omega)
      rw [hd]
      clear hd
      go_enter Tryd.func80, Tryd.ntmps80
      go_wp2
      go_ret
      exact ⟨rfl, rfl⟩
  · have d1 : decide (97 ≤ x) = false := decide_eq_false h1
    by_cases h2 : 48 ≤ x
    · have d3 : decide (48 ≤ x) = true := decide_eq_true h2
      by_cases h3 : x ≤ 57
      · have d4 : decide (x ≤ 57) = true := decide_eq_true h3
        have hd : decide (Ltr x) = true := decide_eq_true (.inr ⟨h2, h3⟩)
        rw [hd]
        clear hd
        go_enter Tryd.func80, Tryd.ntmps80
        go_wp2
        go_ret
        exact ⟨rfl, rfl⟩
      · have d4 : decide (x ≤ 57) = false := decide_eq_false h3
        have hd : decide (Ltr x) = false := decide_eq_false (by unfold Ltr; omega)
        rw [hd]
        clear hd
        go_enter Tryd.func80, Tryd.ntmps80
        go_wp2
        go_ret
        exact ⟨rfl, rfl⟩
    · have d3 : decide (48 ≤ x) = false := decide_eq_false h2
      have hd : decide (Ltr x) = false := decide_eq_false (by unfold Ltr; omega)
      rw [hd]
      clear hd
      go_enter Tryd.func80, Tryd.ntmps80
      go_wp2
      go_ret
      exact ⟨rfl, rfl⟩
set_option maxRecDepth 100000 in
set_option maxHeartbeats 2000000 in
theorem nameIs (s : ByteArray) (w : World) (hm : s.size ≤ maxLen) :
    Calls Tryd.prog 65 #[.string s] w fun r w' => r = .returned (.bool (nmB s)) ∧ Below w.heap.size w w' := by
  unfold maxLen at hm
  obtain ⟨n, hn⟩ : ∃ n, s.size = n := ⟨_, rfl⟩
  have HN := Lib.hid hn
  by_cases h1 : n < 1
  · have hd : nmB s = false := decide_eq_false (by unfold NmOk; omega)
    rw [hd]
    have d1 : decide (n < 1) = true := decide_eq_true h1
    clear hd
    go_enter Tryd.func65, Tryd.ntmps65
    go_wp2
    go_ret
    exact ⟨rfl, Below.refl _ _⟩
  by_cases h2 : 16 < n
  · have hd : nmB s = false := decide_eq_false (by unfold NmOk; omega)
    rw [hd]
    have d1 : decide (n < 1) = false := decide_eq_false h1
    have d2 : decide (16 < n) = true := decide_eq_true h2
    clear hd
    go_enter Tryd.func65, Tryd.ntmps65
    go_wp2
    go_ret
    exact ⟨rfl, Below.refl _ _⟩
  have d1 : decide (n < 1) = false := decide_eq_false h1
  have d2 : decide (16 < n) = false := decide_eq_false h2
  have hb := get_bt s
  go_enter Tryd.func65, Tryd.ntmps65
  go_wp2_with fail
  go_loopw [14] (fun j wr => ∃ J : Nat, J ≤ n ∧ j = .int .i64 (J : Int) ∧ Below w.heap.size w wr ∧ ∀ k, k < J → Ltr (bt s k)) (fun j _ => n - (intOf j).toNat)
  case atStart => exact ⟨0, by omega, rfl, Below.refl _ _, fun k hk => by omega⟩
  case round =>
    obtain ⟨w2, rfl⟩ : ∃ y : World, y = wr := ⟨_, rfl⟩
    obtain ⟨J, hJ, rfl, hb2, hall⟩ := hrel
    have HB2 := Lib.hid hb2
    have HALL := Lib.hid hall
    clear hb2 hall
    by_cases hlt : J < n
    · have hlt2 : (J : Int) < (n : Int) := by omega
      by_cases hL : Ltr (bt s J)
      · have HL := Lib.hid hL
        have hd : decide (Ltr (bt s J)) = true := decide_eq_true hL
        go_wp2_with fail
        refine (letterIs (bt s J) _).mono ?_
        rintro e w3 ⟨rfl, rfl⟩
        rw [hd]
        clear hd hL
        go_wp2
        go_roundw
        case rel => exact ⟨J + 1, by omega, by go_num, HB2.out, fun k hk => by rcases Nat.lt_succ_iff_lt_or_eq.1 hk with h | rfl; (· exact HALL.out k h); (· exact HL.out)⟩
        case measure => simp [intOf]; omega
      · have hd : decide (Ltr (bt s J)) = false := decide_eq_false hL
        have HF := Lib.hid (show nmB s = false from decide_eq_false (fun h => hL (h.2.2 J (by omega))))
        go_wp2_with fail
        refine (letterIs (bt s J) _).mono ?_
        rintro e w3 ⟨rfl, rfl⟩
        rw [hd]
        clear hd hL
        go_wp2
        go_ret
        exact ⟨by rw [HF.out]; rfl, HB2.out⟩
    · obtain rfl : J = n := by omega
      have hlt2 : decide ((J : Int) < (J : Int)) = false := by simp
      have HT := Lib.hid (show nmB s = true from decide_eq_true ⟨by omega, by omega, fun k hk => HALL.out k (by omega)⟩)
      go_wp2
      go_ret
      exact ⟨by rw [HT.out]; rfl, HB2.out⟩

set_option maxRecDepth 100000 in
set_option maxHeartbeats 2000000 in
theorem stampRightIs (t k n : Int) (w : World) :
    Calls Tryd.prog 79 #[.agg #[.int .i64 t, .int .i64 k, .int .i64 n]] w fun r w' => r = .returned (.bool (stB t k n)) ∧ Below w.heap.size w w' := by
  by_cases h1 : t < 0
  · skip
    have d0 : decide (t < 0) = true := decide_eq_true (by omega)
    have hd : stB t k n = false := by simp [stB]; omega
    rw [hd]
    clear hd
    have D0 := Lib.hid (show Below w.heap.size w (w.alloc (.cells #[.int .i64 t, .int .i64 k, .int .i64 n] 48)) from (Below.refl _ _).alloc (Nat.le_refl _) _)
    have HX := Lib.hid (blk_new w #[.int .i64 t, .int .i64 k, .int .i64 n] 48)
    go_enter Tryd.func79, Tryd.ntmps79
    go_upto_region 1 with (fail)
    obtain ⟨q, hp⟩ : ∃ p, w.heap.size = p := ⟨_, rfl⟩
    rw [hp] at HX
    try rw [hp]
    clear hp
    generalize (w.alloc (.cells #[.int .i64 t, .int .i64 k, .int .i64 n] 48)) = w1 at *
    have hk := blk_cell HX.out
    have hl := blk_lt HX.out
    go_wp2
    go_ret
    exact ⟨rfl, D0.out⟩
  by_cases h2 : n < 0
  · skip
    have d0 : decide (t < 0) = false := decide_eq_false (by omega)
    have d1 : decide (n < 0) = true := decide_eq_true (by omega)
    have hd : stB t k n = false := by simp [stB]; omega
    rw [hd]
    clear hd
    have D0 := Lib.hid (show Below w.heap.size w (w.alloc (.cells #[.int .i64 t, .int .i64 k, .int .i64 n] 48)) from (Below.refl _ _).alloc (Nat.le_refl _) _)
    have HX := Lib.hid (blk_new w #[.int .i64 t, .int .i64 k, .int .i64 n] 48)
    go_enter Tryd.func79, Tryd.ntmps79
    go_upto_region 1 with (fail)
    obtain ⟨q, hp⟩ : ∃ p, w.heap.size = p := ⟨_, rfl⟩
    rw [hp] at HX
    try rw [hp]
    clear hp
    generalize (w.alloc (.cells #[.int .i64 t, .int .i64 k, .int .i64 n] 48)) = w1 at *
    have hk := blk_cell HX.out
    have hl := blk_lt HX.out
    go_wp2
    go_ret
    exact ⟨rfl, D0.out⟩
  by_cases h3 : k < 0
  · skip
    have d0 : decide (t < 0) = false := decide_eq_false (by omega)
    have d1 : decide (n < 0) = false := decide_eq_false (by omega)
    have d2 : decide (k < 0) = true := decide_eq_true (by omega)
    have hd : stB t k n = false := by simp [stB]; omega
    rw [hd]
    clear hd
    have D0 := Lib.hid (show Below w.heap.size w (w.alloc (.cells #[.int .i64 t, .int .i64 k, .int .i64 n] 48)) from (Below.refl _ _).alloc (Nat.le_refl _) _)
    have HX := Lib.hid (blk_new w #[.int .i64 t, .int .i64 k, .int .i64 n] 48)
    go_enter Tryd.func79, Tryd.ntmps79
    go_upto_region 1 with (fail)
    obtain ⟨q, hp⟩ : ∃ p, w.heap.size = p := ⟨_, rfl⟩
    rw [hp] at HX
    try rw [hp]
    clear hp
    generalize (w.alloc (.cells #[.int .i64 t, .int .i64 k, .int .i64 n] 48)) = w1 at *
    have hk := blk_cell HX.out
    have hl := blk_lt HX.out
    go_wp2
    go_ret
    exact ⟨rfl, D0.out⟩
  by_cases h4 : 6 ≤ k
  · skip
    have d0 : decide (t < 0) = false := decide_eq_false (by omega)
    have d1 : decide (n < 0) = false := decide_eq_false (by omega)
    have d2 : decide (k < 0) = false := decide_eq_false (by omega)
    have d3 : decide (6 ≤ k) = true := decide_eq_true (by omega)
    have hd : stB t k n = false := by simp [stB]; omega
    rw [hd]
    clear hd
    have D0 := Lib.hid (show Below w.heap.size w (w.alloc (.cells #[.int .i64 t, .int .i64 k, .int .i64 n] 48)) from (Below.refl _ _).alloc (Nat.le_refl _) _)
    have HX := Lib.hid (blk_new w #[.int .i64 t, .int .i64 k, .int .i64 n] 48)
    go_enter Tryd.func79, Tryd.ntmps79
    go_upto_region 1 with (fail)
    obtain ⟨q, hp⟩ : ∃ p, w.heap.size = p := ⟨_, rfl⟩
    rw [hp] at HX
    try rw [hp]
    clear hp
    generalize (w.alloc (.cells #[.int .i64 t, .int .i64 k, .int .i64 n] 48)) = w1 at *
    have hk := blk_cell HX.out
    have hl := blk_lt HX.out
    go_wp2
    go_ret
    exact ⟨rfl, D0.out⟩
  have d0 : decide (t < 0) = false := decide_eq_false (by omega)
  have d1 : decide (n < 0) = false := decide_eq_false (by omega)
  have d2 : decide (k < 0) = false := decide_eq_false (by omega)
  have d3 : decide (6 ≤ k) = false := decide_eq_false (by omega)
  have hd : stB t k n = true := by simp [stB]; omega
  rw [hd]
  clear hd
  have D0 := Lib.hid (show Below w.heap.size w (w.alloc (.cells #[.int .i64 t, .int .i64 k, .int .i64 n] 48)) from (Below.refl _ _).alloc (Nat.le_refl _) _)
  have HX := Lib.hid (blk_new w #[.int .i64 t, .int .i64 k, .int .i64 n] 48)
  go_enter Tryd.func79, Tryd.ntmps79
  go_upto_region 1 with (fail)
  obtain ⟨q, hp⟩ : ∃ p, w.heap.size = p := ⟨_, rfl⟩
  rw [hp] at HX
  try rw [hp]
  clear hp
  generalize (w.alloc (.cells #[.int .i64 t, .int .i64 k, .int .i64 n] 48)) = w1 at *
  have hk := blk_cell HX.out
  have hl := blk_lt HX.out
  go_wp2
  go_ret
  exact ⟨rfl, D0.out⟩

set_option maxRecDepth 100000 in
set_option maxHeartbeats 8000000 in
theorem cardRightIs (c : Cd) (w : World) (hma : c.a.size ≤ maxLen) (hmi : c.i.size ≤ maxLen) :
    Calls Tryd.prog 63 #[.agg #[.string c.a, .string c.i, .int .i64 c.s, .int .i64 c.o, .int .i64 c.l, .int .i64 c.t, .int .i64 c.k, .int .i64 c.n, .bool c.g]] w fun r w' => r = .returned (.bool (cdRB c)) ∧ Below w.heap.size w w' := by
  obtain ⟨ba, ha⟩ : ∃ b, nmB c.a = b := ⟨_, rfl⟩
  obtain ⟨bi, hi⟩ : ∃ b, nmB c.i = b := ⟨_, rfl⟩
  obtain ⟨bs, hs⟩ : ∃ b, stB c.t c.k c.n = b := ⟨_, rfl⟩
  have HA := Lib.hid ha
  have HI := Lib.hid hi
  have HS := Lib.hid hs
  cases ba
  · skip
    have HRES := Lib.hid (show cdRB c = false from by unfold cdRB; rw [ha]; rfl)
    try clear hc
    have D0 := Lib.hid (show Below w.heap.size w (w.alloc (.cells #[.string c.a, .string c.i, .int .i64 c.s, .int .i64 c.o, .int .i64 c.l, .int .i64 c.t, .int .i64 c.k, .int .i64 c.n, .bool c.g] 50)) from (Below.refl _ _).alloc (Nat.le_refl _) _)
    have HX := Lib.hid (blk_new w #[.string c.a, .string c.i, .int .i64 c.s, .int .i64 c.o, .int .i64 c.l, .int .i64 c.t, .int .i64 c.k, .int .i64 c.n, .bool c.g] 50)
    go_enter Tryd.func63, Tryd.ntmps63
    go_upto_region 1 with (fail)
    obtain ⟨q, hp⟩ : ∃ p, w.heap.size = p := ⟨_, rfl⟩
    rw [hp] at HX
    try rw [hp]
    clear hp
    generalize (w.alloc (.cells #[.string c.a, .string c.i, .int .i64 c.s, .int .i64 c.o, .int .i64 c.l, .int .i64 c.t, .int .i64 c.k, .int .i64 c.n, .bool c.g] 50)) = w1 at *
    have hk := blk_cell HX.out
    have hl := blk_lt HX.out
    go_wp2_with fail
    refine (nameIs c.a _ hma).mono ?_
    rintro e w2 ⟨rfl, hb⟩
    rw [HA.out]
    have HX2 := Lib.hid (blk_ext hb HX.out)
    have D2 := Lib.hid (ext_trans D0.out hb)
    clear hk hl hb HX D0
    have hk := blk_cell HX2.out
    have hl := blk_lt HX2.out
    go_wp2
    go_ret
    exact ⟨by rw [HRES.out]; rfl, D2.out⟩
  cases bi
  · skip
    have HRES := Lib.hid (show cdRB c = false from by unfold cdRB; rw [ha, hi]; rfl)
    try clear hc
    have D0 := Lib.hid (show Below w.heap.size w (w.alloc (.cells #[.string c.a, .string c.i, .int .i64 c.s, .int .i64 c.o, .int .i64 c.l, .int .i64 c.t, .int .i64 c.k, .int .i64 c.n, .bool c.g] 50)) from (Below.refl _ _).alloc (Nat.le_refl _) _)
    have HX := Lib.hid (blk_new w #[.string c.a, .string c.i, .int .i64 c.s, .int .i64 c.o, .int .i64 c.l, .int .i64 c.t, .int .i64 c.k, .int .i64 c.n, .bool c.g] 50)
    go_enter Tryd.func63, Tryd.ntmps63
    go_upto_region 1 with (fail)
    obtain ⟨q, hp⟩ : ∃ p, w.heap.size = p := ⟨_, rfl⟩
    rw [hp] at HX
    try rw [hp]
    clear hp
    generalize (w.alloc (.cells #[.string c.a, .string c.i, .int .i64 c.s, .int .i64 c.o, .int .i64 c.l, .int .i64 c.t, .int .i64 c.k, .int .i64 c.n, .bool c.g] 50)) = w1 at *
    have hk := blk_cell HX.out
    have hl := blk_lt HX.out
    go_wp2_with fail
    refine (nameIs c.a _ hma).mono ?_
    rintro e w2 ⟨rfl, hb⟩
    rw [HA.out]
    have HX2 := Lib.hid (blk_ext hb HX.out)
    have D2 := Lib.hid (ext_trans D0.out hb)
    clear hk hl hb HX D0
    have hk := blk_cell HX2.out
    have hl := blk_lt HX2.out
    go_wp2_with fail
    refine (nameIs c.i _ hmi).mono ?_
    rintro e w3 ⟨rfl, hb⟩
    rw [HI.out]
    have HX3 := Lib.hid (blk_ext hb HX2.out)
    have D3 := Lib.hid (ext_trans D2.out hb)
    clear hk hl hb HX2 D2
    have hk := blk_cell HX3.out
    have hl := blk_lt HX3.out
    go_wp2
    go_ret
    exact ⟨by rw [HRES.out]; rfl, D3.out⟩
  by_cases h0n : ¬ (c.s = 1 ∨ c.s = 2)
  · skip
    have d0 : (c.s != 1) = true := by simpa using (show c.s ≠ 1 by omega)
    have d1 : (c.s != 2) = true := by simpa using (show c.s ≠ 2 by omega)
    have HRES := Lib.hid (show cdRB c = false from by unfold cdRB; rw [ha, hi]; simp; omega)
    try clear hc
    have D0 := Lib.hid (show Below w.heap.size w (w.alloc (.cells #[.string c.a, .string c.i, .int .i64 c.s, .int .i64 c.o, .int .i64 c.l, .int .i64 c.t, .int .i64 c.k, .int .i64 c.n, .bool c.g] 50)) from (Below.refl _ _).alloc (Nat.le_refl _) _)
    have HX := Lib.hid (blk_new w #[.string c.a, .string c.i, .int .i64 c.s, .int .i64 c.o, .int .i64 c.l, .int .i64 c.t, .int .i64 c.k, .int .i64 c.n, .bool c.g] 50)
    go_enter Tryd.func63, Tryd.ntmps63
    go_upto_region 1 with (fail)
    obtain ⟨q, hp⟩ : ∃ p, w.heap.size = p := ⟨_, rfl⟩
    rw [hp] at HX
    try rw [hp]
    clear hp
    generalize (w.alloc (.cells #[.string c.a, .string c.i, .int .i64 c.s, .int .i64 c.o, .int .i64 c.l, .int .i64 c.t, .int .i64 c.k, .int .i64 c.n, .bool c.g] 50)) = w1 at *
    have hk := blk_cell HX.out
    have hl := blk_lt HX.out
    go_wp2_with fail
    refine (nameIs c.a _ hma).mono ?_
    rintro e w2 ⟨rfl, hb⟩
    rw [HA.out]
    have HX2 := Lib.hid (blk_ext hb HX.out)
    have D2 := Lib.hid (ext_trans D0.out hb)
    clear hk hl hb HX D0
    have hk := blk_cell HX2.out
    have hl := blk_lt HX2.out
    go_wp2_with fail
    refine (nameIs c.i _ hmi).mono ?_
    rintro e w3 ⟨rfl, hb⟩
    rw [HI.out]
    have HX3 := Lib.hid (blk_ext hb HX2.out)
    have D3 := Lib.hid (ext_trans D2.out hb)
    clear hk hl hb HX2 D2
    have hk := blk_cell HX3.out
    have hl := blk_lt HX3.out
    go_wp2
    go_ret
    exact ⟨by rw [HRES.out]; rfl, D3.out⟩
  have h0 : c.s = 1 ∨ c.s = 2 := Classical.not_not.1 h0n
  by_cases h1 : c.o < 0
  · skip
    rcases h0 with hc | hc
    · skip
      have d0 : (c.s != 1) = false := by rw [hc]; rfl
      have d1 : decide (c.o < 0) = true := decide_eq_true h1
      have HRES := Lib.hid (show cdRB c = false from by unfold cdRB; rw [ha, hi]; simp; omega)
      try clear hc
      have D0 := Lib.hid (show Below w.heap.size w (w.alloc (.cells #[.string c.a, .string c.i, .int .i64 c.s, .int .i64 c.o, .int .i64 c.l, .int .i64 c.t, .int .i64 c.k, .int .i64 c.n, .bool c.g] 50)) from (Below.refl _ _).alloc (Nat.le_refl _) _)
      have HX := Lib.hid (blk_new w #[.string c.a, .string c.i, .int .i64 c.s, .int .i64 c.o, .int .i64 c.l, .int .i64 c.t, .int .i64 c.k, .int .i64 c.n, .bool c.g] 50)
      go_enter Tryd.func63, Tryd.ntmps63
      go_upto_region 1 with (fail)
      obtain ⟨q, hp⟩ : ∃ p, w.heap.size = p := ⟨_, rfl⟩
      rw [hp] at HX
      try rw [hp]
      clear hp
      generalize (w.alloc (.cells #[.string c.a, .string c.i, .int .i64 c.s, .int .i64 c.o, .int .i64 c.l, .int .i64 c.t, .int .i64 c.k, .int .i64 c.n, .bool c.g] 50)) = w1 at *
      have hk := blk_cell HX.out
      have hl := blk_lt HX.out
      go_wp2_with fail
      refine (nameIs c.a _ hma).mono ?_
      rintro e w2 ⟨rfl, hb⟩
      rw [HA.out]
      have HX2 := Lib.hid (blk_ext hb HX.out)
      have D2 := Lib.hid (ext_trans D0.out hb)
      clear hk hl hb HX D0
      have hk := blk_cell HX2.out
      have hl := blk_lt HX2.out
      go_wp2_with fail
      refine (nameIs c.i _ hmi).mono ?_
      rintro e w3 ⟨rfl, hb⟩
      rw [HI.out]
      have HX3 := Lib.hid (blk_ext hb HX2.out)
      have D3 := Lib.hid (ext_trans D2.out hb)
      clear hk hl hb HX2 D2
      have hk := blk_cell HX3.out
      have hl := blk_lt HX3.out
      go_wp2
      go_ret
      exact ⟨by rw [HRES.out]; rfl, D3.out⟩
    · skip
      have d0 : (c.s != 1) = true := by rw [hc]; rfl
      have d1 : (c.s != 2) = false := by rw [hc]; rfl
      have d2 : decide (c.o < 0) = true := decide_eq_true h1
      have HRES := Lib.hid (show cdRB c = false from by unfold cdRB; rw [ha, hi]; simp; omega)
      try clear hc
      have D0 := Lib.hid (show Below w.heap.size w (w.alloc (.cells #[.string c.a, .string c.i, .int .i64 c.s, .int .i64 c.o, .int .i64 c.l, .int .i64 c.t, .int .i64 c.k, .int .i64 c.n, .bool c.g] 50)) from (Below.refl _ _).alloc (Nat.le_refl _) _)
      have HX := Lib.hid (blk_new w #[.string c.a, .string c.i, .int .i64 c.s, .int .i64 c.o, .int .i64 c.l, .int .i64 c.t, .int .i64 c.k, .int .i64 c.n, .bool c.g] 50)
      go_enter Tryd.func63, Tryd.ntmps63
      go_upto_region 1 with (fail)
      obtain ⟨q, hp⟩ : ∃ p, w.heap.size = p := ⟨_, rfl⟩
      rw [hp] at HX
      try rw [hp]
      clear hp
      generalize (w.alloc (.cells #[.string c.a, .string c.i, .int .i64 c.s, .int .i64 c.o, .int .i64 c.l, .int .i64 c.t, .int .i64 c.k, .int .i64 c.n, .bool c.g] 50)) = w1 at *
      have hk := blk_cell HX.out
      have hl := blk_lt HX.out
      go_wp2_with fail
      refine (nameIs c.a _ hma).mono ?_
      rintro e w2 ⟨rfl, hb⟩
      rw [HA.out]
      have HX2 := Lib.hid (blk_ext hb HX.out)
      have D2 := Lib.hid (ext_trans D0.out hb)
      clear hk hl hb HX D0
      have hk := blk_cell HX2.out
      have hl := blk_lt HX2.out
      go_wp2_with fail
      refine (nameIs c.i _ hmi).mono ?_
      rintro e w3 ⟨rfl, hb⟩
      rw [HI.out]
      have HX3 := Lib.hid (blk_ext hb HX2.out)
      have D3 := Lib.hid (ext_trans D2.out hb)
      clear hk hl hb HX2 D2
      have hk := blk_cell HX3.out
      have hl := blk_lt HX3.out
      go_wp2
      go_ret
      exact ⟨by rw [HRES.out]; rfl, D3.out⟩
  by_cases h2 : 3 < c.o
  · skip
    rcases h0 with hc | hc
    · skip
      have d0 : (c.s != 1) = false := by rw [hc]; rfl
      have d1 : decide (c.o < 0) = false := decide_eq_false h1
      have d2 : decide (3 < c.o) = true := decide_eq_true h2
      have HRES := Lib.hid (show cdRB c = false from by unfold cdRB; rw [ha, hi]; simp; omega)
      try clear hc
      have D0 := Lib.hid (show Below w.heap.size w (w.alloc (.cells #[.string c.a, .string c.i, .int .i64 c.s, .int .i64 c.o, .int .i64 c.l, .int .i64 c.t, .int .i64 c.k, .int .i64 c.n, .bool c.g] 50)) from (Below.refl _ _).alloc (Nat.le_refl _) _)
      have HX := Lib.hid (blk_new w #[.string c.a, .string c.i, .int .i64 c.s, .int .i64 c.o, .int .i64 c.l, .int .i64 c.t, .int .i64 c.k, .int .i64 c.n, .bool c.g] 50)
      go_enter Tryd.func63, Tryd.ntmps63
      go_upto_region 1 with (fail)
      obtain ⟨q, hp⟩ : ∃ p, w.heap.size = p := ⟨_, rfl⟩
      rw [hp] at HX
      try rw [hp]
      clear hp
      generalize (w.alloc (.cells #[.string c.a, .string c.i, .int .i64 c.s, .int .i64 c.o, .int .i64 c.l, .int .i64 c.t, .int .i64 c.k, .int .i64 c.n, .bool c.g] 50)) = w1 at *
      have hk := blk_cell HX.out
      have hl := blk_lt HX.out
      go_wp2_with fail
      refine (nameIs c.a _ hma).mono ?_
      rintro e w2 ⟨rfl, hb⟩
      rw [HA.out]
      have HX2 := Lib.hid (blk_ext hb HX.out)
      have D2 := Lib.hid (ext_trans D0.out hb)
      clear hk hl hb HX D0
      have hk := blk_cell HX2.out
      have hl := blk_lt HX2.out
      go_wp2_with fail
      refine (nameIs c.i _ hmi).mono ?_
      rintro e w3 ⟨rfl, hb⟩
      rw [HI.out]
      have HX3 := Lib.hid (blk_ext hb HX2.out)
      have D3 := Lib.hid (ext_trans D2.out hb)
      clear hk hl hb HX2 D2
      have hk := blk_cell HX3.out
      have hl := blk_lt HX3.out
      go_wp2
      go_ret
      exact ⟨by rw [HRES.out]; rfl, D3.out⟩
    · skip
      have d0 : (c.s != 1) = true := by rw [hc]; rfl
      have d1 : (c.s != 2) = false := by rw [hc]; rfl
      have d2 : decide (c.o < 0) = false := decide_eq_false h1
      have d3 : decide (3 < c.o) = true := decide_eq_true h2
      have HRES := Lib.hid (show cdRB c = false from by unfold cdRB; rw [ha, hi]; simp; omega)
      try clear hc
      have D0 := Lib.hid (show Below w.heap.size w (w.alloc (.cells #[.string c.a, .string c.i, .int .i64 c.s, .int .i64 c.o, .int .i64 c.l, .int .i64 c.t, .int .i64 c.k, .int .i64 c.n, .bool c.g] 50)) from (Below.refl _ _).alloc (Nat.le_refl _) _)
      have HX := Lib.hid (blk_new w #[.string c.a, .string c.i, .int .i64 c.s, .int .i64 c.o, .int .i64 c.l, .int .i64 c.t, .int .i64 c.k, .int .i64 c.n, .bool c.g] 50)
      go_enter Tryd.func63, Tryd.ntmps63
      go_upto_region 1 with (fail)
      obtain ⟨q, hp⟩ : ∃ p, w.heap.size = p := ⟨_, rfl⟩
      rw [hp] at HX
      try rw [hp]
      clear hp
      generalize (w.alloc (.cells #[.string c.a, .string c.i, .int .i64 c.s, .int .i64 c.o, .int .i64 c.l, .int .i64 c.t, .int .i64 c.k, .int .i64 c.n, .bool c.g] 50)) = w1 at *
      have hk := blk_cell HX.out
      have hl := blk_lt HX.out
      go_wp2_with fail
      refine (nameIs c.a _ hma).mono ?_
      rintro e w2 ⟨rfl, hb⟩
      rw [HA.out]
      have HX2 := Lib.hid (blk_ext hb HX.out)
      have D2 := Lib.hid (ext_trans D0.out hb)
      clear hk hl hb HX D0
      have hk := blk_cell HX2.out
      have hl := blk_lt HX2.out
      go_wp2_with fail
      refine (nameIs c.i _ hmi).mono ?_
      rintro e w3 ⟨rfl, hb⟩
      rw [HI.out]
      have HX3 := Lib.hid (blk_ext hb HX2.out)
      have D3 := Lib.hid (ext_trans D2.out hb)
      clear hk hl hb HX2 D2
      have hk := blk_cell HX3.out
      have hl := blk_lt HX3.out
      go_wp2
      go_ret
      exact ⟨by rw [HRES.out]; rfl, D3.out⟩
  by_cases h3 : c.l < 1
  · skip
    rcases h0 with hc | hc
    · skip
      have d0 : (c.s != 1) = false := by rw [hc]; rfl
      have d1 : decide (c.o < 0) = false := decide_eq_false h1
      have d2 : decide (3 < c.o) = false := decide_eq_false h2
      have d3 : decide (c.l < 1) = true := decide_eq_true h3
      have HRES := Lib.hid (show cdRB c = false from by unfold cdRB; rw [ha, hi]; simp; omega)
      try clear hc
      have D0 := Lib.hid (show Below w.heap.size w (w.alloc (.cells #[.string c.a, .string c.i, .int .i64 c.s, .int .i64 c.o, .int .i64 c.l, .int .i64 c.t, .int .i64 c.k, .int .i64 c.n, .bool c.g] 50)) from (Below.refl _ _).alloc (Nat.le_refl _) _)
      have HX := Lib.hid (blk_new w #[.string c.a, .string c.i, .int .i64 c.s, .int .i64 c.o, .int .i64 c.l, .int .i64 c.t, .int .i64 c.k, .int .i64 c.n, .bool c.g] 50)
      go_enter Tryd.func63, Tryd.ntmps63
      go_upto_region 1 with (fail)
      obtain ⟨q, hp⟩ : ∃ p, w.heap.size = p := ⟨_, rfl⟩
      rw [hp] at HX
      try rw [hp]
      clear hp
      generalize (w.alloc (.cells #[.string c.a, .string c.i, .int .i64 c.s, .int .i64 c.o, .int .i64 c.l, .int .i64 c.t, .int .i64 c.k, .int .i64 c.n, .bool c.g] 50)) = w1 at *
      have hk := blk_cell HX.out
      have hl := blk_lt HX.out
      go_wp2_with fail
      refine (nameIs c.a _ hma).mono ?_
      rintro e w2 ⟨rfl, hb⟩
      rw [HA.out]
      have HX2 := Lib.hid (blk_ext hb HX.out)
      have D2 := Lib.hid (ext_trans D0.out hb)
      clear hk hl hb HX D0
      have hk := blk_cell HX2.out
      have hl := blk_lt HX2.out
      go_wp2_with fail
      refine (nameIs c.i _ hmi).mono ?_
      rintro e w3 ⟨rfl, hb⟩
      rw [HI.out]
      have HX3 := Lib.hid (blk_ext hb HX2.out)
      have D3 := Lib.hid (ext_trans D2.out hb)
      clear hk hl hb HX2 D2
      have hk := blk_cell HX3.out
      have hl := blk_lt HX3.out
      go_wp2
      go_ret
      exact ⟨by rw [HRES.out]; rfl, D3.out⟩
    · skip
      have d0 : (c.s != 1) = true := by rw [hc]; rfl
      have d1 : (c.s != 2) = false := by rw [hc]; rfl
      have d2 : decide (c.o < 0) = false := decide_eq_false h1
      have d3 : decide (3 < c.o) = false := decide_eq_false h2
      have d4 : decide (c.l < 1) = true := decide_eq_true h3
      have HRES := Lib.hid (show cdRB c = false from by unfold cdRB; rw [ha, hi]; simp; omega)
      try clear hc
      have D0 := Lib.hid (show Below w.heap.size w (w.alloc (.cells #[.string c.a, .string c.i, .int .i64 c.s, .int .i64 c.o, .int .i64 c.l, .int .i64 c.t, .int .i64 c.k, .int .i64 c.n, .bool c.g] 50)) from (Below.refl _ _).alloc (Nat.le_refl _) _)
      have HX := Lib.hid (blk_new w #[.string c.a, .string c.i, .int .i64 c.s, .int .i64 c.o, .int .i64 c.l, .int .i64 c.t, .int .i64 c.k, .int .i64 c.n, .bool c.g] 50)
      go_enter Tryd.func63, Tryd.ntmps63
      go_upto_region 1 with (fail)
      obtain ⟨q, hp⟩ : ∃ p, w.heap.size = p := ⟨_, rfl⟩
      rw [hp] at HX
      try rw [hp]
      clear hp
      generalize (w.alloc (.cells #[.string c.a, .string c.i, .int .i64 c.s, .int .i64 c.o, .int .i64 c.l, .int .i64 c.t, .int .i64 c.k, .int .i64 c.n, .bool c.g] 50)) = w1 at *
      have hk := blk_cell HX.out
      have hl := blk_lt HX.out
      go_wp2_with fail
      refine (nameIs c.a _ hma).mono ?_
      rintro e w2 ⟨rfl, hb⟩
      rw [HA.out]
      have HX2 := Lib.hid (blk_ext hb HX.out)
      have D2 := Lib.hid (ext_trans D0.out hb)
      clear hk hl hb HX D0
      have hk := blk_cell HX2.out
      have hl := blk_lt HX2.out
      go_wp2_with fail
      refine (nameIs c.i _ hmi).mono ?_
      rintro e w3 ⟨rfl, hb⟩
      rw [HI.out]
      have HX3 := Lib.hid (blk_ext hb HX2.out)
      have D3 := Lib.hid (ext_trans D2.out hb)
      clear hk hl hb HX2 D2
      have hk := blk_cell HX3.out
      have hl := blk_lt HX3.out
      go_wp2
      go_ret
      exact ⟨by rw [HRES.out]; rfl, D3.out⟩
  by_cases h4 : 1048576 < c.l
  · skip
    rcases h0 with hc | hc
    · skip
      have d0 : (c.s != 1) = false := by rw [hc]; rfl
      have d1 : decide (c.o < 0) = false := decide_eq_false h1
      have d2 : decide (3 < c.o) = false := decide_eq_false h2
      have d3 : decide (c.l < 1) = false := decide_eq_false h3
      have d4 : decide (1048576 < c.l) = true := decide_eq_true h4
      have HRES := Lib.hid (show cdRB c = false from by unfold cdRB; rw [ha, hi]; simp; omega)
      try clear hc
      have D0 := Lib.hid (show Below w.heap.size w (w.alloc (.cells #[.string c.a, .string c.i, .int .i64 c.s, .int .i64 c.o, .int .i64 c.l, .int .i64 c.t, .int .i64 c.k, .int .i64 c.n, .bool c.g] 50)) from (Below.refl _ _).alloc (Nat.le_refl _) _)
      have HX := Lib.hid (blk_new w #[.string c.a, .string c.i, .int .i64 c.s, .int .i64 c.o, .int .i64 c.l, .int .i64 c.t, .int .i64 c.k, .int .i64 c.n, .bool c.g] 50)
      go_enter Tryd.func63, Tryd.ntmps63
      go_upto_region 1 with (fail)
      obtain ⟨q, hp⟩ : ∃ p, w.heap.size = p := ⟨_, rfl⟩
      rw [hp] at HX
      try rw [hp]
      clear hp
      generalize (w.alloc (.cells #[.string c.a, .string c.i, .int .i64 c.s, .int .i64 c.o, .int .i64 c.l, .int .i64 c.t, .int .i64 c.k, .int .i64 c.n, .bool c.g] 50)) = w1 at *
      have hk := blk_cell HX.out
      have hl := blk_lt HX.out
      go_wp2_with fail
      refine (nameIs c.a _ hma).mono ?_
      rintro e w2 ⟨rfl, hb⟩
      rw [HA.out]
      have HX2 := Lib.hid (blk_ext hb HX.out)
      have D2 := Lib.hid (ext_trans D0.out hb)
      clear hk hl hb HX D0
      have hk := blk_cell HX2.out
      have hl := blk_lt HX2.out
      go_wp2_with fail
      refine (nameIs c.i _ hmi).mono ?_
      rintro e w3 ⟨rfl, hb⟩
      rw [HI.out]
      have HX3 := Lib.hid (blk_ext hb HX2.out)
      have D3 := Lib.hid (ext_trans D2.out hb)
      clear hk hl hb HX2 D2
      have hk := blk_cell HX3.out
      have hl := blk_lt HX3.out
      go_wp2
      go_ret
      exact ⟨by rw [HRES.out]; rfl, D3.out⟩
    · skip
      have d0 : (c.s != 1) = true := by rw [hc]; rfl
      have d1 : (c.s != 2) = false := by rw [hc]; rfl
      have d2 : decide (c.o < 0) = false := decide_eq_false h1
      have d3 : decide (3 < c.o) = false := decide_eq_false h2
      have d4 : decide (c.l < 1) = false := decide_eq_false h3
      have d5 : decide (1048576 < c.l) = true := decide_eq_true h4
      have HRES := Lib.hid (show cdRB c = false from by unfold cdRB; rw [ha, hi]; simp; omega)
      try clear hc
      have D0 := Lib.hid (show Below w.heap.size w (w.alloc (.cells #[.string c.a, .string c.i, .int .i64 c.s, .int .i64 c.o, .int .i64 c.l, .int .i64 c.t, .int .i64 c.k, .int .i64 c.n, .bool c.g] 50)) from (Below.refl _ _).alloc (Nat.le_refl _) _)
      have HX := Lib.hid (blk_new w #[.string c.a, .string c.i, .int .i64 c.s, .int .i64 c.o, .int .i64 c.l, .int .i64 c.t, .int .i64 c.k, .int .i64 c.n, .bool c.g] 50)
      go_enter Tryd.func63, Tryd.ntmps63
      go_upto_region 1 with (fail)
      obtain ⟨q, hp⟩ : ∃ p, w.heap.size = p := ⟨_, rfl⟩
      rw [hp] at HX
      try rw [hp]
      clear hp
      generalize (w.alloc (.cells #[.string c.a, .string c.i, .int .i64 c.s, .int .i64 c.o, .int .i64 c.l, .int .i64 c.t, .int .i64 c.k, .int .i64 c.n, .bool c.g] 50)) = w1 at *
      have hk := blk_cell HX.out
      have hl := blk_lt HX.out
      go_wp2_with fail
      refine (nameIs c.a _ hma).mono ?_
      rintro e w2 ⟨rfl, hb⟩
      rw [HA.out]
      have HX2 := Lib.hid (blk_ext hb HX.out)
      have D2 := Lib.hid (ext_trans D0.out hb)
      clear hk hl hb HX D0
      have hk := blk_cell HX2.out
      have hl := blk_lt HX2.out
      go_wp2_with fail
      refine (nameIs c.i _ hmi).mono ?_
      rintro e w3 ⟨rfl, hb⟩
      rw [HI.out]
      have HX3 := Lib.hid (blk_ext hb HX2.out)
      have D3 := Lib.hid (ext_trans D2.out hb)
      clear hk hl hb HX2 D2
      have hk := blk_cell HX3.out
      have hl := blk_lt HX3.out
      go_wp2
      go_ret
      exact ⟨by rw [HRES.out]; rfl, D3.out⟩
  rcases h0 with hc | hc
  · skip
    have d0 : (c.s != 1) = false := by rw [hc]; rfl
    have d1 : decide (c.o < 0) = false := decide_eq_false h1
    have d2 : decide (3 < c.o) = false := decide_eq_false h2
    have d3 : decide (c.l < 1) = false := decide_eq_false h3
    have d4 : decide (1048576 < c.l) = false := decide_eq_false h4
    have HRES := Lib.hid (show cdRB c = bs from by unfold cdRB; rw [ha, hi, hs]; cases bs <;> simp <;> omega)
    try clear hc
    have D0 := Lib.hid (show Below w.heap.size w (w.alloc (.cells #[.string c.a, .string c.i, .int .i64 c.s, .int .i64 c.o, .int .i64 c.l, .int .i64 c.t, .int .i64 c.k, .int .i64 c.n, .bool c.g] 50)) from (Below.refl _ _).alloc (Nat.le_refl _) _)
    have HX := Lib.hid (blk_new w #[.string c.a, .string c.i, .int .i64 c.s, .int .i64 c.o, .int .i64 c.l, .int .i64 c.t, .int .i64 c.k, .int .i64 c.n, .bool c.g] 50)
    go_enter Tryd.func63, Tryd.ntmps63
    go_upto_region 1 with (fail)
    obtain ⟨q, hp⟩ : ∃ p, w.heap.size = p := ⟨_, rfl⟩
    rw [hp] at HX
    try rw [hp]
    clear hp
    generalize (w.alloc (.cells #[.string c.a, .string c.i, .int .i64 c.s, .int .i64 c.o, .int .i64 c.l, .int .i64 c.t, .int .i64 c.k, .int .i64 c.n, .bool c.g] 50)) = w1 at *
    have hk := blk_cell HX.out
    have hl := blk_lt HX.out
    go_wp2_with fail
    refine (nameIs c.a _ hma).mono ?_
    rintro e w2 ⟨rfl, hb⟩
    rw [HA.out]
    have HX2 := Lib.hid (blk_ext hb HX.out)
    have D2 := Lib.hid (ext_trans D0.out hb)
    clear hk hl hb HX D0
    have hk := blk_cell HX2.out
    have hl := blk_lt HX2.out
    go_wp2_with fail
    refine (nameIs c.i _ hmi).mono ?_
    rintro e w3 ⟨rfl, hb⟩
    rw [HI.out]
    have HX3 := Lib.hid (blk_ext hb HX2.out)
    have D3 := Lib.hid (ext_trans D2.out hb)
    clear hk hl hb HX2 D2
    have hk := blk_cell HX3.out
    have hl := blk_lt HX3.out
    go_wp2_with fail
    refine (stampRightIs c.t c.k c.n _).mono ?_
    rintro e w4 ⟨rfl, hb⟩
    rw [HS.out]
    have HX4 := Lib.hid (blk_ext hb HX3.out)
    have D4 := Lib.hid (ext_trans D3.out hb)
    clear hk hl hb HX3 D3
    have hk := blk_cell HX4.out
    have hl := blk_lt HX4.out
    go_wp2
    go_ret
    exact ⟨by rw [HRES.out]; rfl, D4.out⟩
  · skip
    have d0 : (c.s != 1) = true := by rw [hc]; rfl
    have d1 : (c.s != 2) = false := by rw [hc]; rfl
    have d2 : decide (c.o < 0) = false := decide_eq_false h1
    have d3 : decide (3 < c.o) = false := decide_eq_false h2
    have d4 : decide (c.l < 1) = false := decide_eq_false h3
    have d5 : decide (1048576 < c.l) = false := decide_eq_false h4
    have HRES := Lib.hid (show cdRB c = bs from by unfold cdRB; rw [ha, hi, hs]; cases bs <;> simp <;> omega)
    try clear hc
    have D0 := Lib.hid (show Below w.heap.size w (w.alloc (.cells #[.string c.a, .string c.i, .int .i64 c.s, .int .i64 c.o, .int .i64 c.l, .int .i64 c.t, .int .i64 c.k, .int .i64 c.n, .bool c.g] 50)) from (Below.refl _ _).alloc (Nat.le_refl _) _)
    have HX := Lib.hid (blk_new w #[.string c.a, .string c.i, .int .i64 c.s, .int .i64 c.o, .int .i64 c.l, .int .i64 c.t, .int .i64 c.k, .int .i64 c.n, .bool c.g] 50)
    go_enter Tryd.func63, Tryd.ntmps63
    go_upto_region 1 with (fail)
    obtain ⟨q, hp⟩ : ∃ p, w.heap.size = p := ⟨_, rfl⟩
    rw [hp] at HX
    try rw [hp]
    clear hp
    generalize (w.alloc (.cells #[.string c.a, .string c.i, .int .i64 c.s, .int .i64 c.o, .int .i64 c.l, .int .i64 c.t, .int .i64 c.k, .int .i64 c.n, .bool c.g] 50)) = w1 at *
    have hk := blk_cell HX.out
    have hl := blk_lt HX.out
    go_wp2_with fail
    refine (nameIs c.a _ hma).mono ?_
    rintro e w2 ⟨rfl, hb⟩
    rw [HA.out]
    have HX2 := Lib.hid (blk_ext hb HX.out)
    have D2 := Lib.hid (ext_trans D0.out hb)
    clear hk hl hb HX D0
    have hk := blk_cell HX2.out
    have hl := blk_lt HX2.out
    go_wp2_with fail
    refine (nameIs c.i _ hmi).mono ?_
    rintro e w3 ⟨rfl, hb⟩
    rw [HI.out]
    have HX3 := Lib.hid (blk_ext hb HX2.out)
    have D3 := Lib.hid (ext_trans D2.out hb)
    clear hk hl hb HX2 D2
    have hk := blk_cell HX3.out
    have hl := blk_lt HX3.out
    go_wp2_with fail
    refine (stampRightIs c.t c.k c.n _).mono ?_
    rintro e w4 ⟨rfl, hb⟩
    rw [HS.out]
    have HX4 := Lib.hid (blk_ext hb HX3.out)
    have D4 := Lib.hid (ext_trans D3.out hb)
    clear hk hl hb HX3 D3
    have hk := blk_cell HX4.out
    have hl := blk_lt HX4.out
    go_wp2
    go_ret
    exact ⟨by rw [HRES.out]; rfl, D4.out⟩

set_option maxRecDepth 100000 in
set_option maxHeartbeats 1000000 in
theorem cardWrongIs (c : Cd) (w : World) (hma : c.a.size ≤ maxLen) (hmi : c.i.size ≤ maxLen) :
    Calls Tryd.prog 41 #[.agg #[.string c.a, .string c.i, .int .i64 c.s, .int .i64 c.o, .int .i64 c.l, .int .i64 c.t, .int .i64 c.k, .int .i64 c.n, .bool c.g]] w fun r w' => r = .returned (.bool (!(cdRB c))) ∧ Below w.heap.size w w' := by
  have D0 := Lib.hid (show Below w.heap.size w (w.alloc (.cells #[.string c.a, .string c.i, .int .i64 c.s, .int .i64 c.o, .int .i64 c.l, .int .i64 c.t, .int .i64 c.k, .int .i64 c.n, .bool c.g] 50)) from (Below.refl _ _).alloc (Nat.le_refl _) _)
  have HX := Lib.hid (blk_new w #[.string c.a, .string c.i, .int .i64 c.s, .int .i64 c.o, .int .i64 c.l, .int .i64 c.t, .int .i64 c.k, .int .i64 c.n, .bool c.g] 50)
  go_enter Tryd.func41, Tryd.ntmps41
  go_upto_region 1 with (fail)
  obtain ⟨q, hp⟩ : ∃ p, w.heap.size = p := ⟨_, rfl⟩
  rw [hp] at HX
  try rw [hp]
  clear hp
  generalize (w.alloc (.cells #[.string c.a, .string c.i, .int .i64 c.s, .int .i64 c.o, .int .i64 c.l, .int .i64 c.t, .int .i64 c.k, .int .i64 c.n, .bool c.g] 50)) = w1 at *
  have hk := blk_cell HX.out
  have hl := blk_lt HX.out
  go_wp2_with fail
  refine (cardRightIs c _ hma hmi).mono ?_
  rintro e w2 ⟨rfl, hb⟩
  have HX2 := Lib.hid (blk_ext hb HX.out)
  have D2 := Lib.hid (ext_trans D0.out hb)
  clear hk hl hb HX D0
  have hk := blk_cell HX2.out
  have hl := blk_lt HX2.out
  go_wp2
  go_ret
  exact ⟨rfl, D2.out⟩

set_option maxRecDepth 100000 in
set_option maxHeartbeats 1000000 in
theorem keyWrongIs (k : ByteArray × ByteArray) (w : World) (hma : k.1.size ≤ maxLen) (hmi : k.2.size ≤ maxLen) :
    Calls Tryd.prog 43 #[.agg #[.string k.1, .string k.2]] w fun r w' => r = .returned (.bool (!(kyB k))) ∧ Below w.heap.size w w' := by
  obtain ⟨ba, ha⟩ : ∃ b, nmB k.1 = b := ⟨_, rfl⟩
  obtain ⟨bi, hi⟩ : ∃ b, nmB k.2 = b := ⟨_, rfl⟩
  have HA := Lib.hid ha
  have HI := Lib.hid hi
  cases ba
  · have HRES := Lib.hid (show (!(kyB k)) = true from by unfold kyB; rw [ha]; rfl)
    clear ha hi
    have D0 := Lib.hid (show Below w.heap.size w (w.alloc (.cells #[.string k.1, .string k.2] 24)) from (Below.refl _ _).alloc (Nat.le_refl _) _)
    have HX := Lib.hid (blk_new w #[.string k.1, .string k.2] 24)
    go_enter Tryd.func43, Tryd.ntmps43
    go_upto_region 1 with (fail)
    obtain ⟨q, hp⟩ : ∃ p, w.heap.size = p := ⟨_, rfl⟩
    rw [hp] at HX
    try rw [hp]
    clear hp
    generalize (w.alloc (.cells #[.string k.1, .string k.2] 24)) = w1 at *
    have hk := blk_cell HX.out
    have hl := blk_lt HX.out
    go_wp2_with fail
    refine (nameIs k.1 _ hma).mono ?_
    rintro e w2 ⟨rfl, hb⟩
    rw [HA.out]
    have HX2 := Lib.hid (blk_ext hb HX.out)
    have D2 := Lib.hid (ext_trans D0.out hb)
    clear hk hl hb HX D0
    have hk := blk_cell HX2.out
    have hl := blk_lt HX2.out
    go_wp2
    go_ret
    exact ⟨by rw [HRES.out]; rfl, D2.out⟩
  cases bi
  · have HRES := Lib.hid (show (!(kyB k)) = true from by unfold kyB; rw [ha, hi]; rfl)
    clear ha hi
    have D0 := Lib.hid (show Below w.heap.size w (w.alloc (.cells #[.string k.1, .string k.2] 24)) from (Below.refl _ _).alloc (Nat.le_refl _) _)
    have HX := Lib.hid (blk_new w #[.string k.1, .string k.2] 24)
    go_enter Tryd.func43, Tryd.ntmps43
    go_upto_region 1 with (fail)
    obtain ⟨q, hp⟩ : ∃ p, w.heap.size = p := ⟨_, rfl⟩
    rw [hp] at HX
    try rw [hp]
    clear hp
    generalize (w.alloc (.cells #[.string k.1, .string k.2] 24)) = w1 at *
    have hk := blk_cell HX.out
    have hl := blk_lt HX.out
    go_wp2_with fail
    refine (nameIs k.1 _ hma).mono ?_
    rintro e w2 ⟨rfl, hb⟩
    rw [HA.out]
    have HX2 := Lib.hid (blk_ext hb HX.out)
    have D2 := Lib.hid (ext_trans D0.out hb)
    clear hk hl hb HX D0
    have hk := blk_cell HX2.out
    have hl := blk_lt HX2.out
    go_wp2_with fail
    refine (nameIs k.2 _ hmi).mono ?_
    rintro e w3 ⟨rfl, hb⟩
    rw [HI.out]
    have HX3 := Lib.hid (blk_ext hb HX2.out)
    have D3 := Lib.hid (ext_trans D2.out hb)
    clear hk hl hb HX2 D2
    have hk := blk_cell HX3.out
    have hl := blk_lt HX3.out
    go_wp2
    go_ret
    exact ⟨by rw [HRES.out]; rfl, D3.out⟩
  have HRES := Lib.hid (show (!(kyB k)) = false from by unfold kyB; rw [ha, hi]; rfl)
  clear ha hi
  have D0 := Lib.hid (show Below w.heap.size w (w.alloc (.cells #[.string k.1, .string k.2] 24)) from (Below.refl _ _).alloc (Nat.le_refl _) _)
  have HX := Lib.hid (blk_new w #[.string k.1, .string k.2] 24)
  go_enter Tryd.func43, Tryd.ntmps43
  go_upto_region 1 with (fail)
  obtain ⟨q, hp⟩ : ∃ p, w.heap.size = p := ⟨_, rfl⟩
  rw [hp] at HX
  try rw [hp]
  clear hp
  generalize (w.alloc (.cells #[.string k.1, .string k.2] 24)) = w1 at *
  have hk := blk_cell HX.out
  have hl := blk_lt HX.out
  go_wp2_with fail
  refine (nameIs k.1 _ hma).mono ?_
  rintro e w2 ⟨rfl, hb⟩
  rw [HA.out]
  have HX2 := Lib.hid (blk_ext hb HX.out)
  have D2 := Lib.hid (ext_trans D0.out hb)
  clear hk hl hb HX D0
  have hk := blk_cell HX2.out
  have hl := blk_lt HX2.out
  go_wp2_with fail
  refine (nameIs k.2 _ hmi).mono ?_
  rintro e w3 ⟨rfl, hb⟩
  rw [HI.out]
  have HX3 := Lib.hid (blk_ext hb HX2.out)
  have D3 := Lib.hid (ext_trans D2.out hb)
  clear hk hl hb HX2 D2
  have hk := blk_cell HX3.out
  have hl := blk_lt HX3.out
  go_wp2
  go_ret
  exact ⟨by rw [HRES.out]; rfl, D3.out⟩

set_option maxRecDepth 100000 in
set_option maxHeartbeats 2000000 in
theorem indexCards (a : Option Addr) (n c : Nat) (ls : List Cd) (w : World) (h : CAt w a ls) (hl : ls.length = n) (hnc : n ≤ c) (hcm : c ≤ maxLen) (hs : ∀ x ∈ ls, x.a.size ≤ maxLen ∧ x.i.size ≤ maxLen) :
    Calls Tryd.prog 62 #[.slice a n c, .func (.func 41) #[] #[]] w fun r w' => (∃ z : Int, r = .returned (.int .i64 z) ∧ decide (0 ≤ z) = ls.any (fun x => !(cdRB x))) ∧ Below w.heap.size w w' := by
  unfold maxLen at hcm
  have HA := Lib.hid h
  have HN := Lib.hid hl
  have HS := Lib.hid hs
  clear h hl hs
  go_enter Tryd.func62, Tryd.ntmps62
  go_wp2_with fail
  go_loopw [8] (fun j wr => ∃ J : Nat, J ≤ n ∧ j = .int .i64 (J : Int) ∧ Below w.heap.size w wr ∧ ∀ x ∈ ls.take J, cdRB x = true) (fun j _ => n - (intOf j).toNat)
  case atStart => exact ⟨0, by omega, rfl, Below.refl _ _, by simp⟩
  case round =>
    obtain ⟨w2, rfl⟩ : ∃ y : World, y = wr := ⟨_, rfl⟩
    obtain ⟨J, hJ, rfl, hb2, hall⟩ := hrel
    have HALL := Lib.hid hall
    clear hall
    by_cases hlt : J < n
    · obtain ⟨x, hx⟩ : ∃ x, ls[J]? = some x := ⟨_, List.getElem?_eq_getElem (by have := HN.out; omega)⟩
      obtain ⟨b, o, rfl⟩ : ∃ b o, a = some ⟨b, o, none⟩ := by
        rcases HA.out with h | ⟨b, o, e, _⟩
        · rw [h] at hx; simp at hx
        · exact ⟨b, o, e⟩
      obtain ⟨x0, x1, x2, x3, x4, x5, x6, x7, x8⟩ := (HA.out.ext hb2).at hx
      have HXS := Lib.hid (HS.out x (List.mem_of_getElem? hx))
      have HXX := Lib.hid hx
      have HB2 := Lib.hid hb2
      clear hx hb2
      obtain ⟨bx, hbx⟩ : ∃ b, cdRB x = b := ⟨_, rfl⟩
      cases bx
      · have HBX := Lib.hid (show (!(cdRB x)) = true from by rw [hbx]; rfl)
        have HANY := Lib.hid (show ls.any (fun x => !(cdRB x)) = true from List.any_eq_true.2 ⟨x, List.mem_of_getElem? HXX.out, by rw [hbx]; rfl⟩)
        go_wp2_with fail
        refine (cardWrongIs x _ HXS.out.1 HXS.out.2).mono ?_
        rintro e w3 ⟨rfl, hb3⟩
        rw [HBX.out]
        have HB3 := Lib.hid (ext_trans HB2.out hb3)
        clear x0 x1 x2 x3 x4 x5 x6 x7 x8 hb3
        go_wp2
        go_ret
        exact ⟨⟨_, rfl, by rw [HANY.out]; exact decide_eq_true (by omega)⟩, HB3.out⟩
      · have HBX := Lib.hid (show (!(cdRB x)) = false from by rw [hbx]; rfl)
        have HT := Lib.hid (show ∀ y ∈ ls.take (J + 1), cdRB y = true from fun y hy => by
          rw [List.take_add_one, HXX.out] at hy
          rcases List.mem_append.1 hy with hy | hy
          · exact HALL.out y hy
          · simp at hy; subst hy; exact hbx)
        go_wp2_with fail
        refine (cardWrongIs x _ HXS.out.1 HXS.out.2).mono ?_
        rintro e w3 ⟨rfl, hb3⟩
        rw [HBX.out]
        have HB3 := Lib.hid (ext_trans HB2.out hb3)
        clear x0 x1 x2 x3 x4 x5 x6 x7 x8 hb3
        go_wp2
        go_roundw
        case rel => exact ⟨J + 1, by omega, by go_num, HB3.out, HT.out⟩
        case measure => simp [intOf]; omega
    · obtain rfl : J = n := by omega
      have HANY := Lib.hid (show ls.any (fun x => !(cdRB x)) = false from by
        rw [List.any_eq_false]
        intro x hx
        rw [HALL.out x (by rw [List.take_of_length_le (by have := HN.out; omega)]; exact hx)]
        simp)
      go_wp2
      go_ret
      exact ⟨⟨_, rfl, by rw [HANY.out]; rfl⟩, hb2⟩

set_option maxRecDepth 100000 in
set_option maxHeartbeats 1000000 in
theorem containsCards (a : Option Addr) (n c : Nat) (ls : List Cd) (w : World) (h : CAt w a ls) (hl : ls.length = n) (hnc : n ≤ c) (hcm : c ≤ maxLen) (hs : ∀ x ∈ ls, x.a.size ≤ maxLen ∧ x.i.size ≤ maxLen) :
    Calls Tryd.prog 40 #[.slice a n c, .func (.func 41) #[] #[]] w fun r w' => r = .returned (.bool (ls.any (fun x => !(cdRB x)))) ∧ Below w.heap.size w w' := by
  go_enter Tryd.func40, Tryd.ntmps40
  go_wp2_with fail
  refine (indexCards a n c ls w h hl hnc hcm hs).mono ?_
  rintro e w1 ⟨⟨z, rfl, hz⟩, hb⟩
  have HZ := Lib.hid hz
  clear hz
  go_wp2
  go_ret
  exact ⟨by rw [← HZ.out]; rfl, hb⟩

set_option maxRecDepth 100000 in
set_option maxHeartbeats 2000000 in
theorem indexKeys (a : Option Addr) (n c : Nat) (ls : List Ky) (w : World) (h : KyAt w a ls) (hl : ls.length = n) (hnc : n ≤ c) (hcm : c ≤ maxLen) (hs : ∀ x ∈ ls, x.1.size ≤ maxLen ∧ x.2.size ≤ maxLen) :
    Calls Tryd.prog 64 #[.slice a n c, .func (.func 43) #[] #[]] w fun r w' => (∃ z : Int, r = .returned (.int .i64 z) ∧ decide (0 ≤ z) = ls.any (fun x => !(kyB x))) ∧ Below w.heap.size w w' := by
  unfold maxLen at hcm
  have HA := Lib.hid h
  have HN := Lib.hid hl
  have HS := Lib.hid hs
  clear h hl hs
  go_enter Tryd.func64, Tryd.ntmps64
  go_wp2_with fail
  go_loopw [8] (fun j wr => ∃ J : Nat, J ≤ n ∧ j = .int .i64 (J : Int) ∧ Below w.heap.size w wr ∧ ∀ x ∈ ls.take J, kyB x = true) (fun j _ => n - (intOf j).toNat)
  case atStart => exact ⟨0, by omega, rfl, Below.refl _ _, by simp⟩
  case round =>
    obtain ⟨w2, rfl⟩ : ∃ y : World, y = wr := ⟨_, rfl⟩
    obtain ⟨J, hJ, rfl, hb2, hall⟩ := hrel
    have HALL := Lib.hid hall
    clear hall
    by_cases hlt : J < n
    · obtain ⟨x, hx⟩ : ∃ x, ls[J]? = some x := ⟨_, List.getElem?_eq_getElem (by have := HN.out; omega)⟩
      obtain ⟨b, o, rfl⟩ : ∃ b o, a = some ⟨b, o, none⟩ := by
        rcases HA.out with h | ⟨b, o, e, _⟩
        · rw [h] at hx; simp at hx
        · exact ⟨b, o, e⟩
      obtain ⟨x0, x1⟩ := KyAt.at (HA.out.ext hb2) hx
      have HXS := Lib.hid (HS.out x (List.mem_of_getElem? hx))
      have HXX := Lib.hid hx
      have HB2 := Lib.hid hb2
      clear hx hb2
      obtain ⟨bx, hbx⟩ : ∃ b, kyB x = b := ⟨_, rfl⟩
      cases bx
      · have HBX := Lib.hid (show (!(kyB x)) = true from by rw [hbx]; rfl)
        have HANY := Lib.hid (show ls.any (fun x => !(kyB x)) = true from List.any_eq_true.2 ⟨x, List.mem_of_getElem? HXX.out, by rw [hbx]; rfl⟩)
        go_wp2_with fail
        refine (keyWrongIs x _ HXS.out.1 HXS.out.2).mono ?_
        rintro e w3 ⟨rfl, hb3⟩
        rw [HBX.out]
        have HB3 := Lib.hid (ext_trans HB2.out hb3)
        clear x0 x1 hb3
        go_wp2
        go_ret
        exact ⟨⟨_, rfl, by rw [HANY.out]; exact decide_eq_true (by omega)⟩, HB3.out⟩
      · have HBX := Lib.hid (show (!(kyB x)) = false from by rw [hbx]; rfl)
        have HT := Lib.hid (show ∀ y ∈ ls.take (J + 1), kyB y = true from fun y hy => by
          rw [List.take_add_one, HXX.out] at hy
          rcases List.mem_append.1 hy with hy | hy
          · exact HALL.out y hy
          · simp at hy; subst hy; exact hbx)
        go_wp2_with fail
        refine (keyWrongIs x _ HXS.out.1 HXS.out.2).mono ?_
        rintro e w3 ⟨rfl, hb3⟩
        rw [HBX.out]
        have HB3 := Lib.hid (ext_trans HB2.out hb3)
        clear x0 x1 hb3
        go_wp2
        go_roundw
        case rel => exact ⟨J + 1, by omega, by go_num, HB3.out, HT.out⟩
        case measure => simp [intOf]; omega
    · obtain rfl : J = n := by omega
      have HANY := Lib.hid (show ls.any (fun x => !(kyB x)) = false from by
        rw [List.any_eq_false]
        intro x hx
        rw [HALL.out x (by rw [List.take_of_length_le (by have := HN.out; omega)]; exact hx)]
        simp)
      go_wp2
      go_ret
      exact ⟨⟨_, rfl, by rw [HANY.out]; rfl⟩, hb2⟩

set_option maxRecDepth 100000 in
set_option maxHeartbeats 1000000 in
theorem containsKeys (a : Option Addr) (n c : Nat) (ls : List Ky) (w : World) (h : KyAt w a ls) (hl : ls.length = n) (hnc : n ≤ c) (hcm : c ≤ maxLen) (hs : ∀ x ∈ ls, x.1.size ≤ maxLen ∧ x.2.size ≤ maxLen) :
    Calls Tryd.prog 42 #[.slice a n c, .func (.func 43) #[] #[]] w fun r w' => r = .returned (.bool (ls.any (fun x => !(kyB x)))) ∧ Below w.heap.size w w' := by
  go_enter Tryd.func42, Tryd.ntmps42
  go_wp2_with fail
  refine (indexKeys a n c ls w h hl hnc hcm hs).mono ?_
  rintro e w1 ⟨⟨z, rfl, hz⟩, hb⟩
  have HZ := Lib.hid hz
  clear hz
  go_wp2
  go_ret
  exact ⟨by rw [← HZ.out]; rfl, hb⟩

end Go.Proofs.YtfdalmodnkkfiaaDoor
