/- Messages that are held against one another; what a kind has not. -/
import Derived.Test.YtfdalmodnkkfiaaDoorMlK
namespace Go.Proofs.YtfdalmodnkkfiaaDoor
open Go.RowKit
set_option linter.unusedVariables false
set_option linter.unusedSimpArgs false

/-- are these all zero? -/
def zB (op st cod tag n sq : Int) (k1 k2 : ByteArray) (fu : Bool) (su : Int) (cn kn : Nat) : Bool := decide (op = 0) && decide (st = 0) && decide (cod = 0) && decide (tag = 0) && decide (n = 0) && decide (sq = 0) && decide (k1 = ⟨#[]⟩) && decide (k2 = ⟨#[]⟩) && !fu && decide (su = 0) && decide (cn = 0) && decide (kn = 0)
set_option maxRecDepth 100000 in
set_option maxHeartbeats 1000000 in
theorem equalCardsZ (a : Option Addr) (n c : Nat) (w : World) (h1 : n ≤ c) (h2 : c ≤ maxLen) :
    Calls Tryd.prog 61 #[.slice a n c, .slice none 0 0] w fun r w' => r = .returned (.bool (decide (n = 0))) ∧ Below w.heap.size w w' := by
  unfold maxLen at h2
  cases n with
  | zero =>
    go_enter Tryd.func61, Tryd.ntmps61
    go_wp2_with fail
    go_loopw [13] (fun i wr => i = .int .i64 0 ∧ Below w.heap.size w wr) (fun i _ => 0)
    case atStart => exact ⟨rfl, Below.refl _ _⟩
    case round =>
      obtain ⟨w2, rfl⟩ : ∃ y : World, y = wr := ⟨_, rfl⟩
      obtain ⟨rfl, B2⟩ := hrel
      go_wp2
      go_ret
      exact ⟨rfl, B2⟩
  | succ m =>
    have hne : (((m + 1 : Nat) : Int) != 0) = true := by simpa using (show ((m : Int) + 1) ≠ 0 by omega)
    have hd : decide (m + 1 = 0) = false := by simp
    rw [hd]
    obtain ⟨q, hq⟩ : ∃ q : Nat, m + 1 = q := ⟨_, rfl⟩
    rw [hq] at hne h1 ⊢
    clear hd hq
    go_enter Tryd.func61, Tryd.ntmps61
    go_wp2
    go_ret
    exact ⟨rfl, Below.refl _ _⟩

set_option maxRecDepth 100000 in
set_option maxHeartbeats 1000000 in
theorem equalKeysZ (a : Option Addr) (n c : Nat) (w : World) (h1 : n ≤ c) (h2 : c ≤ maxLen) :
    Calls Tryd.prog 36 #[.slice a n c, .slice none 0 0] w fun r w' => r = .returned (.bool (decide (n = 0))) ∧ Below w.heap.size w w' := by
  unfold maxLen at h2
  cases n with
  | zero =>
    go_enter Tryd.func36, Tryd.ntmps36
    go_wp2_with fail
    go_loopw [13] (fun i wr => i = .int .i64 0 ∧ Below w.heap.size w wr) (fun i _ => 0)
    case atStart => exact ⟨rfl, Below.refl _ _⟩
    case round =>
      obtain ⟨w2, rfl⟩ : ∃ y : World, y = wr := ⟨_, rfl⟩
      obtain ⟨rfl, B2⟩ := hrel
      go_wp2
      go_ret
      exact ⟨rfl, B2⟩
  | succ m =>
    have hne : (((m + 1 : Nat) : Int) != 0) = true := by simpa using (show ((m : Int) + 1) ≠ 0 by omega)
    have hd : decide (m + 1 = 0) = false := by simp
    rw [hd]
    obtain ⟨q, hq⟩ : ∃ q : Nat, m + 1 = q := ⟨_, rfl⟩
    rw [hq] at hne h1 ⊢
    clear hd hq
    go_enter Tryd.func36, Tryd.ntmps36
    go_wp2
    go_ret
    exact ⟨rfl, Below.refl _ _⟩

set_option maxRecDepth 100000 in
set_option maxHeartbeats 1000000 in
theorem cardSameZ (a : Option Addr) (n c : Nat) (w : World) (h1 : n ≤ c) (h2 : c ≤ maxLen) :
    Calls Tryd.prog 35 #[.slice a n c, .slice none 0 0] w fun r w' => r = .returned (.bool (decide (n = 0))) ∧ Below w.heap.size w w' := by
  go_enter Tryd.func35, Tryd.ntmps35
  go_wp2_with fail
  refine (equalCardsZ a n c _ h1 h2).mono ?_
  rintro e w3 ⟨rfl, hb⟩
  go_wp2
  go_ret
  exact ⟨rfl, hb⟩

set_option maxRecDepth 100000 in
set_option maxHeartbeats 8000000 in
theorem mailSame0 (kd : Int) (ca : Option Addr) (cn cc : Nat) (ka : Option Addr) (kn kc : Nat) (w : World) (hc1 : cn ≤ cc) (hc2 : cc ≤ maxLen) (hk1 : kn ≤ kc) (hk2 : kc ≤ maxLen) :
    Calls Tryd.prog 16 #[.agg #[.int .i64 kd, .int .i64 0, .int .i64 0, .int .i64 0, .int .i64 0, .int .i64 0, .int .i64 0, .string ⟨#[]⟩, .string ⟨#[]⟩, .bool false, .int .u32 0, .slice ca cn cc, .slice ka kn kc], .agg #[.int .i64 kd, .int .i64 0, .int .i64 0, .int .i64 0, .int .i64 0, .int .i64 0, .int .i64 0, .string ⟨#[]⟩, .string ⟨#[]⟩, .bool false, .int .u32 0, .slice none 0 0, .slice none 0 0]] w fun r w' => r = .returned (.bool (decide (cn = 0) && decide (kn = 0))) ∧ Below w.heap.size w w' := by
  have hk19 := hk1
  have hk29 := hk2
  clear hk1 hk2
  by_cases h_cnn : ¬ cn = 0
  · have h_cn := h_cnn
    have HCN := Lib.hid (show decide (cn = 0) = false from decide_eq_false h_cn)
    have hee : ∀ z : Int, (z == z) = true := fun z => by simp
    have HRES := Lib.hid (show (decide (cn = 0) && decide (kn = 0)) = false from by simp [h_cn])
    have HB0 := Lib.hid (show Below w.heap.size w ((w.alloc (.cells #[.int .i64 kd, .int .i64 0, .int .i64 0, .int .i64 0, .int .i64 0, .int .i64 0, .int .i64 0, .string ⟨#[]⟩, .string ⟨#[]⟩, .bool false, .int .u32 0, .slice ca cn cc, .slice ka kn kc] 29)).alloc (.cells #[.int .i64 kd, .int .i64 0, .int .i64 0, .int .i64 0, .int .i64 0, .int .i64 0, .int .i64 0, .string ⟨#[]⟩, .string ⟨#[]⟩, .bool false, .int .u32 0, .slice none 0 0, .slice none 0 0] 29)) from ((Below.refl _ _).alloc (Nat.le_refl _) _).alloc (by simp) _)
    have HK := Lib.hid (blk_alloc (blk_new w #[.int .i64 kd, .int .i64 0, .int .i64 0, .int .i64 0, .int .i64 0, .int .i64 0, .int .i64 0, .string ⟨#[]⟩, .string ⟨#[]⟩, .bool false, .int .u32 0, .slice ca cn cc, .slice ka kn kc] 29) (.cells #[.int .i64 kd, .int .i64 0, .int .i64 0, .int .i64 0, .int .i64 0, .int .i64 0, .int .i64 0, .string ⟨#[]⟩, .string ⟨#[]⟩, .bool false, .int .u32 0, .slice none 0 0, .slice none 0 0] 29))
    have HR := Lib.hid (show ((w.alloc (.cells #[.int .i64 kd, .int .i64 0, .int .i64 0, .int .i64 0, .int .i64 0, .int .i64 0, .int .i64 0, .string ⟨#[]⟩, .string ⟨#[]⟩, .bool false, .int .u32 0, .slice ca cn cc, .slice ka kn kc] 29)).alloc (.cells #[.int .i64 kd, .int .i64 0, .int .i64 0, .int .i64 0, .int .i64 0, .int .i64 0, .int .i64 0, .string ⟨#[]⟩, .string ⟨#[]⟩, .bool false, .int .u32 0, .slice none 0 0, .slice none 0 0] 29)).heap[w.heap.size + 1]? = some (.cells #[.int .i64 kd, .int .i64 0, .int .i64 0, .int .i64 0, .int .i64 0, .int .i64 0, .int .i64 0, .string ⟨#[]⟩, .string ⟨#[]⟩, .bool false, .int .u32 0, .slice none 0 0, .slice none 0 0] 29 (0, 0)) from blk_new_at (by simp) _ _)
    go_enter Tryd.func16, Tryd.ntmps16
    go_upto_region 1 with (fail)
    obtain ⟨p, hp⟩ : ∃ p, w.heap.size = p := ⟨_, rfl⟩
    obtain ⟨r, hr⟩ : ∃ r, w.heap.size + 1 = r := ⟨_, rfl⟩
    have HRr := Lib.hid (show w.heap.size ≤ r by omega)
    rw [hp] at HK
    rw [hr] at HR
    try rw [hr]
    try rw [hp]
    try rw [hp] at hr
    try rw [hr]
    clear hr hp
    generalize ((w.alloc (.cells #[.int .i64 kd, .int .i64 0, .int .i64 0, .int .i64 0, .int .i64 0, .int .i64 0, .int .i64 0, .string ⟨#[]⟩, .string ⟨#[]⟩, .bool false, .int .u32 0, .slice ca cn cc, .slice ka kn kc] 29)).alloc (.cells #[.int .i64 kd, .int .i64 0, .int .i64 0, .int .i64 0, .int .i64 0, .int .i64 0, .int .i64 0, .string ⟨#[]⟩, .string ⟨#[]⟩, .bool false, .int .u32 0, .slice none 0 0, .slice none 0 0] 29)) = w1 at *
    have hk1 := blk_cell HK.out
    have hl1 := blk_lt HK.out
    have hk2 := blk_cell HR.out
    have hl2 := blk_lt HR.out
    go_wp2_with fail
    refine (cardSameZ ca cn cc _ hc1 hc2).mono ?_
    rintro e w3 ⟨rfl, hb⟩
    first | rw [HCN.out] | rw [show decide ((0 : Nat) = 0) = true from rfl]
    have HK3 := Lib.hid (blk_ext hb HK.out)
    have HR3 := Lib.hid (blk_ext hb HR.out)
    have HB3 := Lib.hid (ext_trans HB0.out hb)
    clear hk1 hl1 hk2 hl2 HK HR HB0 hb
    have hk1 := blk_cell HK3.out
    have hl1 := blk_lt HK3.out
    have hk2 := blk_cell HR3.out
    have hl2 := blk_lt HR3.out
    go_wp2
    go_ret
    exact ⟨by rw [HRES.out]; rfl, HB3.out⟩
  obtain rfl : cn = 0 := Classical.not_not.1 h_cnn
  have HCN := Lib.hid (show decide (0 = 0) = true from rfl)
  clear h_cnn
  have hee : ∀ z : Int, (z == z) = true := fun z => by simp
  have HRES := Lib.hid (show (decide ((0:Nat) = 0) && decide (kn = 0)) = decide (kn = 0) from by simp)
  have HB0 := Lib.hid (show Below w.heap.size w ((w.alloc (.cells #[.int .i64 kd, .int .i64 0, .int .i64 0, .int .i64 0, .int .i64 0, .int .i64 0, .int .i64 0, .string ⟨#[]⟩, .string ⟨#[]⟩, .bool false, .int .u32 0, .slice ca 0 cc, .slice ka kn kc] 29)).alloc (.cells #[.int .i64 kd, .int .i64 0, .int .i64 0, .int .i64 0, .int .i64 0, .int .i64 0, .int .i64 0, .string ⟨#[]⟩, .string ⟨#[]⟩, .bool false, .int .u32 0, .slice none 0 0, .slice none 0 0] 29)) from ((Below.refl _ _).alloc (Nat.le_refl _) _).alloc (by simp) _)
  have HK := Lib.hid (blk_alloc (blk_new w #[.int .i64 kd, .int .i64 0, .int .i64 0, .int .i64 0, .int .i64 0, .int .i64 0, .int .i64 0, .string ⟨#[]⟩, .string ⟨#[]⟩, .bool false, .int .u32 0, .slice ca 0 cc, .slice ka kn kc] 29) (.cells #[.int .i64 kd, .int .i64 0, .int .i64 0, .int .i64 0, .int .i64 0, .int .i64 0, .int .i64 0, .string ⟨#[]⟩, .string ⟨#[]⟩, .bool false, .int .u32 0, .slice none 0 0, .slice none 0 0] 29))
  have HR := Lib.hid (show ((w.alloc (.cells #[.int .i64 kd, .int .i64 0, .int .i64 0, .int .i64 0, .int .i64 0, .int .i64 0, .int .i64 0, .string ⟨#[]⟩, .string ⟨#[]⟩, .bool false, .int .u32 0, .slice ca 0 cc, .slice ka kn kc] 29)).alloc (.cells #[.int .i64 kd, .int .i64 0, .int .i64 0, .int .i64 0, .int .i64 0, .int .i64 0, .int .i64 0, .string ⟨#[]⟩, .string ⟨#[]⟩, .bool false, .int .u32 0, .slice none 0 0, .slice none 0 0] 29)).heap[w.heap.size + 1]? = some (.cells #[.int .i64 kd, .int .i64 0, .int .i64 0, .int .i64 0, .int .i64 0, .int .i64 0, .int .i64 0, .string ⟨#[]⟩, .string ⟨#[]⟩, .bool false, .int .u32 0, .slice none 0 0, .slice none 0 0] 29 (0, 0)) from blk_new_at (by simp) _ _)
  go_enter Tryd.func16, Tryd.ntmps16
  go_upto_region 1 with (fail)
  obtain ⟨p, hp⟩ : ∃ p, w.heap.size = p := ⟨_, rfl⟩
  obtain ⟨r, hr⟩ : ∃ r, w.heap.size + 1 = r := ⟨_, rfl⟩
  have HRr := Lib.hid (show w.heap.size ≤ r by omega)
  rw [hp] at HK
  rw [hr] at HR
  try rw [hr]
  try rw [hp]
  try rw [hp] at hr
  try rw [hr]
  clear hr hp
  generalize ((w.alloc (.cells #[.int .i64 kd, .int .i64 0, .int .i64 0, .int .i64 0, .int .i64 0, .int .i64 0, .int .i64 0, .string ⟨#[]⟩, .string ⟨#[]⟩, .bool false, .int .u32 0, .slice ca 0 cc, .slice ka kn kc] 29)).alloc (.cells #[.int .i64 kd, .int .i64 0, .int .i64 0, .int .i64 0, .int .i64 0, .int .i64 0, .int .i64 0, .string ⟨#[]⟩, .string ⟨#[]⟩, .bool false, .int .u32 0, .slice none 0 0, .slice none 0 0] 29)) = w1 at *
  have hk1 := blk_cell HK.out
  have hl1 := blk_lt HK.out
  have hk2 := blk_cell HR.out
  have hl2 := blk_lt HR.out
  go_wp2_with fail
  refine (cardSameZ ca 0 cc _ hc1 hc2).mono ?_
  rintro e w3 ⟨rfl, hb⟩
  first | rw [HCN.out] | rw [show decide ((0 : Nat) = 0) = true from rfl]
  have HK3 := Lib.hid (blk_ext hb HK.out)
  have HR3 := Lib.hid (blk_ext hb HR.out)
  have HB3 := Lib.hid (ext_trans HB0.out hb)
  clear hk1 hl1 hk2 hl2 HK HR HB0 hb
  have hk1 := blk_cell HK3.out
  have hl1 := blk_lt HK3.out
  have hk2 := blk_cell HR3.out
  have hl2 := blk_lt HR3.out
  go_wp2_with fail
  refine (equalKeysZ ka kn kc _ hk19 hk29).mono ?_
  rintro e w4 ⟨rfl, hb⟩
  have HB4 := Lib.hid (ext_trans HB3.out hb)
  clear hk1 hl1 hk2 hl2 HK3 HR3 HB3 hb
  go_wp2
  go_ret
  exact ⟨by rw [HRES.out]; rfl, HB4.out⟩

set_option maxRecDepth 100000 in
set_option maxHeartbeats 2000000 in
theorem mailWithout1 (op st cod tag n sq : Int) (k1 k2 : ByteArray) (fu : Bool) (su : Int) (ca : Option Addr) (cn cc : Nat) (ka : Option Addr) (kn kc : Nat) (w : World) :
    Calls Tryd.prog 38 #[.agg #[.int .i64 1, .int .i64 op, .int .i64 st, .int .i64 cod, .int .i64 tag, .int .i64 n, .int .i64 sq, .string k1, .string k2, .bool fu, .int .u32 su, .slice ca cn cc, .slice ka kn kc]] w fun r w' => r = .returned (.agg #[.int .i64 1, .int .i64 0, .int .i64 0, .int .i64 cod, .int .i64 0, .int .i64 0, .int .i64 0, .string ⟨#[]⟩, .string ⟨#[]⟩, .bool fu, .int .u32 su, .slice ca cn cc, .slice ka kn kc]) ∧ Below w.heap.size w w' := by
  have D0 := Lib.hid (show Below w.heap.size w ((w.alloc (.cells #[.int .i64 1, .int .i64 0, .int .i64 0, .int .i64 cod, .int .i64 0, .int .i64 0, .int .i64 0, .string ⟨#[]⟩, .string ⟨#[]⟩, .bool fu, .int .u32 su, .slice ca cn cc, .slice ka kn kc] 29)).alloc (.cells #[.int .i64 0, .int .i64 0, .int .i64 0, .int .i64 0, .int .i64 0, .int .i64 0, .int .i64 0, .string ⟨#[]⟩, .string ⟨#[]⟩, .bool false, .int .u32 0, .slice none 0 0, .slice none 0 0] 29)) from ((Below.refl _ _).alloc (Nat.le_refl _) _).alloc (by simp) _)
  have HX := Lib.hid (blk_alloc (blk_new w #[.int .i64 1, .int .i64 0, .int .i64 0, .int .i64 cod, .int .i64 0, .int .i64 0, .int .i64 0, .string ⟨#[]⟩, .string ⟨#[]⟩, .bool fu, .int .u32 su, .slice ca cn cc, .slice ka kn kc] 29) (.cells #[.int .i64 0, .int .i64 0, .int .i64 0, .int .i64 0, .int .i64 0, .int .i64 0, .int .i64 0, .string ⟨#[]⟩, .string ⟨#[]⟩, .bool false, .int .u32 0, .slice none 0 0, .slice none 0 0] 29))
  have HR := Lib.hid (show ((w.alloc (.cells #[.int .i64 1, .int .i64 0, .int .i64 0, .int .i64 cod, .int .i64 0, .int .i64 0, .int .i64 0, .string ⟨#[]⟩, .string ⟨#[]⟩, .bool fu, .int .u32 su, .slice ca cn cc, .slice ka kn kc] 29)).alloc (.cells #[.int .i64 0, .int .i64 0, .int .i64 0, .int .i64 0, .int .i64 0, .int .i64 0, .int .i64 0, .string ⟨#[]⟩, .string ⟨#[]⟩, .bool false, .int .u32 0, .slice none 0 0, .slice none 0 0] 29)).heap[w.heap.size + 1]? = some (.cells #[.int .i64 0, .int .i64 0, .int .i64 0, .int .i64 0, .int .i64 0, .int .i64 0, .int .i64 0, .string ⟨#[]⟩, .string ⟨#[]⟩, .bool false, .int .u32 0, .slice none 0 0, .slice none 0 0] 29 (0, 0)) from blk_new_at (by simp) _ _)
  go_enter Tryd.func38, Tryd.ntmps38
  go_upto_region 11 with (fail)
  obtain ⟨p, hp⟩ : ∃ p, w.heap.size = p := ⟨_, rfl⟩
  obtain ⟨r, hr⟩ : ∃ r, w.heap.size + 1 = r := ⟨_, rfl⟩
  have HRr := Lib.hid (show w.heap.size ≤ r by omega)
  rw [hp] at HX
  rw [hr] at HR
  try rw [hr]
  try rw [hp]
  try rw [hp] at hr
  try rw [hr]
  clear hr hp
  generalize ((w.alloc (.cells #[.int .i64 1, .int .i64 0, .int .i64 0, .int .i64 cod, .int .i64 0, .int .i64 0, .int .i64 0, .string ⟨#[]⟩, .string ⟨#[]⟩, .bool fu, .int .u32 su, .slice ca cn cc, .slice ka kn kc] 29)).alloc (.cells #[.int .i64 0, .int .i64 0, .int .i64 0, .int .i64 0, .int .i64 0, .int .i64 0, .int .i64 0, .string ⟨#[]⟩, .string ⟨#[]⟩, .bool false, .int .u32 0, .slice none 0 0, .slice none 0 0] 29)) = w1 at *
  have hk := blk_cell HX.out
  have hl := blk_lt HX.out
  have hk3 := blk_cell HR.out
  have hf3 := blk_free HR.out
  have hl3 := blk_lt HR.out
  go_wp2_with fail
  exact bodyPost_ret (v := .agg #[.int .i64 1, .int .i64 0, .int .i64 0, .int .i64 cod, .int .i64 0, .int .i64 0, .int .i64 0, .string ⟨#[]⟩, .string ⟨#[]⟩, .bool fu, .int .u32 su, .slice ca cn cc, .slice ka kn kc]) (by have hk2 := blk_cell (blk_fill13 (v0 := .int .i64 1) (v1 := .int .i64 0) (v2 := .int .i64 0) (v3 := .int .i64 cod) (v4 := .int .i64 0) (v5 := .int .i64 0) (v6 := .int .i64 0) (v7 := .string ⟨#[]⟩) (v8 := .string ⟨#[]⟩) (v9 := .bool fu) (v10 := .int .u32 su) (v11 := .slice ca cn cc) (v12 := .slice ka kn kc) HR.out rfl); simp [results, Tryd.results38, go_sem, hk2]) rfl ⟨rfl, below_fill13 D0.out HRr.out⟩

set_option maxRecDepth 100000 in
set_option maxHeartbeats 2000000 in
theorem mailWithout2 (op st cod tag n sq : Int) (k1 k2 : ByteArray) (fu : Bool) (su : Int) (ca : Option Addr) (cn cc : Nat) (ka : Option Addr) (kn kc : Nat) (w : World) :
    Calls Tryd.prog 38 #[.agg #[.int .i64 2, .int .i64 op, .int .i64 st, .int .i64 cod, .int .i64 tag, .int .i64 n, .int .i64 sq, .string k1, .string k2, .bool fu, .int .u32 su, .slice ca cn cc, .slice ka kn kc]] w fun r w' => r = .returned (.agg #[.int .i64 2, .int .i64 0, .int .i64 st, .int .i64 0, .int .i64 0, .int .i64 n, .int .i64 0, .string ⟨#[]⟩, .string ⟨#[]⟩, .bool false, .int .u32 0, .slice none 0 0, .slice ka kn kc]) ∧ Below w.heap.size w w' := by
  have D0 := Lib.hid (show Below w.heap.size w ((w.alloc (.cells #[.int .i64 2, .int .i64 0, .int .i64 st, .int .i64 0, .int .i64 0, .int .i64 n, .int .i64 0, .string ⟨#[]⟩, .string ⟨#[]⟩, .bool false, .int .u32 0, .slice none 0 0, .slice ka kn kc] 29)).alloc (.cells #[.int .i64 0, .int .i64 0, .int .i64 0, .int .i64 0, .int .i64 0, .int .i64 0, .int .i64 0, .string ⟨#[]⟩, .string ⟨#[]⟩, .bool false, .int .u32 0, .slice none 0 0, .slice none 0 0] 29)) from ((Below.refl _ _).alloc (Nat.le_refl _) _).alloc (by simp) _)
  have HX := Lib.hid (blk_alloc (blk_new w #[.int .i64 2, .int .i64 0, .int .i64 st, .int .i64 0, .int .i64 0, .int .i64 n, .int .i64 0, .string ⟨#[]⟩, .string ⟨#[]⟩, .bool false, .int .u32 0, .slice none 0 0, .slice ka kn kc] 29) (.cells #[.int .i64 0, .int .i64 0, .int .i64 0, .int .i64 0, .int .i64 0, .int .i64 0, .int .i64 0, .string ⟨#[]⟩, .string ⟨#[]⟩, .bool false, .int .u32 0, .slice none 0 0, .slice none 0 0] 29))
  have HR := Lib.hid (show ((w.alloc (.cells #[.int .i64 2, .int .i64 0, .int .i64 st, .int .i64 0, .int .i64 0, .int .i64 n, .int .i64 0, .string ⟨#[]⟩, .string ⟨#[]⟩, .bool false, .int .u32 0, .slice none 0 0, .slice ka kn kc] 29)).alloc (.cells #[.int .i64 0, .int .i64 0, .int .i64 0, .int .i64 0, .int .i64 0, .int .i64 0, .int .i64 0, .string ⟨#[]⟩, .string ⟨#[]⟩, .bool false, .int .u32 0, .slice none 0 0, .slice none 0 0] 29)).heap[w.heap.size + 1]? = some (.cells #[.int .i64 0, .int .i64 0, .int .i64 0, .int .i64 0, .int .i64 0, .int .i64 0, .int .i64 0, .string ⟨#[]⟩, .string ⟨#[]⟩, .bool false, .int .u32 0, .slice none 0 0, .slice none 0 0] 29 (0, 0)) from blk_new_at (by simp) _ _)
  go_enter Tryd.func38, Tryd.ntmps38
  go_upto_region 11 with (fail)
  obtain ⟨p, hp⟩ : ∃ p, w.heap.size = p := ⟨_, rfl⟩
  obtain ⟨r, hr⟩ : ∃ r, w.heap.size + 1 = r := ⟨_, rfl⟩
  have HRr := Lib.hid (show w.heap.size ≤ r by omega)
  rw [hp] at HX
  rw [hr] at HR
  try rw [hr]
  try rw [hp]
  try rw [hp] at hr
  try rw [hr]
  clear hr hp
  generalize ((w.alloc (.cells #[.int .i64 2, .int .i64 0, .int .i64 st, .int .i64 0, .int .i64 0, .int .i64 n, .int .i64 0, .string ⟨#[]⟩, .string ⟨#[]⟩, .bool false, .int .u32 0, .slice none 0 0, .slice ka kn kc] 29)).alloc (.cells #[.int .i64 0, .int .i64 0, .int .i64 0, .int .i64 0, .int .i64 0, .int .i64 0, .int .i64 0, .string ⟨#[]⟩, .string ⟨#[]⟩, .bool false, .int .u32 0, .slice none 0 0, .slice none 0 0] 29)) = w1 at *
  have hk := blk_cell HX.out
  have hl := blk_lt HX.out
  have hk3 := blk_cell HR.out
  have hf3 := blk_free HR.out
  have hl3 := blk_lt HR.out
  go_wp2_with fail
  exact bodyPost_ret (v := .agg #[.int .i64 2, .int .i64 0, .int .i64 st, .int .i64 0, .int .i64 0, .int .i64 n, .int .i64 0, .string ⟨#[]⟩, .string ⟨#[]⟩, .bool false, .int .u32 0, .slice none 0 0, .slice ka kn kc]) (by have hk2 := blk_cell (blk_fill13 (v0 := .int .i64 2) (v1 := .int .i64 0) (v2 := .int .i64 st) (v3 := .int .i64 0) (v4 := .int .i64 0) (v5 := .int .i64 n) (v6 := .int .i64 0) (v7 := .string ⟨#[]⟩) (v8 := .string ⟨#[]⟩) (v9 := .bool false) (v10 := .int .u32 0) (v11 := .slice none 0 0) (v12 := .slice ka kn kc) HR.out rfl); simp [results, Tryd.results38, go_sem, hk2]) rfl ⟨rfl, below_fill13 D0.out HRr.out⟩

set_option maxRecDepth 100000 in
set_option maxHeartbeats 2000000 in
theorem mailWithout3 (op st cod tag n sq : Int) (k1 k2 : ByteArray) (fu : Bool) (su : Int) (ca : Option Addr) (cn cc : Nat) (ka : Option Addr) (kn kc : Nat) (w : World) :
    Calls Tryd.prog 38 #[.agg #[.int .i64 3, .int .i64 op, .int .i64 st, .int .i64 cod, .int .i64 tag, .int .i64 n, .int .i64 sq, .string k1, .string k2, .bool fu, .int .u32 su, .slice ca cn cc, .slice ka kn kc]] w fun r w' => r = .returned (.agg #[.int .i64 3, .int .i64 op, .int .i64 st, .int .i64 cod, .int .i64 tag, .int .i64 n, .int .i64 sq, .string k1, .string k2, .bool fu, .int .u32 su, .slice none 0 0, .slice ka kn kc]) ∧ Below w.heap.size w w' := by
  have D0 := Lib.hid (show Below w.heap.size w ((w.alloc (.cells #[.int .i64 3, .int .i64 op, .int .i64 st, .int .i64 cod, .int .i64 tag, .int .i64 n, .int .i64 sq, .string k1, .string k2, .bool fu, .int .u32 su, .slice none 0 0, .slice ka kn kc] 29)).alloc (.cells #[.int .i64 0, .int .i64 0, .int .i64 0, .int .i64 0, .int .i64 0, .int .i64 0, .int .i64 0, .string ⟨#[]⟩, .string ⟨#[]⟩, .bool false, .int .u32 0, .slice none 0 0, .slice none 0 0] 29)) from ((Below.refl _ _).alloc (Nat.le_refl _) _).alloc (by simp) _)
  have HX := Lib.hid (blk_alloc (blk_new w #[.int .i64 3, .int .i64 op, .int .i64 st, .int .i64 cod, .int .i64 tag, .int .i64 n, .int .i64 sq, .string k1, .string k2, .bool fu, .int .u32 su, .slice none 0 0, .slice ka kn kc] 29) (.cells #[.int .i64 0, .int .i64 0, .int .i64 0, .int .i64 0, .int .i64 0, .int .i64 0, .int .i64 0, .string ⟨#[]⟩, .string ⟨#[]⟩, .bool false, .int .u32 0, .slice none 0 0, .slice none 0 0] 29))
  have HR := Lib.hid (show ((w.alloc (.cells #[.int .i64 3, .int .i64 op, .int .i64 st, .int .i64 cod, .int .i64 tag, .int .i64 n, .int .i64 sq, .string k1, .string k2, .bool fu, .int .u32 su, .slice none 0 0, .slice ka kn kc] 29)).alloc (.cells #[.int .i64 0, .int .i64 0, .int .i64 0, .int .i64 0, .int .i64 0, .int .i64 0, .int .i64 0, .string ⟨#[]⟩, .string ⟨#[]⟩, .bool false, .int .u32 0, .slice none 0 0, .slice none 0 0] 29)).heap[w.heap.size + 1]? = some (.cells #[.int .i64 0, .int .i64 0, .int .i64 0, .int .i64 0, .int .i64 0, .int .i64 0, .int .i64 0, .string ⟨#[]⟩, .string ⟨#[]⟩, .bool false, .int .u32 0, .slice none 0 0, .slice none 0 0] 29 (0, 0)) from blk_new_at (by simp) _ _)
  go_enter Tryd.func38, Tryd.ntmps38
  go_upto_region 11 with (fail)
  obtain ⟨p, hp⟩ : ∃ p, w.heap.size = p := ⟨_, rfl⟩
  obtain ⟨r, hr⟩ : ∃ r, w.heap.size + 1 = r := ⟨_, rfl⟩
  have HRr := Lib.hid (show w.heap.size ≤ r by omega)
  rw [hp] at HX
  rw [hr] at HR
  try rw [hr]
  try rw [hp]
  try rw [hp] at hr
  try rw [hr]
  clear hr hp
  generalize ((w.alloc (.cells #[.int .i64 3, .int .i64 op, .int .i64 st, .int .i64 cod, .int .i64 tag, .int .i64 n, .int .i64 sq, .string k1, .string k2, .bool fu, .int .u32 su, .slice none 0 0, .slice ka kn kc] 29)).alloc (.cells #[.int .i64 0, .int .i64 0, .int .i64 0, .int .i64 0, .int .i64 0, .int .i64 0, .int .i64 0, .string ⟨#[]⟩, .string ⟨#[]⟩, .bool false, .int .u32 0, .slice none 0 0, .slice none 0 0] 29)) = w1 at *
  have hk := blk_cell HX.out
  have hl := blk_lt HX.out
  have hk3 := blk_cell HR.out
  have hf3 := blk_free HR.out
  have hl3 := blk_lt HR.out
  go_wp2_with fail
  exact bodyPost_ret (v := .agg #[.int .i64 3, .int .i64 op, .int .i64 st, .int .i64 cod, .int .i64 tag, .int .i64 n, .int .i64 sq, .string k1, .string k2, .bool fu, .int .u32 su, .slice none 0 0, .slice ka kn kc]) (by have hk2 := blk_cell (blk_fill13 (v0 := .int .i64 3) (v1 := .int .i64 op) (v2 := .int .i64 st) (v3 := .int .i64 cod) (v4 := .int .i64 tag) (v5 := .int .i64 n) (v6 := .int .i64 sq) (v7 := .string k1) (v8 := .string k2) (v9 := .bool fu) (v10 := .int .u32 su) (v11 := .slice none 0 0) (v12 := .slice ka kn kc) HR.out rfl); simp [results, Tryd.results38, go_sem, hk2]) rfl ⟨rfl, below_fill13 D0.out HRr.out⟩

set_option maxRecDepth 100000 in
set_option maxHeartbeats 2000000 in
theorem mailWithout4 (op st cod tag n sq : Int) (k1 k2 : ByteArray) (fu : Bool) (su : Int) (ca : Option Addr) (cn cc : Nat) (ka : Option Addr) (kn kc : Nat) (w : World) :
    Calls Tryd.prog 38 #[.agg #[.int .i64 4, .int .i64 op, .int .i64 st, .int .i64 cod, .int .i64 tag, .int .i64 n, .int .i64 sq, .string k1, .string k2, .bool fu, .int .u32 su, .slice ca cn cc, .slice ka kn kc]] w fun r w' => r = .returned (.agg #[.int .i64 4, .int .i64 op, .int .i64 st, .int .i64 cod, .int .i64 tag, .int .i64 n, .int .i64 sq, .string k1, .string k2, .bool fu, .int .u32 su, .slice none 0 0, .slice ka kn kc]) ∧ Below w.heap.size w w' := by
  have D0 := Lib.hid (show Below w.heap.size w ((w.alloc (.cells #[.int .i64 4, .int .i64 op, .int .i64 st, .int .i64 cod, .int .i64 tag, .int .i64 n, .int .i64 sq, .string k1, .string k2, .bool fu, .int .u32 su, .slice none 0 0, .slice ka kn kc] 29)).alloc (.cells #[.int .i64 0, .int .i64 0, .int .i64 0, .int .i64 0, .int .i64 0, .int .i64 0, .int .i64 0, .string ⟨#[]⟩, .string ⟨#[]⟩, .bool false, .int .u32 0, .slice none 0 0, .slice none 0 0] 29)) from ((Below.refl _ _).alloc (Nat.le_refl _) _).alloc (by simp) _)
  have HX := Lib.hid (blk_alloc (blk_new w #[.int .i64 4, .int .i64 op, .int .i64 st, .int .i64 cod, .int .i64 tag, .int .i64 n, .int .i64 sq, .string k1, .string k2, .bool fu, .int .u32 su, .slice none 0 0, .slice ka kn kc] 29) (.cells #[.int .i64 0, .int .i64 0, .int .i64 0, .int .i64 0, .int .i64 0, .int .i64 0, .int .i64 0, .string ⟨#[]⟩, .string ⟨#[]⟩, .bool false, .int .u32 0, .slice none 0 0, .slice none 0 0] 29))
  have HR := Lib.hid (show ((w.alloc (.cells #[.int .i64 4, .int .i64 op, .int .i64 st, .int .i64 cod, .int .i64 tag, .int .i64 n, .int .i64 sq, .string k1, .string k2, .bool fu, .int .u32 su, .slice none 0 0, .slice ka kn kc] 29)).alloc (.cells #[.int .i64 0, .int .i64 0, .int .i64 0, .int .i64 0, .int .i64 0, .int .i64 0, .int .i64 0, .string ⟨#[]⟩, .string ⟨#[]⟩, .bool false, .int .u32 0, .slice none 0 0, .slice none 0 0] 29)).heap[w.heap.size + 1]? = some (.cells #[.int .i64 0, .int .i64 0, .int .i64 0, .int .i64 0, .int .i64 0, .int .i64 0, .int .i64 0, .string ⟨#[]⟩, .string ⟨#[]⟩, .bool false, .int .u32 0, .slice none 0 0, .slice none 0 0] 29 (0, 0)) from blk_new_at (by simp) _ _)
  go_enter Tryd.func38, Tryd.ntmps38
  go_upto_region 11 with (fail)
  obtain ⟨p, hp⟩ : ∃ p, w.heap.size = p := ⟨_, rfl⟩
  obtain ⟨r, hr⟩ : ∃ r, w.heap.size + 1 = r := ⟨_, rfl⟩
  have HRr := Lib.hid (show w.heap.size ≤ r by omega)
  rw [hp] at HX
  rw [hr] at HR
  try rw [hr]
  try rw [hp]
  try rw [hp] at hr
  try rw [hr]
  clear hr hp
  generalize ((w.alloc (.cells #[.int .i64 4, .int .i64 op, .int .i64 st, .int .i64 cod, .int .i64 tag, .int .i64 n, .int .i64 sq, .string k1, .string k2, .bool fu, .int .u32 su, .slice none 0 0, .slice ka kn kc] 29)).alloc (.cells #[.int .i64 0, .int .i64 0, .int .i64 0, .int .i64 0, .int .i64 0, .int .i64 0, .int .i64 0, .string ⟨#[]⟩, .string ⟨#[]⟩, .bool false, .int .u32 0, .slice none 0 0, .slice none 0 0] 29)) = w1 at *
  have hk := blk_cell HX.out
  have hl := blk_lt HX.out
  have hk3 := blk_cell HR.out
  have hf3 := blk_free HR.out
  have hl3 := blk_lt HR.out
  go_wp2_with fail
  exact bodyPost_ret (v := .agg #[.int .i64 4, .int .i64 op, .int .i64 st, .int .i64 cod, .int .i64 tag, .int .i64 n, .int .i64 sq, .string k1, .string k2, .bool fu, .int .u32 su, .slice none 0 0, .slice ka kn kc]) (by have hk2 := blk_cell (blk_fill13 (v0 := .int .i64 4) (v1 := .int .i64 op) (v2 := .int .i64 st) (v3 := .int .i64 cod) (v4 := .int .i64 tag) (v5 := .int .i64 n) (v6 := .int .i64 sq) (v7 := .string k1) (v8 := .string k2) (v9 := .bool fu) (v10 := .int .u32 su) (v11 := .slice none 0 0) (v12 := .slice ka kn kc) HR.out rfl); simp [results, Tryd.results38, go_sem, hk2]) rfl ⟨rfl, below_fill13 D0.out HRr.out⟩

set_option maxRecDepth 100000 in
set_option maxHeartbeats 2000000 in
theorem mailWithout5 (op st cod tag n sq : Int) (k1 k2 : ByteArray) (fu : Bool) (su : Int) (ca : Option Addr) (cn cc : Nat) (ka : Option Addr) (kn kc : Nat) (w : World) :
    Calls Tryd.prog 38 #[.agg #[.int .i64 5, .int .i64 op, .int .i64 st, .int .i64 cod, .int .i64 tag, .int .i64 n, .int .i64 sq, .string k1, .string k2, .bool fu, .int .u32 su, .slice ca cn cc, .slice ka kn kc]] w fun r w' => r = .returned (.agg #[.int .i64 5, .int .i64 op, .int .i64 st, .int .i64 cod, .int .i64 tag, .int .i64 n, .int .i64 sq, .string k1, .string k2, .bool fu, .int .u32 su, .slice ca cn cc, .slice none 0 0]) ∧ Below w.heap.size w w' := by
  have D0 := Lib.hid (show Below w.heap.size w ((w.alloc (.cells #[.int .i64 5, .int .i64 op, .int .i64 st, .int .i64 cod, .int .i64 tag, .int .i64 n, .int .i64 sq, .string k1, .string k2, .bool fu, .int .u32 su, .slice ca cn cc, .slice none 0 0] 29)).alloc (.cells #[.int .i64 0, .int .i64 0, .int .i64 0, .int .i64 0, .int .i64 0, .int .i64 0, .int .i64 0, .string ⟨#[]⟩, .string ⟨#[]⟩, .bool false, .int .u32 0, .slice none 0 0, .slice none 0 0] 29)) from ((Below.refl _ _).alloc (Nat.le_refl _) _).alloc (by simp) _)
  have HX := Lib.hid (blk_alloc (blk_new w #[.int .i64 5, .int .i64 op, .int .i64 st, .int .i64 cod, .int .i64 tag, .int .i64 n, .int .i64 sq, .string k1, .string k2, .bool fu, .int .u32 su, .slice ca cn cc, .slice none 0 0] 29) (.cells #[.int .i64 0, .int .i64 0, .int .i64 0, .int .i64 0, .int .i64 0, .int .i64 0, .int .i64 0, .string ⟨#[]⟩, .string ⟨#[]⟩, .bool false, .int .u32 0, .slice none 0 0, .slice none 0 0] 29))
  have HR := Lib.hid (show ((w.alloc (.cells #[.int .i64 5, .int .i64 op, .int .i64 st, .int .i64 cod, .int .i64 tag, .int .i64 n, .int .i64 sq, .string k1, .string k2, .bool fu, .int .u32 su, .slice ca cn cc, .slice none 0 0] 29)).alloc (.cells #[.int .i64 0, .int .i64 0, .int .i64 0, .int .i64 0, .int .i64 0, .int .i64 0, .int .i64 0, .string ⟨#[]⟩, .string ⟨#[]⟩, .bool false, .int .u32 0, .slice none 0 0, .slice none 0 0] 29)).heap[w.heap.size + 1]? = some (.cells #[.int .i64 0, .int .i64 0, .int .i64 0, .int .i64 0, .int .i64 0, .int .i64 0, .int .i64 0, .string ⟨#[]⟩, .string ⟨#[]⟩, .bool false, .int .u32 0, .slice none 0 0, .slice none 0 0] 29 (0, 0)) from blk_new_at (by simp) _ _)
  go_enter Tryd.func38, Tryd.ntmps38
  go_upto_region 11 with (fail)
  obtain ⟨p, hp⟩ : ∃ p, w.heap.size = p := ⟨_, rfl⟩
  obtain ⟨r, hr⟩ : ∃ r, w.heap.size + 1 = r := ⟨_, rfl⟩
  have HRr := Lib.hid (show w.heap.size ≤ r by omega)
  rw [hp] at HX
  rw [hr] at HR
  try rw [hr]
  try rw [hp]
  try rw [hp] at hr
  try rw [hr]
  clear hr hp
  generalize ((w.alloc (.cells #[.int .i64 5, .int .i64 op, .int .i64 st, .int .i64 cod, .int .i64 tag, .int .i64 n, .int .i64 sq, .string k1, .string k2, .bool fu, .int .u32 su, .slice ca cn cc, .slice none 0 0] 29)).alloc (.cells #[.int .i64 0, .int .i64 0, .int .i64 0, .int .i64 0, .int .i64 0, .int .i64 0, .int .i64 0, .string ⟨#[]⟩, .string ⟨#[]⟩, .bool false, .int .u32 0, .slice none 0 0, .slice none 0 0] 29)) = w1 at *
  have hk := blk_cell HX.out
  have hl := blk_lt HX.out
  have hk3 := blk_cell HR.out
  have hf3 := blk_free HR.out
  have hl3 := blk_lt HR.out
  go_wp2_with fail
  exact bodyPost_ret (v := .agg #[.int .i64 5, .int .i64 op, .int .i64 st, .int .i64 cod, .int .i64 tag, .int .i64 n, .int .i64 sq, .string k1, .string k2, .bool fu, .int .u32 su, .slice ca cn cc, .slice none 0 0]) (by have hk2 := blk_cell (blk_fill13 (v0 := .int .i64 5) (v1 := .int .i64 op) (v2 := .int .i64 st) (v3 := .int .i64 cod) (v4 := .int .i64 tag) (v5 := .int .i64 n) (v6 := .int .i64 sq) (v7 := .string k1) (v8 := .string k2) (v9 := .bool fu) (v10 := .int .u32 su) (v11 := .slice ca cn cc) (v12 := .slice none 0 0) HR.out rfl); simp [results, Tryd.results38, go_sem, hk2]) rfl ⟨rfl, below_fill13 D0.out HRr.out⟩

end Go.Proofs.YtfdalmodnkkfiaaDoor
