/- Which messages of a feed are right: with a tag. -/
import Derived.Test.YtkhcgopehmndgaaCnM
namespace Go.Proofs.Ytkhcgopehmndgaa
open Go.RowKit
set_option linter.unusedVariables false
set_option linter.unusedSimpArgs false

set_option maxRecDepth 100000 in
set_option maxHeartbeats 2000000 in
theorem mailWithoutT (tg : Int) (full : Bool) (q s : Int) (a : Option Addr) (n c : Nat) (w : World) :
    Calls Try.prog 65 #[.agg #[.int .i64 2, .int .i64 5, .int .i64 0, .int .i64 0, .int .i64 tg, .int .i64 0, .int .i64 q, .string ⟨#[]⟩, .string ⟨#[]⟩, .bool full, .int .u32 s, .slice a n c, .slice none 0 0]] w fun r w' => r = .returned (.agg #[.int .i64 2, .int .i64 0, .int .i64 0, .int .i64 0, .int .i64 0, .int .i64 0, .int .i64 0, .string ⟨#[]⟩, .string ⟨#[]⟩, .bool false, .int .u32 0, .slice none 0 0, .slice none 0 0]) ∧ Below w.heap.size w w' := by
  have D0 := Lib.hid (show Below w.heap.size w ((w.alloc (.cells #[.int .i64 2, .int .i64 0, .int .i64 0, .int .i64 0, .int .i64 0, .int .i64 0, .int .i64 0, .string ⟨#[]⟩, .string ⟨#[]⟩, .bool false, .int .u32 0, .slice none 0 0, .slice none 0 0] 36)).alloc (.cells #[.int .i64 0, .int .i64 0, .int .i64 0, .int .i64 0, .int .i64 0, .int .i64 0, .int .i64 0, .string ⟨#[]⟩, .string ⟨#[]⟩, .bool false, .int .u32 0, .slice none 0 0, .slice none 0 0] 36)) from ((Below.refl _ _).alloc (Nat.le_refl _) _).alloc (by simp) _)
  have HX := Lib.hid (blk_alloc (blk_new w #[.int .i64 2, .int .i64 0, .int .i64 0, .int .i64 0, .int .i64 0, .int .i64 0, .int .i64 0, .string ⟨#[]⟩, .string ⟨#[]⟩, .bool false, .int .u32 0, .slice none 0 0, .slice none 0 0] 36) (.cells #[.int .i64 0, .int .i64 0, .int .i64 0, .int .i64 0, .int .i64 0, .int .i64 0, .int .i64 0, .string ⟨#[]⟩, .string ⟨#[]⟩, .bool false, .int .u32 0, .slice none 0 0, .slice none 0 0] 36))
  have HR := Lib.hid (show ((w.alloc (.cells #[.int .i64 2, .int .i64 0, .int .i64 0, .int .i64 0, .int .i64 0, .int .i64 0, .int .i64 0, .string ⟨#[]⟩, .string ⟨#[]⟩, .bool false, .int .u32 0, .slice none 0 0, .slice none 0 0] 36)).alloc (.cells #[.int .i64 0, .int .i64 0, .int .i64 0, .int .i64 0, .int .i64 0, .int .i64 0, .int .i64 0, .string ⟨#[]⟩, .string ⟨#[]⟩, .bool false, .int .u32 0, .slice none 0 0, .slice none 0 0] 36)).heap[w.heap.size + 1]? = some (.cells #[.int .i64 0, .int .i64 0, .int .i64 0, .int .i64 0, .int .i64 0, .int .i64 0, .int .i64 0, .string ⟨#[]⟩, .string ⟨#[]⟩, .bool false, .int .u32 0, .slice none 0 0, .slice none 0 0] 36 (0, 0)) from blk_new_at (by simp) _ _)
  go_enter Try.func65, Try.ntmps65
  go_upto_region 11 with (fail)
  obtain ⟨p, hp⟩ : ∃ p, w.heap.size = p := ⟨_, rfl⟩
  obtain ⟨r, hr⟩ : ∃ r, w.heap.size + 1 = r := ⟨_, rfl⟩
  have HRr := Lib.hid (show w.heap.size ≤ r by omega)
  rw [hp] at HX
  rw [hr] at HR
  try rw [hr]
  try rw [hp]
  try rw [hp] at hr
  try rw [hr]
  clear hr hp
  generalize ((w.alloc (.cells #[.int .i64 2, .int .i64 0, .int .i64 0, .int .i64 0, .int .i64 0, .int .i64 0, .int .i64 0, .string ⟨#[]⟩, .string ⟨#[]⟩, .bool false, .int .u32 0, .slice none 0 0, .slice none 0 0] 36)).alloc (.cells #[.int .i64 0, .int .i64 0, .int .i64 0, .int .i64 0, .int .i64 0, .int .i64 0, .int .i64 0, .string ⟨#[]⟩, .string ⟨#[]⟩, .bool false, .int .u32 0, .slice none 0 0, .slice none 0 0] 36)) = w1 at *
  have hk := blk_cell HX.out
  have hl := blk_lt HX.out
  have hk3 := blk_cell HR.out
  have hf3 := blk_free HR.out
  have hl3 := blk_lt HR.out
  go_wp2_with fail
  exact bodyPost_ret (v := .agg #[.int .i64 2, .int .i64 0, .int .i64 0, .int .i64 0, .int .i64 0, .int .i64 0, .int .i64 0, .string ⟨#[]⟩, .string ⟨#[]⟩, .bool false, .int .u32 0, .slice none 0 0, .slice none 0 0]) (by have hk2 := blk_cell (blk_fillM (v0 := .int .i64 2) (v1 := .int .i64 0) (v2 := .int .i64 0) (v3 := .int .i64 0) (v4 := .int .i64 0) (v5 := .int .i64 0) (v6 := .int .i64 0) (v7 := .string ⟨#[]⟩) (v8 := .string ⟨#[]⟩) (v9 := .bool false) (v10 := .int .u32 0) (v11 := .slice none 0 0) (v12 := .slice none 0 0) HR.out rfl); simp [results, Try.results65, go_sem, hk2]) rfl ⟨rfl, below_fillM D0.out HRr.out⟩


set_option maxRecDepth 100000 in
set_option maxHeartbeats 1000000 in
theorem opRight5T (tg : Int) (full : Bool) (q s : Int) (a : Option Addr) (n c : Nat) (w : World) :
    Calls Try.prog 66 #[.agg #[.int .i64 2, .int .i64 5, .int .i64 0, .int .i64 0, .int .i64 tg, .int .i64 0, .int .i64 q, .string ⟨#[]⟩, .string ⟨#[]⟩, .bool full, .int .u32 s, .slice a n c, .slice none 0 0]] w fun r w' => r = .returned (.bool true) ∧ Below w.heap.size w w' := by
  have D0 := Lib.hid (show Below w.heap.size w (w.alloc (.cells #[.int .i64 2, .int .i64 5, .int .i64 0, .int .i64 0, .int .i64 tg, .int .i64 0, .int .i64 q, .string ⟨#[]⟩, .string ⟨#[]⟩, .bool full, .int .u32 s, .slice a n c, .slice none 0 0] 36)) from (Below.refl _ _).alloc (Nat.le_refl _) _)
  have HX := Lib.hid (blk_new w #[.int .i64 2, .int .i64 5, .int .i64 0, .int .i64 0, .int .i64 tg, .int .i64 0, .int .i64 q, .string ⟨#[]⟩, .string ⟨#[]⟩, .bool full, .int .u32 s, .slice a n c, .slice none 0 0] 36)
  go_enter Try.func66, Try.ntmps66
  go_upto_region 1 with (fail)
  obtain ⟨p, hp⟩ : ∃ p, w.heap.size = p := ⟨_, rfl⟩
  rw [hp] at HX
  try rw [hp]
  clear hp
  generalize (w.alloc (.cells #[.int .i64 2, .int .i64 5, .int .i64 0, .int .i64 0, .int .i64 tg, .int .i64 0, .int .i64 q, .string ⟨#[]⟩, .string ⟨#[]⟩, .bool full, .int .u32 s, .slice a n c, .slice none 0 0] 36)) = w1 at *
  have hk := blk_cell HX.out
  have hl := blk_lt HX.out
  go_wp2
  go_ret
  exact ⟨rfl, D0.out⟩


set_option maxRecDepth 100000 in
set_option maxHeartbeats 2000000 in
theorem mailRightOkT (tg : Int) (full : Bool) (q s : Int) (a : Option Addr) (n c : Nat) (ls : List Cd) (w : World) (h : CAt w a ls) (hl0 : ls.length = n) (hn : n ≤ 64) (hr : ∀ x ∈ ls, CdR x) (hq : -1 ≤ q) :
    Calls Try.prog 43 #[.agg #[.int .i64 2, .int .i64 5, .int .i64 0, .int .i64 0, .int .i64 tg, .int .i64 0, .int .i64 q, .string ⟨#[]⟩, .string ⟨#[]⟩, .bool full, .int .u32 s, .slice a n c, .slice none 0 0]] w fun r w' => r = .returned Value.nilIface ∧ Below w.heap.size w w' := by
  have D0 := Lib.hid (show Below w.heap.size w (w.alloc (.cells #[.int .i64 2, .int .i64 5, .int .i64 0, .int .i64 0, .int .i64 tg, .int .i64 0, .int .i64 q, .string ⟨#[]⟩, .string ⟨#[]⟩, .bool full, .int .u32 s, .slice a n c, .slice none 0 0] 36)) from (Below.refl _ _).alloc (Nat.le_refl _) _)
  have HX := Lib.hid (blk_new w #[.int .i64 2, .int .i64 5, .int .i64 0, .int .i64 0, .int .i64 tg, .int .i64 0, .int .i64 q, .string ⟨#[]⟩, .string ⟨#[]⟩, .bool full, .int .u32 s, .slice a n c, .slice none 0 0] 36)
  have HA := Lib.hid (h.ext D0.out)
  have HL := Lib.hid hl0
  have HR := Lib.hid hr
  have d1 : decide (q < -1) = false := decide_eq_false (by omega)
  have d2 : decide (64 < (n : Int)) = false := decide_eq_false (by omega)
  have d3 : decide (64 < n) = false := decide_eq_false (by omega)
  clear h hl0 hr
  go_enter Try.func43, Try.ntmps43
  go_upto_region 1 with (fail)
  obtain ⟨p, hp⟩ : ∃ p, w.heap.size = p := ⟨_, rfl⟩
  rw [hp] at HX
  try rw [hp]
  clear hp
  generalize (w.alloc (.cells #[.int .i64 2, .int .i64 5, .int .i64 0, .int .i64 0, .int .i64 tg, .int .i64 0, .int .i64 q, .string ⟨#[]⟩, .string ⟨#[]⟩, .bool full, .int .u32 s, .slice a n c, .slice none 0 0] 36)) = w1 at *
  have hk := blk_cell HX.out
  have hl := blk_lt HX.out
  go_upto_region 3 with (fail)
  haveI hIq : Nonempty (Of w1) := of_some _
  have hG0 := blk_of HX.out
  first | (refine wp_region_stay w1 (by kernel_rfl) (by kernel_rfl) (by go_grown) ?_) | (refine wp_region_stay_seq w1 (by go_grown) ?_)
  repeat (go_big_quiet_step (first | (go_at_call 65; with_reducible refine stay_call (mailWithoutT tg full q s a n c _)) | (go_at_call 64; with_reducible refine stay_call (mailSame2 _))))
  refine wpQuiet_nil ?_
  intro w2 hb2
  clear hIq hG0
  have HX2 := Lib.hid (blk_ext hb2 HX.out)
  have D2 := Lib.hid (ext_trans D0.out hb2)
  have HA2 := Lib.hid (HA.out.ext hb2)
  clear hk hl hb2 HX D0 HA
  have hk := blk_cell HX2.out
  have hl := blk_lt HX2.out
  go_wp2_with fail
  refine (opRight5T tg full q s a n c _).mono ?_
  rintro e w3 ⟨rfl, hb⟩
  have HX3 := Lib.hid (blk_ext hb HX2.out)
  have D3 := Lib.hid (ext_trans D2.out hb)
  have HA3 := Lib.hid (HA2.out.ext hb)
  clear hk hl hb HX2 D2 HA2
  have hk := blk_cell HX3.out
  have hl := blk_lt HX3.out
  go_wp2_with fail
  refine (containsWrong a n c ls _ HA3.out HL.out (by omega) HR.out).mono ?_
  rintro e w4 ⟨rfl, hb⟩
  have HX4 := Lib.hid (blk_ext hb HX3.out)
  have D4 := Lib.hid (ext_trans D3.out hb)
  have HA4 := Lib.hid (HA3.out.ext hb)
  clear hk hl hb HX3 D3 HA3
  have hk := blk_cell HX4.out
  have hl := blk_lt HX4.out
  go_wp2_with fail
  refine (containsKeysNone _).mono ?_
  rintro e w5 ⟨rfl, hb⟩
  have HX5 := Lib.hid (blk_ext hb HX4.out)
  have D5 := Lib.hid (ext_trans D4.out hb)
  have HA5 := Lib.hid (HA4.out.ext hb)
  clear hk hl hb HX4 D4 HA4
  have hk := blk_cell HX5.out
  have hl := blk_lt HX5.out
  go_wp2
  go_ret
  exact ⟨rfl, D5.out⟩


end Go.Proofs.Ytkhcgopehmndgaa
