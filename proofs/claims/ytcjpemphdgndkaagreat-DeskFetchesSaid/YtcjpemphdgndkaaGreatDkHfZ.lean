/- A desk: Handle, of a fetch. -/
import Derived.Test.YtcjpemphdgndkaaGreatDkFeZ
namespace Go.Proofs.YtcjpemphdgndkaaGreat
open Go.RowKit
set_option linter.unusedVariables false
set_option linter.unusedSimpArgs false

set_option maxRecDepth 100000 in
set_option maxHeartbeats 1000000 in
theorem opRightF (st tag N sq : Int) (w : World) :
    Calls Tryz.prog 81 #[.agg #[.int .i64 1, .int .i64 5, .int .i64 st, .int .i64 0, .int .i64 tag, .int .i64 N, .int .i64 sq, .string ⟨#[]⟩, .string ⟨#[]⟩, .bool false, .int .u32 0, .slice none 0 0, .slice none 0 0]] w fun r w' => r = .returned (.bool true) ∧ Below w.heap.size w w' := by
  have D0 := Lib.hid (show Below w.heap.size w (w.alloc (.cells #[.int .i64 1, .int .i64 5, .int .i64 st, .int .i64 0, .int .i64 tag, .int .i64 N, .int .i64 sq, .string ⟨#[]⟩, .string ⟨#[]⟩, .bool false, .int .u32 0, .slice none 0 0, .slice none 0 0] 33)) from (Below.refl _ _).alloc (Nat.le_refl _) _)
  have HX := Lib.hid (blk_new w #[.int .i64 1, .int .i64 5, .int .i64 st, .int .i64 0, .int .i64 tag, .int .i64 N, .int .i64 sq, .string ⟨#[]⟩, .string ⟨#[]⟩, .bool false, .int .u32 0, .slice none 0 0, .slice none 0 0] 33)
  go_enter Tryz.func81, Tryz.ntmps81
  go_upto_region 1 with (fail)
  obtain ⟨p, hp⟩ : ∃ p, w.heap.size = p := ⟨_, rfl⟩
  rw [hp] at HX
  try rw [hp]
  clear hp
  generalize (w.alloc (.cells #[.int .i64 1, .int .i64 5, .int .i64 st, .int .i64 0, .int .i64 tag, .int .i64 N, .int .i64 sq, .string ⟨#[]⟩, .string ⟨#[]⟩, .bool false, .int .u32 0, .slice none 0 0, .slice none 0 0] 33)) = w1 at *
  have hk := blk_cell HX.out
  have hl := blk_lt HX.out
  go_wp2
  go_ret
  exact ⟨by first | rfl | simp | decide, D0.out⟩

set_option maxRecDepth 100000 in
set_option maxHeartbeats 2000000 in
theorem mailRightF (st tag N sq : Int) (w : World) (hs0 : 0 ≤ st) (hs1 : st ≤ 255) (hq : -1 ≤ sq) :
    Calls Tryz.prog 44 #[.agg #[.int .i64 1, .int .i64 5, .int .i64 st, .int .i64 0, .int .i64 tag, .int .i64 N, .int .i64 sq, .string ⟨#[]⟩, .string ⟨#[]⟩, .bool false, .int .u32 0, .slice none 0 0, .slice none 0 0]] w fun r w' => r = .returned Value.nilIface ∧ Below w.heap.size w w' := by
  have D0 := Lib.hid (show Below w.heap.size w (w.alloc (.cells #[.int .i64 1, .int .i64 5, .int .i64 st, .int .i64 0, .int .i64 tag, .int .i64 N, .int .i64 sq, .string ⟨#[]⟩, .string ⟨#[]⟩, .bool false, .int .u32 0, .slice none 0 0, .slice none 0 0] 33)) from (Below.refl _ _).alloc (Nat.le_refl _) _)
  have HX := Lib.hid (blk_new w #[.int .i64 1, .int .i64 5, .int .i64 st, .int .i64 0, .int .i64 tag, .int .i64 N, .int .i64 sq, .string ⟨#[]⟩, .string ⟨#[]⟩, .bool false, .int .u32 0, .slice none 0 0, .slice none 0 0] 33)
  have d1 : decide (sq < -1) = false := decide_eq_false (by omega)
  have d2 : decide (st < 0) = false := decide_eq_false (by omega)
  have d3 : decide (255 < st) = false := decide_eq_false (by omega)
  go_enter Tryz.func44, Tryz.ntmps44
  go_upto_region 1 with (fail)
  obtain ⟨p, hp⟩ : ∃ p, w.heap.size = p := ⟨_, rfl⟩
  rw [hp] at HX
  try rw [hp]
  clear hp
  generalize (w.alloc (.cells #[.int .i64 1, .int .i64 5, .int .i64 st, .int .i64 0, .int .i64 tag, .int .i64 N, .int .i64 sq, .string ⟨#[]⟩, .string ⟨#[]⟩, .bool false, .int .u32 0, .slice none 0 0, .slice none 0 0] 33)) = w1 at *
  have hk := blk_cell HX.out
  have hl := blk_lt HX.out
  go_upto_region 3 with (fail)
  haveI hIq : Nonempty (Of w1) := of_some _
  have hG0 := blk_of HX.out
  first | (refine wp_region_stay w1 (by kernel_rfl) (by kernel_rfl) (by go_grown) ?_) | (refine wp_region_stay_seq w1 (by go_grown) ?_)
  repeat (go_big_quiet_step (first | (go_at_call 80; with_reducible refine stay_call (mailWithoutA 5 st tag N sq ((⟨#[]⟩, ⟨#[]⟩) : Ky) _)) | (go_at_call 79; with_reducible refine stay_call (mailSame1 _))))
  refine wpQuiet_nil ?_
  intro w2 hb2
  clear hIq hG0
  have HX2 := Lib.hid (blk_ext hb2 HX.out)
  have D2 := Lib.hid (ext_trans D0.out hb2)
  clear hk hl hb2 HX D0
  have hk := blk_cell HX2.out
  have hl := blk_lt HX2.out
  go_wp2_with fail
  refine (opRightF st tag N sq _).mono ?_
  rintro e w3 ⟨rfl, hb⟩
  have HX3 := Lib.hid (blk_ext hb HX2.out)
  have D3 := Lib.hid (ext_trans D2.out hb)
  clear hk hl hb HX2 D2
  have hk := blk_cell HX3.out
  have hl := blk_lt HX3.out
  go_wp2_with fail
  refine (containsWrong none 0 0 [] _ (.inl rfl) rfl (by omega) (fun x hx => by cases hx)).mono ?_
  rintro e w4 ⟨rfl, hb⟩
  have HX4 := Lib.hid (blk_ext hb HX3.out)
  have D4 := Lib.hid (ext_trans D3.out hb)
  clear hk hl hb HX3 D3
  have hk := blk_cell HX4.out
  have hl := blk_lt HX4.out
  go_wp2_with fail
  refine (containsKeysNone _).mono ?_
  rintro e w5 ⟨rfl, hb⟩
  have HX5 := Lib.hid (blk_ext hb HX4.out)
  have D5 := Lib.hid (ext_trans D4.out hb)
  clear hk hl hb HX4 D4
  have hk := blk_cell HX5.out
  have hl := blk_lt HX5.out
  go_wp2
  go_ret
  exact ⟨rfl, D5.out⟩

set_option maxRecDepth 100000 in
set_option maxHeartbeats 4000000 in
theorem deskHandleF (db : Nat) (st tag N sq : Int) (now : Int) (full : Bool) (q s : Int) (cds : List Cd) (w : World) (hs0 : 0 ≤ st) (hs1 : st ≤ 255) (hq : -1 ≤ sq) (hI : ∀ w', Below w.heap.size w w' → Calls Tryz.prog 45 #[.pointer (some ⟨db, 0, none⟩), .agg #[.int .i64 1, .int .i64 5, .int .i64 st, .int .i64 0, .int .i64 tag, .int .i64 N, .int .i64 sq, .string ⟨#[]⟩, .string ⟨#[]⟩, .bool false, .int .u32 0, .slice none 0 0, .slice none 0 0]] w' fun r w'' => ∃ v, r = .returned v ∧ FdT full tag q s cds w' v w'') :
    Calls Tryz.prog 15 #[.pointer (some ⟨db, 0, none⟩), .agg #[.int .i64 1, .int .i64 5, .int .i64 st, .int .i64 0, .int .i64 tag, .int .i64 N, .int .i64 sq, .string ⟨#[]⟩, .string ⟨#[]⟩, .bool false, .int .u32 0, .slice none 0 0, .slice none 0 0], .int .i64 now] w fun r w' => ∃ v, r = .returned (.tuple #[v, .slice none 0 0]) ∧ FdT full tag q s cds w v w' := by
  have D0 := Lib.hid (show Below w.heap.size w (((w.alloc (.cells #[.int .i64 1, .int .i64 5, .int .i64 st, .int .i64 0, .int .i64 tag, .int .i64 N, .int .i64 sq, .string ⟨#[]⟩, .string ⟨#[]⟩, .bool false, .int .u32 0, .slice none 0 0, .slice none 0 0] 33)).alloc (.cells #[.int .i64 0, .int .i64 0, .int .i64 0, .int .i64 0, .int .i64 0, .int .i64 0, .int .i64 0, .string ⟨#[]⟩, .string ⟨#[]⟩, .bool false, .int .u32 0, .slice none 0 0, .slice none 0 0] 33)).alloc (.cells #[.int .i64 2, .int .i64 5, .int .i64 0, .int .i64 0, .int .i64 tag, .int .i64 0, .int .i64 0, .string ⟨#[]⟩, .string ⟨#[]⟩, .bool false, .int .u32 0, .slice none 0 0, .slice none 0 0] 33)) from (((Below.refl _ _).alloc (Nat.le_refl _) _).alloc (by simp) _).alloc (by simp; omega) _)
  have HK := Lib.hid (blk_alloc (blk_alloc (blk_new w #[.int .i64 1, .int .i64 5, .int .i64 st, .int .i64 0, .int .i64 tag, .int .i64 N, .int .i64 sq, .string ⟨#[]⟩, .string ⟨#[]⟩, .bool false, .int .u32 0, .slice none 0 0, .slice none 0 0] 33) (.cells #[.int .i64 0, .int .i64 0, .int .i64 0, .int .i64 0, .int .i64 0, .int .i64 0, .int .i64 0, .string ⟨#[]⟩, .string ⟨#[]⟩, .bool false, .int .u32 0, .slice none 0 0, .slice none 0 0] 33)) (.cells #[.int .i64 2, .int .i64 5, .int .i64 0, .int .i64 0, .int .i64 tag, .int .i64 0, .int .i64 0, .string ⟨#[]⟩, .string ⟨#[]⟩, .bool false, .int .u32 0, .slice none 0 0, .slice none 0 0] 33))
  have HZ := Lib.hid (blk_alloc (show (w.alloc (.cells #[.int .i64 1, .int .i64 5, .int .i64 st, .int .i64 0, .int .i64 tag, .int .i64 N, .int .i64 sq, .string ⟨#[]⟩, .string ⟨#[]⟩, .bool false, .int .u32 0, .slice none 0 0, .slice none 0 0] 33)).alloc (.cells #[.int .i64 0, .int .i64 0, .int .i64 0, .int .i64 0, .int .i64 0, .int .i64 0, .int .i64 0, .string ⟨#[]⟩, .string ⟨#[]⟩, .bool false, .int .u32 0, .slice none 0 0, .slice none 0 0] 33) |>.heap[w.heap.size + 1]? = some (.cells #[.int .i64 0, .int .i64 0, .int .i64 0, .int .i64 0, .int .i64 0, .int .i64 0, .int .i64 0, .string ⟨#[]⟩, .string ⟨#[]⟩, .bool false, .int .u32 0, .slice none 0 0, .slice none 0 0] 33 (0, 0)) from blk_new_at (by simp) _ _) (.cells #[.int .i64 2, .int .i64 5, .int .i64 0, .int .i64 0, .int .i64 tag, .int .i64 0, .int .i64 0, .string ⟨#[]⟩, .string ⟨#[]⟩, .bool false, .int .u32 0, .slice none 0 0, .slice none 0 0] 33))
  have HI := Lib.hid hI
  have e2 := neqNil
  clear hI
  go_enter Tryz.func15, Tryz.ntmps15
  go_upto_region 2 with (fail)
  obtain ⟨p, hp⟩ : ∃ p, w.heap.size = p := ⟨_, rfl⟩
  obtain ⟨z, hz⟩ : ∃ z, p + 1 = z := ⟨_, rfl⟩
  obtain ⟨q9, hq9⟩ : ∃ q, z + 1 = q := ⟨_, rfl⟩
  rw [hp] at HK
  rw [hp, hz] at HZ
  try rw [hp]
  try rw [hz]
  try rw [hq9]
  have HZP := Lib.hid (show w.heap.size ≤ z by omega)
  clear hp hz hq9
  generalize (((w.alloc (.cells #[.int .i64 1, .int .i64 5, .int .i64 st, .int .i64 0, .int .i64 tag, .int .i64 N, .int .i64 sq, .string ⟨#[]⟩, .string ⟨#[]⟩, .bool false, .int .u32 0, .slice none 0 0, .slice none 0 0] 33)).alloc (.cells #[.int .i64 0, .int .i64 0, .int .i64 0, .int .i64 0, .int .i64 0, .int .i64 0, .int .i64 0, .string ⟨#[]⟩, .string ⟨#[]⟩, .bool false, .int .u32 0, .slice none 0 0, .slice none 0 0] 33)).alloc (.cells #[.int .i64 2, .int .i64 5, .int .i64 0, .int .i64 0, .int .i64 tag, .int .i64 0, .int .i64 0, .string ⟨#[]⟩, .string ⟨#[]⟩, .bool false, .int .u32 0, .slice none 0 0, .slice none 0 0] 33)) = w1 at *
  have hc := blk_cell HK.out
  have hl := blk_lt HK.out
  go_wp2_with fail
  refine (mailRightF st tag N sq w1 hs0 hs1 hq).mono ?_
  rintro r w2 ⟨rfl, hb2⟩
  have HK2 := Lib.hid (blk_ext hb2 HK.out)
  have HZ2 := Lib.hid (blk_ext hb2 HZ.out)
  have D2 := Lib.hid (ext_trans D0.out hb2)
  clear hc hl hb2 HK HZ D0
  have hc := blk_cell HK2.out
  have hl := blk_lt HK2.out
  go_wp2_with fail
  refine (HI.out w2 D2.out).mono ?_
  rintro r w4 ⟨v, rfl, a, n, c, rfl, hcl, hnc, hcm, hat, hb4⟩
  have HZ4 := Lib.hid (blk_ext hb4 HZ2.out)
  have D4 := Lib.hid (ext_trans D2.out hb4)
  have HA4 := Lib.hid hat
  have HCL := Lib.hid hcl
  clear hc hl hb4 hat hcl HK2 HZ2 D2
  have hc2 := blk_cell HZ4.out
  have hf2 := blk_free HZ4.out
  have hl2 := blk_lt HZ4.out
  go_wp2_with fail
  have hr7 : Rim z w4 _ := (rim_set (o := 12) (v := .slice none 0 0) (rim_set (o := 11) (v := .slice a n c) (rim_set (o := 10) (v := .int .u32 s) (rim_set (o := 9) (v := .bool full) (rim_set (o := 8) (v := .string ⟨#[]⟩) (rim_set (o := 7) (v := .string ⟨#[]⟩) (rim_set (o := 6) (v := .int .i64 q) (rim_set (o := 5) (v := .int .i64 0) (rim_set (o := 4) (v := .int .i64 tag) (rim_set (o := 3) (v := .int .i64 0) (rim_set (o := 2) (v := .int .i64 0) (rim_set (o := 1) (v := .int .i64 5) (rim_set (o := 0) (v := .int .i64 2) (Rim.of (Below.refl w4.heap.size w4)))))))))))))))
  refine bodyPost_ret (v := .tuple #[.agg #[.int .i64 2, .int .i64 5, .int .i64 0, .int .i64 0, .int .i64 tag, .int .i64 0, .int .i64 q, .string ⟨#[]⟩, .string ⟨#[]⟩, .bool full, .int .u32 s, .slice a n c, .slice none 0 0], .slice none 0 0]) (by have hk2 := blk_cell (blk_fill13 (v0 := .int .i64 2) (v1 := .int .i64 5) (v2 := .int .i64 0) (v3 := .int .i64 0) (v4 := .int .i64 tag) (v5 := .int .i64 0) (v6 := .int .i64 q) (v7 := .string ⟨#[]⟩) (v8 := .string ⟨#[]⟩) (v9 := .bool full) (v10 := .int .u32 s) (v11 := .slice a n c) (v12 := .slice none 0 0) HZ4.out rfl); simp [results, Tryz.results15, go_sem, hk2]) rfl ⟨_, rfl, a, n, c, rfl, HCL.out, hnc, hcm, ?_, below_fill13 (v0 := .int .i64 2) (v1 := .int .i64 5) (v2 := .int .i64 0) (v3 := .int .i64 0) (v4 := .int .i64 tag) (v5 := .int .i64 0) (v6 := .int .i64 q) (v7 := .string ⟨#[]⟩) (v8 := .string ⟨#[]⟩) (v9 := .bool full) (v10 := .int .u32 s) (v11 := .slice a n c) (v12 := .slice none 0 0) D4.out HZP.out⟩
  exact HA4.out.keep fun b cur hc _ => hr7.block b (by rintro rfl; have h9 := HZ4.out; rw [hc] at h9; simp at h9) (blk_lt hc)

end Go.Proofs.YtcjpemphdgndkaaGreat
