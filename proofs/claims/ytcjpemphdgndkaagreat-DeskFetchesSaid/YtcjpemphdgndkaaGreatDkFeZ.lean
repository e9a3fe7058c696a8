/- A desk: fetch. -/
import Derived.Test.YtcjpemphdgndkaaGreatDkXZ
import Derived.Test.YtcjpemphdgndkaaGreatDkQZ
namespace Go.Proofs.YtcjpemphdgndkaaGreat
open Go.RowKit
set_option linter.unusedVariables false
set_option linter.unusedSimpArgs false

/-- what a feed is that bears a tag -/
def FdT (full : Bool) (tag q s : Int) (cs : List Cd) (w : World) (v : Value) (w' : World) : Prop := ∃ a n c, v = .agg #[.int .i64 2, .int .i64 5, .int .i64 0, .int .i64 0, .int .i64 tag, .int .i64 0, .int .i64 q, .string ⟨#[]⟩, .string ⟨#[]⟩, .bool full, .int .u32 s, .slice a n c, .slice none 0 0] ∧ cs.length = n ∧ n ≤ c ∧ c ≤ maxLen ∧ CAt w' a cs ∧ Below w.heap.size w w'
set_option maxRecDepth 100000 in
set_option maxHeartbeats 4000000 in
theorem deskFetchF (db : Nat) (kd op st cod tag N sq : Int) (k : Ky) (fu : Bool) (su : Int) (cs kys : Value) (full : Bool) (q s : Int) (cds : List Cd) (w : World) (hsq : sq = -1) (hI : ∀ w', Below w.heap.size w w' → Calls Tryz.prog 86 #[.pointer (some ⟨db, 4, none⟩), .pointer (some ⟨db, 9, none⟩)] w' fun r w'' => FdP full q s cds w' r w'') :
    Calls Tryz.prog 45 #[.pointer (some ⟨db, 0, none⟩), .agg #[.int .i64 kd, .int .i64 op, .int .i64 st, .int .i64 cod, .int .i64 tag, .int .i64 N, .int .i64 sq, .string k.1, .string k.2, .bool fu, .int .u32 su, cs, kys]] w fun r w' => ∃ v, r = .returned v ∧ FdT full tag q s cds w v w' := by
  have D0 := Lib.hid (show Below w.heap.size w (((w.alloc (.cells #[.int .i64 kd, .int .i64 op, .int .i64 st, .int .i64 cod, .int .i64 tag, .int .i64 N, .int .i64 sq, .string k.1, .string k.2, .bool fu, .int .u32 su, cs, kys] 33)).alloc (.cells #[.int .i64 0, .int .i64 0, .int .i64 0, .int .i64 0, .int .i64 0, .int .i64 0, .int .i64 0, .string ⟨#[]⟩, .string ⟨#[]⟩, .bool false, .int .u32 0, .slice none 0 0, .slice none 0 0] 33)).alloc (.cells #[.int .i64 0, .int .i64 0, .int .i64 0, .int .i64 0, .int .i64 0, .int .i64 0, .int .i64 0, .string ⟨#[]⟩, .string ⟨#[]⟩, .bool false, .int .u32 0, .slice none 0 0, .slice none 0 0] 33)) from (((Below.refl _ _).alloc (Nat.le_refl _) _).alloc (by simp) _).alloc (by simp; omega) _)
  have HK := Lib.hid (blk_alloc (blk_alloc (blk_new w #[.int .i64 kd, .int .i64 op, .int .i64 st, .int .i64 cod, .int .i64 tag, .int .i64 N, .int .i64 sq, .string k.1, .string k.2, .bool fu, .int .u32 su, cs, kys] 33) (.cells #[.int .i64 0, .int .i64 0, .int .i64 0, .int .i64 0, .int .i64 0, .int .i64 0, .int .i64 0, .string ⟨#[]⟩, .string ⟨#[]⟩, .bool false, .int .u32 0, .slice none 0 0, .slice none 0 0] 33)) (.cells #[.int .i64 0, .int .i64 0, .int .i64 0, .int .i64 0, .int .i64 0, .int .i64 0, .int .i64 0, .string ⟨#[]⟩, .string ⟨#[]⟩, .bool false, .int .u32 0, .slice none 0 0, .slice none 0 0] 33))
  have HZ := Lib.hid (blk_alloc (show (w.alloc (.cells #[.int .i64 kd, .int .i64 op, .int .i64 st, .int .i64 cod, .int .i64 tag, .int .i64 N, .int .i64 sq, .string k.1, .string k.2, .bool fu, .int .u32 su, cs, kys] 33)).alloc (.cells #[.int .i64 0, .int .i64 0, .int .i64 0, .int .i64 0, .int .i64 0, .int .i64 0, .int .i64 0, .string ⟨#[]⟩, .string ⟨#[]⟩, .bool false, .int .u32 0, .slice none 0 0, .slice none 0 0] 33) |>.heap[w.heap.size + 1]? = some (.cells #[.int .i64 0, .int .i64 0, .int .i64 0, .int .i64 0, .int .i64 0, .int .i64 0, .int .i64 0, .string ⟨#[]⟩, .string ⟨#[]⟩, .bool false, .int .u32 0, .slice none 0 0, .slice none 0 0] 33 (0, 0)) from blk_new_at (by simp) _ _) (.cells #[.int .i64 0, .int .i64 0, .int .i64 0, .int .i64 0, .int .i64 0, .int .i64 0, .int .i64 0, .string ⟨#[]⟩, .string ⟨#[]⟩, .bool false, .int .u32 0, .slice none 0 0, .slice none 0 0] 33))
  have HR := Lib.hid (show (((w.alloc (.cells #[.int .i64 kd, .int .i64 op, .int .i64 st, .int .i64 cod, .int .i64 tag, .int .i64 N, .int .i64 sq, .string k.1, .string k.2, .bool fu, .int .u32 su, cs, kys] 33)).alloc (.cells #[.int .i64 0, .int .i64 0, .int .i64 0, .int .i64 0, .int .i64 0, .int .i64 0, .int .i64 0, .string ⟨#[]⟩, .string ⟨#[]⟩, .bool false, .int .u32 0, .slice none 0 0, .slice none 0 0] 33)).alloc (.cells #[.int .i64 0, .int .i64 0, .int .i64 0, .int .i64 0, .int .i64 0, .int .i64 0, .int .i64 0, .string ⟨#[]⟩, .string ⟨#[]⟩, .bool false, .int .u32 0, .slice none 0 0, .slice none 0 0] 33)).heap[w.heap.size + 1 + 1]? = some (.cells #[.int .i64 0, .int .i64 0, .int .i64 0, .int .i64 0, .int .i64 0, .int .i64 0, .int .i64 0, .string ⟨#[]⟩, .string ⟨#[]⟩, .bool false, .int .u32 0, .slice none 0 0, .slice none 0 0] 33 (0, 0)) from blk_new_at (by simp) _ _)
  have HI := Lib.hid hI
  have e1 : (sq == -1) = true := by simpa using hsq
  have HE1 := Lib.hid hsq
  clear hI hsq
  go_enter Tryz.func45, Tryz.ntmps45
  go_upto_region 2 with (fail)
  obtain ⟨p, hp⟩ : ∃ p, w.heap.size = p := ⟨_, rfl⟩
  obtain ⟨z, hz⟩ : ∃ z, p + 1 = z := ⟨_, rfl⟩
  obtain ⟨q5, hq9⟩ : ∃ q, z + 1 = q := ⟨_, rfl⟩
  rw [hp] at HK
  rw [hp, hz] at HZ
  rw [hp, hz, hq9] at HR
  try rw [hp]
  try rw [hz]
  try rw [hq9]
  have hzq : z ≠ q5 := by omega
  have hpq : p ≠ q5 := by omega
  have HZP := Lib.hid (show w.heap.size ≤ z by omega)
  have HQP := Lib.hid (show w.heap.size ≤ q5 by omega)
  clear hp hz hq9
  generalize (((w.alloc (.cells #[.int .i64 kd, .int .i64 op, .int .i64 st, .int .i64 cod, .int .i64 tag, .int .i64 N, .int .i64 sq, .string k.1, .string k.2, .bool fu, .int .u32 su, cs, kys] 33)).alloc (.cells #[.int .i64 0, .int .i64 0, .int .i64 0, .int .i64 0, .int .i64 0, .int .i64 0, .int .i64 0, .string ⟨#[]⟩, .string ⟨#[]⟩, .bool false, .int .u32 0, .slice none 0 0, .slice none 0 0] 33)).alloc (.cells #[.int .i64 0, .int .i64 0, .int .i64 0, .int .i64 0, .int .i64 0, .int .i64 0, .int .i64 0, .string ⟨#[]⟩, .string ⟨#[]⟩, .bool false, .int .u32 0, .slice none 0 0, .slice none 0 0] 33)) = w1 at *
  have hc := blk_cell HK.out
  have hl := blk_lt HK.out
  go_upto_region 3 with (fail)
  clear hc hl
  have HK3 := Lib.hid (blk_drew HK.out)
  haveI hI0 : Nonempty (In (fun _ : World => True)) := ⟨⟨w1, trivial⟩⟩
  haveI hI1 : Nonempty (In (fun W : World => W.heap[p]? = some (.cells #[.int .i64 kd, .int .i64 op, .int .i64 st, .int .i64 cod, .int .i64 tag, .int .i64 N, .int .i64 sq, .string k.1, .string k.2, .bool fu, .int .u32 su, cs, kys] 33 (0, 0)))) := ⟨⟨_, HK3.out⟩⟩
  have hL1 : ∀ g : In (fun W : World => W.heap[p]? = some (.cells #[.int .i64 kd, .int .i64 op, .int .i64 st, .int .i64 cod, .int .i64 tag, .int .i64 N, .int .i64 sq, .string k.1, .string k.2, .bool fu, .int .u32 su, cs, kys] 33 (0, 0))), p < g.w.heap.size := fun g => blk_lt g.h
  have hB1_0 : ∀ g : In (fun W : World => W.heap[p]? = some (.cells #[.int .i64 kd, .int .i64 op, .int .i64 st, .int .i64 cod, .int .i64 tag, .int .i64 N, .int .i64 sq, .string k.1, .string k.2, .bool fu, .int .u32 su, cs, kys] 33 (0, 0))), g.w.cell? ⟨p, 0, none⟩ = some (.int .i64 kd) := fun g => by rw [blk_cell g.h]; rfl
  have hB1_1 : ∀ g : In (fun W : World => W.heap[p]? = some (.cells #[.int .i64 kd, .int .i64 op, .int .i64 st, .int .i64 cod, .int .i64 tag, .int .i64 N, .int .i64 sq, .string k.1, .string k.2, .bool fu, .int .u32 su, cs, kys] 33 (0, 0))), g.w.cell? ⟨p, 1, none⟩ = some (.int .i64 op) := fun g => by rw [blk_cell g.h]; rfl
  have hB1_2 : ∀ g : In (fun W : World => W.heap[p]? = some (.cells #[.int .i64 kd, .int .i64 op, .int .i64 st, .int .i64 cod, .int .i64 tag, .int .i64 N, .int .i64 sq, .string k.1, .string k.2, .bool fu, .int .u32 su, cs, kys] 33 (0, 0))), g.w.cell? ⟨p, 2, none⟩ = some (.int .i64 st) := fun g => by rw [blk_cell g.h]; rfl
  have hB1_3 : ∀ g : In (fun W : World => W.heap[p]? = some (.cells #[.int .i64 kd, .int .i64 op, .int .i64 st, .int .i64 cod, .int .i64 tag, .int .i64 N, .int .i64 sq, .string k.1, .string k.2, .bool fu, .int .u32 su, cs, kys] 33 (0, 0))), g.w.cell? ⟨p, 3, none⟩ = some (.int .i64 cod) := fun g => by rw [blk_cell g.h]; rfl
  have hB1_4 : ∀ g : In (fun W : World => W.heap[p]? = some (.cells #[.int .i64 kd, .int .i64 op, .int .i64 st, .int .i64 cod, .int .i64 tag, .int .i64 N, .int .i64 sq, .string k.1, .string k.2, .bool fu, .int .u32 su, cs, kys] 33 (0, 0))), g.w.cell? ⟨p, 4, none⟩ = some (.int .i64 tag) := fun g => by rw [blk_cell g.h]; rfl
  have hB1_5 : ∀ g : In (fun W : World => W.heap[p]? = some (.cells #[.int .i64 kd, .int .i64 op, .int .i64 st, .int .i64 cod, .int .i64 tag, .int .i64 N, .int .i64 sq, .string k.1, .string k.2, .bool fu, .int .u32 su, cs, kys] 33 (0, 0))), g.w.cell? ⟨p, 5, none⟩ = some (.int .i64 N) := fun g => by rw [blk_cell g.h]; rfl
  have hB1_6 : ∀ g : In (fun W : World => W.heap[p]? = some (.cells #[.int .i64 kd, .int .i64 op, .int .i64 st, .int .i64 cod, .int .i64 tag, .int .i64 N, .int .i64 sq, .string k.1, .string k.2, .bool fu, .int .u32 su, cs, kys] 33 (0, 0))), g.w.cell? ⟨p, 6, none⟩ = some (.int .i64 sq) := fun g => by rw [blk_cell g.h]; rfl
  have hB1_7 : ∀ g : In (fun W : World => W.heap[p]? = some (.cells #[.int .i64 kd, .int .i64 op, .int .i64 st, .int .i64 cod, .int .i64 tag, .int .i64 N, .int .i64 sq, .string k.1, .string k.2, .bool fu, .int .u32 su, cs, kys] 33 (0, 0))), g.w.cell? ⟨p, 7, none⟩ = some (.string k.1) := fun g => by rw [blk_cell g.h]; rfl
  have hB1_8 : ∀ g : In (fun W : World => W.heap[p]? = some (.cells #[.int .i64 kd, .int .i64 op, .int .i64 st, .int .i64 cod, .int .i64 tag, .int .i64 N, .int .i64 sq, .string k.1, .string k.2, .bool fu, .int .u32 su, cs, kys] 33 (0, 0))), g.w.cell? ⟨p, 8, none⟩ = some (.string k.2) := fun g => by rw [blk_cell g.h]; rfl
  have hB1_9 : ∀ g : In (fun W : World => W.heap[p]? = some (.cells #[.int .i64 kd, .int .i64 op, .int .i64 st, .int .i64 cod, .int .i64 tag, .int .i64 N, .int .i64 sq, .string k.1, .string k.2, .bool fu, .int .u32 su, cs, kys] 33 (0, 0))), g.w.cell? ⟨p, 9, none⟩ = some (.bool fu) := fun g => by rw [blk_cell g.h]; rfl
  have hB1_10 : ∀ g : In (fun W : World => W.heap[p]? = some (.cells #[.int .i64 kd, .int .i64 op, .int .i64 st, .int .i64 cod, .int .i64 tag, .int .i64 N, .int .i64 sq, .string k.1, .string k.2, .bool fu, .int .u32 su, cs, kys] 33 (0, 0))), g.w.cell? ⟨p, 10, none⟩ = some (.int .u32 su) := fun g => by rw [blk_cell g.h]; rfl
  have hB1_11 : ∀ g : In (fun W : World => W.heap[p]? = some (.cells #[.int .i64 kd, .int .i64 op, .int .i64 st, .int .i64 cod, .int .i64 tag, .int .i64 N, .int .i64 sq, .string k.1, .string k.2, .bool fu, .int .u32 su, cs, kys] 33 (0, 0))), g.w.cell? ⟨p, 11, none⟩ = some (cs) := fun g => by rw [blk_cell g.h]; rfl
  have hB1_12 : ∀ g : In (fun W : World => W.heap[p]? = some (.cells #[.int .i64 kd, .int .i64 op, .int .i64 st, .int .i64 cod, .int .i64 tag, .int .i64 N, .int .i64 sq, .string k.1, .string k.2, .bool fu, .int .u32 su, cs, kys] 33 (0, 0))), g.w.cell? ⟨p, 12, none⟩ = some (kys) := fun g => by rw [blk_cell g.h]; rfl
  refine Hist.wp_region_hist (fun W : World => W.heap[p]? = some (.cells #[.int .i64 kd, .int .i64 op, .int .i64 st, .int .i64 cod, .int .i64 tag, .int .i64 N, .int .i64 sq, .string k.1, .string k.2, .bool fu, .int .u32 su, cs, kys] 33 (0, 0))) (by kernel_rfl) (by kernel_rfl) (by kernel_rfl) (show (fun W : World => W.heap[p]? = some (.cells #[.int .i64 kd, .int .i64 op, .int .i64 st, .int .i64 cod, .int .i64 tag, .int .i64 N, .int .i64 sq, .string k.1, .string k.2, .bool fu, .int .u32 su, cs, kys] 33 (0, 0))) w1.drew from HK3.out) ?_
  have HZ3 := Lib.hid (blk_drew HZ.out)
  have HR3 := Lib.hid (blk_drew HR.out)
  have D3 := Lib.hid D0.out.drew
  clear HK HZ HR D0
  generalize w1.drew = w3 at *
  repeat (first | (refine Hist.wpG_plain 0 _ (by decide +kernel) rfl (by rfl) (by rfl) (fun K hK => ?_); go_big_quiet_op; refine hK _ ?_; clear hK K))
  refine Hist.wpG_call (by rfl) (by rfl) (fun K hK => ?_)
  go_big_op
  refine (HI.out w3 D3.out).mono ?_
  rintro r w4 ⟨a, n, c, rfl, hcl, hnc, hcm, hat, hb4⟩
  have HK4 := Lib.hid (blk_ext hb4 HK3.out)
  have HZ4 := Lib.hid (blk_ext hb4 HZ3.out)
  have HR4 := Lib.hid (blk_ext hb4 HR3.out)
  have HB4 := Lib.hid (ext_trans D3.out hb4)
  have HA4 := Lib.hid hat
  have HCL := Lib.hid hcl
  refine hK _ _ ⟨(fun _ : World => True), (by simp only [List.cons_append, List.nil_append, List.forall_mem_cons]; repeat' (first | exact HK4.out | (intro _ h; cases h; done) | (exact trivial) | constructor)), ?_⟩
  clear hK K hat hb4 hcl HK3 HZ3 HR3 D3
  repeat (first | (refine Hist.wpG_plain 1 _ (by decide +kernel) rfl (by rfl) (by rfl) (fun K hK => ?_); go_big_quiet_op; refine hK _ ?_; clear hK K) | (refine Hist.wpG_plain 0 _ (by decide +kernel) rfl (by rfl) (by rfl) (fun K hK => ?_); go_big_quiet_op; refine hK _ ?_; clear hK K))
  have hbc := blk_cell HR4.out
  have hbf := blk_free HR4.out
  have hbl := blk_lt HR4.out
  refine Hist.wpG_call (by rfl) (by rfl) (fun K hK => ?_)
  go_big_op
  have HR5 := Lib.hid (blk_fill13 (v0 := .int .i64 2) (v1 := .int .i64 5) (v2 := .int .i64 0) (v3 := .int .i64 0) (v4 := .int .i64 0) (v5 := .int .i64 0) (v6 := .int .i64 q) (v7 := .string ⟨#[]⟩) (v8 := .string ⟨#[]⟩) (v9 := .bool full) (v10 := .int .u32 s) (v11 := .slice a n c) (v12 := .slice none 0 0) HR4.out rfl)
  have hr5 : Rim q5 w4 (((((((((((((w4.setCell ⟨q5, 0, none⟩ (.int .i64 2)).setCell ⟨q5, 1, none⟩ (.int .i64 5)).setCell ⟨q5, 2, none⟩ (.int .i64 0)).setCell ⟨q5, 3, none⟩ (.int .i64 0)).setCell ⟨q5, 4, none⟩ (.int .i64 0)).setCell ⟨q5, 5, none⟩ (.int .i64 0)).setCell ⟨q5, 6, none⟩ (.int .i64 q)).setCell ⟨q5, 7, none⟩ (.string ⟨#[]⟩)).setCell ⟨q5, 8, none⟩ (.string ⟨#[]⟩)).setCell ⟨q5, 9, none⟩ (.bool full)).setCell ⟨q5, 10, none⟩ (.int .u32 s)).setCell ⟨q5, 11, none⟩ (.slice a n c)).setCell ⟨q5, 12, none⟩ (.slice none 0 0)) := (rim_set (o := 12) (v := .slice none 0 0) (rim_set (o := 11) (v := .slice a n c) (rim_set (o := 10) (v := .int .u32 s) (rim_set (o := 9) (v := .bool full) (rim_set (o := 8) (v := .string ⟨#[]⟩) (rim_set (o := 7) (v := .string ⟨#[]⟩) (rim_set (o := 6) (v := .int .i64 q) (rim_set (o := 5) (v := .int .i64 0) (rim_set (o := 4) (v := .int .i64 0) (rim_set (o := 3) (v := .int .i64 0) (rim_set (o := 2) (v := .int .i64 0) (rim_set (o := 1) (v := .int .i64 5) (rim_set (o := 0) (v := .int .i64 2) (Rim.of (Below.refl w4.heap.size w4)))))))))))))))
  have HZ5 := Lib.hid ((hr5.block z hzq (blk_lt HZ4.out)).trans HZ4.out)
  have HK5 := Lib.hid ((hr5.block p hpq (blk_lt HK4.out)).trans HK4.out)
  have HA5 := Lib.hid (show CAt (((((((((((((w4.setCell ⟨q5, 0, none⟩ (.int .i64 2)).setCell ⟨q5, 1, none⟩ (.int .i64 5)).setCell ⟨q5, 2, none⟩ (.int .i64 0)).setCell ⟨q5, 3, none⟩ (.int .i64 0)).setCell ⟨q5, 4, none⟩ (.int .i64 0)).setCell ⟨q5, 5, none⟩ (.int .i64 0)).setCell ⟨q5, 6, none⟩ (.int .i64 q)).setCell ⟨q5, 7, none⟩ (.string ⟨#[]⟩)).setCell ⟨q5, 8, none⟩ (.string ⟨#[]⟩)).setCell ⟨q5, 9, none⟩ (.bool full)).setCell ⟨q5, 10, none⟩ (.int .u32 s)).setCell ⟨q5, 11, none⟩ (.slice a n c)).setCell ⟨q5, 12, none⟩ (.slice none 0 0)) a cds from HA4.out.keep fun b cur hc _ => hr5.block b (by rintro rfl; have h9 := HR4.out; rw [hc] at h9; simp at h9) (blk_lt hc))
  have HB5 := Lib.hid (below_fill13 (v0 := .int .i64 2) (v1 := .int .i64 5) (v2 := .int .i64 0) (v3 := .int .i64 0) (v4 := .int .i64 0) (v5 := .int .i64 0) (v6 := .int .i64 q) (v7 := .string ⟨#[]⟩) (v8 := .string ⟨#[]⟩) (v9 := .bool full) (v10 := .int .u32 s) (v11 := .slice a n c) (v12 := .slice none 0 0) HB4.out HQP.out)
  refine hK _ _ ⟨(fun _ : World => True), (by simp only [List.cons_append, List.nil_append, List.forall_mem_cons]; repeat' (first | exact HK5.out | (intro _ h; cases h; done) | (exact trivial) | constructor)), ?_⟩
  clear hK K hbc hbf hbl hr5 HK4 HZ4 HR4 HB4 HA4
  generalize (((((((((((((w4.setCell ⟨q5, 0, none⟩ (.int .i64 2)).setCell ⟨q5, 1, none⟩ (.int .i64 5)).setCell ⟨q5, 2, none⟩ (.int .i64 0)).setCell ⟨q5, 3, none⟩ (.int .i64 0)).setCell ⟨q5, 4, none⟩ (.int .i64 0)).setCell ⟨q5, 5, none⟩ (.int .i64 0)).setCell ⟨q5, 6, none⟩ (.int .i64 q)).setCell ⟨q5, 7, none⟩ (.string ⟨#[]⟩)).setCell ⟨q5, 8, none⟩ (.string ⟨#[]⟩)).setCell ⟨q5, 9, none⟩ (.bool full)).setCell ⟨q5, 10, none⟩ (.int .u32 s)).setCell ⟨q5, 11, none⟩ (.slice a n c)).setCell ⟨q5, 12, none⟩ (.slice none 0 0)) = w5 at *
  repeat (first | (refine Hist.wpG_plain 2 _ (by decide +kernel) rfl (by rfl) (by rfl) (fun K hK => ?_); go_big_quiet_op; refine hK _ ?_; clear hK K) | (refine Hist.wpG_plain 1 _ (by decide +kernel) rfl (by rfl) (by rfl) (fun K hK => ?_); go_big_quiet_op; refine hK _ ?_; clear hK K) | (refine Hist.wpG_plain 0 _ (by decide +kernel) rfl (by rfl) (by rfl) (fun K hK => ?_); go_big_quiet_op; refine hK _ ?_; clear hK K))
  refine Hist.wpG_nil ?_
  clear hI0 hI1 hL1 hB1_0 hB1_1 hB1_2 hB1_3 hB1_4 hB1_5 hB1_6 hB1_7 hB1_8 hB1_9 hB1_10 hB1_11 hB1_12
  have hc := blk_cell HK5.out
  have hl := blk_lt HK5.out
  have hrc := blk_cell HR5.out
  have hrf := blk_free HR5.out
  have hrl := blk_lt HR5.out
  go_upto_region 6 with (fail)
  clear hc hl hrc hrf hrl
  have HR6 := Lib.hid (blk_set (n := 4) (u := .int .i64 tag) (vs' := #[.int .i64 2, .int .i64 5, .int .i64 0, .int .i64 0, .int .i64 tag, .int .i64 0, .int .i64 q, .string ⟨#[]⟩, .string ⟨#[]⟩, .bool full, .int .u32 s, .slice a n c, .slice none 0 0]) HR5.out (by simp))
  have hr6 : Rim q5 w5 (w5.setCell ⟨q5, 4, none⟩ (.int .i64 tag)) := rim_set (Rim.of (Below.refl _ _))
  have HZ6 := Lib.hid ((hr6.block z hzq (blk_lt HZ5.out)).trans HZ5.out)
  have HA6 := Lib.hid (show CAt (w5.setCell ⟨q5, 4, none⟩ (.int .i64 tag)) a cds from HA5.out.keep fun b cur hc _ => hr6.block b (by rintro rfl; have h9 := HR5.out; rw [hc] at h9; simp at h9) (blk_lt hc))
  have HB6 := Lib.hid (HB5.out.setCell (p := ⟨q5, 4, none⟩) HQP.out (.int .i64 tag))
  clear hr6 HR5 HZ5 HK5 HA5 HB5
  generalize (w5.setCell ⟨q5, 4, none⟩ (.int .i64 tag)) = w6 at *
  have hc := blk_cell HR6.out
  have hl := blk_lt HR6.out
  have hc2 := blk_cell HZ6.out
  have hf2 := blk_free HZ6.out
  have hl2 := blk_lt HZ6.out
  go_wp2_with fail
  have hr7 : Rim z w6 _ := (rim_set (o := 12) (v := .slice none 0 0) (rim_set (o := 11) (v := .slice a n c) (rim_set (o := 10) (v := .int .u32 s) (rim_set (o := 9) (v := .bool full) (rim_set (o := 8) (v := .string ⟨#[]⟩) (rim_set (o := 7) (v := .string ⟨#[]⟩) (rim_set (o := 6) (v := .int .i64 q) (rim_set (o := 5) (v := .int .i64 0) (rim_set (o := 4) (v := .int .i64 tag) (rim_set (o := 3) (v := .int .i64 0) (rim_set (o := 2) (v := .int .i64 0) (rim_set (o := 1) (v := .int .i64 5) (rim_set (o := 0) (v := .int .i64 2) (Rim.of (Below.refl w6.heap.size w6)))))))))))))))
  refine bodyPost_ret (v := .agg #[.int .i64 2, .int .i64 5, .int .i64 0, .int .i64 0, .int .i64 tag, .int .i64 0, .int .i64 q, .string ⟨#[]⟩, .string ⟨#[]⟩, .bool full, .int .u32 s, .slice a n c, .slice none 0 0]) (by have hk2 := blk_cell (blk_fill13 (v0 := .int .i64 2) (v1 := .int .i64 5) (v2 := .int .i64 0) (v3 := .int .i64 0) (v4 := .int .i64 tag) (v5 := .int .i64 0) (v6 := .int .i64 q) (v7 := .string ⟨#[]⟩) (v8 := .string ⟨#[]⟩) (v9 := .bool full) (v10 := .int .u32 s) (v11 := .slice a n c) (v12 := .slice none 0 0) HZ6.out rfl); simp [results, Tryz.results45, go_sem, hk2]) rfl ⟨_, rfl, a, n, c, rfl, HCL.out, hnc, hcm, ?_, below_fill13 (v0 := .int .i64 2) (v1 := .int .i64 5) (v2 := .int .i64 0) (v3 := .int .i64 0) (v4 := .int .i64 tag) (v5 := .int .i64 0) (v6 := .int .i64 q) (v7 := .string ⟨#[]⟩) (v8 := .string ⟨#[]⟩) (v9 := .bool full) (v10 := .int .u32 s) (v11 := .slice a n c) (v12 := .slice none 0 0) HB6.out HZP.out⟩
  exact HA6.out.keep fun b cur hc _ => hr7.block b (by rintro rfl; have h9 := HZ6.out; rw [hc] at h9; simp at h9) (blk_lt hc)

set_option maxRecDepth 100000 in
set_option maxHeartbeats 4000000 in
theorem deskFetchD (db : Nat) (kd op st cod tag N sq : Int) (k : Ky) (fu : Bool) (su : Int) (cs kys : Value) (full : Bool) (q s : Int) (cds : List Cd) (w : World) (hsq : sq ≠ -1) (hI : ∀ w', Below w.heap.size w w' → Calls Tryz.prog 87 #[.pointer (some ⟨db, 4, none⟩), .pointer (some ⟨db, 9, none⟩), .int .i64 sq] w' fun r w'' => FdP full q s cds w' r w'') :
    Calls Tryz.prog 45 #[.pointer (some ⟨db, 0, none⟩), .agg #[.int .i64 kd, .int .i64 op, .int .i64 st, .int .i64 cod, .int .i64 tag, .int .i64 N, .int .i64 sq, .string k.1, .string k.2, .bool fu, .int .u32 su, cs, kys]] w fun r w' => ∃ v, r = .returned v ∧ FdT full tag q s cds w v w' := by
  have D0 := Lib.hid (show Below w.heap.size w (((w.alloc (.cells #[.int .i64 kd, .int .i64 op, .int .i64 st, .int .i64 cod, .int .i64 tag, .int .i64 N, .int .i64 sq, .string k.1, .string k.2, .bool fu, .int .u32 su, cs, kys] 33)).alloc (.cells #[.int .i64 0, .int .i64 0, .int .i64 0, .int .i64 0, .int .i64 0, .int .i64 0, .int .i64 0, .string ⟨#[]⟩, .string ⟨#[]⟩, .bool false, .int .u32 0, .slice none 0 0, .slice none 0 0] 33)).alloc (.cells #[.int .i64 0, .int .i64 0, .int .i64 0, .int .i64 0, .int .i64 0, .int .i64 0, .int .i64 0, .string ⟨#[]⟩, .string ⟨#[]⟩, .bool false, .int .u32 0, .slice none 0 0, .slice none 0 0] 33)) from (((Below.refl _ _).alloc (Nat.le_refl _) _).alloc (by simp) _).alloc (by simp; omega) _)
  have HK := Lib.hid (blk_alloc (blk_alloc (blk_new w #[.int .i64 kd, .int .i64 op, .int .i64 st, .int .i64 cod, .int .i64 tag, .int .i64 N, .int .i64 sq, .string k.1, .string k.2, .bool fu, .int .u32 su, cs, kys] 33) (.cells #[.int .i64 0, .int .i64 0, .int .i64 0, .int .i64 0, .int .i64 0, .int .i64 0, .int .i64 0, .string ⟨#[]⟩, .string ⟨#[]⟩, .bool false, .int .u32 0, .slice none 0 0, .slice none 0 0] 33)) (.cells #[.int .i64 0, .int .i64 0, .int .i64 0, .int .i64 0, .int .i64 0, .int .i64 0, .int .i64 0, .string ⟨#[]⟩, .string ⟨#[]⟩, .bool false, .int .u32 0, .slice none 0 0, .slice none 0 0] 33))
  have HZ := Lib.hid (blk_alloc (show (w.alloc (.cells #[.int .i64 kd, .int .i64 op, .int .i64 st, .int .i64 cod, .int .i64 tag, .int .i64 N, .int .i64 sq, .string k.1, .string k.2, .bool fu, .int .u32 su, cs, kys] 33)).alloc (.cells #[.int .i64 0, .int .i64 0, .int .i64 0, .int .i64 0, .int .i64 0, .int .i64 0, .int .i64 0, .string ⟨#[]⟩, .string ⟨#[]⟩, .bool false, .int .u32 0, .slice none 0 0, .slice none 0 0] 33) |>.heap[w.heap.size + 1]? = some (.cells #[.int .i64 0, .int .i64 0, .int .i64 0, .int .i64 0, .int .i64 0, .int .i64 0, .int .i64 0, .string ⟨#[]⟩, .string ⟨#[]⟩, .bool false, .int .u32 0, .slice none 0 0, .slice none 0 0] 33 (0, 0)) from blk_new_at (by simp) _ _) (.cells #[.int .i64 0, .int .i64 0, .int .i64 0, .int .i64 0, .int .i64 0, .int .i64 0, .int .i64 0, .string ⟨#[]⟩, .string ⟨#[]⟩, .bool false, .int .u32 0, .slice none 0 0, .slice none 0 0] 33))
  have HR := Lib.hid (show (((w.alloc (.cells #[.int .i64 kd, .int .i64 op, .int .i64 st, .int .i64 cod, .int .i64 tag, .int .i64 N, .int .i64 sq, .string k.1, .string k.2, .bool fu, .int .u32 su, cs, kys] 33)).alloc (.cells #[.int .i64 0, .int .i64 0, .int .i64 0, .int .i64 0, .int .i64 0, .int .i64 0, .int .i64 0, .string ⟨#[]⟩, .string ⟨#[]⟩, .bool false, .int .u32 0, .slice none 0 0, .slice none 0 0] 33)).alloc (.cells #[.int .i64 0, .int .i64 0, .int .i64 0, .int .i64 0, .int .i64 0, .int .i64 0, .int .i64 0, .string ⟨#[]⟩, .string ⟨#[]⟩, .bool false, .int .u32 0, .slice none 0 0, .slice none 0 0] 33)).heap[w.heap.size + 1 + 1]? = some (.cells #[.int .i64 0, .int .i64 0, .int .i64 0, .int .i64 0, .int .i64 0, .int .i64 0, .int .i64 0, .string ⟨#[]⟩, .string ⟨#[]⟩, .bool false, .int .u32 0, .slice none 0 0, .slice none 0 0] 33 (0, 0)) from blk_new_at (by simp) _ _)
  have HI := Lib.hid hI
  have e1 : (sq == -1) = false := by simpa using hsq
  have HE1 := Lib.hid hsq
  clear hI hsq
  go_enter Tryz.func45, Tryz.ntmps45
  go_upto_region 2 with (fail)
  obtain ⟨p, hp⟩ : ∃ p, w.heap.size = p := ⟨_, rfl⟩
  obtain ⟨z, hz⟩ : ∃ z, p + 1 = z := ⟨_, rfl⟩
  obtain ⟨q5, hq9⟩ : ∃ q, z + 1 = q := ⟨_, rfl⟩
  rw [hp] at HK
  rw [hp, hz] at HZ
  rw [hp, hz, hq9] at HR
  try rw [hp]
  try rw [hz]
  try rw [hq9]
  have hzq : z ≠ q5 := by omega
  have hpq : p ≠ q5 := by omega
  have HZP := Lib.hid (show w.heap.size ≤ z by omega)
  have HQP := Lib.hid (show w.heap.size ≤ q5 by omega)
  clear hp hz hq9
  generalize (((w.alloc (.cells #[.int .i64 kd, .int .i64 op, .int .i64 st, .int .i64 cod, .int .i64 tag, .int .i64 N, .int .i64 sq, .string k.1, .string k.2, .bool fu, .int .u32 su, cs, kys] 33)).alloc (.cells #[.int .i64 0, .int .i64 0, .int .i64 0, .int .i64 0, .int .i64 0, .int .i64 0, .int .i64 0, .string ⟨#[]⟩, .string ⟨#[]⟩, .bool false, .int .u32 0, .slice none 0 0, .slice none 0 0] 33)).alloc (.cells #[.int .i64 0, .int .i64 0, .int .i64 0, .int .i64 0, .int .i64 0, .int .i64 0, .int .i64 0, .string ⟨#[]⟩, .string ⟨#[]⟩, .bool false, .int .u32 0, .slice none 0 0, .slice none 0 0] 33)) = w1 at *
  have hc := blk_cell HK.out
  have hl := blk_lt HK.out
  go_upto_region 4 with (fail)
  clear hc hl
  have HK3 := Lib.hid (blk_drew HK.out)
  haveI hI0 : Nonempty (In (fun _ : World => True)) := ⟨⟨w1, trivial⟩⟩
  haveI hI1 : Nonempty (In (fun W : World => W.heap[p]? = some (.cells #[.int .i64 kd, .int .i64 op, .int .i64 st, .int .i64 cod, .int .i64 tag, .int .i64 N, .int .i64 sq, .string k.1, .string k.2, .bool fu, .int .u32 su, cs, kys] 33 (0, 0)))) := ⟨⟨_, HK3.out⟩⟩
  have hL1 : ∀ g : In (fun W : World => W.heap[p]? = some (.cells #[.int .i64 kd, .int .i64 op, .int .i64 st, .int .i64 cod, .int .i64 tag, .int .i64 N, .int .i64 sq, .string k.1, .string k.2, .bool fu, .int .u32 su, cs, kys] 33 (0, 0))), p < g.w.heap.size := fun g => blk_lt g.h
  have hB1_0 : ∀ g : In (fun W : World => W.heap[p]? = some (.cells #[.int .i64 kd, .int .i64 op, .int .i64 st, .int .i64 cod, .int .i64 tag, .int .i64 N, .int .i64 sq, .string k.1, .string k.2, .bool fu, .int .u32 su, cs, kys] 33 (0, 0))), g.w.cell? ⟨p, 0, none⟩ = some (.int .i64 kd) := fun g => by rw [blk_cell g.h]; rfl
  have hB1_1 : ∀ g : In (fun W : World => W.heap[p]? = some (.cells #[.int .i64 kd, .int .i64 op, .int .i64 st, .int .i64 cod, .int .i64 tag, .int .i64 N, .int .i64 sq, .string k.1, .string k.2, .bool fu, .int .u32 su, cs, kys] 33 (0, 0))), g.w.cell? ⟨p, 1, none⟩ = some (.int .i64 op) := fun g => by rw [blk_cell g.h]; rfl
  have hB1_2 : ∀ g : In (fun W : World => W.heap[p]? = some (.cells #[.int .i64 kd, .int .i64 op, .int .i64 st, .int .i64 cod, .int .i64 tag, .int .i64 N, .int .i64 sq, .string k.1, .string k.2, .bool fu, .int .u32 su, cs, kys] 33 (0, 0))), g.w.cell? ⟨p, 2, none⟩ = some (.int .i64 st) := fun g => by rw [blk_cell g.h]; rfl
  have hB1_3 : ∀ g : In (fun W : World => W.heap[p]? = some (.cells #[.int .i64 kd, .int .i64 op, .int .i64 st, .int .i64 cod, .int .i64 tag, .int .i64 N, .int .i64 sq, .string k.1, .string k.2, .bool fu, .int .u32 su, cs, kys] 33 (0, 0))), g.w.cell? ⟨p, 3, none⟩ = some (.int .i64 cod) := fun g => by rw [blk_cell g.h]; rfl
  have hB1_4 : ∀ g : In (fun W : World => W.heap[p]? = some (.cells #[.int .i64 kd, .int .i64 op, .int .i64 st, .int .i64 cod, .int .i64 tag, .int .i64 N, .int .i64 sq, .string k.1, .string k.2, .bool fu, .int .u32 su, cs, kys] 33 (0, 0))), g.w.cell? ⟨p, 4, none⟩ = some (.int .i64 tag) := fun g => by rw [blk_cell g.h]; rfl
  have hB1_5 : ∀ g : In (fun W : World => W.heap[p]? = some (.cells #[.int .i64 kd, .int .i64 op, .int .i64 st, .int .i64 cod, .int .i64 tag, .int .i64 N, .int .i64 sq, .string k.1, .string k.2, .bool fu, .int .u32 su, cs, kys] 33 (0, 0))), g.w.cell? ⟨p, 5, none⟩ = some (.int .i64 N) := fun g => by rw [blk_cell g.h]; rfl
  have hB1_6 : ∀ g : In (fun W : World => W.heap[p]? = some (.cells #[.int .i64 kd, .int .i64 op, .int .i64 st, .int .i64 cod, .int .i64 tag, .int .i64 N, .int .i64 sq, .string k.1, .string k.2, .bool fu, .int .u32 su, cs, kys] 33 (0, 0))), g.w.cell? ⟨p, 6, none⟩ = some (.int .i64 sq) := fun g => by rw [blk_cell g.h]; rfl
  have hB1_7 : ∀ g : In (fun W : World => W.heap[p]? = some (.cells #[.int .i64 kd, .int .i64 op, .int .i64 st, .int .i64 cod, .int .i64 tag, .int .i64 N, .int .i64 sq, .string k.1, .string k.2, .bool fu, .int .u32 su, cs, kys] 33 (0, 0))), g.w.cell? ⟨p, 7, none⟩ = some (.string k.1) := fun g => by rw [blk_cell g.h]; rfl
  have hB1_8 : ∀ g : In (fun W : World => W.heap[p]? = some (.cells #[.int .i64 kd, .int .i64 op, .int .i64 st, .int .i64 cod, .int .i64 tag, .int .i64 N, .int .i64 sq, .string k.1, .string k.2, .bool fu, .int .u32 su, cs, kys] 33 (0, 0))), g.w.cell? ⟨p, 8, none⟩ = some (.string k.2) := fun g => by rw [blk_cell g.h]; rfl
  have hB1_9 : ∀ g : In (fun W : World => W.heap[p]? = some (.cells #[.int .i64 kd, .int .i64 op, .int .i64 st, .int .i64 cod, .int .i64 tag, .int .i64 N, .int .i64 sq, .string k.1, .string k.2, .bool fu, .int .u32 su, cs, kys] 33 (0, 0))), g.w.cell? ⟨p, 9, none⟩ = some (.bool fu) := fun g => by rw [blk_cell g.h]; rfl
  have hB1_10 : ∀ g : In (fun W : World => W.heap[p]? = some (.cells #[.int .i64 kd, .int .i64 op, .int .i64 st, .int .i64 cod, .int .i64 tag, .int .i64 N, .int .i64 sq, .string k.1, .string k.2, .bool fu, .int .u32 su, cs, kys] 33 (0, 0))), g.w.cell? ⟨p, 10, none⟩ = some (.int .u32 su) := fun g => by rw [blk_cell g.h]; rfl
  have hB1_11 : ∀ g : In (fun W : World => W.heap[p]? = some (.cells #[.int .i64 kd, .int .i64 op, .int .i64 st, .int .i64 cod, .int .i64 tag, .int .i64 N, .int .i64 sq, .string k.1, .string k.2, .bool fu, .int .u32 su, cs, kys] 33 (0, 0))), g.w.cell? ⟨p, 11, none⟩ = some (cs) := fun g => by rw [blk_cell g.h]; rfl
  have hB1_12 : ∀ g : In (fun W : World => W.heap[p]? = some (.cells #[.int .i64 kd, .int .i64 op, .int .i64 st, .int .i64 cod, .int .i64 tag, .int .i64 N, .int .i64 sq, .string k.1, .string k.2, .bool fu, .int .u32 su, cs, kys] 33 (0, 0))), g.w.cell? ⟨p, 12, none⟩ = some (kys) := fun g => by rw [blk_cell g.h]; rfl
  refine Hist.wp_region_hist (fun W : World => W.heap[p]? = some (.cells #[.int .i64 kd, .int .i64 op, .int .i64 st, .int .i64 cod, .int .i64 tag, .int .i64 N, .int .i64 sq, .string k.1, .string k.2, .bool fu, .int .u32 su, cs, kys] 33 (0, 0))) (by kernel_rfl) (by kernel_rfl) (by kernel_rfl) (show (fun W : World => W.heap[p]? = some (.cells #[.int .i64 kd, .int .i64 op, .int .i64 st, .int .i64 cod, .int .i64 tag, .int .i64 N, .int .i64 sq, .string k.1, .string k.2, .bool fu, .int .u32 su, cs, kys] 33 (0, 0))) w1.drew from HK3.out) ?_
  have HZ3 := Lib.hid (blk_drew HZ.out)
  have HR3 := Lib.hid (blk_drew HR.out)
  have D3 := Lib.hid D0.out.drew
  clear HK HZ HR D0
  generalize w1.drew = w3 at *
  repeat (first | (refine Hist.wpG_plain 0 _ (by decide +kernel) rfl (by rfl) (by rfl) (fun K hK => ?_); go_big_quiet_op; refine hK _ ?_; clear hK K))
  refine Hist.wpG_call (by rfl) (by rfl) (fun K hK => ?_)
  go_big_op
  refine (HI.out w3 D3.out).mono ?_
  rintro r w4 ⟨a, n, c, rfl, hcl, hnc, hcm, hat, hb4⟩
  have HK4 := Lib.hid (blk_ext hb4 HK3.out)
  have HZ4 := Lib.hid (blk_ext hb4 HZ3.out)
  have HR4 := Lib.hid (blk_ext hb4 HR3.out)
  have HB4 := Lib.hid (ext_trans D3.out hb4)
  have HA4 := Lib.hid hat
  have HCL := Lib.hid hcl
  refine hK _ _ ⟨(fun _ : World => True), (by simp only [List.cons_append, List.nil_append, List.forall_mem_cons]; repeat' (first | exact HK4.out | (intro _ h; cases h; done) | (exact trivial) | constructor)), ?_⟩
  clear hK K hat hb4 hcl HK3 HZ3 HR3 D3
  repeat (first | (refine Hist.wpG_plain 1 _ (by decide +kernel) rfl (by rfl) (by rfl) (fun K hK => ?_); go_big_quiet_op; refine hK _ ?_; clear hK K) | (refine Hist.wpG_plain 0 _ (by decide +kernel) rfl (by rfl) (by rfl) (fun K hK => ?_); go_big_quiet_op; refine hK _ ?_; clear hK K))
  have hbc := blk_cell HR4.out
  have hbf := blk_free HR4.out
  have hbl := blk_lt HR4.out
  refine Hist.wpG_call (by rfl) (by rfl) (fun K hK => ?_)
  go_big_op
  have HR5 := Lib.hid (blk_fill13 (v0 := .int .i64 2) (v1 := .int .i64 5) (v2 := .int .i64 0) (v3 := .int .i64 0) (v4 := .int .i64 0) (v5 := .int .i64 0) (v6 := .int .i64 q) (v7 := .string ⟨#[]⟩) (v8 := .string ⟨#[]⟩) (v9 := .bool full) (v10 := .int .u32 s) (v11 := .slice a n c) (v12 := .slice none 0 0) HR4.out rfl)
  have hr5 : Rim q5 w4 (((((((((((((w4.setCell ⟨q5, 0, none⟩ (.int .i64 2)).setCell ⟨q5, 1, none⟩ (.int .i64 5)).setCell ⟨q5, 2, none⟩ (.int .i64 0)).setCell ⟨q5, 3, none⟩ (.int .i64 0)).setCell ⟨q5, 4, none⟩ (.int .i64 0)).setCell ⟨q5, 5, none⟩ (.int .i64 0)).setCell ⟨q5, 6, none⟩ (.int .i64 q)).setCell ⟨q5, 7, none⟩ (.string ⟨#[]⟩)).setCell ⟨q5, 8, none⟩ (.string ⟨#[]⟩)).setCell ⟨q5, 9, none⟩ (.bool full)).setCell ⟨q5, 10, none⟩ (.int .u32 s)).setCell ⟨q5, 11, none⟩ (.slice a n c)).setCell ⟨q5, 12, none⟩ (.slice none 0 0)) := (rim_set (o := 12) (v := .slice none 0 0) (rim_set (o := 11) (v := .slice a n c) (rim_set (o := 10) (v := .int .u32 s) (rim_set (o := 9) (v := .bool full) (rim_set (o := 8) (v := .string ⟨#[]⟩) (rim_set (o := 7) (v := .string ⟨#[]⟩) (rim_set (o := 6) (v := .int .i64 q) (rim_set (o := 5) (v := .int .i64 0) (rim_set (o := 4) (v := .int .i64 0) (rim_set (o := 3) (v := .int .i64 0) (rim_set (o := 2) (v := .int .i64 0) (rim_set (o := 1) (v := .int .i64 5) (rim_set (o := 0) (v := .int .i64 2) (Rim.of (Below.refl w4.heap.size w4)))))))))))))))
  have HZ5 := Lib.hid ((hr5.block z hzq (blk_lt HZ4.out)).trans HZ4.out)
  have HK5 := Lib.hid ((hr5.block p hpq (blk_lt HK4.out)).trans HK4.out)
  have HA5 := Lib.hid (show CAt (((((((((((((w4.setCell ⟨q5, 0, none⟩ (.int .i64 2)).setCell ⟨q5, 1, none⟩ (.int .i64 5)).setCell ⟨q5, 2, none⟩ (.int .i64 0)).setCell ⟨q5, 3, none⟩ (.int .i64 0)).setCell ⟨q5, 4, none⟩ (.int .i64 0)).setCell ⟨q5, 5, none⟩ (.int .i64 0)).setCell ⟨q5, 6, none⟩ (.int .i64 q)).setCell ⟨q5, 7, none⟩ (.string ⟨#[]⟩)).setCell ⟨q5, 8, none⟩ (.string ⟨#[]⟩)).setCell ⟨q5, 9, none⟩ (.bool full)).setCell ⟨q5, 10, none⟩ (.int .u32 s)).setCell ⟨q5, 11, none⟩ (.slice a n c)).setCell ⟨q5, 12, none⟩ (.slice none 0 0)) a cds from HA4.out.keep fun b cur hc _ => hr5.block b (by rintro rfl; have h9 := HR4.out; rw [hc] at h9; simp at h9) (blk_lt hc))
  have HB5 := Lib.hid (below_fill13 (v0 := .int .i64 2) (v1 := .int .i64 5) (v2 := .int .i64 0) (v3 := .int .i64 0) (v4 := .int .i64 0) (v5 := .int .i64 0) (v6 := .int .i64 q) (v7 := .string ⟨#[]⟩) (v8 := .string ⟨#[]⟩) (v9 := .bool full) (v10 := .int .u32 s) (v11 := .slice a n c) (v12 := .slice none 0 0) HB4.out HQP.out)
  refine hK _ _ ⟨(fun _ : World => True), (by simp only [List.cons_append, List.nil_append, List.forall_mem_cons]; repeat' (first | exact HK5.out | (intro _ h; cases h; done) | (exact trivial) | constructor)), ?_⟩
  clear hK K hbc hbf hbl hr5 HK4 HZ4 HR4 HB4 HA4
  generalize (((((((((((((w4.setCell ⟨q5, 0, none⟩ (.int .i64 2)).setCell ⟨q5, 1, none⟩ (.int .i64 5)).setCell ⟨q5, 2, none⟩ (.int .i64 0)).setCell ⟨q5, 3, none⟩ (.int .i64 0)).setCell ⟨q5, 4, none⟩ (.int .i64 0)).setCell ⟨q5, 5, none⟩ (.int .i64 0)).setCell ⟨q5, 6, none⟩ (.int .i64 q)).setCell ⟨q5, 7, none⟩ (.string ⟨#[]⟩)).setCell ⟨q5, 8, none⟩ (.string ⟨#[]⟩)).setCell ⟨q5, 9, none⟩ (.bool full)).setCell ⟨q5, 10, none⟩ (.int .u32 s)).setCell ⟨q5, 11, none⟩ (.slice a n c)).setCell ⟨q5, 12, none⟩ (.slice none 0 0)) = w5 at *
  repeat (first | (refine Hist.wpG_plain 2 _ (by decide +kernel) rfl (by rfl) (by rfl) (fun K hK => ?_); go_big_quiet_op; refine hK _ ?_; clear hK K) | (refine Hist.wpG_plain 1 _ (by decide +kernel) rfl (by rfl) (by rfl) (fun K hK => ?_); go_big_quiet_op; refine hK _ ?_; clear hK K) | (refine Hist.wpG_plain 0 _ (by decide +kernel) rfl (by rfl) (by rfl) (fun K hK => ?_); go_big_quiet_op; refine hK _ ?_; clear hK K))
  refine Hist.wpG_nil ?_
  clear hI0 hI1 hL1 hB1_0 hB1_1 hB1_2 hB1_3 hB1_4 hB1_5 hB1_6 hB1_7 hB1_8 hB1_9 hB1_10 hB1_11 hB1_12
  have hc := blk_cell HK5.out
  have hl := blk_lt HK5.out
  have hrc := blk_cell HR5.out
  have hrf := blk_free HR5.out
  have hrl := blk_lt HR5.out
  go_upto_region 6 with (fail)
  clear hc hl hrc hrf hrl
  have HR6 := Lib.hid (blk_set (n := 4) (u := .int .i64 tag) (vs' := #[.int .i64 2, .int .i64 5, .int .i64 0, .int .i64 0, .int .i64 tag, .int .i64 0, .int .i64 q, .string ⟨#[]⟩, .string ⟨#[]⟩, .bool full, .int .u32 s, .slice a n c, .slice none 0 0]) HR5.out (by simp))
  have hr6 : Rim q5 w5 (w5.setCell ⟨q5, 4, none⟩ (.int .i64 tag)) := rim_set (Rim.of (Below.refl _ _))
  have HZ6 := Lib.hid ((hr6.block z hzq (blk_lt HZ5.out)).trans HZ5.out)
  have HA6 := Lib.hid (show CAt (w5.setCell ⟨q5, 4, none⟩ (.int .i64 tag)) a cds from HA5.out.keep fun b cur hc _ => hr6.block b (by rintro rfl; have h9 := HR5.out; rw [hc] at h9; simp at h9) (blk_lt hc))
  have HB6 := Lib.hid (HB5.out.setCell (p := ⟨q5, 4, none⟩) HQP.out (.int .i64 tag))
  clear hr6 HR5 HZ5 HK5 HA5 HB5
  generalize (w5.setCell ⟨q5, 4, none⟩ (.int .i64 tag)) = w6 at *
  have hc := blk_cell HR6.out
  have hl := blk_lt HR6.out
  have hc2 := blk_cell HZ6.out
  have hf2 := blk_free HZ6.out
  have hl2 := blk_lt HZ6.out
  go_wp2_with fail
  have hr7 : Rim z w6 _ := (rim_set (o := 12) (v := .slice none 0 0) (rim_set (o := 11) (v := .slice a n c) (rim_set (o := 10) (v := .int .u32 s) (rim_set (o := 9) (v := .bool full) (rim_set (o := 8) (v := .string ⟨#[]⟩) (rim_set (o := 7) (v := .string ⟨#[]⟩) (rim_set (o := 6) (v := .int .i64 q) (rim_set (o := 5) (v := .int .i64 0) (rim_set (o := 4) (v := .int .i64 tag) (rim_set (o := 3) (v := .int .i64 0) (rim_set (o := 2) (v := .int .i64 0) (rim_set (o := 1) (v := .int .i64 5) (rim_set (o := 0) (v := .int .i64 2) (Rim.of (Below.refl w6.heap.size w6)))))))))))))))
  refine bodyPost_ret (v := .agg #[.int .i64 2, .int .i64 5, .int .i64 0, .int .i64 0, .int .i64 tag, .int .i64 0, .int .i64 q, .string ⟨#[]⟩, .string ⟨#[]⟩, .bool full, .int .u32 s, .slice a n c, .slice none 0 0]) (by have hk2 := blk_cell (blk_fill13 (v0 := .int .i64 2) (v1 := .int .i64 5) (v2 := .int .i64 0) (v3 := .int .i64 0) (v4 := .int .i64 tag) (v5 := .int .i64 0) (v6 := .int .i64 q) (v7 := .string ⟨#[]⟩) (v8 := .string ⟨#[]⟩) (v9 := .bool full) (v10 := .int .u32 s) (v11 := .slice a n c) (v12 := .slice none 0 0) HZ6.out rfl); simp [results, Tryz.results45, go_sem, hk2]) rfl ⟨_, rfl, a, n, c, rfl, HCL.out, hnc, hcm, ?_, below_fill13 (v0 := .int .i64 2) (v1 := .int .i64 5) (v2 := .int .i64 0) (v3 := .int .i64 0) (v4 := .int .i64 tag) (v5 := .int .i64 0) (v6 := .int .i64 q) (v7 := .string ⟨#[]⟩) (v8 := .string ⟨#[]⟩) (v9 := .bool full) (v10 := .int .u32 s) (v11 := .slice a n c) (v12 := .slice none 0 0) HB6.out HZP.out⟩
  exact HA6.out.keep fun b cur hc _ => hr7.block b (by rintro rfl; have h9 := HZ6.out; rw [hc] at h9; simp at h9) (blk_lt hc)

end Go.Proofs.YtcjpemphdgndkaaGreat
