/- A desk: Handle, of an ask that is right and no fetch. -/
import Derived.Test.YtcjpemphdgndkaaGreatDkJY
import Derived.Test.YtcjpemphdgndkaaGreatHistY
namespace Go.Proofs.YtcjpemphdgndkaaGreat
open Go.RowKit
set_option linter.unusedVariables false
set_option linter.unusedSimpArgs false

theorem neqNil (w : World) : (binOp .neq 101 .nilIface .nilIface).run Tryz.prog w = .ok (.bool false) w := by kernel_rfl
set_option maxRecDepth 100000 in
set_option maxHeartbeats 4000000 in
theorem deskHandle (db : Nat) (op st tag N sq : Int) (k : Ky) (now : Int) (w : World) (Q : Value → Int → World → Prop) (ho1 : 1 ≤ op) (ho2 : op < 5) (hs0 : 0 ≤ st) (hs1 : st ≤ 255) (hq : -1 ≤ sq) (hn1 : NmOk k.1) (hn2 : NmOk k.2) (h0 : 0 ≤ now) (h1 : now ≤ 1099511627776) (hdb : db < w.heap.size) (hW : ∀ w', Below w.heap.size w w' → Calls Tryz.prog 46 #[.pointer (some ⟨db, 0, none⟩), .agg #[.int .i64 1, .int .i64 op, .int .i64 st, .int .i64 0, .int .i64 tag, .int .i64 N, .int .i64 sq, .string k.1, .string k.2, .bool false, .int .u32 0, .slice none 0 0, .slice none 0 0], .int .i64 now] w' fun r w'' => ∃ a c, r = .returned (.tuple #[a, .int .i64 c]) ∧ Q a c w'' ∧ Rim db w' w'') (hQ : ∀ a c u v b0 cs0, b0 ≠ db → u.heap[b0]? = some (.cells cs0 33 (0, 0)) → Rim b0 u v → Q a c u → Q a c v) :
    Calls Tryz.prog 15 #[.pointer (some ⟨db, 0, none⟩), .agg #[.int .i64 1, .int .i64 op, .int .i64 st, .int .i64 0, .int .i64 tag, .int .i64 N, .int .i64 sq, .string k.1, .string k.2, .bool false, .int .u32 0, .slice none 0 0, .slice none 0 0], .int .i64 now] w fun r w' => ∃ a c, r = .returned (.tuple #[.agg #[.int .i64 2, .int .i64 op, .int .i64 0, .int .i64 c, .int .i64 tag, .int .i64 0, .int .i64 0, .string k.1, .string k.2, .bool false, .int .u32 0, .slice none 0 0, .slice none 0 0], a]) ∧ Q a c w' ∧ Rim db w w' := by
  have D0 := Lib.hid (show Below w.heap.size w (((w.alloc (.cells #[.int .i64 1, .int .i64 op, .int .i64 st, .int .i64 0, .int .i64 tag, .int .i64 N, .int .i64 sq, .string k.1, .string k.2, .bool false, .int .u32 0, .slice none 0 0, .slice none 0 0] 33)).alloc (.cells #[.int .i64 0, .int .i64 0, .int .i64 0, .int .i64 0, .int .i64 0, .int .i64 0, .int .i64 0, .string ⟨#[]⟩, .string ⟨#[]⟩, .bool false, .int .u32 0, .slice none 0 0, .slice none 0 0] 33)).alloc (.cells #[.int .i64 2, .int .i64 op, .int .i64 0, .int .i64 0, .int .i64 tag, .int .i64 0, .int .i64 0, .string k.1, .string k.2, .bool false, .int .u32 0, .slice none 0 0, .slice none 0 0] 33)) from (((Below.refl _ _).alloc (Nat.le_refl _) _).alloc (by simp) _).alloc (by simp; omega) _)
  have HK := Lib.hid (blk_alloc (blk_alloc (blk_new w #[.int .i64 1, .int .i64 op, .int .i64 st, .int .i64 0, .int .i64 tag, .int .i64 N, .int .i64 sq, .string k.1, .string k.2, .bool false, .int .u32 0, .slice none 0 0, .slice none 0 0] 33) (.cells #[.int .i64 0, .int .i64 0, .int .i64 0, .int .i64 0, .int .i64 0, .int .i64 0, .int .i64 0, .string ⟨#[]⟩, .string ⟨#[]⟩, .bool false, .int .u32 0, .slice none 0 0, .slice none 0 0] 33)) (.cells #[.int .i64 2, .int .i64 op, .int .i64 0, .int .i64 0, .int .i64 tag, .int .i64 0, .int .i64 0, .string k.1, .string k.2, .bool false, .int .u32 0, .slice none 0 0, .slice none 0 0] 33))
  have HZ := Lib.hid (blk_alloc (show (w.alloc (.cells #[.int .i64 1, .int .i64 op, .int .i64 st, .int .i64 0, .int .i64 tag, .int .i64 N, .int .i64 sq, .string k.1, .string k.2, .bool false, .int .u32 0, .slice none 0 0, .slice none 0 0] 33)).alloc (.cells #[.int .i64 0, .int .i64 0, .int .i64 0, .int .i64 0, .int .i64 0, .int .i64 0, .int .i64 0, .string ⟨#[]⟩, .string ⟨#[]⟩, .bool false, .int .u32 0, .slice none 0 0, .slice none 0 0] 33) |>.heap[w.heap.size + 1]? = some (.cells #[.int .i64 0, .int .i64 0, .int .i64 0, .int .i64 0, .int .i64 0, .int .i64 0, .int .i64 0, .string ⟨#[]⟩, .string ⟨#[]⟩, .bool false, .int .u32 0, .slice none 0 0, .slice none 0 0] 33 (0, 0)) from blk_new_at (by simp) _ _) (.cells #[.int .i64 2, .int .i64 op, .int .i64 0, .int .i64 0, .int .i64 tag, .int .i64 0, .int .i64 0, .string k.1, .string k.2, .bool false, .int .u32 0, .slice none 0 0, .slice none 0 0] 33))
  have HR := Lib.hid (show (((w.alloc (.cells #[.int .i64 1, .int .i64 op, .int .i64 st, .int .i64 0, .int .i64 tag, .int .i64 N, .int .i64 sq, .string k.1, .string k.2, .bool false, .int .u32 0, .slice none 0 0, .slice none 0 0] 33)).alloc (.cells #[.int .i64 0, .int .i64 0, .int .i64 0, .int .i64 0, .int .i64 0, .int .i64 0, .int .i64 0, .string ⟨#[]⟩, .string ⟨#[]⟩, .bool false, .int .u32 0, .slice none 0 0, .slice none 0 0] 33)).alloc (.cells #[.int .i64 2, .int .i64 op, .int .i64 0, .int .i64 0, .int .i64 tag, .int .i64 0, .int .i64 0, .string k.1, .string k.2, .bool false, .int .u32 0, .slice none 0 0, .slice none 0 0] 33)).heap[w.heap.size + 1 + 1]? = some (.cells #[.int .i64 2, .int .i64 op, .int .i64 0, .int .i64 0, .int .i64 tag, .int .i64 0, .int .i64 0, .string k.1, .string k.2, .bool false, .int .u32 0, .slice none 0 0, .slice none 0 0] 33 (0, 0)) from blk_new_at (by simp) _ _)
  have HW := Lib.hid hW
  have HQQ := Lib.hid hQ
  have HN1 := Lib.hid hn1
  have HN2 := Lib.hid hn2
  have e1 : (op == 5) = false := by simpa using (show ¬ op = 5 by omega)
  have e2 := neqNil
  clear hW hQ hn1 hn2
  go_enter Tryz.func15, Tryz.ntmps15
  go_upto_region 2 with (fail)
  obtain ⟨p, hp⟩ : ∃ p, w.heap.size = p := ⟨_, rfl⟩
  obtain ⟨z, hz⟩ : ∃ z, p + 1 = z := ⟨_, rfl⟩
  obtain ⟨q, hq9⟩ : ∃ q, z + 1 = q := ⟨_, rfl⟩
  rw [hp] at HK
  rw [hp, hz] at HZ
  rw [hp, hz, hq9] at HR
  try rw [hp]
  try rw [hz]
  try rw [hq9]
  have hpd : p ≠ db := by omega
  have hzd : z ≠ db := by omega
  have hqd : q ≠ db := by omega
  have hzq : z ≠ q := by omega
  have hzp : w.heap.size ≤ z := by omega
  have HQP := Lib.hid (show w.heap.size ≤ q by omega)
  clear hp hz hq9
  generalize (((w.alloc (.cells #[.int .i64 1, .int .i64 op, .int .i64 st, .int .i64 0, .int .i64 tag, .int .i64 N, .int .i64 sq, .string k.1, .string k.2, .bool false, .int .u32 0, .slice none 0 0, .slice none 0 0] 33)).alloc (.cells #[.int .i64 0, .int .i64 0, .int .i64 0, .int .i64 0, .int .i64 0, .int .i64 0, .int .i64 0, .string ⟨#[]⟩, .string ⟨#[]⟩, .bool false, .int .u32 0, .slice none 0 0, .slice none 0 0] 33)).alloc (.cells #[.int .i64 2, .int .i64 op, .int .i64 0, .int .i64 0, .int .i64 tag, .int .i64 0, .int .i64 0, .string k.1, .string k.2, .bool false, .int .u32 0, .slice none 0 0, .slice none 0 0] 33)) = w1 at *
  have hc := blk_cell HK.out
  have hl := blk_lt HK.out
  go_wp2_with fail
  refine (mailRightAsk op st tag N sq k w1 ho1 ho2 hs0 hs1 hq HN1.out HN2.out).mono ?_
  rintro r w2 ⟨rfl, hb2⟩
  have HK2 := Lib.hid (blk_ext hb2 HK.out)
  have HZ2 := Lib.hid (blk_ext hb2 HZ.out)
  have HR2 := Lib.hid (blk_ext hb2 HR.out)
  have D2 := Lib.hid (ext_trans D0.out hb2)
  clear hc hl hb2 HK HZ HR D0
  have hc := blk_cell HK2.out
  have hl := blk_lt HK2.out
  go_upto_region 7 with (fail)
  clear hc hl
  have HK3 := Lib.hid (blk_drew HK2.out)
  haveI hI0 : Nonempty (In (fun _ : World => True)) := ⟨⟨w2, trivial⟩⟩
  haveI hI1 : Nonempty (In (fun W : World => W.heap[p]? = some (.cells #[.int .i64 1, .int .i64 op, .int .i64 st, .int .i64 0, .int .i64 tag, .int .i64 N, .int .i64 sq, .string k.1, .string k.2, .bool false, .int .u32 0, .slice none 0 0, .slice none 0 0] 33 (0, 0)))) := ⟨⟨_, HK3.out⟩⟩
  have hL1 : ∀ g : In (fun W : World => W.heap[p]? = some (.cells #[.int .i64 1, .int .i64 op, .int .i64 st, .int .i64 0, .int .i64 tag, .int .i64 N, .int .i64 sq, .string k.1, .string k.2, .bool false, .int .u32 0, .slice none 0 0, .slice none 0 0] 33 (0, 0))), p < g.w.heap.size := fun g => blk_lt g.h
  have hB1_0 : ∀ g : In (fun W : World => W.heap[p]? = some (.cells #[.int .i64 1, .int .i64 op, .int .i64 st, .int .i64 0, .int .i64 tag, .int .i64 N, .int .i64 sq, .string k.1, .string k.2, .bool false, .int .u32 0, .slice none 0 0, .slice none 0 0] 33 (0, 0))), g.w.cell? ⟨p, 0, none⟩ = some (.int .i64 1) := fun g => by rw [blk_cell g.h]; rfl
  have hB1_1 : ∀ g : In (fun W : World => W.heap[p]? = some (.cells #[.int .i64 1, .int .i64 op, .int .i64 st, .int .i64 0, .int .i64 tag, .int .i64 N, .int .i64 sq, .string k.1, .string k.2, .bool false, .int .u32 0, .slice none 0 0, .slice none 0 0] 33 (0, 0))), g.w.cell? ⟨p, 1, none⟩ = some (.int .i64 op) := fun g => by rw [blk_cell g.h]; rfl
  have hB1_2 : ∀ g : In (fun W : World => W.heap[p]? = some (.cells #[.int .i64 1, .int .i64 op, .int .i64 st, .int .i64 0, .int .i64 tag, .int .i64 N, .int .i64 sq, .string k.1, .string k.2, .bool false, .int .u32 0, .slice none 0 0, .slice none 0 0] 33 (0, 0))), g.w.cell? ⟨p, 2, none⟩ = some (.int .i64 st) := fun g => by rw [blk_cell g.h]; rfl
  have hB1_3 : ∀ g : In (fun W : World => W.heap[p]? = some (.cells #[.int .i64 1, .int .i64 op, .int .i64 st, .int .i64 0, .int .i64 tag, .int .i64 N, .int .i64 sq, .string k.1, .string k.2, .bool false, .int .u32 0, .slice none 0 0, .slice none 0 0] 33 (0, 0))), g.w.cell? ⟨p, 3, none⟩ = some (.int .i64 0) := fun g => by rw [blk_cell g.h]; rfl
  have hB1_4 : ∀ g : In (fun W : World => W.heap[p]? = some (.cells #[.int .i64 1, .int .i64 op, .int .i64 st, .int .i64 0, .int .i64 tag, .int .i64 N, .int .i64 sq, .string k.1, .string k.2, .bool false, .int .u32 0, .slice none 0 0, .slice none 0 0] 33 (0, 0))), g.w.cell? ⟨p, 4, none⟩ = some (.int .i64 tag) := fun g => by rw [blk_cell g.h]; rfl
  have hB1_5 : ∀ g : In (fun W : World => W.heap[p]? = some (.cells #[.int .i64 1, .int .i64 op, .int .i64 st, .int .i64 0, .int .i64 tag, .int .i64 N, .int .i64 sq, .string k.1, .string k.2, .bool false, .int .u32 0, .slice none 0 0, .slice none 0 0] 33 (0, 0))), g.w.cell? ⟨p, 5, none⟩ = some (.int .i64 N) := fun g => by rw [blk_cell g.h]; rfl
  have hB1_6 : ∀ g : In (fun W : World => W.heap[p]? = some (.cells #[.int .i64 1, .int .i64 op, .int .i64 st, .int .i64 0, .int .i64 tag, .int .i64 N, .int .i64 sq, .string k.1, .string k.2, .bool false, .int .u32 0, .slice none 0 0, .slice none 0 0] 33 (0, 0))), g.w.cell? ⟨p, 6, none⟩ = some (.int .i64 sq) := fun g => by rw [blk_cell g.h]; rfl
  have hB1_7 : ∀ g : In (fun W : World => W.heap[p]? = some (.cells #[.int .i64 1, .int .i64 op, .int .i64 st, .int .i64 0, .int .i64 tag, .int .i64 N, .int .i64 sq, .string k.1, .string k.2, .bool false, .int .u32 0, .slice none 0 0, .slice none 0 0] 33 (0, 0))), g.w.cell? ⟨p, 7, none⟩ = some (.string k.1) := fun g => by rw [blk_cell g.h]; rfl
  have hB1_8 : ∀ g : In (fun W : World => W.heap[p]? = some (.cells #[.int .i64 1, .int .i64 op, .int .i64 st, .int .i64 0, .int .i64 tag, .int .i64 N, .int .i64 sq, .string k.1, .string k.2, .bool false, .int .u32 0, .slice none 0 0, .slice none 0 0] 33 (0, 0))), g.w.cell? ⟨p, 8, none⟩ = some (.string k.2) := fun g => by rw [blk_cell g.h]; rfl
  have hB1_9 : ∀ g : In (fun W : World => W.heap[p]? = some (.cells #[.int .i64 1, .int .i64 op, .int .i64 st, .int .i64 0, .int .i64 tag, .int .i64 N, .int .i64 sq, .string k.1, .string k.2, .bool false, .int .u32 0, .slice none 0 0, .slice none 0 0] 33 (0, 0))), g.w.cell? ⟨p, 9, none⟩ = some (.bool false) := fun g => by rw [blk_cell g.h]; rfl
  have hB1_10 : ∀ g : In (fun W : World => W.heap[p]? = some (.cells #[.int .i64 1, .int .i64 op, .int .i64 st, .int .i64 0, .int .i64 tag, .int .i64 N, .int .i64 sq, .string k.1, .string k.2, .bool false, .int .u32 0, .slice none 0 0, .slice none 0 0] 33 (0, 0))), g.w.cell? ⟨p, 10, none⟩ = some (.int .u32 0) := fun g => by rw [blk_cell g.h]; rfl
  have hB1_11 : ∀ g : In (fun W : World => W.heap[p]? = some (.cells #[.int .i64 1, .int .i64 op, .int .i64 st, .int .i64 0, .int .i64 tag, .int .i64 N, .int .i64 sq, .string k.1, .string k.2, .bool false, .int .u32 0, .slice none 0 0, .slice none 0 0] 33 (0, 0))), g.w.cell? ⟨p, 11, none⟩ = some (.slice none 0 0) := fun g => by rw [blk_cell g.h]; rfl
  have hB1_12 : ∀ g : In (fun W : World => W.heap[p]? = some (.cells #[.int .i64 1, .int .i64 op, .int .i64 st, .int .i64 0, .int .i64 tag, .int .i64 N, .int .i64 sq, .string k.1, .string k.2, .bool false, .int .u32 0, .slice none 0 0, .slice none 0 0] 33 (0, 0))), g.w.cell? ⟨p, 12, none⟩ = some (.slice none 0 0) := fun g => by rw [blk_cell g.h]; rfl
  refine Hist.wp_region_hist (fun W : World => W.heap[p]? = some (.cells #[.int .i64 1, .int .i64 op, .int .i64 st, .int .i64 0, .int .i64 tag, .int .i64 N, .int .i64 sq, .string k.1, .string k.2, .bool false, .int .u32 0, .slice none 0 0, .slice none 0 0] 33 (0, 0))) (by kernel_rfl) (by kernel_rfl) (by kernel_rfl) (show (fun W : World => W.heap[p]? = some (.cells #[.int .i64 1, .int .i64 op, .int .i64 st, .int .i64 0, .int .i64 tag, .int .i64 N, .int .i64 sq, .string k.1, .string k.2, .bool false, .int .u32 0, .slice none 0 0, .slice none 0 0] 33 (0, 0))) w2.drew from HK3.out) ?_
  have HZ3 := Lib.hid (blk_drew HZ2.out)
  have HR3 := Lib.hid (blk_drew HR2.out)
  have D3 := Lib.hid D2.out.drew
  generalize w2.drew = w3 at *
  repeat (first | (refine Hist.wpG_plain 0 _ (by decide +kernel) rfl (by rfl) (by rfl) (fun K hK => ?_); go_big_quiet_op; refine hK _ ?_; clear hK K))
  refine Hist.wpG_call (by rfl) (by rfl) (fun K hK => ?_)
  go_big_op
  refine (deskHeld now w3 h0 h1).mono ?_
  rintro r x ⟨rfl, hx⟩
  obtain rfl := hx.symm
  refine hK _ _ ⟨(fun _ : World => True), (by simp only [List.cons_append, List.nil_append, List.forall_mem_cons]; repeat' (first | exact HK3.out | (intro _ h; cases h; done) | (exact trivial) | constructor)), ?_⟩
  clear hK K
  repeat (first | (refine Hist.wpG_plain 1 _ (by decide +kernel) rfl (by rfl) (by rfl) (fun K hK => ?_); go_big_quiet_op; refine hK _ ?_; clear hK K) | (refine Hist.wpG_plain 0 _ (by decide +kernel) rfl (by rfl) (by rfl) (fun K hK => ?_); go_big_quiet_op; refine hK _ ?_; clear hK K))
  refine Hist.wpG_call (by rfl) (by rfl) (fun K hK => ?_)
  go_big_op
  refine (HW.out w3 D3.out).mono ?_
  rintro r w4 ⟨a, c, rfl, hq4, hr4⟩
  have HQ4 := Lib.hid hq4
  have HK4 := Lib.hid ((hr4.block p hpd (blk_lt HK3.out)).trans HK3.out)
  have HZ4 := Lib.hid ((hr4.block z hzd (blk_lt HZ3.out)).trans HZ3.out)
  have HR4 := Lib.hid ((hr4.block q hqd (blk_lt HR3.out)).trans HR3.out)
  have HM4 := Lib.hid ((Rim.of (b := db) D3.out).trans hr4)
  refine hK _ _ ⟨(fun _ : World => True), (by simp only [List.cons_append, List.nil_append, List.forall_mem_cons]; repeat' (first | exact HK4.out | (intro _ h; cases h; done) | (exact trivial) | constructor)), ?_⟩
  clear hK K hq4 hr4
  repeat (first | (refine Hist.wpG_plain 2 _ (by decide +kernel) rfl (by rfl) (by rfl) (fun K hK => ?_); go_big_quiet_op; refine hK _ ?_; clear hK K) | (refine Hist.wpG_plain 1 _ (by decide +kernel) rfl (by rfl) (by rfl) (fun K hK => ?_); go_big_quiet_op; refine hK _ ?_; clear hK K) | (refine Hist.wpG_plain 0 _ (by decide +kernel) rfl (by rfl) (by rfl) (fun K hK => ?_); go_big_quiet_op; refine hK _ ?_; clear hK K))
  refine Hist.wpG_nil ?_
  clear hI0 hI1 hL1 hB1_0 hB1_1 hB1_2 hB1_3 hB1_4 hB1_5 hB1_6 hB1_7 hB1_8 hB1_9 hB1_10 hB1_11 hB1_12
  have hc := blk_cell HR4.out
  have hf := blk_free HR4.out
  have hl := blk_lt HR4.out
  go_upto_region 9 with (fail)
  clear hc hf hl
  have HR5 := Lib.hid (blk_set (n := 3) (u := .int .i64 c) (vs' := #[.int .i64 2, .int .i64 op, .int .i64 0, .int .i64 c, .int .i64 tag, .int .i64 0, .int .i64 0, .string k.1, .string k.2, .bool false, .int .u32 0, .slice none 0 0, .slice none 0 0]) HR4.out (by simp))
  have HZ5 := Lib.hid (blk_set_other (b := z) (b' := q) (n := 3) (u := .int .i64 c) hzq HZ4.out)
  have hr5 : Rim q w4 (w4.setCell ⟨q, 3, none⟩ (.int .i64 c)) := rim_set (Rim.of (Below.refl _ _))
  have HQ5 := Lib.hid (HQQ.out a c w4 _ q _ hqd HR4.out hr5 HQ4.out)
  have HM5 := Lib.hid (show Rim db w (w4.setCell ⟨q, 3, none⟩ (.int .i64 c)) from by
    refine ⟨hr5.os.trans HM4.out.os, hr5.tape.trans HM4.out.tape, hr5.output.trans HM4.out.output, Nat.le_trans HM4.out.size hr5.size, fun i hi hl => ?_⟩
    exact (hr5.block i (by have := HQP.out; omega) (Nat.lt_of_lt_of_le hl HM4.out.size)).trans (HM4.out.block i hi hl))
  clear hr5 HQ4 HM4 HR4 HZ4 HK4
  generalize (w4.setCell ⟨q, 3, none⟩ (.int .i64 c)) = w5 at *
  have hc := blk_cell HR5.out
  have hl := blk_lt HR5.out
  have hc2 := blk_cell HZ5.out
  have hf2 := blk_free HZ5.out
  have hl2 := blk_lt HZ5.out
  go_wp2_with fail
  have hr6 : Rim z w5 _ := (rim_set (o := 12) (v := .slice none 0 0) (rim_set (o := 11) (v := .slice none 0 0) (rim_set (o := 10) (v := .int .u32 0) (rim_set (o := 9) (v := .bool false) (rim_set (o := 8) (v := .string k.2) (rim_set (o := 7) (v := .string k.1) (rim_set (o := 6) (v := .int .i64 0) (rim_set (o := 5) (v := .int .i64 0) (rim_set (o := 4) (v := .int .i64 tag) (rim_set (o := 3) (v := .int .i64 c) (rim_set (o := 2) (v := .int .i64 0) (rim_set (o := 1) (v := .int .i64 op) (rim_set (o := 0) (v := .int .i64 2) (Rim.of (Below.refl w5.heap.size w5)))))))))))))))
  refine bodyPost_ret (v := .tuple #[.agg #[.int .i64 2, .int .i64 op, .int .i64 0, .int .i64 c, .int .i64 tag, .int .i64 0, .int .i64 0, .string k.1, .string k.2, .bool false, .int .u32 0, .slice none 0 0, .slice none 0 0], a]) (by have hk2 := blk_cell (blk_fillM (v0 := .int .i64 2) (v1 := .int .i64 op) (v2 := .int .i64 0) (v3 := .int .i64 c) (v4 := .int .i64 tag) (v5 := .int .i64 0) (v6 := .int .i64 0) (v7 := .string k.1) (v8 := .string k.2) (v9 := .bool false) (v10 := .int .u32 0) (v11 := .slice none 0 0) (v12 := .slice none 0 0) HZ5.out rfl); simp [results, Tryz.results15, go_sem, hk2]) rfl ⟨a, c, rfl, HQQ.out a c w5 _ z _ hzd HZ5.out hr6 HQ5.out, ?_⟩
  refine ⟨hr6.os.trans HM5.out.os, hr6.tape.trans HM5.out.tape, hr6.output.trans HM5.out.output, Nat.le_trans HM5.out.size hr6.size, fun i hi hl => ?_⟩
  exact (hr6.block i (by omega) (Nat.lt_of_lt_of_le hl HM5.out.size)).trans (HM5.out.block i hi hl)

end Go.Proofs.YtcjpemphdgndkaaGreat
