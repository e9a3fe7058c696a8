/- Rows of asks of a tape. -/
import Derived.Test.YtcjpemphdgndkaaGreatDkAkZ
import Derived.Deep.WholeRow
namespace Go.Proofs.YtcjpemphdgndkaaGreat
open Go.RowKit
set_option linter.unusedVariables false
set_option linter.unusedSimpArgs false

structure Aq where
  kd : Int
  op : Int
  st : Int
  tag : Int
  N : Int
  sq : Int
  k : Ky
  more : Int
  late : Int
  c : Cd
def aq (x : Aq) : List Value := [.int .i64 x.kd, .int .i64 1, .int .i64 x.op, .int .i64 x.st, .int .i64 0, .int .i64 x.tag, .int .i64 x.N, .int .i64 x.sq, .string x.k.1, .string x.k.2, .bool false, .int .u32 0, .slice none 0 0, .slice none 0 0, .int .i64 x.more, .int .i64 x.late, .string x.c.a, .string x.c.i, .int .i64 x.c.s, .int .i64 x.c.o, .int .i64 x.c.l, .int .i64 x.c.t, .int .i64 x.c.k, .int .i64 x.c.n, .bool x.c.g]
theorem aq_len (x : Aq) : (aq x).length = 25 := rfl
theorem aq_one (x : Aq) : ∀ u ∈ aq x, u.oneCell' = true := by
  intro u hu
  simp only [aq, List.mem_cons, List.not_mem_nil, or_false] at hu
  rcases hu with rfl | rfl | rfl | rfl | rfl | rfl | rfl | rfl | rfl | rfl | rfl | rfl | rfl | rfl | rfl | rfl | rfl | rfl | rfl | rfl | rfl | rfl | rfl | rfl | rfl <;> rfl
theorem info_aq : (Tryz.prog.info? 39).map (fun i => (i.zero, i.size, i.bytes)) = some (some (.agg #[.int .i64 0, .int .i64 0, .int .i64 0, .int .i64 0, .int .i64 0, .int .i64 0, .int .i64 0, .int .i64 0, .string ⟨#[]⟩, .string ⟨#[]⟩, .bool false, .int .u32 0, .slice none 0 0, .slice none 0 0, .int .i64 0, .int .i64 0, .string ⟨#[]⟩, .string ⟨#[]⟩, .int .i64 0, .int .i64 0, .int .i64 0, .int .i64 0, .int .i64 0, .int .i64 0, .bool false]), 25, 256) := by kernel_rfl
theorem all_of {l : List Value} (h : ∀ u ∈ l, u.oneCell' = true) : l.toArray.all (·.oneCell') = true := by
  simp only [List.all_toArray, List.all_eq_true]
  exact h
theorem wpList_store {P : Program} {ops : Array Oper} {Q : Exit → Act → World → Prop} {rest : List Oper} {o : Oper} {t : TypeId} {p x : Operand} {a : Act} {w w' : World} (hg : o.guard = none) (hd : o.dst = none) (ho : o.op = .store t p x) (hr : (Instr.storeAt t (a.eval p) (a.eval x)).run P w = .ok () w') (h : wpList P ops Q rest a w') : wpList P ops Q (o :: rest) a w := by
  refine wpList_plain hg fun K hK => ?_
  unfold Oper.wp
  have e : (execOp a.eval o).run P w = .ok .skip w' := by
    unfold execOp
    rw [ho]
    simp only [Sem.run_bind, hr, Result.andThen, Sem.run_pure]
  rw [e, Oper.upon_skip, hd]
  exact hK _ _ h
theorem run_loadAt_at {P : Program} {w : World} {b o : Nat} {t : TypeId} {c : List Value} {n : Nat} (hc : ∀ j v, c[j]? = some v → w.cell? ⟨b, o + j, none⟩ = some v) (ha : (isAgg t).run P w = .ok true w) (hs : (sizeOf t).run P w = .ok n w) (hn : c.length = n) : (Instr.loadAt t (.pointer (some ⟨b, o, none⟩))).run P w = .ok (.agg c.toArray) w := by
  subst hn
  have h1 := run_loadCells_list (P := P) w ⟨b, o, none⟩ c (fun j v hv => by
    have hadd : (⟨b, o, none⟩ : Addr).add j = ⟨b, o + j, none⟩ := by unfold Addr.add; split <;> simp_all
    rw [hadd]
    exact hc j v hv)
  simp only [Instr.loadAt, Instr.sureAddr, Sem.run_bind, Sem.run_pure, Result.andThen, loadVar, ha, hs, if_true]
  rw [h1]
theorem wpList_load {P : Program} {ops : Array Oper} {Q : Exit → Act → World → Prop} {rest : List Oper} {o : Oper} {t : TypeId} {p : Operand} {a : Act} {w : World} {v : Value} {d : Nat} (hg : o.guard = none) (hd : o.dst = some d) (ho : o.op = .load t p) (hr : (Instr.loadAt t (a.eval p)).run P w = .ok v w) (h : wpList P ops Q rest (a.put (some d) v) w) : wpList P ops Q (o :: rest) a w := by
  refine wpList_plain hg fun K hK => ?_
  unfold Oper.wp
  have e : (execOp a.eval o).run P w = .ok (.value v) w := by
    unfold execOp
    rw [ho]
    simp only [Sem.run_bind, hr, Result.andThen, Sem.run_pure]
  rw [e, Oper.upon_value, hd]
  exact hK _ _ h
theorem aggAq (w : World) : (isAgg 39).run Tryz.prog w = .ok true w := by kernel_rfl
theorem szAq (w : World) : (sizeOf 39).run Tryz.prog w = .ok 25 w := by kernel_rfl
theorem sizeAq : (Tryz.prog.info? 39).map (·.size) = some 25 := by kernel_rfl
abbrev OwnQ (base : Nat) (w : World) (v : Value) (ls : List Aq) : Prop := OwnR aq 25 39 base w v ls
abbrev AqAt (w : World) (a : Option Addr) (ls : List Aq) : Prop := SAt aq 25 39 w a ls
def AqOk (x : Aq) : Prop := 0 ≤ x.kd ∧ x.kd < 10 ∧ AskOk x.op x.st x.tag x.N x.sq x.k ∧ 0 ≤ x.more ∧ x.more < 420 ∧ 0 ≤ x.late ∧ x.late < 3 ∧ CdOk x.c ∧ KA x.c.a ∧ KI x.c.i
def slN (v : Value) : Nat := match v with | .slice _ n _ => n | _ => 0
theorem OwnR_len {α : Type} {enc : α → List Value} {k : Nat} {T : TypeId} {base : Nat} {w : World} {v : Value} {ls : List α} (h : OwnR enc k T base w v ls) : slN v = ls.length := by
  obtain ⟨a, c, rfl, -⟩ := h.form
  rfl
set_option maxRecDepth 100000 in
set_option maxHeartbeats 4000000 in
theorem lawAsks (a0 : Option Addr) (len cap : Nat) (zs : List Int) (m : Nat) (w : World) (hI : IsRow .i64 w a0 len cap zs) (hm : m ≤ 70) :
    Calls Tryz.prog 10 #[.slice a0 len cap, .int .i64 (m : Int)] w fun r w' => ∃ v qs, r = .returned v ∧ OwnQ w.heap.size w' v qs ∧ qs.length ≤ m ∧ (∀ x ∈ qs, AqOk x) ∧ Below w.heap.size w w' := by
  obtain ⟨i0, hi, hz0, hz1, hz2⟩ := info_parts' info_aq
  have D0 : Below w.heap.size w (w.alloc (.cells #[.slice a0 len cap, .int .i64 0] 82)) := (Below.refl _ _).alloc (Nat.le_refl _) _
  have HT0 := Lib.hid (tapeK_new (a := a0) (len := len) (cap := cap) w)
  have HRS := Lib.hid (rowOk_new hI (.cells #[.slice a0 len cap, .int .i64 0] 82)).2
  have HD0 := Lib.hid D0
  have HI := Lib.hid hI
  have hlen : len ≤ maxLen := Nat.le_trans hI.1 hI.2.1
  unfold maxLen at hlen
  clear D0 hI
  go_enter Tryz.func10, Tryz.ntmps10
  go_upto_region 2 with (fail)
  obtain ⟨tb, htb⟩ : ∃ q, w.heap.size = q := ⟨_, rfl⟩
  have HRW := Lib.hid (show ∀ wr, Below w.heap.size w wr → RowOk a0 len cap zs wr tb from fun wr h => ⟨HI.out.ext h, by have := HRS.out; rw [htb] at this; exact this⟩)
  rw [htb] at HT0
  try rw [htb]
  have hwt : w.heap.size ≤ tb := by omega
  clear htb HRS
  generalize (w.alloc (.cells #[.slice a0 len cap, .int .i64 0] 82)) = w1 at *
  go_wp2_with fail
  go_loopw [6] (fun v wr => ∃ (n : Nat) (qs : List Aq), n ≤ m ∧ qs.length = n ∧ OwnQ w.heap.size wr v qs ∧ (∀ x ∈ qs, AqOk x) ∧ TapeK a0 len cap wr tb ∧ Below w.heap.size w wr) (fun v _ => m - slN v)
  case atStart => exact ⟨0, [], by omega, rfl, OwnR.nil _ _, by simp, HT0.out, HD0.out⟩
  case round =>
    obtain ⟨w2, rfl⟩ : ∃ y : World, y = wr := ⟨_, rfl⟩
    obtain ⟨n, qs, hnm, hn, ho, hok, hT2, hb2⟩ := hrel
    obtain ⟨a, c0, rfl, hnc, hcm, -⟩ := ho.form
    rw [hn] at hnc ho ⊢
    have HN := Lib.hid hn
    have HO2 := Lib.hid ho
    have HOK := Lib.hid hok
    have HT2 := Lib.hid hT2
    have HB2 := Lib.hid hb2
    unfold maxLen at hcm
    clear hn ho hok hT2 hb2
    obtain ⟨k, hk1, hk2⟩ := HT2.out
    have hkc := blk_cell hk1
    have hkl := blk_lt hk1
    have HKK := Lib.hid hk2
    clear hk1
    by_cases hnm2 : n < m
    · have hd1 : decide ((n : Int) < (m : Int)) = true := by simp; omega
      by_cases hkn : k < len
      · have hd2 : decide ((k : Int) < (len : Int)) = true := by simp; omega
        go_upto_region 4 with (fail)
        clear hkc hkl hd1 hd2 hkn hk2
        go_wp2_with fail
        refine (tapeNextK _ _ _ zs tb 10 _ HT2.out (HRW.out _ HB2.out) (by omega) (by omega)).mono ?_
        rintro e w3 ⟨q1, rfl, q1a, q1b, hT3, hx3⟩
        have HB3 := Lib.hid (HB2.out.trans (hx3.below hwt HB2.out.size))
        have HO3 := Lib.hid (HT2.out.own hx3 (by decide) HO2.out)
        have HT3 := Lib.hid hT3
        clear hT3 hx3 HT2 HB2 HO2
        go_wp2_with fail
        refine (tapeAsk _ _ _ zs tb _ HT3.out (HRW.out _ HB3.out)).mono ?_
        rintro e w4 ⟨op, st, tag, N, sq, ky_, rfl, hak, hT4, hx4⟩
        have HB4 := Lib.hid (HB3.out.trans (hx4.below hwt HB3.out.size))
        have HO4 := Lib.hid (HT3.out.own hx4 (by decide) HO3.out)
        have HT4 := Lib.hid hT4
        have HAK := Lib.hid hak
        obtain ⟨k, hk⟩ : ∃ k : Ky, k = ky_ := ⟨_, rfl⟩
        rw [← hk] at HAK ⊢
        clear hT4 hx4 HT3 HB3 HO3 hak hk
        go_wp2_with fail
        refine (tapeNextK _ _ _ zs tb 12 _ HT4.out (HRW.out _ HB4.out) (by omega) (by omega)).mono ?_
        rintro e w5 ⟨q2, rfl, q2a, q2b, hT5, hx5⟩
        have HB5 := Lib.hid (HB4.out.trans (hx5.below hwt HB4.out.size))
        have HO5 := Lib.hid (HT4.out.own hx5 (by decide) HO4.out)
        have HT5 := Lib.hid hT5
        clear hT5 hx5 HT4 HB4 HO4
        go_wp2_with fail
        refine (tapeNextK _ _ _ zs tb 3 _ HT5.out (HRW.out _ HB5.out) (by omega) (by omega)).mono ?_
        rintro e w6 ⟨q3, rfl, q3a, q3b, hT6, hx6⟩
        have HB6 := Lib.hid (HB5.out.trans (hx6.below hwt HB5.out.size))
        have HO6 := Lib.hid (HT5.out.own hx6 (by decide) HO5.out)
        have HT6 := Lib.hid hT6
        clear hT6 hx6 HT5 HB5 HO5
        go_wp2_with fail
        refine (tapeCardF _ _ _ zs tb _ HT6.out (HRW.out _ HB6.out)).mono ?_
        rintro e w7 ⟨c, rfl, hc1, hc2, hc3, hT7, hx7⟩
        have HB7 := Lib.hid (HB6.out.trans (hx7.below hwt HB6.out.size))
        have HO7 := Lib.hid (HT6.out.own hx7 (by decide) HO6.out)
        have HT7 := Lib.hid hT7
        have HCK := Lib.hid (And.intro hc1 (And.intro hc2 hc3))
        clear hT7 hx7 HT6 HB6 HO6 hc1 hc2 hc3
        have hS1 : (Instr.storeAt 39 (.pointer (some ⟨w7.heap.size, 0, none⟩)) (.agg #[.int .i64 q1, .int .i64 1, .int .i64 op, .int .i64 st, .int .i64 0, .int .i64 tag, .int .i64 N, .int .i64 sq, .string k.1, .string k.2, .bool false, .int .u32 0, .slice none 0 0, .slice none 0 0, .int .i64 q2, .int .i64 q3, .string c.a, .string c.i, .int .i64 c.s, .int .i64 c.o, .int .i64 c.l, .int .i64 c.t, .int .i64 c.k, .int .i64 c.n, .bool c.g])).run Tryz.prog (w7.alloc (.cells #[.int .i64 0, .int .i64 0, .int .i64 0, .int .i64 0, .int .i64 0, .int .i64 0, .int .i64 0, .int .i64 0, .string ⟨#[]⟩, .string ⟨#[]⟩, .bool false, .int .u32 0, .slice none 0 0, .slice none 0 0, .int .i64 0, .int .i64 0, .string ⟨#[]⟩, .string ⟨#[]⟩, .int .i64 0, .int .i64 0, .int .i64 0, .int .i64 0, .int .i64 0, .int .i64 0, .bool false] 39)) = .ok () (w7.alloc (.cells #[.int .i64 q1, .int .i64 1, .int .i64 op, .int .i64 st, .int .i64 0, .int .i64 tag, .int .i64 N, .int .i64 sq, .string k.1, .string k.2, .bool false, .int .u32 0, .slice none 0 0, .slice none 0 0, .int .i64 q2, .int .i64 q3, .string c.a, .string c.i, .int .i64 c.s, .int .i64 c.o, .int .i64 c.l, .int .i64 c.t, .int .i64 c.k, .int .i64 c.n, .bool c.g] 39)) := run_storeAt_new w7 39 _ _ sizeAq rfl (all_of (aq_one (⟨q1, op, st, tag, N, sq, k, q2, q3, c⟩ : Aq)))
        rename_i hK7
        refine hK7 _ _ ?_
        clear hK7
        refine wpList_plain rfl (fun K hK => ?_)
        go_big_op
        refine hK _ _ ?_
        clear hK K
        refine wpList_plain rfl (fun K hK => ?_)
        go_big_op
        refine hK _ _ ?_
        clear hK K
        refine wpList_store rfl rfl rfl hS1 ?_
        refine wpList_nil ?_
        clear hS1
        have D8 : Below w7.heap.size w7 (w7.alloc (.cells #[.int .i64 q1, .int .i64 1, .int .i64 op, .int .i64 st, .int .i64 0, .int .i64 tag, .int .i64 N, .int .i64 sq, .string k.1, .string k.2, .bool false, .int .u32 0, .slice none 0 0, .slice none 0 0, .int .i64 q2, .int .i64 q3, .string c.a, .string c.i, .int .i64 c.s, .int .i64 c.o, .int .i64 c.l, .int .i64 c.t, .int .i64 c.k, .int .i64 c.n, .bool c.g] 39)) := (Below.refl _ _).alloc (Nat.le_refl _) _
        have HTT := Lib.hid (blk_new w7 #[.int .i64 q1, .int .i64 1, .int .i64 op, .int .i64 st, .int .i64 0, .int .i64 tag, .int .i64 N, .int .i64 sq, .string k.1, .string k.2, .bool false, .int .u32 0, .slice none 0 0, .slice none 0 0, .int .i64 q2, .int .i64 q3, .string c.a, .string c.i, .int .i64 c.s, .int .i64 c.o, .int .i64 c.l, .int .i64 c.t, .int .i64 c.k, .int .i64 c.n, .bool c.g] 39)
        have HT8 := Lib.hid (HT7.out.ext D8)
        have HB8 := Lib.hid (ext_trans HB7.out D8)
        have HO8 := Lib.hid (OwnR.ext HO7.out D8)
        have hTb : w7.heap.size ≠ tb := by have := HT7.out.lt; omega
        have hTw : w.heap.size ≤ w7.heap.size := HB7.out.size
        have HNT := Lib.hid (show some w7.heap.size ≠ (Value.slice a n c0).ownBlock from by
          obtain ⟨a', c', e, -, -, -, hb, hf⟩ := OwnR.read aq_len HO7.out
          intro h
          rcases hf with ⟨rfl, -, -⟩ | ⟨g, rfl⟩
          · rw [e] at h; simp [Value.ownBlock] at h
          · rw [e] at h; simp [Value.ownBlock] at h; have := (hb g 0 rfl).2.1; omega)
        obtain ⟨T, hTe⟩ : ∃ T, w7.heap.size = T := ⟨_, rfl⟩
        rw [hTe] at HTT hTb hTw HNT
        try rw [hTe]
        clear hTe D8 HT7 HB7 HO7
        generalize (w7.alloc (.cells #[.int .i64 q1, .int .i64 1, .int .i64 op, .int .i64 st, .int .i64 0, .int .i64 tag, .int .i64 N, .int .i64 sq, .string k.1, .string k.2, .bool false, .int .u32 0, .slice none 0 0, .slice none 0 0, .int .i64 q2, .int .i64 q3, .string c.a, .string c.i, .int .i64 c.s, .int .i64 c.o, .int .i64 c.l, .int .i64 c.t, .int .i64 c.k, .int .i64 c.n, .bool c.g] 39)) = w8 at *
        go_wp2_with fail
        refine (tapeNextK _ _ _ zs tb 9 _ HT8.out (HRW.out _ HB8.out) (by omega) (by omega)).mono ?_
        rintro e w9 ⟨q4, rfl, q4a, q4b, hT9, hx9⟩
        have HB9 := Lib.hid (HB8.out.trans (hx9.below hwt HB8.out.size))
        have HO9 := Lib.hid (HT8.out.own hx9 (by decide) HO8.out)
        have HT9 := Lib.hid hT9
        have HTT9 := Lib.hid (hx9.blk hTb HTT.out)
        clear hT9 hx9 HT8 HB8 HO8 HTT
        by_cases h0 : q4 = 0
        · subst h0
          go_wp2_with fail
          refine (tapeNextK _ _ _ zs tb 420 _ HT9.out (HRW.out _ HB9.out) (by omega) (by omega)).mono ?_
          rintro e w10 ⟨q5, rfl, q5a, q5b, hT10, hx10⟩
          have HB10 := Lib.hid (HB9.out.trans (hx10.below hwt HB9.out.size))
          have HO10 := Lib.hid (HT9.out.own hx10 (by decide) HO9.out)
          have HT10 := Lib.hid hT10
          have HTT10 := Lib.hid (hx10.blk hTb HTT9.out)
          clear hT10 hx10 HT9 HB9 HO9 HTT9
          have htc := blk_cell HTT10.out
          have htf := blk_free HTT10.out
          have htl := blk_lt HTT10.out
          go_upto_region 7 with (fail)
          clear htc htf htl
          have hk11 : Kept T w10 (w10.setCell ⟨T, 14, none⟩ (.int .i64 q5)) := (Kept.refl T w10).setCell _ _
          have HTT := Lib.hid (show (w10.setCell ⟨T, 14, none⟩ (.int .i64 q5)).heap[T]? = some (.cells #[.int .i64 q1, .int .i64 1, .int .i64 op, .int .i64 st, .int .i64 0, .int .i64 tag, .int .i64 N, .int .i64 sq, .string k.1, .string k.2, .bool false, .int .u32 0, .slice none 0 0, .slice none 0 0, .int .i64 q5, .int .i64 q3, .string c.a, .string c.i, .int .i64 c.s, .int .i64 c.o, .int .i64 c.l, .int .i64 c.t, .int .i64 c.k, .int .i64 c.n, .bool c.g] 39 (0, 0)) from blk_set HTT10.out (by simp))
          have HB := Lib.hid (HB10.out.setCell (p := ⟨T, 14, none⟩) hTw (.int .i64 q5))
          have HTK := Lib.hid (show TapeK a0 len cap (w10.setCell ⟨T, 14, none⟩ (.int .i64 q5)) tb from by
            obtain ⟨q, e1, e2⟩ := HT10.out
            exact ⟨q, (hk11.block tb (Ne.symm hTb)).trans e1, e2⟩)
          have HOn := Lib.hid (show OwnQ w.heap.size (w10.setCell ⟨T, 14, none⟩ (.int .i64 q5)) (.slice a n c0) qs from ownsRow_keep HO10.out hk11 HNT.out)
          clear hk11 HTT10 HT10 HB10 HO10
          generalize (w10.setCell ⟨T, 14, none⟩ (.int .i64 q5)) = w11 at *
          have htc := blk_cell HTT.out
          have htl := blk_lt HTT.out
          have HO := Lib.hid (show OwnQ w.heap.size w11 (.slice a n c0) qs from HOn.out)
          have hsz := HB.out.size
          have hL : (Instr.loadAt 39 (.pointer (some ⟨T, 0, none⟩))).run Tryz.prog w11 = .ok (.agg #[.int .i64 q1, .int .i64 1, .int .i64 op, .int .i64 st, .int .i64 0, .int .i64 tag, .int .i64 N, .int .i64 sq, .string k.1, .string k.2, .bool false, .int .u32 0, .slice none 0 0, .slice none 0 0, .int .i64 q5, .int .i64 q3, .string c.a, .string c.i, .int .i64 c.s, .int .i64 c.o, .int .i64 c.l, .int .i64 c.t, .int .i64 c.k, .int .i64 c.n, .bool c.g]) w11 := run_loadAt_at (c := aq (⟨q1, op, st, tag, N, sq, k, q5, q3, c⟩ : Aq)) (fun j v hj => by rw [Nat.zero_add, htc]; simpa [aq] using hj) (aggAq _) (szAq _) rfl
          go_upto_region 7 with (fail)
          clear htc htl
          refine wp_region_lit ?_
          refine wpList_plain rfl (fun K hK => ?_)
          go_big_op
          refine hK _ _ ?_
          clear hK K
          refine wpList_load rfl rfl rfl hL ?_
          simp only [Act.put, List.setIfInBounds_toArray, List.set_cons_succ, List.set_cons_zero]
          clear hL
          go_wp2_with (at_builtin; refine wpList_append_own _ rfl _ _ 23 rfl (w.heap.size) 39 i0 (.agg #[.int .i64 0, .int .i64 0, .int .i64 0, .int .i64 0, .int .i64 0, .int .i64 0, .int .i64 0, .int .i64 0, .string ⟨#[]⟩, .string ⟨#[]⟩, .bool false, .int .u32 0, .slice none 0 0, .slice none 0 0, .int .i64 0, .int .i64 0, .string ⟨#[]⟩, .string ⟨#[]⟩, .int .i64 0, .int .i64 0, .int .i64 0, .int .i64 0, .int .i64 0, .int .i64 0, .bool false]) 25 256 Tryz.underlying23 hi hz0 hz1 hz2 rfl (by decide) _ n (flat aq qs) rfl (by have := HO.out.alloc (.cells #[.int .i64 q1, .int .i64 1, .int .i64 op, .int .i64 st, .int .i64 0, .int .i64 tag, .int .i64 N, .int .i64 sq, .string k.1, .string k.2, .bool false, .int .u32 0, .slice none 0 0, .slice none 0 0, .int .i64 q5, .int .i64 q3, .string c.a, .string c.i, .int .i64 c.s, .int .i64 c.o, .int .i64 c.l, .int .i64 c.t, .int .i64 c.k, .int .i64 c.n, .bool c.g] 39); rw [HN.out] at this; exact this) ⟨w11.heap.size, 0, none⟩ 1 1 (aq (⟨q1, op, st, tag, N, sq, k, q5, q3, c⟩ : Aq)) rfl rfl ?c1 ?c2 ?c3 ?c4 ?c5 ?_)
          case c1 =>
            intro j u hj
            rw [add_off, Nat.zero_add, blk_cell (blk_new w11 #[.int .i64 q1, .int .i64 1, .int .i64 op, .int .i64 st, .int .i64 0, .int .i64 tag, .int .i64 N, .int .i64 sq, .string k.1, .string k.2, .bool false, .int .u32 0, .slice none 0 0, .slice none 0 0, .int .i64 q5, .int .i64 q3, .string c.a, .string c.i, .int .i64 c.s, .int .i64 c.o, .int .i64 c.l, .int .i64 c.t, .int .i64 c.k, .int .i64 c.n, .bool c.g] 39)]
            simpa [aq] using hj
          case c2 => exact aq_one (⟨q1, op, st, tag, N, sq, k, q5, q3, c⟩ : Aq)
          case c3 => unfold maxLen; omega
          case c4 => omega
          case c5 => simp; omega
          intro v4 w4 ho4 hg4 _
          have HO4 := Lib.hid (show OwnQ w.heap.size w4 v4 (qs ++ [(⟨q1, op, st, tag, N, sq, k, q5, q3, c⟩ : Aq)]) by unfold OwnQ OwnR; rw [flat_snoc, List.length_append, HN.out]; exact ho4)
          have B4 := Lib.hid ((HB.out.alloc hsz (.cells #[.int .i64 q1, .int .i64 1, .int .i64 op, .int .i64 st, .int .i64 0, .int .i64 tag, .int .i64 N, .int .i64 sq, .string k.1, .string k.2, .bool false, .int .u32 0, .slice none 0 0, .slice none 0 0, .int .i64 q5, .int .i64 q3, .string c.a, .string c.i, .int .i64 c.s, .int .i64 c.o, .int .i64 c.l, .int .i64 c.t, .int .i64 c.k, .int .i64 c.n, .bool c.g] 39)).grown hg4 (by simp; omega) (fun q hq => own_ge HO.out hq))
          have T4 := Lib.hid (show TapeK a0 len cap w4 tb from by
            obtain ⟨q, e1, e2⟩ := HTK.out
            exact ⟨q, (hg4.block tb (by have := HTK.out.lt; simp; omega) (own_ne (HO.out.alloc (.cells #[.int .i64 q1, .int .i64 1, .int .i64 op, .int .i64 st, .int .i64 0, .int .i64 tag, .int .i64 N, .int .i64 sq, .string k.1, .string k.2, .bool false, .int .u32 0, .slice none 0 0, .slice none 0 0, .int .i64 q5, .int .i64 q3, .string c.a, .string c.i, .int .i64 c.s, .int .i64 c.o, .int .i64 c.l, .int .i64 c.t, .int .i64 c.k, .int .i64 c.n, .bool c.g] 39)) (blk_alloc e1 _) (by decide))).trans (blk_alloc e1 _), e2⟩)
          clear ho4 hg4 HO HTK HB HTT hsz
          go_wp2
          go_roundw
          case rel => exact ⟨n + 1, qs ++ [(⟨q1, op, st, tag, N, sq, k, q5, q3, c⟩ : Aq)], by omega, by rw [List.length_append, HN.out]; rfl, HO4.out, by intro y hy; rcases List.mem_append.1 hy with h | h; (· exact HOK.out y h); (· simp at h; subst h; exact ⟨by show 0 ≤ q1; omega, by show q1 < 10; omega, HAK.out, by show 0 ≤ q5; omega, by show q5 < 420; omega, by show 0 ≤ q3; omega, by show q3 < 3; omega, HCK.out⟩), T4.out, B4.out⟩
          case measure => have e9 := HN.out; have e8 : slN v4 = n + 1 := (by rw [OwnR_len HO4.out, List.length_append, e9]; rfl); rw [e8]; simp only [slN]; omega
        · have hq : (q4 == 0) = false := by simpa using h0
          have HTT := HTT9
          have HB := HB9
          have HTK := HT9
          have HOn := Lib.hid (show OwnQ w.heap.size w9 (.slice a n c0) qs from HO9.out)
          clear HTT9 HB9 HT9 HO9
          have htc := blk_cell HTT.out
          have htl := blk_lt HTT.out
          have HO := Lib.hid (show OwnQ w.heap.size w9 (.slice a n c0) qs from HOn.out)
          have hsz := HB.out.size
          have hL : (Instr.loadAt 39 (.pointer (some ⟨T, 0, none⟩))).run Tryz.prog w9 = .ok (.agg #[.int .i64 q1, .int .i64 1, .int .i64 op, .int .i64 st, .int .i64 0, .int .i64 tag, .int .i64 N, .int .i64 sq, .string k.1, .string k.2, .bool false, .int .u32 0, .slice none 0 0, .slice none 0 0, .int .i64 q2, .int .i64 q3, .string c.a, .string c.i, .int .i64 c.s, .int .i64 c.o, .int .i64 c.l, .int .i64 c.t, .int .i64 c.k, .int .i64 c.n, .bool c.g]) w9 := run_loadAt_at (c := aq (⟨q1, op, st, tag, N, sq, k, q2, q3, c⟩ : Aq)) (fun j v hj => by rw [Nat.zero_add, htc]; simpa [aq] using hj) (aggAq _) (szAq _) rfl
          go_upto_region 7 with (fail)
          clear htc htl
          refine wp_region_lit ?_
          refine wpList_plain rfl (fun K hK => ?_)
          go_big_op
          refine hK _ _ ?_
          clear hK K
          refine wpList_load rfl rfl rfl hL ?_
          simp only [Act.put, List.setIfInBounds_toArray, List.set_cons_succ, List.set_cons_zero]
          clear hL
          go_wp2_with (at_builtin; refine wpList_append_own _ rfl _ _ 23 rfl (w.heap.size) 39 i0 (.agg #[.int .i64 0, .int .i64 0, .int .i64 0, .int .i64 0, .int .i64 0, .int .i64 0, .int .i64 0, .int .i64 0, .string ⟨#[]⟩, .string ⟨#[]⟩, .bool false, .int .u32 0, .slice none 0 0, .slice none 0 0, .int .i64 0, .int .i64 0, .string ⟨#[]⟩, .string ⟨#[]⟩, .int .i64 0, .int .i64 0, .int .i64 0, .int .i64 0, .int .i64 0, .int .i64 0, .bool false]) 25 256 Tryz.underlying23 hi hz0 hz1 hz2 rfl (by decide) _ n (flat aq qs) rfl (by have := HO.out.alloc (.cells #[.int .i64 q1, .int .i64 1, .int .i64 op, .int .i64 st, .int .i64 0, .int .i64 tag, .int .i64 N, .int .i64 sq, .string k.1, .string k.2, .bool false, .int .u32 0, .slice none 0 0, .slice none 0 0, .int .i64 q2, .int .i64 q3, .string c.a, .string c.i, .int .i64 c.s, .int .i64 c.o, .int .i64 c.l, .int .i64 c.t, .int .i64 c.k, .int .i64 c.n, .bool c.g] 39); rw [HN.out] at this; exact this) ⟨w9.heap.size, 0, none⟩ 1 1 (aq (⟨q1, op, st, tag, N, sq, k, q2, q3, c⟩ : Aq)) rfl rfl ?c1 ?c2 ?c3 ?c4 ?c5 ?_)
          case c1 =>
            intro j u hj
            rw [add_off, Nat.zero_add, blk_cell (blk_new w9 #[.int .i64 q1, .int .i64 1, .int .i64 op, .int .i64 st, .int .i64 0, .int .i64 tag, .int .i64 N, .int .i64 sq, .string k.1, .string k.2, .bool false, .int .u32 0, .slice none 0 0, .slice none 0 0, .int .i64 q2, .int .i64 q3, .string c.a, .string c.i, .int .i64 c.s, .int .i64 c.o, .int .i64 c.l, .int .i64 c.t, .int .i64 c.k, .int .i64 c.n, .bool c.g] 39)]
            simpa [aq] using hj
          case c2 => exact aq_one (⟨q1, op, st, tag, N, sq, k, q2, q3, c⟩ : Aq)
          case c3 => unfold maxLen; omega
          case c4 => omega
          case c5 => simp; omega
          intro v4 w4 ho4 hg4 _
          have HO4 := Lib.hid (show OwnQ w.heap.size w4 v4 (qs ++ [(⟨q1, op, st, tag, N, sq, k, q2, q3, c⟩ : Aq)]) by unfold OwnQ OwnR; rw [flat_snoc, List.length_append, HN.out]; exact ho4)
          have B4 := Lib.hid ((HB.out.alloc hsz (.cells #[.int .i64 q1, .int .i64 1, .int .i64 op, .int .i64 st, .int .i64 0, .int .i64 tag, .int .i64 N, .int .i64 sq, .string k.1, .string k.2, .bool false, .int .u32 0, .slice none 0 0, .slice none 0 0, .int .i64 q2, .int .i64 q3, .string c.a, .string c.i, .int .i64 c.s, .int .i64 c.o, .int .i64 c.l, .int .i64 c.t, .int .i64 c.k, .int .i64 c.n, .bool c.g] 39)).grown hg4 (by simp; omega) (fun q hq => own_ge HO.out hq))
          have T4 := Lib.hid (show TapeK a0 len cap w4 tb from by
            obtain ⟨q, e1, e2⟩ := HTK.out
            exact ⟨q, (hg4.block tb (by have := HTK.out.lt; simp; omega) (own_ne (HO.out.alloc (.cells #[.int .i64 q1, .int .i64 1, .int .i64 op, .int .i64 st, .int .i64 0, .int .i64 tag, .int .i64 N, .int .i64 sq, .string k.1, .string k.2, .bool false, .int .u32 0, .slice none 0 0, .slice none 0 0, .int .i64 q2, .int .i64 q3, .string c.a, .string c.i, .int .i64 c.s, .int .i64 c.o, .int .i64 c.l, .int .i64 c.t, .int .i64 c.k, .int .i64 c.n, .bool c.g] 39)) (blk_alloc e1 _) (by decide))).trans (blk_alloc e1 _), e2⟩)
          clear ho4 hg4 HO HTK HB HTT hsz
          go_wp2
          go_roundw
          case rel => exact ⟨n + 1, qs ++ [(⟨q1, op, st, tag, N, sq, k, q2, q3, c⟩ : Aq)], by omega, by rw [List.length_append, HN.out]; rfl, HO4.out, by intro y hy; rcases List.mem_append.1 hy with h | h; (· exact HOK.out y h); (· simp at h; subst h; exact ⟨by show 0 ≤ q1; omega, by show q1 < 10; omega, HAK.out, by show 0 ≤ q2; omega, by show q2 < 420; omega, by show 0 ≤ q3; omega, by show q3 < 3; omega, HCK.out⟩), T4.out, B4.out⟩
          case measure => have e9 := HN.out; have e8 : slN v4 = n + 1 := (by rw [OwnR_len HO4.out, List.length_append, e9]; rfl); rw [e8]; simp only [slN]; omega
      · have hd2 : decide ((k : Int) < (len : Int)) = false := by simp; omega
        go_wp2
        go_ret
        exact ⟨_, qs, rfl, by have := HO2.out; exact this, by rw [HN.out]; omega, HOK.out, HB2.out⟩
    · have hd1 : decide ((n : Int) < (m : Int)) = false := by simp; omega
      go_wp2
      go_ret
      exact ⟨_, qs, rfl, by have := HO2.out; exact this, by rw [HN.out]; omega, HOK.out, HB2.out⟩


end Go.Proofs.YtcjpemphdgndkaaGreat
