/- Messages are written: what is put behind bytes. -/
import Derived.Test.YtfdalmodnkkfiaaDoorMlM
import Derived.Test.YtfdalmodnkkfiaaDoorChain
import Derived.Test.YtfdalmodnkkfiaaDoorBe
import Derived.Deep.DeepCutAuto
import Derived.BigRegion
namespace Go.Proofs.YtfdalmodnkkfiaaDoor
open Go.RowKit
set_option linter.unusedVariables false
set_option linter.unusedSimpArgs false

theorem keyB_len (k : ByteArray × ByteArray) : (keyB k).length ≤ 512 := by
  have h1 := txt_len k.1
  have h2 := txt_len k.2
  have h3 := cut255_len k.1
  have h4 := cut255_len k.2
  simp only [keyB, List.length_append]
  omega
theorem cdB_len (c : Cd) : (cdB c).length ≤ 540 := by
  have h := keyB_len (c.a, c.i)
  simp only [cdB, List.length_append, be_len, List.length_cons, List.length_nil]
  omega
theorem keyB_wb (k : ByteArray × ByteArray) : Wb (keyB k) := (txt_wb _).app (txt_wb _)
theorem md_wb (z : Int) : Wb [z % 256] := Wb.one (Int.emod_nonneg _ (by omega)) (Int.emod_lt_of_pos _ (by omega))
theorem bit_wb (b : Bool) : Wb [bitN b] := by cases b <;> exact Wb.one (by decide) (by decide)
theorem cdB_wb (c : Cd) : Wb (cdB c) := (((((((keyB_wb _).app (md_wb _)).app (md_wb _)).app (be_wb _)).app (be_wb _)).app (md_wb _)).app (be_wb _)).app (bit_wb _)
theorem flatC_len (ls : List Cd) : (ls.flatMap cdB).length ≤ 540 * ls.length := by
  induction ls with
  | nil => simp
  | cons x xs ih => rw [List.flatMap_cons, List.length_append, List.length_cons]; have := cdB_len x; omega
theorem flatK_len (ls : List (ByteArray × ByteArray)) : (ls.flatMap keyB).length ≤ 512 * ls.length := by
  induction ls with
  | nil => simp
  | cons x xs ih => rw [List.flatMap_cons, List.length_append, List.length_cons]; have := keyB_len x; omega
set_option maxRecDepth 100000 in
set_option maxHeartbeats 2000000 in
theorem mailPutKey (a : Option Addr) (n cap : Nat) (k : ByteArray × ByteArray) (xs : List Int) (w : World) (h : BAt w a xs) (hl : xs.length = n) (hs : n ≤ 10000000) (hk1 : k.1.size ≤ 1000) (hk2 : k.2.size ≤ 1000) :
    Calls Tryd.prog 45 #[.slice a n cap, .agg #[.string k.1, .string k.2]] w fun r w' => (Row (xs ++ keyB k) w) r w' := by
  have hE := (Below.refl w.heap.size w).alloc (Nat.le_refl _) (.cells #[.string k.1, .string k.2] 24)
  have HB0 := Lib.hid hE
  have HX0 := Lib.hid (blk_new w #[.string k.1, .string k.2] 24)
  clear hE
  have HA := Lib.hid h
  have HN := Lib.hid hl
  have hT1 := txt_len k.1
  have hT2 := txt_len k.2
  have hC1 := cut255_len k.1
  have hC2 := cut255_len k.2
  clear h hl
  go_enter Tryd.func45, Tryd.ntmps45
  go_upto_region 1 with (fail)
  obtain ⟨r, hr⟩ : ∃ r, w.heap.size = r := ⟨_, rfl⟩
  rw [hr] at HX0
  try rw [hr]
  clear hr
  generalize (w.alloc (.cells #[.string k.1, .string k.2] 24)) = w0 at *
  have HA0 := Lib.hid (HA.out.ext HB0.out)
  clear HA
  haveI hIc : Nonempty (In ((fun W : World => W.heap[r]? = some (.cells #[.string k.1, .string k.2] 24 (0, 0))))) := ⟨⟨_, HX0.out⟩⟩
  have hFx : ∀ g : In ((fun W : World => W.heap[r]? = some (.cells #[.string k.1, .string k.2] 24 (0, 0)))), ∀ n, g.w.cell? ⟨r, n, none⟩ = (#[.string k.1, .string k.2] : Array Value)[n]? := fun g n => blk_cell g.h n
  have hFl : ∀ g : In ((fun W : World => W.heap[r]? = some (.cells #[.string k.1, .string k.2] 24 (0, 0)))), r < g.w.heap.size := fun g => blk_lt g.h
  refine wp_region_chain (fun w' => ∃ g : In ((fun W : World => W.heap[r]? = some (.cells #[.string k.1, .string k.2] 24 (0, 0)))), w' = g.w) (by kernel_rfl) (by kernel_rfl) (by kernel_rfl) ?_
  refine wpG_letter (fun W => W.heap[r]? = some (.cells #[.string k.1, .string k.2] 24 (0, 0)) ∧ Below w.heap.size w W ∧ BAt W a xs) ⟨blk_drew HX0.out, HB0.out.drew, HA0.out.ext ((Below.refl _ _).drew)⟩ ?_
  rintro x0 ⟨hx0, hb0, ha0⟩
  repeat (refine wpG_plain (by rfl) (by rfl) (fun K hK => ?_); go_big_quiet_op; refine hK _ ?_; clear hK K)
  refine wpG_call (by rfl) (by rfl) ⟨⟨_, hx0⟩, rfl⟩ (fun K hK => ?_)
  go_big_op
  refine (packText a n cap k.1 xs _ ha0 HN.out (by omega) (by unfold maxLen; omega)).mono ?_
  rintro e x1 ⟨v1, rfl, ho, hb1⟩
  obtain ⟨a1, c1, rfl, -, -, -, hr1, -, -⟩ := own_read ho
  have hx1 := blk_ext hb1 hx0
  have hb2 := ext_trans hb0 hb1
  obtain ⟨n1, hn1⟩ : ∃ n, (xs ++ txt k.1).length = n := ⟨_, rfl⟩
  have hz1 : n1 ≤ n + 256 := by have h9 := hn1; rw [List.length_append, HN.out] at h9; omega
  have HN1 := Lib.hid hn1
  rw [hn1]
  clear hx0 hb0 ha0 hb1 ho hn1
  refine hK _ _ ?_
  clear hK K
  repeat (refine wpG_plain (by rfl) (by rfl) (fun K hK => ?_); go_big_quiet_op; refine hK _ ?_; clear hK K)
  refine wpG_call (by rfl) (by rfl) ⟨⟨_, hx1⟩, rfl⟩ (fun K hK => ?_)
  go_big_op
  refine (packText a1 n1 c1 k.2 (xs ++ txt k.1) _ hr1 HN1.out (by omega) (by unfold maxLen; omega)).mono ?_
  rintro e x2 ⟨v2, rfl, ho, hb3⟩
  have hx2 := blk_ext hb3 hx1
  have HB4 := Lib.hid (ext_trans hb2 hb3)
  have HO4 := Lib.hid (ownsRow_base ho hb2.size)
  clear hx1 hr1 hb2 hb3 ho
  refine hK _ _ ?_
  clear hK K
  repeat (refine wpG_plain (by rfl) (by rfl) (fun K hK => ?_); go_big_quiet_op; refine hK _ ?_; clear hK K)
  refine wpG_nil ⟨⟨_, hx2⟩, rfl⟩ ?_
  go_wp2
  go_ret
  have e : xs ++ txt k.1 ++ txt k.2 = xs ++ keyB k := by simp [keyB]
  exact ⟨_, rfl, by have := HO4.out; rw [e] at this; exact this, HB4.out⟩


set_option maxRecDepth 100000 in
set_option maxHeartbeats 1000000 in
theorem mailPutFlag (a : Option Addr) (n cap : Nat) (b : Bool) (xs : List Int) (w : World) (h : BAt w a xs) (hl : xs.length = n) (hs : n ≤ 10000000) :
    Calls Tryd.prog 24 #[.slice a n cap, .bool b] w fun r w' => (Row (xs ++ [bitN b]) w) r w' := by
  have HA := Lib.hid h
  have HN := Lib.hid hl
  clear h hl
  cases b
  · go_enter Tryd.func24, Tryd.ntmps24
    go_wp2_with fail
    refine (packByte a n cap 0 xs _ HA.out HN.out (by omega)).mono ?_
    rintro e w1 ⟨v, rfl, ho, hb⟩
    go_wp2
    go_ret
    exact ⟨v, rfl, ho, hb⟩
  · go_enter Tryd.func24, Tryd.ntmps24
    go_wp2_with fail
    refine (packByte a n cap 1 xs _ HA.out HN.out (by omega)).mono ?_
    rintro e w1 ⟨v, rfl, ho, hb⟩
    go_wp2
    go_ret
    exact ⟨v, rfl, ho, hb⟩

set_option maxRecDepth 100000 in
set_option maxHeartbeats 4000000 in
theorem mailCardBytes (x : Cd) (w : World) (h1 : x.a.size ≤ 1000) (h2 : x.i.size ≤ 1000) :
    Calls Tryd.prog 46 #[.agg #[.string x.a, .string x.i, .int .i64 x.s, .int .i64 x.o, .int .i64 x.l, .int .i64 x.t, .int .i64 x.k, .int .i64 x.n, .bool x.g]] w fun r w' => (Row (cdB x) w) r w' := by
  have hE := (Below.refl w.heap.size w).alloc (Nat.le_refl _) (.cells #[.string x.a, .string x.i, .int .i64 x.s, .int .i64 x.o, .int .i64 x.l, .int .i64 x.t, .int .i64 x.k, .int .i64 x.n, .bool x.g] 50)
  have HB0 := Lib.hid hE
  have HX0 := Lib.hid (blk_new w #[.string x.a, .string x.i, .int .i64 x.s, .int .i64 x.o, .int .i64 x.l, .int .i64 x.t, .int .i64 x.k, .int .i64 x.n, .bool x.g] 50)
  clear hE
  go_enter Tryd.func46, Tryd.ntmps46
  go_upto_region 1 with (fail)
  obtain ⟨r, hr⟩ : ∃ r, w.heap.size = r := ⟨_, rfl⟩
  rw [hr] at HX0
  try rw [hr]
  clear hr
  generalize (w.alloc (.cells #[.string x.a, .string x.i, .int .i64 x.s, .int .i64 x.o, .int .i64 x.l, .int .i64 x.t, .int .i64 x.k, .int .i64 x.n, .bool x.g] 50)) = w0 at *
  have HA0 := Lib.hid ((show BAt w0 none [] from .inl rfl))
  have HN0 := Lib.hid ((show ([] : List Int).length = 0 from rfl))
  have hk := blk_cell HX0.out
  have hl := blk_lt HX0.out
  go_wp2_with fail
  refine (mailPutKey none 0 0 ((x.a, x.i)) (([] : List Int)) _ HA0.out HN0.out (by omega) (by omega) (by omega)).mono ?_
  rintro e w1 ⟨v1, rfl, ho, hb⟩
  obtain ⟨a1, c1, rfl, -, -, -, hr9, -, -⟩ := own_read ho
  have HO1 := Lib.hid ho
  clear ho hk hl
  have HX1 := Lib.hid (blk_ext hb HX0.out)
  have HB1 := Lib.hid (ext_trans HB0.out hb)
  have HA1 := Lib.hid hr9
  obtain ⟨n1, hn9⟩ : ∃ n, (([] : List Int) ++ keyB ((x.a, x.i))).length = n := ⟨_, rfl⟩
  have hz1 : n1 ≤ 512 := by have h8 := HN0.out; have h9 := hn9; rw [List.length_append] at h9; have h7 := keyB_len (x.a, x.i); simp only [List.length_nil] at h9; omega
  have HN1 := Lib.hid hn9
  rw [hn9]
  clear hb hr9 hn9 HX0 HB0 HA0
  have hk := blk_cell HX1.out
  have hl := blk_lt HX1.out
  go_wp2_with fail
  refine (packByte a1 n1 c1 (x.s) (([] : List Int) ++ keyB ((x.a, x.i))) _ HA1.out HN1.out (by omega)).mono ?_
  rintro e w2 ⟨v2, rfl, ho, hb⟩
  obtain ⟨a2, c2, rfl, -, -, -, hr9, -, -⟩ := own_read ho
  have HO2 := Lib.hid ho
  clear ho hk hl
  have HX2 := Lib.hid (blk_ext hb HX1.out)
  have HB2 := Lib.hid (ext_trans HB1.out hb)
  have HA2 := Lib.hid hr9
  obtain ⟨n2, hn9⟩ : ∃ n, (([] : List Int) ++ keyB ((x.a, x.i)) ++ [(x.s) % 256]).length = n := ⟨_, rfl⟩
  have hz2 : n2 ≤ 513 := by have h8 := HN1.out; have h9 := hn9; rw [List.length_append] at h9; simp only [List.length_cons, List.length_nil] at h9; omega
  have HN2 := Lib.hid hn9
  rw [hn9]
  clear hb hr9 hn9 HX1 HB1 HA1
  have hk := blk_cell HX2.out
  have hl := blk_lt HX2.out
  go_wp2_with fail
  refine (packByte a2 n2 c2 (x.o) (([] : List Int) ++ keyB ((x.a, x.i)) ++ [(x.s) % 256]) _ HA2.out HN2.out (by omega)).mono ?_
  rintro e w3 ⟨v3, rfl, ho, hb⟩
  obtain ⟨a3, c3, rfl, -, -, -, hr9, -, -⟩ := own_read ho
  have HO3 := Lib.hid ho
  clear ho hk hl
  have HX3 := Lib.hid (blk_ext hb HX2.out)
  have HB3 := Lib.hid (ext_trans HB2.out hb)
  have HA3 := Lib.hid hr9
  obtain ⟨n3, hn9⟩ : ∃ n, (([] : List Int) ++ keyB ((x.a, x.i)) ++ [(x.s) % 256] ++ [(x.o) % 256]).length = n := ⟨_, rfl⟩
  have hz3 : n3 ≤ 514 := by have h8 := HN2.out; have h9 := hn9; rw [List.length_append] at h9; simp only [List.length_cons, List.length_nil] at h9; omega
  have HN3 := Lib.hid hn9
  rw [hn9]
  clear hb hr9 hn9 HX2 HB2 HA2
  have hk := blk_cell HX3.out
  have hl := blk_lt HX3.out
  go_wp2_with fail
  refine (packInt a3 n3 c3 (x.l) (([] : List Int) ++ keyB ((x.a, x.i)) ++ [(x.s) % 256] ++ [(x.o) % 256]) _ HA3.out HN3.out (by omega)).mono ?_
  rintro e w4 ⟨v4, rfl, ho, hb⟩
  obtain ⟨a4, c4, rfl, -, -, -, hr9, -, -⟩ := own_read ho
  have HO4 := Lib.hid ho
  clear ho hk hl
  have HX4 := Lib.hid (blk_ext hb HX3.out)
  have HB4 := Lib.hid (ext_trans HB3.out hb)
  have HA4 := Lib.hid hr9
  obtain ⟨n4, hn9⟩ : ∃ n, (([] : List Int) ++ keyB ((x.a, x.i)) ++ [(x.s) % 256] ++ [(x.o) % 256] ++ be (x.l)).length = n := ⟨_, rfl⟩
  have hz4 : n4 ≤ 522 := by have h8 := HN3.out; have h9 := hn9; rw [List.length_append, be_len] at h9; omega
  have HN4 := Lib.hid hn9
  rw [hn9]
  clear hb hr9 hn9 HX3 HB3 HA3
  have hk := blk_cell HX4.out
  have hl := blk_lt HX4.out
  go_wp2_with fail
  refine (packInt a4 n4 c4 (x.t) (([] : List Int) ++ keyB ((x.a, x.i)) ++ [(x.s) % 256] ++ [(x.o) % 256] ++ be (x.l)) _ HA4.out HN4.out (by omega)).mono ?_
  rintro e w5 ⟨v5, rfl, ho, hb⟩
  obtain ⟨a5, c5, rfl, -, -, -, hr9, -, -⟩ := own_read ho
  have HO5 := Lib.hid ho
  clear ho hk hl
  have HX5 := Lib.hid (blk_ext hb HX4.out)
  have HB5 := Lib.hid (ext_trans HB4.out hb)
  have HA5 := Lib.hid hr9
  obtain ⟨n5, hn9⟩ : ∃ n, (([] : List Int) ++ keyB ((x.a, x.i)) ++ [(x.s) % 256] ++ [(x.o) % 256] ++ be (x.l) ++ be (x.t)).length = n := ⟨_, rfl⟩
  have hz5 : n5 ≤ 530 := by have h8 := HN4.out; have h9 := hn9; rw [List.length_append, be_len] at h9; omega
  have HN5 := Lib.hid hn9
  rw [hn9]
  clear hb hr9 hn9 HX4 HB4 HA4
  have hk := blk_cell HX5.out
  have hl := blk_lt HX5.out
  go_wp2_with fail
  refine (packByte a5 n5 c5 (x.k) (([] : List Int) ++ keyB ((x.a, x.i)) ++ [(x.s) % 256] ++ [(x.o) % 256] ++ be (x.l) ++ be (x.t)) _ HA5.out HN5.out (by omega)).mono ?_
  rintro e w6 ⟨v6, rfl, ho, hb⟩
  obtain ⟨a6, c6, rfl, -, -, -, hr9, -, -⟩ := own_read ho
  have HO6 := Lib.hid ho
  clear ho hk hl
  have HX6 := Lib.hid (blk_ext hb HX5.out)
  have HB6 := Lib.hid (ext_trans HB5.out hb)
  have HA6 := Lib.hid hr9
  obtain ⟨n6, hn9⟩ : ∃ n, (([] : List Int) ++ keyB ((x.a, x.i)) ++ [(x.s) % 256] ++ [(x.o) % 256] ++ be (x.l) ++ be (x.t) ++ [(x.k) % 256]).length = n := ⟨_, rfl⟩
  have hz6 : n6 ≤ 531 := by have h8 := HN5.out; have h9 := hn9; rw [List.length_append] at h9; simp only [List.length_cons, List.length_nil] at h9; omega
  have HN6 := Lib.hid hn9
  rw [hn9]
  clear hb hr9 hn9 HX5 HB5 HA5
  have hk := blk_cell HX6.out
  have hl := blk_lt HX6.out
  go_wp2_with fail
  refine (packInt a6 n6 c6 (x.n) (([] : List Int) ++ keyB ((x.a, x.i)) ++ [(x.s) % 256] ++ [(x.o) % 256] ++ be (x.l) ++ be (x.t) ++ [(x.k) % 256]) _ HA6.out HN6.out (by omega)).mono ?_
  rintro e w7 ⟨v7, rfl, ho, hb⟩
  obtain ⟨a7, c7, rfl, -, -, -, hr9, -, -⟩ := own_read ho
  have HO7 := Lib.hid ho
  clear ho hk hl
  have HX7 := Lib.hid (blk_ext hb HX6.out)
  have HB7 := Lib.hid (ext_trans HB6.out hb)
  have HA7 := Lib.hid hr9
  obtain ⟨n7, hn9⟩ : ∃ n, (([] : List Int) ++ keyB ((x.a, x.i)) ++ [(x.s) % 256] ++ [(x.o) % 256] ++ be (x.l) ++ be (x.t) ++ [(x.k) % 256] ++ be (x.n)).length = n := ⟨_, rfl⟩
  have hz7 : n7 ≤ 539 := by have h8 := HN6.out; have h9 := hn9; rw [List.length_append, be_len] at h9; omega
  have HN7 := Lib.hid hn9
  rw [hn9]
  clear hb hr9 hn9 HX6 HB6 HA6
  have hk := blk_cell HX7.out
  have hl := blk_lt HX7.out
  go_wp2_with fail
  refine (mailPutFlag a7 n7 c7 x.g (([] : List Int) ++ keyB ((x.a, x.i)) ++ [(x.s) % 256] ++ [(x.o) % 256] ++ be (x.l) ++ be (x.t) ++ [(x.k) % 256] ++ be (x.n)) _ HA7.out HN7.out (by omega)).mono ?_
  rintro e w9 ⟨v9, rfl, ho, hb⟩
  have HO9 := Lib.hid ho
  have HB9 := Lib.hid (ext_trans HB7.out hb)
  have Z := HB7.out.size
  clear ho hb hk hl
  go_wp2
  go_ret
  exact ⟨_, rfl, ownsRow_base HO9.out Z, HB9.out⟩


set_option maxRecDepth 100000 in
set_option maxHeartbeats 4000000 in
theorem mailPutHead (a : Option Addr) (n cap : Nat) (m : Mg) (ca : Option Addr) (cn cc : Nat) (ka : Option Addr) (kn kc : Nat) (xs : List Int) (w : World) (h : BAt w a xs) (hl : xs.length = n) (hs : n ≤ 1000000) (hk1 : m.k.1.size ≤ 1000) (hk2 : m.k.2.size ≤ 1000) :
    Calls Tryd.prog 22 #[.slice a n cap, .agg #[.int .i64 m.kd, .int .i64 m.op, .int .i64 m.st, .int .i64 m.cod, .int .i64 m.tag, .int .i64 m.n, .int .i64 m.sq, .string m.k.1, .string m.k.2, .bool m.fu, .int .u32 m.su, .slice ca cn cc, .slice ka kn kc]] w fun r w' => (Row (xs ++ headB m) w) r w' := by
  have hE := (Below.refl w.heap.size w).alloc (Nat.le_refl _) (.cells #[.int .i64 m.kd, .int .i64 m.op, .int .i64 m.st, .int .i64 m.cod, .int .i64 m.tag, .int .i64 m.n, .int .i64 m.sq, .string m.k.1, .string m.k.2, .bool m.fu, .int .u32 m.su, .slice ca cn cc, .slice ka kn kc] 29)
  have HB0 := Lib.hid hE
  have HX0 := Lib.hid (blk_new w #[.int .i64 m.kd, .int .i64 m.op, .int .i64 m.st, .int .i64 m.cod, .int .i64 m.tag, .int .i64 m.n, .int .i64 m.sq, .string m.k.1, .string m.k.2, .bool m.fu, .int .u32 m.su, .slice ca cn cc, .slice ka kn kc] 29)
  clear hE
  have HH := Lib.hid h
  have HL := Lib.hid hl
  clear h hl
  go_enter Tryd.func22, Tryd.ntmps22
  go_upto_region 1 with (fail)
  obtain ⟨r, hr⟩ : ∃ r, w.heap.size = r := ⟨_, rfl⟩
  rw [hr] at HX0
  try rw [hr]
  clear hr
  generalize (w.alloc (.cells #[.int .i64 m.kd, .int .i64 m.op, .int .i64 m.st, .int .i64 m.cod, .int .i64 m.tag, .int .i64 m.n, .int .i64 m.sq, .string m.k.1, .string m.k.2, .bool m.fu, .int .u32 m.su, .slice ca cn cc, .slice ka kn kc] 29)) = w0 at *
  have HA0 := Lib.hid (HH.out.ext HB0.out)
  have HN0 := Lib.hid (HL.out)
  have hk := blk_cell HX0.out
  have hl := blk_lt HX0.out
  go_wp2_with fail
  refine (packInt a n cap (m.tag) (xs) _ HA0.out HN0.out (by omega)).mono ?_
  rintro e w1 ⟨v1, rfl, ho, hb⟩
  obtain ⟨a1, c1, rfl, -, -, -, hr9, -, -⟩ := own_read ho
  have HO1 := Lib.hid ho
  clear ho hk hl
  have HX1 := Lib.hid (blk_ext hb HX0.out)
  have HB1 := Lib.hid (ext_trans HB0.out hb)
  have HA1 := Lib.hid hr9
  obtain ⟨n1, hn9⟩ : ∃ n, (xs ++ be (m.tag)).length = n := ⟨_, rfl⟩
  have hz1 : n1 ≤ n + 8 := by have h8 := HN0.out; have h9 := hn9; rw [List.length_append, be_len] at h9; omega
  have HN1 := Lib.hid hn9
  rw [hn9]
  clear hb hr9 hn9 HX0 HB0 HA0
  have hk := blk_cell HX1.out
  have hl := blk_lt HX1.out
  go_wp2_with fail
  refine (packByte a1 n1 c1 (m.op) (xs ++ be (m.tag)) _ HA1.out HN1.out (by omega)).mono ?_
  rintro e w2 ⟨v2, rfl, ho, hb⟩
  obtain ⟨a2, c2, rfl, -, -, -, hr9, -, -⟩ := own_read ho
  have HO2 := Lib.hid ho
  clear ho hk hl
  have HX2 := Lib.hid (blk_ext hb HX1.out)
  have HB2 := Lib.hid (ext_trans HB1.out hb)
  have HA2 := Lib.hid hr9
  obtain ⟨n2, hn9⟩ : ∃ n, (xs ++ be (m.tag) ++ [(m.op) % 256]).length = n := ⟨_, rfl⟩
  have hz2 : n2 ≤ n + 9 := by have h8 := HN1.out; have h9 := hn9; rw [List.length_append] at h9; simp only [List.length_cons, List.length_nil] at h9; omega
  have HN2 := Lib.hid hn9
  rw [hn9]
  clear hb hr9 hn9 HX1 HB1 HA1
  have hk := blk_cell HX2.out
  have hl := blk_lt HX2.out
  go_wp2_with fail
  refine (mailPutKey a2 n2 c2 m.k (xs ++ be (m.tag) ++ [(m.op) % 256]) _ HA2.out HN2.out (by omega) hk1 hk2).mono ?_
  rintro e w9 ⟨v9, rfl, ho, hb⟩
  have e9 : xs ++ be (m.tag) ++ [(m.op) % 256] ++ keyB m.k = xs ++ headB m := by simp [headB]
  rw [e9] at ho
  have HO9 := Lib.hid ho
  have HB9 := Lib.hid (ext_trans HB2.out hb)
  have Z := HB2.out.size
  clear ho hb hk hl e9
  go_wp2
  go_ret
  exact ⟨_, rfl, ownsRow_base HO9.out Z, HB9.out⟩


set_option maxRecDepth 100000 in
set_option maxHeartbeats 4000000 in
theorem mailPutCards (a : Option Addr) (n cap : Nat) (ca : Option Addr) (cn cc : Nat) (ls : List Cd) (xs : List Int) (w : World) (h : BAt w a xs) (hl : xs.length = n) (hs : n ≤ 100000) (hc : CAt w ca ls) (hcl : ls.length = cn) (hcn : cn ≤ 1000) (hcc : cn ≤ cc) (hsz : ∀ x ∈ ls, x.a.size ≤ 1000 ∧ x.i.size ≤ 1000) :
    Calls Tryd.prog 25 #[.slice a n cap, .slice ca cn cc] w fun r w' => (Row (xs ++ ([(cn : Int) % 256] ++ ls.flatMap cdB)) w) r w' := by
  obtain ⟨i0, hi, hz0, hz1, hz2⟩ := info_parts info_u8
  have HAA := Lib.hid h
  have HN := Lib.hid hl
  have HC := Lib.hid hc
  have HCL := Lib.hid hcl
  have HSZ := Lib.hid hsz
  clear h hl hc hcl hsz
  go_enter Tryd.func25, Tryd.ntmps25
  go_wp2_with fail
  refine (packByte a n cap (cn : Int) xs w HAA.out HN.out (by omega)).mono ?_
  rintro e w1 ⟨v1, rfl, ho1, hb1⟩
  obtain ⟨Y, hY⟩ : ∃ Y, xs ++ [(cn : Int) % 256] = Y := ⟨_, rfl⟩
  rw [hY] at ho1
  have hYl : Y.length = n + 1 := by rw [← hY, List.length_append, HN.out]; rfl
  have HY := Lib.hid hY
  have HO1 := Lib.hid ho1
  have HB1 := Lib.hid hb1
  clear ho1 hb1 hY
  go_wp2_with fail
  go_loopw [0, 13] (fun g j wr => ∃ J : Nat, J ≤ cn ∧ j = .int .i64 (J : Int) ∧ wr.ownsRow w.heap.size 5 1 g (Y ++ (ls.take J).flatMap cdB).length (bc (Y ++ (ls.take J).flatMap cdB)) ∧ Below w.heap.size w wr) (fun g j _ => cn - (intOf j).toNat)
  case atStart => exact ⟨0, by omega, rfl, by simpa using HO1.out, HB1.out⟩
  case round =>
    obtain ⟨w2, rfl⟩ : ∃ y : World, y = wr := ⟨_, rfl⟩
    obtain ⟨J, hJ, rfl, ho2, hb2⟩ := hrel
    obtain ⟨B, hB⟩ : ∃ B, Y ++ (ls.take J).flatMap cdB = B := ⟨_, rfl⟩
    rw [hB] at ho2
    by_cases hlt : J < cn
    · obtain ⟨x, hx⟩ : ∃ x, ls[J]? = some x := ⟨_, List.getElem?_eq_getElem (by have := HCL.out; omega)⟩
      have HST := Lib.hid (show Y ++ (ls.take (J + 1)).flatMap cdB = B ++ cdB x from by rw [List.take_add_one, hx]; show Y ++ (ls.take J ++ [x]).flatMap cdB = _; rw [List.flatMap_append, ← List.append_assoc, hB]; simp)
      obtain ⟨m, hm⟩ : ∃ m, B.length = m := ⟨_, rfl⟩
      have hm1 : m ≤ 700000 := by rw [← hm, ← hB, List.length_append, hYl]; have := flatC_len (ls.take J); rw [List.length_take] at this; omega
      obtain ⟨b, o, rfl⟩ : ∃ b o, ca = some ⟨b, o, none⟩ := by
        rcases HC.out with h | ⟨b, o, e, _⟩
        · rw [h] at hx; simp at hx
        · exact ⟨b, o, e⟩
      obtain ⟨x0, x1, x2, x3, x4, x5, x6, x7, x8⟩ := (HC.out.ext hb2).at hx
      have HXS := Lib.hid (HSZ.out x (List.mem_of_getElem? hx))
      have D0 : Below w2.heap.size w2 (w2.alloc (.cells #[.string x.a, .string x.i, .int .i64 x.s, .int .i64 x.o, .int .i64 x.l, .int .i64 x.t, .int .i64 x.k, .int .i64 x.n, .bool x.g] 50)) := (Below.refl _ _).alloc (Nat.le_refl _) _
      have HX := Lib.hid (blk_new w2 #[.string x.a, .string x.i, .int .i64 x.s, .int .i64 x.o, .int .i64 x.l, .int .i64 x.t, .int .i64 x.k, .int .i64 x.n, .bool x.g] 50)
      rw [hm] at ho2
      have HO3 := Lib.hid (ownsRow_ext ho2 D0)
      have HB3 := Lib.hid (ext_trans hb2 D0)
      obtain ⟨ga, gc, rfl, -, hgc, hgm, hgat, -, -⟩ := own_read ho2
      have HG3 := Lib.hid (hgat.ext D0)
      have HM := Lib.hid hm
      unfold maxLen at hgm
      clear ho2 hb2 hx hB hm D0 hgat
      go_upto_region 5 with (fail)
      obtain ⟨r, hr⟩ : ∃ r, w2.heap.size = r := ⟨_, rfl⟩
      rw [hr] at HX ⊢
      clear hr
      generalize (w2.alloc (.cells #[.string x.a, .string x.i, .int .i64 x.s, .int .i64 x.o, .int .i64 x.l, .int .i64 x.t, .int .i64 x.k, .int .i64 x.n, .bool x.g] 50)) = w4 at *
      clear x0 x1 x2 x3 x4 x5 x6 x7 x8
      have hk4 := blk_cell HX.out
      have hl4 := blk_lt HX.out
      go_wp2_with fail
      refine (mailCardBytes x _ HXS.out.1 HXS.out.2).mono ?_
      rintro e w5 ⟨v5, rfl, ho5, hb5⟩
      obtain ⟨a5, c5, rfl, -, -, -, hr5, -, -⟩ := own_read ho5
      obtain ⟨b5, o5, rfl, hr5'⟩ : ∃ b o, a5 = some ⟨b, o, none⟩ ∧ BAt w5 (some ⟨b, o, none⟩) (cdB x) := by
        rcases hr5 with h | ⟨b, o, e, h⟩
        · exfalso; have := congrArg List.length h; simp [cdB, be] at this
        · exact ⟨b, o, e, .inr ⟨b, o, rfl, h⟩⟩
      have HR5 := Lib.hid hr5'
      obtain ⟨k5, hk5⟩ : ∃ k, (cdB x).length = k := ⟨_, rfl⟩
      have hk521 : k5 ≤ 540 := by rw [← hk5]; exact cdB_len x
      have HK5 := Lib.hid hk5
      have HO5 := Lib.hid (ownsRow_ext HO3.out hb5)
      have HB5 := Lib.hid (ext_trans HB3.out hb5)
      have Z5 := HB5.out.size
      rw [hk5]
      clear ho5 hb5 hr5 hr5' hk5 hk4 hl4 HX HO3 HB3 HG3
      go_wp2_with (at_builtin; refine wpList_append_own _ rfl _ _ 34 rfl (w.heap.size) 5 i0 (.int .u8 0) 1 1 Tryd.underlying34 hi hz0 hz1 hz2 rfl (by decide) _ m (bc B) rfl HO5.out ⟨b5, o5, none⟩ k5 c5 (bc (cdB x)) rfl ?c0 ?c1 ?c2 ?c3 ?c4 ?c5 ?_)
      case c0 => rw [bc_len, HK5.out, Nat.mul_one]
      case c1 => exact fun j u hj => HR5.out.cells j u hj
      case c2 => exact bc_one _
      case c3 => unfold maxLen; omega
      case c4 => omega
      case c5 => exact Z5
      intro v7 w7 ho7 hg7 _
      have HB7 := Lib.hid (HB5.out.grown hg7 Z5 (fun q hq => own_ge HO5.out hq))
      have HO7 := Lib.hid (show w7.ownsRow w.heap.size 5 1 v7 (B ++ cdB x).length (bc (B ++ cdB x)) from by rw [bc_append, List.length_append, HM.out, HK5.out]; exact ho7)
      clear ho7 hg7 HO5 HB5 HR5
      go_wp2
      go_roundw
      case rel => exact ⟨J + 1, by omega, by go_num, by rw [HST.out]; exact HO7.out, HB7.out⟩
      case measure => simp [intOf]; omega
    · obtain rfl : J = cn := by omega
      have HF := Lib.hid (show B = xs ++ ([(J : Int) % 256] ++ ls.flatMap cdB) from by rw [← hB, ← HY.out, List.take_of_length_le (by have := HCL.out; omega)]; simp)
      go_wp2
      go_ret
      exact ⟨_, rfl, by rw [HF.out] at ho2; exact ho2, hb2⟩

set_option maxRecDepth 100000 in
set_option maxHeartbeats 4000000 in
theorem mailPutKeys (a : Option Addr) (n cap : Nat) (ca : Option Addr) (cn cc : Nat) (ls : List Ky) (xs : List Int) (w : World) (h : BAt w a xs) (hl : xs.length = n) (hs : n ≤ 100000) (hc : KyAt w ca ls) (hcl : ls.length = cn) (hcn : cn ≤ 1000) (hcc : cn ≤ cc) (hsz : ∀ x ∈ ls, x.1.size ≤ 1000 ∧ x.2.size ≤ 1000) :
    Calls Tryd.prog 26 #[.slice a n cap, .slice ca cn cc] w fun r w' => (Row (xs ++ ([(cn : Int) % 256] ++ ls.flatMap keyB)) w) r w' := by
  obtain ⟨i0, hi, hz0, hz1, hz2⟩ := info_parts info_u8
  have HAA := Lib.hid h
  have HN := Lib.hid hl
  have HC := Lib.hid hc
  have HCL := Lib.hid hcl
  have HSZ := Lib.hid hsz
  clear h hl hc hcl hsz
  go_enter Tryd.func26, Tryd.ntmps26
  go_wp2_with fail
  refine (packByte a n cap (cn : Int) xs w HAA.out HN.out (by omega)).mono ?_
  rintro e w1 ⟨v1, rfl, ho1, hb1⟩
  obtain ⟨Y, hY⟩ : ∃ Y, xs ++ [(cn : Int) % 256] = Y := ⟨_, rfl⟩
  rw [hY] at ho1
  have hYl : Y.length = n + 1 := by rw [← hY, List.length_append, HN.out]; rfl
  have HY := Lib.hid hY
  have HO1 := Lib.hid ho1
  have HB1 := Lib.hid hb1
  clear ho1 hb1 hY
  go_wp2_with fail
  go_loopw [0, 13] (fun g j wr => ∃ J : Nat, J ≤ cn ∧ j = .int .i64 (J : Int) ∧ wr.ownsRow w.heap.size 5 1 g (Y ++ (ls.take J).flatMap keyB).length (bc (Y ++ (ls.take J).flatMap keyB)) ∧ Below w.heap.size w wr) (fun g j _ => cn - (intOf j).toNat)
  case atStart => exact ⟨0, by omega, rfl, by simpa using HO1.out, HB1.out⟩
  case round =>
    obtain ⟨w2, rfl⟩ : ∃ y : World, y = wr := ⟨_, rfl⟩
    obtain ⟨J, hJ, rfl, ho2, hb2⟩ := hrel
    obtain ⟨B, hB⟩ : ∃ B, Y ++ (ls.take J).flatMap keyB = B := ⟨_, rfl⟩
    rw [hB] at ho2
    by_cases hlt : J < cn
    · obtain ⟨x, hx⟩ : ∃ x, ls[J]? = some x := ⟨_, List.getElem?_eq_getElem (by have := HCL.out; omega)⟩
      have HST := Lib.hid (show Y ++ (ls.take (J + 1)).flatMap keyB = B ++ keyB x from by rw [List.take_add_one, hx]; show Y ++ (ls.take J ++ [x]).flatMap keyB = _; rw [List.flatMap_append, ← List.append_assoc, hB]; simp)
      obtain ⟨m, hm⟩ : ∃ m, B.length = m := ⟨_, rfl⟩
      have hm1 : m ≤ 700000 := by rw [← hm, ← hB, List.length_append, hYl]; have := flatK_len (ls.take J); rw [List.length_take] at this; omega
      obtain ⟨b, o, rfl⟩ : ∃ b o, ca = some ⟨b, o, none⟩ := by
        rcases HC.out with h | ⟨b, o, e, _⟩
        · rw [h] at hx; simp at hx
        · exact ⟨b, o, e⟩
      obtain ⟨x0, x1⟩ := KyAt.at (HC.out.ext hb2) hx
      have HXS := Lib.hid (HSZ.out x (List.mem_of_getElem? hx))
      have D0 : Below w2.heap.size w2 (w2.alloc (.cells #[.string x.1, .string x.2] 24)) := (Below.refl _ _).alloc (Nat.le_refl _) _
      have HX := Lib.hid (blk_new w2 #[.string x.1, .string x.2] 24)
      rw [hm] at ho2
      have HO3 := Lib.hid (ownsRow_ext ho2 D0)
      have HB3 := Lib.hid (ext_trans hb2 D0)
      obtain ⟨ga, gc, rfl, -, hgc, hgm, hgat, -, -⟩ := own_read ho2
      have HG3 := Lib.hid (hgat.ext D0)
      have HM := Lib.hid hm
      unfold maxLen at hgm
      clear ho2 hb2 hx hB hm D0 hgat
      go_upto_region 5 with (fail)
      obtain ⟨r, hr⟩ : ∃ r, w2.heap.size = r := ⟨_, rfl⟩
      rw [hr] at HX ⊢
      clear hr
      generalize (w2.alloc (.cells #[.string x.1, .string x.2] 24)) = w4 at *
      clear x0 x1
      have hk4 := blk_cell HX.out
      have hl4 := blk_lt HX.out
      have Z3 := HB3.out.size
      go_wp2_with fail
      refine (mailPutKey ga m gc x B w4 HG3.out HM.out (by omega) HXS.out.1 HXS.out.2).mono ?_
      rintro e w5 ⟨v5, rfl, ho5, hb5⟩
      have HO7 := Lib.hid (ownsRow_base ho5 Z3)
      have HB7 := Lib.hid (ext_trans HB3.out hb5)
      clear ho5 hb5 hk4 hl4 HX HO3 HB3 HG3
      go_wp2
      go_roundw
      case rel => exact ⟨J + 1, by omega, by go_num, by rw [HST.out]; exact HO7.out, HB7.out⟩
      case measure => simp [intOf]; omega
    · obtain rfl : J = cn := by omega
      have HF := Lib.hid (show B = xs ++ ([(J : Int) % 256] ++ ls.flatMap keyB) from by rw [← hB, ← HY.out, List.take_of_length_le (by have := HCL.out; omega)]; simp)
      go_wp2
      go_ret
      exact ⟨_, rfl, by rw [HF.out] at ho2; exact ho2, hb2⟩

end Go.Proofs.YtfdalmodnkkfiaaDoor
