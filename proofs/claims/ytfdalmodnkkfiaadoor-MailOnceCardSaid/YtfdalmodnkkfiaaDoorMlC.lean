/- Messages are read: cards, keys, rows of them, the head. -/
import Derived.Test.YtfdalmodnkkfiaaDoorMlR
namespace Go.Proofs.YtfdalmodnkkfiaaDoor
open Go.RowKit
set_option linter.unusedVariables false
set_option linter.unusedSimpArgs false

theorem rdByte (p rb : Nat) (s s' : Rw) (w : World) (h : RwAt w p rb s) (z : Int) (hE : rB s = (z, s')) :
    Calls Tryd.prog 48 #[.pointer (some ⟨rb, 0, none⟩)] w fun r w' => r = .returned (.int .i64 z) ∧ RwAt w' p rb s' ∧ Rq p rb w w' := by
  refine (packRByte rb s.1 w h.2).mono ?_
  rintro e w1 ⟨rfl, hr, hk⟩
  have h1 : (rB s).1 = z := congrArg Prod.fst hE
  have h2 : (rB s).2 = s' := congrArg Prod.snd hE
  exact ⟨by rw [← h1]; rfl, (h.got hr hk).of_eq h2, Rq.kq hk⟩
theorem rdInt (p rb : Nat) (s s' : Rw) (w : World) (h : RwAt w p rb s) (z : Int) (hE : rI s = (z, s')) :
    Calls Tryd.prog 50 #[.pointer (some ⟨rb, 0, none⟩)] w fun r w' => r = .returned (.int .i64 z) ∧ RwAt w' p rb s' ∧ Rq p rb w w' := by
  refine (packRInt rb s.1 w h.2).mono ?_
  rintro e w1 ⟨rfl, hr, hk⟩
  have h1 : (rI s).1 = z := congrArg Prod.fst hE
  have h2 : (rI s).2 = s' := congrArg Prod.snd hE
  exact ⟨by rw [← h1]; rfl, (h.got hr hk).of_eq h2, Rq.kq hk⟩
theorem rdFlag (p rb : Nat) (s s' : Rw) (w : World) (h : RwAt w p rb s) (z : Bool) (hE : rF s = (z, s')) :
    Calls Tryd.prog 51 #[.pointer (some ⟨p, 0, none⟩)] w fun r w' => r = .returned (.bool z) ∧ RwAt w' p rb s' ∧ Rq p rb w w' := by
  refine (mailFlag p rb s w h).mono ?_
  rintro e w1 ⟨rfl, hr, hk⟩
  have h1 : (rF s).1 = z := congrArg Prod.fst hE
  have h2 : (rF s).2 = s' := congrArg Prod.snd hE
  exact ⟨by rw [h1], hr.of_eq h2, hk⟩
theorem rdSum (p rb : Nat) (s s' : Rw) (w : World) (h : RwAt w p rb s) (z : Int) (hE : rS s = (z, s')) :
    Calls Tryd.prog 52 #[.pointer (some ⟨p, 0, none⟩)] w fun r w' => r = .returned (.int .u32 z) ∧ RwAt w' p rb s' ∧ Rq p rb w w' := by
  refine (mailSum p rb s w h).mono ?_
  rintro e w1 ⟨rfl, hr, hk⟩
  have h1 : (rS s).1 = z := congrArg Prod.fst hE
  have h2 : (rS s).2 = s' := congrArg Prod.snd hE
  exact ⟨by rw [h1], hr.of_eq h2, hk⟩
theorem rdKey (p rb : Nat) (s s' : Rw) (w : World) (h : RwAt w p rb s) (z : ByteArray × ByteArray) (hE : rK s = (z, s')) :
    Calls Tryd.prog 68 #[.pointer (some ⟨p, 0, none⟩)] w fun r w' => r = .returned (.agg #[.string z.1, .string z.2]) ∧ RwAt w' p rb s' ∧ Rq p rb w w' := by
  refine (mailKey p rb s w h).mono ?_
  rintro e w1 ⟨rfl, hr, hk⟩
  have h1 : (rK s).1 = z := congrArg Prod.fst hE
  have h2 : (rK s).2 = s' := congrArg Prod.snd hE
  exact ⟨by rw [h1], hr.of_eq h2, hk⟩
set_option maxRecDepth 100000 in
set_option maxHeartbeats 4000000 in
theorem mailCard (p rb : Nat) (s : Rw) (w : World) (h : RwAt w p rb s) :
    Calls Tryd.prog 69 #[.pointer (some ⟨p, 0, none⟩)] w fun r w' => r = .returned (.agg #[.string (rC s).1.a, .string (rC s).1.i, .int .i64 (rC s).1.s, .int .i64 (rC s).1.o, .int .i64 (rC s).1.l, .int .i64 (rC s).1.t, .int .i64 (rC s).1.k, .int .i64 (rC s).1.n, .bool (rC s).1.g]) ∧ RwAt w' p rb ((rC s).2) ∧ Rq p rb w w' := by
  have hE := (Below.refl w.heap.size w).alloc (Nat.le_refl _) (.cells #[.string ⟨#[]⟩, .string ⟨#[]⟩, .int .i64 0, .int .i64 0, .int .i64 0, .int .i64 0, .int .i64 0, .int .i64 0, .bool false] 50)
  have HK0 := Lib.hid (Rq.of (p := p) (q := rb) hE)
  have HT0 := Lib.hid (blk_new w #[.string ⟨#[]⟩, .string ⟨#[]⟩, .int .i64 0, .int .i64 0, .int .i64 0, .int .i64 0, .int .i64 0, .int .i64 0, .bool false] 50)
  have HR0 := Lib.hid (h.ext hE)
  have hlp := h.lt
  have hlq := h.lt2
  clear hE h
  go_enter Tryd.func69, Tryd.ntmps69
  go_upto_region 1 with (fail)
  obtain ⟨t, ht⟩ : ∃ t, w.heap.size = t := ⟨_, rfl⟩
  have tp : t ≠ p := by omega
  have tq : t ≠ rb := by omega
  have tn := Lib.hid (show w.heap.size ≤ t by omega)
  rw [ht] at HT0
  try rw [ht]
  clear ht
  generalize (w.alloc (.cells #[.string ⟨#[]⟩, .string ⟨#[]⟩, .int .i64 0, .int .i64 0, .int .i64 0, .int .i64 0, .int .i64 0, .int .i64 0, .bool false] 50)) = w0 at *
  obtain ⟨k, s1, hE⟩ : ∃ x0 x1, rK s = (x0, x1) := ⟨_, _, rfl⟩
  have HE1 := Lib.hid hE
  clear hE
  have hc : ∀ n, w0.cell? ⟨p, n, none⟩ = (#[.pointer (some ⟨rb, 0, none⟩), .bool s.2] : Array Value)[n]? := blk_cell HR0.out.1
  have hl := HR0.out.lt
  go_wp2_with fail
  refine (rdKey p rb s s1 w0 HR0.out _ HE1.out).mono ?_
  rintro e w1 ⟨rfl, hr, hk⟩
  have HR1 := Lib.hid hr
  have HK1 := Lib.hid (HK0.out.trans hk)
  have HT1 := Lib.hid ((hk.block t tp tq (blk_lt HT0.out)).trans HT0.out)
  clear hr hk hc hl HK0 HT0
  have hE := (Below.refl w1.heap.size w1).alloc (Nat.le_refl _) (.cells #[.string k.1, .string k.2, .int .i64 0, .int .i64 0, .int .i64 0, .int .i64 0, .int .i64 0, .int .i64 0, .bool false] 50)
  have HX2 := Lib.hid (blk_new w1 #[.string k.1, .string k.2, .int .i64 0, .int .i64 0, .int .i64 0, .int .i64 0, .int .i64 0, .int .i64 0, .bool false] 50)
  have HR2 := Lib.hid (HR1.out.ext hE)
  have HK2 := Lib.hid (HK1.out.trans (Rq.of hE))
  have HT2 := Lib.hid (blk_ext hE HT1.out)
  have hs1 := HK1.out.size
  have hs2 := HR1.out.lt
  have hs3 := HR1.out.lt2
  have hs4 := blk_lt HT1.out
  clear hE
  go_upto_region 2 with (fail)
  obtain ⟨q, hq⟩ : ∃ q, w1.heap.size = q := ⟨_, rfl⟩
  have qp : q ≠ p := by omega
  have qq : q ≠ rb := by omega
  have qt : q ≠ t := by omega
  have tq' : t ≠ q := by omega
  have qn := Lib.hid (show w.heap.size ≤ q by omega)
  rw [hq] at HX2
  try rw [hq]
  clear hq hs1 hs2 hs3 hs4 HK1 HT1
  generalize (w1.alloc (.cells #[.string k.1, .string k.2, .int .i64 0, .int .i64 0, .int .i64 0, .int .i64 0, .int .i64 0, .int .i64 0, .bool false] 50)) = w2 at *
  have tq9 := tq'
  obtain ⟨st, s2, hE⟩ : ∃ x0 x1, rB s1 = (x0, x1) := ⟨_, _, rfl⟩
  have HE2 := Lib.hid hE
  clear hE
  have hc : ∀ n, w2.cell? ⟨p, n, none⟩ = (#[.pointer (some ⟨rb, 0, none⟩), .bool s1.2] : Array Value)[n]? := blk_cell HR2.out.1
  have hl := HR2.out.lt
  go_wp2_with fail
  refine (rdByte p rb s1 s2 w2 HR2.out _ HE2.out).mono ?_
  rintro e w3 ⟨rfl, hr, hk⟩
  have HR3 := Lib.hid hr
  have HK3 := Lib.hid (HK2.out.trans hk)
  have HT3 := Lib.hid ((hk.block t tp tq (blk_lt HT2.out)).trans HT2.out)
  have HX3 := Lib.hid ((hk.block q qp qq (blk_lt HX2.out)).trans HX2.out)
  clear hr hk hc hl HK2 HT2 HX2
  have hc := blk_cell HX3.out
  have hf := blk_free HX3.out
  have hl := blk_lt HX3.out
  go_upto_region 3 with (fail)
  clear hc hf hl
  have HX4 := Lib.hid (blk_set (n := 2) (u := .int .i64 st) (vs' := #[.string k.1, .string k.2, .int .i64 st, .int .i64 0, .int .i64 0, .int .i64 0, .int .i64 0, .int .i64 0, .bool false]) (HX3.out) (by simp))
  have HR4 := Lib.hid ((HR3.out).set (o := 2) (v := .int .i64 st) (HX3.out) (by decide) qp qq)
  have HK4 := Lib.hid ((HK3.out).setnew (o := 2) (v := .int .i64 st) qn.out)
  have HT4 := Lib.hid (blk_set_other (b := t) (b' := q) (n := 2) (u := .int .i64 st) tq9 (HT3.out))
  clear HK3 HT3 HX3
  generalize (w3.setCell ⟨q, 2, none⟩ (.int .i64 st)) = w4 at *
  obtain ⟨ov, s3, hE⟩ : ∃ x0 x1, rB s2 = (x0, x1) := ⟨_, _, rfl⟩
  have HE3 := Lib.hid hE
  clear hE
  have hc : ∀ n, w4.cell? ⟨p, n, none⟩ = (#[.pointer (some ⟨rb, 0, none⟩), .bool s2.2] : Array Value)[n]? := blk_cell HR4.out.1
  have hl := HR4.out.lt
  go_wp2_with fail
  refine (rdByte p rb s2 s3 w4 HR4.out _ HE3.out).mono ?_
  rintro e w5 ⟨rfl, hr, hk⟩
  have HR5 := Lib.hid hr
  have HK5 := Lib.hid (HK4.out.trans hk)
  have HT5 := Lib.hid ((hk.block t tp tq (blk_lt HT4.out)).trans HT4.out)
  have HX5 := Lib.hid ((hk.block q qp qq (blk_lt HX4.out)).trans HX4.out)
  clear hr hk hc hl HK4 HT4 HX4
  have hc := blk_cell HX5.out
  have hf := blk_free HX5.out
  have hl := blk_lt HX5.out
  go_upto_region 4 with (fail)
  clear hc hf hl
  have HX6 := Lib.hid (blk_set (n := 3) (u := .int .i64 ov) (vs' := #[.string k.1, .string k.2, .int .i64 st, .int .i64 ov, .int .i64 0, .int .i64 0, .int .i64 0, .int .i64 0, .bool false]) (HX5.out) (by simp))
  have HR6 := Lib.hid ((HR5.out).set (o := 3) (v := .int .i64 ov) (HX5.out) (by decide) qp qq)
  have HK6 := Lib.hid ((HK5.out).setnew (o := 3) (v := .int .i64 ov) qn.out)
  have HT6 := Lib.hid (blk_set_other (b := t) (b' := q) (n := 3) (u := .int .i64 ov) tq9 (HT5.out))
  clear HK5 HT5 HX5
  generalize (w5.setCell ⟨q, 3, none⟩ (.int .i64 ov)) = w6 at *
  obtain ⟨l, s4, hE⟩ : ∃ x0 x1, rI s3 = (x0, x1) := ⟨_, _, rfl⟩
  have HE4 := Lib.hid hE
  clear hE
  have hc : ∀ n, w6.cell? ⟨p, n, none⟩ = (#[.pointer (some ⟨rb, 0, none⟩), .bool s3.2] : Array Value)[n]? := blk_cell HR6.out.1
  have hl := HR6.out.lt
  go_wp2_with fail
  refine (rdInt p rb s3 s4 w6 HR6.out _ HE4.out).mono ?_
  rintro e w7 ⟨rfl, hr, hk⟩
  have HR7 := Lib.hid hr
  have HK7 := Lib.hid (HK6.out.trans hk)
  have HT7 := Lib.hid ((hk.block t tp tq (blk_lt HT6.out)).trans HT6.out)
  have HX7 := Lib.hid ((hk.block q qp qq (blk_lt HX6.out)).trans HX6.out)
  clear hr hk hc hl HK6 HT6 HX6
  have hc := blk_cell HX7.out
  have hf := blk_free HX7.out
  have hl := blk_lt HX7.out
  go_upto_region 5 with (fail)
  clear hc hf hl
  have HX8 := Lib.hid (blk_set (n := 4) (u := .int .i64 l) (vs' := #[.string k.1, .string k.2, .int .i64 st, .int .i64 ov, .int .i64 l, .int .i64 0, .int .i64 0, .int .i64 0, .bool false]) (HX7.out) (by simp))
  have HR8 := Lib.hid ((HR7.out).set (o := 4) (v := .int .i64 l) (HX7.out) (by decide) qp qq)
  have HK8 := Lib.hid ((HK7.out).setnew (o := 4) (v := .int .i64 l) qn.out)
  have HT8 := Lib.hid (blk_set_other (b := t) (b' := q) (n := 4) (u := .int .i64 l) tq9 (HT7.out))
  clear HK7 HT7 HX7
  generalize (w7.setCell ⟨q, 4, none⟩ (.int .i64 l)) = w8 at *
  obtain ⟨tt, s5, hE⟩ : ∃ x0 x1, rI s4 = (x0, x1) := ⟨_, _, rfl⟩
  have HE5 := Lib.hid hE
  clear hE
  have hc : ∀ n, w8.cell? ⟨p, n, none⟩ = (#[.pointer (some ⟨rb, 0, none⟩), .bool s4.2] : Array Value)[n]? := blk_cell HR8.out.1
  have hl := HR8.out.lt
  go_wp2_with fail
  refine (rdInt p rb s4 s5 w8 HR8.out _ HE5.out).mono ?_
  rintro e w9 ⟨rfl, hr, hk⟩
  have HR9 := Lib.hid hr
  have HK9 := Lib.hid (HK8.out.trans hk)
  have HT9 := Lib.hid ((hk.block t tp tq (blk_lt HT8.out)).trans HT8.out)
  have HX9 := Lib.hid ((hk.block q qp qq (blk_lt HX8.out)).trans HX8.out)
  clear hr hk hc hl HK8 HT8 HX8
  have hc := blk_cell HX9.out
  have hf := blk_free HX9.out
  have hl := blk_lt HX9.out
  go_upto_region 6 with (fail)
  clear hc hf hl
  have HX10 := Lib.hid (blk_set (n := 5) (u := .int .i64 tt) (vs' := #[.string k.1, .string k.2, .int .i64 st, .int .i64 ov, .int .i64 l, .int .i64 tt, .int .i64 0, .int .i64 0, .bool false]) (HX9.out) (by simp))
  have HR10 := Lib.hid ((HR9.out).set (o := 5) (v := .int .i64 tt) (HX9.out) (by decide) qp qq)
  have HK10 := Lib.hid ((HK9.out).setnew (o := 5) (v := .int .i64 tt) qn.out)
  have HT10 := Lib.hid (blk_set_other (b := t) (b' := q) (n := 5) (u := .int .i64 tt) tq9 (HT9.out))
  clear HK9 HT9 HX9
  generalize (w9.setCell ⟨q, 5, none⟩ (.int .i64 tt)) = w10 at *
  obtain ⟨nd, s6, hE⟩ : ∃ x0 x1, rB s5 = (x0, x1) := ⟨_, _, rfl⟩
  have HE6 := Lib.hid hE
  clear hE
  have hc : ∀ n, w10.cell? ⟨p, n, none⟩ = (#[.pointer (some ⟨rb, 0, none⟩), .bool s5.2] : Array Value)[n]? := blk_cell HR10.out.1
  have hl := HR10.out.lt
  go_wp2_with fail
  refine (rdByte p rb s5 s6 w10 HR10.out _ HE6.out).mono ?_
  rintro e w11 ⟨rfl, hr, hk⟩
  have HR11 := Lib.hid hr
  have HK11 := Lib.hid (HK10.out.trans hk)
  have HT11 := Lib.hid ((hk.block t tp tq (blk_lt HT10.out)).trans HT10.out)
  have HX11 := Lib.hid ((hk.block q qp qq (blk_lt HX10.out)).trans HX10.out)
  clear hr hk hc hl HK10 HT10 HX10
  have hc := blk_cell HX11.out
  have hf := blk_free HX11.out
  have hl := blk_lt HX11.out
  go_upto_region 7 with (fail)
  clear hc hf hl
  have HX12 := Lib.hid (blk_set (n := 6) (u := .int .i64 nd) (vs' := #[.string k.1, .string k.2, .int .i64 st, .int .i64 ov, .int .i64 l, .int .i64 tt, .int .i64 nd, .int .i64 0, .bool false]) (HX11.out) (by simp))
  have HR12 := Lib.hid ((HR11.out).set (o := 6) (v := .int .i64 nd) (HX11.out) (by decide) qp qq)
  have HK12 := Lib.hid ((HK11.out).setnew (o := 6) (v := .int .i64 nd) qn.out)
  have HT12 := Lib.hid (blk_set_other (b := t) (b' := q) (n := 6) (u := .int .i64 nd) tq9 (HT11.out))
  clear HK11 HT11 HX11
  generalize (w11.setCell ⟨q, 6, none⟩ (.int .i64 nd)) = w12 at *
  obtain ⟨n, s7, hE⟩ : ∃ x0 x1, rI s6 = (x0, x1) := ⟨_, _, rfl⟩
  have HE7 := Lib.hid hE
  clear hE
  have hc : ∀ n, w12.cell? ⟨p, n, none⟩ = (#[.pointer (some ⟨rb, 0, none⟩), .bool s6.2] : Array Value)[n]? := blk_cell HR12.out.1
  have hl := HR12.out.lt
  go_wp2_with fail
  refine (rdInt p rb s6 s7 w12 HR12.out _ HE7.out).mono ?_
  rintro e w13 ⟨rfl, hr, hk⟩
  have HR13 := Lib.hid hr
  have HK13 := Lib.hid (HK12.out.trans hk)
  have HT13 := Lib.hid ((hk.block t tp tq (blk_lt HT12.out)).trans HT12.out)
  have HX13 := Lib.hid ((hk.block q qp qq (blk_lt HX12.out)).trans HX12.out)
  clear hr hk hc hl HK12 HT12 HX12
  have hc := blk_cell HX13.out
  have hf := blk_free HX13.out
  have hl := blk_lt HX13.out
  go_upto_region 8 with (fail)
  clear hc hf hl
  have HX14 := Lib.hid (blk_set (n := 7) (u := .int .i64 n) (vs' := #[.string k.1, .string k.2, .int .i64 st, .int .i64 ov, .int .i64 l, .int .i64 tt, .int .i64 nd, .int .i64 n, .bool false]) (HX13.out) (by simp))
  have HR14 := Lib.hid ((HR13.out).set (o := 7) (v := .int .i64 n) (HX13.out) (by decide) qp qq)
  have HK14 := Lib.hid ((HK13.out).setnew (o := 7) (v := .int .i64 n) qn.out)
  have HT14 := Lib.hid (blk_set_other (b := t) (b' := q) (n := 7) (u := .int .i64 n) tq9 (HT13.out))
  clear HK13 HT13 HX13
  generalize (w13.setCell ⟨q, 7, none⟩ (.int .i64 n)) = w14 at *
  obtain ⟨g, s8, hE⟩ : ∃ x0 x1, rF s7 = (x0, x1) := ⟨_, _, rfl⟩
  have HE8 := Lib.hid hE
  clear hE
  have hc : ∀ n, w14.cell? ⟨p, n, none⟩ = (#[.pointer (some ⟨rb, 0, none⟩), .bool s7.2] : Array Value)[n]? := blk_cell HR14.out.1
  have hl := HR14.out.lt
  go_wp2_with fail
  refine (rdFlag p rb s7 s8 w14 HR14.out _ HE8.out).mono ?_
  rintro e w15 ⟨rfl, hr, hk⟩
  have HR15 := Lib.hid hr
  have HK15 := Lib.hid (HK14.out.trans hk)
  have HT15 := Lib.hid ((hk.block t tp tq (blk_lt HT14.out)).trans HT14.out)
  have HX15 := Lib.hid ((hk.block q qp qq (blk_lt HX14.out)).trans HX14.out)
  clear hr hk hc hl HK14 HT14 HX14
  have hc := blk_cell HX15.out
  have hf := blk_free HX15.out
  have hl := blk_lt HX15.out
  go_upto_region 9 with (fail)
  clear hc hf hl
  have HX16 := Lib.hid (blk_set (n := 8) (u := .bool g) (vs' := #[.string k.1, .string k.2, .int .i64 st, .int .i64 ov, .int .i64 l, .int .i64 tt, .int .i64 nd, .int .i64 n, .bool g]) (HX15.out) (by simp))
  have HR16 := Lib.hid ((HR15.out).set (o := 8) (v := .bool g) (HX15.out) (by decide) qp qq)
  have HK16 := Lib.hid ((HK15.out).setnew (o := 8) (v := .bool g) qn.out)
  have HT16 := Lib.hid (blk_set_other (b := t) (b' := q) (n := 8) (u := .bool g) tq9 (HT15.out))
  clear HK15 HT15 HX15
  generalize (w15.setCell ⟨q, 8, none⟩ (.bool g)) = w16 at *
  have hc := blk_cell HX16.out
  have hl := blk_lt HX16.out
  have hc2 := blk_cell HT16.out
  have hf2 := blk_free HT16.out
  have hl2 := blk_lt HT16.out
  go_wp2_with fail
  have hk2 := blk_cell (blk_fill9 (v0 := .string k.1) (v1 := .string k.2) (v2 := .int .i64 st) (v3 := .int .i64 ov) (v4 := .int .i64 l) (v5 := .int .i64 tt) (v6 := .int .i64 nd) (v7 := .int .i64 n) (v8 := .bool g) HT16.out rfl)
  have hC : rC s = (⟨k.1, k.2, st, ov, l, tt, nd, n, g⟩, s8) := by
    unfold rC
    simp only [HE1.out, HE2.out, HE3.out, HE4.out, HE5.out, HE6.out, HE7.out, HE8.out]
  exact bodyPost_ret (v := .agg #[.string k.1, .string k.2, .int .i64 st, .int .i64 ov, .int .i64 l, .int .i64 tt, .int .i64 nd, .int .i64 n, .bool g]) (by simp [results, Tryd.results69, go_sem, hk2]) rfl ⟨by rw [hC], by rw [hC]; exact ((((((((((((((((((HR16.out).set (o := 0) (v := .string k.1) (HT16.out) (by decide) tp tq)).set (o := 1) (v := .string k.2) ((blk_set (n := 0) (u := .string k.1) (vs' := #[.string k.1, .string ⟨#[]⟩, .int .i64 0, .int .i64 0, .int .i64 0, .int .i64 0, .int .i64 0, .int .i64 0, .bool false]) (HT16.out) (by simp))) (by decide) tp tq)).set (o := 2) (v := .int .i64 st) ((blk_set (n := 1) (u := .string k.2) (vs' := #[.string k.1, .string k.2, .int .i64 0, .int .i64 0, .int .i64 0, .int .i64 0, .int .i64 0, .int .i64 0, .bool false]) ((blk_set (n := 0) (u := .string k.1) (vs' := #[.string k.1, .string ⟨#[]⟩, .int .i64 0, .int .i64 0, .int .i64 0, .int .i64 0, .int .i64 0, .int .i64 0, .bool false]) (HT16.out) (by simp))) (by simp))) (by decide) tp tq)).set (o := 3) (v := .int .i64 ov) ((blk_set (n := 2) (u := .int .i64 st) (vs' := #[.string k.1, .string k.2, .int .i64 st, .int .i64 0, .int .i64 0, .int .i64 0, .int .i64 0, .int .i64 0, .bool false]) ((blk_set (n := 1) (u := .string k.2) (vs' := #[.string k.1, .string k.2, .int .i64 0, .int .i64 0, .int .i64 0, .int .i64 0, .int .i64 0, .int .i64 0, .bool false]) ((blk_set (n := 0) (u := .string k.1) (vs' := #[.string k.1, .string ⟨#[]⟩, .int .i64 0, .int .i64 0, .int .i64 0, .int .i64 0, .int .i64 0, .int .i64 0, .bool false]) (HT16.out) (by simp))) (by simp))) (by simp))) (by decide) tp tq)).set (o := 4) (v := .int .i64 l) ((blk_set (n := 3) (u := .int .i64 ov) (vs' := #[.string k.1, .string k.2, .int .i64 st, .int .i64 ov, .int .i64 0, .int .i64 0, .int .i64 0, .int .i64 0, .bool false]) ((blk_set (n := 2) (u := .int .i64 st) (vs' := #[.string k.1, .string k.2, .int .i64 st, .int .i64 0, .int .i64 0, .int .i64 0, .int .i64 0, .int .i64 0, .bool false]) ((blk_set (n := 1) (u := .string k.2) (vs' := #[.string k.1, .string k.2, .int .i64 0, .int .i64 0, .int .i64 0, .int .i64 0, .int .i64 0, .int .i64 0, .bool false]) ((blk_set (n := 0) (u := .string k.1) (vs' := #[.string k.1, .string ⟨#[]⟩, .int .i64 0, .int .i64 0, .int .i64 0, .int .i64 0, .int .i64 0, .int .i64 0, .bool false]) (HT16.out) (by simp))) (by simp))) (by simp))) (by simp))) (by decide) tp tq)).set (o := 5) (v := .int .i64 tt) ((blk_set (n := 4) (u := .int .i64 l) (vs' := #[.string k.1, .string k.2, .int .i64 st, .int .i64 ov, .int .i64 l, .int .i64 0, .int .i64 0, .int .i64 0, .bool false]) ((blk_set (n := 3) (u := .int .i64 ov) (vs' := #[.string k.1, .string k.2, .int .i64 st, .int .i64 ov, .int .i64 0, .int .i64 0, .int .i64 0, .int .i64 0, .bool false]) ((blk_set (n := 2) (u := .int .i64 st) (vs' := #[.string k.1, .string k.2, .int .i64 st, .int .i64 0, .int .i64 0, .int .i64 0, .int .i64 0, .int .i64 0, .bool false]) ((blk_set (n := 1) (u := .string k.2) (vs' := #[.string k.1, .string k.2, .int .i64 0, .int .i64 0, .int .i64 0, .int .i64 0, .int .i64 0, .int .i64 0, .bool false]) ((blk_set (n := 0) (u := .string k.1) (vs' := #[.string k.1, .string ⟨#[]⟩, .int .i64 0, .int .i64 0, .int .i64 0, .int .i64 0, .int .i64 0, .int .i64 0, .bool false]) (HT16.out) (by simp))) (by simp))) (by simp))) (by simp))) (by simp))) (by decide) tp tq)).set (o := 6) (v := .int .i64 nd) ((blk_set (n := 5) (u := .int .i64 tt) (vs' := #[.string k.1, .string k.2, .int .i64 st, .int .i64 ov, .int .i64 l, .int .i64 tt, .int .i64 0, .int .i64 0, .bool false]) ((blk_set (n := 4) (u := .int .i64 l) (vs' := #[.string k.1, .string k.2, .int .i64 st, .int .i64 ov, .int .i64 l, .int .i64 0, .int .i64 0, .int .i64 0, .bool false]) ((blk_set (n := 3) (u := .int .i64 ov) (vs' := #[.string k.1, .string k.2, .int .i64 st, .int .i64 ov, .int .i64 0, .int .i64 0, .int .i64 0, .int .i64 0, .bool false]) ((blk_set (n := 2) (u := .int .i64 st) (vs' := #[.string k.1, .string k.2, .int .i64 st, .int .i64 0, .int .i64 0, .int .i64 0, .int .i64 0, .int .i64 0, .bool false]) ((blk_set (n := 1) (u := .string k.2) (vs' := #[.string k.1, .string k.2, .int .i64 0, .int .i64 0, .int .i64 0, .int .i64 0, .int .i64 0, .int .i64 0, .bool false]) ((blk_set (n := 0) (u := .string k.1) (vs' := #[.string k.1, .string ⟨#[]⟩, .int .i64 0, .int .i64 0, .int .i64 0, .int .i64 0, .int .i64 0, .int .i64 0, .bool false]) (HT16.out) (by simp))) (by simp))) (by simp))) (by simp))) (by simp))) (by simp))) (by decide) tp tq)).set (o := 7) (v := .int .i64 n) ((blk_set (n := 6) (u := .int .i64 nd) (vs' := #[.string k.1, .string k.2, .int .i64 st, .int .i64 ov, .int .i64 l, .int .i64 tt, .int .i64 nd, .int .i64 0, .bool false]) ((blk_set (n := 5) (u := .int .i64 tt) (vs' := #[.string k.1, .string k.2, .int .i64 st, .int .i64 ov, .int .i64 l, .int .i64 tt, .int .i64 0, .int .i64 0, .bool false]) ((blk_set (n := 4) (u := .int .i64 l) (vs' := #[.string k.1, .string k.2, .int .i64 st, .int .i64 ov, .int .i64 l, .int .i64 0, .int .i64 0, .int .i64 0, .bool false]) ((blk_set (n := 3) (u := .int .i64 ov) (vs' := #[.string k.1, .string k.2, .int .i64 st, .int .i64 ov, .int .i64 0, .int .i64 0, .int .i64 0, .int .i64 0, .bool false]) ((blk_set (n := 2) (u := .int .i64 st) (vs' := #[.string k.1, .string k.2, .int .i64 st, .int .i64 0, .int .i64 0, .int .i64 0, .int .i64 0, .int .i64 0, .bool false]) ((blk_set (n := 1) (u := .string k.2) (vs' := #[.string k.1, .string k.2, .int .i64 0, .int .i64 0, .int .i64 0, .int .i64 0, .int .i64 0, .int .i64 0, .bool false]) ((blk_set (n := 0) (u := .string k.1) (vs' := #[.string k.1, .string ⟨#[]⟩, .int .i64 0, .int .i64 0, .int .i64 0, .int .i64 0, .int .i64 0, .int .i64 0, .bool false]) (HT16.out) (by simp))) (by simp))) (by simp))) (by simp))) (by simp))) (by simp))) (by simp))) (by decide) tp tq)).set (o := 8) (v := .bool g) ((blk_set (n := 7) (u := .int .i64 n) (vs' := #[.string k.1, .string k.2, .int .i64 st, .int .i64 ov, .int .i64 l, .int .i64 tt, .int .i64 nd, .int .i64 n, .bool false]) ((blk_set (n := 6) (u := .int .i64 nd) (vs' := #[.string k.1, .string k.2, .int .i64 st, .int .i64 ov, .int .i64 l, .int .i64 tt, .int .i64 nd, .int .i64 0, .bool false]) ((blk_set (n := 5) (u := .int .i64 tt) (vs' := #[.string k.1, .string k.2, .int .i64 st, .int .i64 ov, .int .i64 l, .int .i64 tt, .int .i64 0, .int .i64 0, .bool false]) ((blk_set (n := 4) (u := .int .i64 l) (vs' := #[.string k.1, .string k.2, .int .i64 st, .int .i64 ov, .int .i64 l, .int .i64 0, .int .i64 0, .int .i64 0, .bool false]) ((blk_set (n := 3) (u := .int .i64 ov) (vs' := #[.string k.1, .string k.2, .int .i64 st, .int .i64 ov, .int .i64 0, .int .i64 0, .int .i64 0, .int .i64 0, .bool false]) ((blk_set (n := 2) (u := .int .i64 st) (vs' := #[.string k.1, .string k.2, .int .i64 st, .int .i64 0, .int .i64 0, .int .i64 0, .int .i64 0, .int .i64 0, .bool false]) ((blk_set (n := 1) (u := .string k.2) (vs' := #[.string k.1, .string k.2, .int .i64 0, .int .i64 0, .int .i64 0, .int .i64 0, .int .i64 0, .int .i64 0, .bool false]) ((blk_set (n := 0) (u := .string k.1) (vs' := #[.string k.1, .string ⟨#[]⟩, .int .i64 0, .int .i64 0, .int .i64 0, .int .i64 0, .int .i64 0, .int .i64 0, .bool false]) (HT16.out) (by simp))) (by simp))) (by simp))) (by simp))) (by simp))) (by simp))) (by simp))) (by simp))) (by decide) tp tq), ((((((((((((((((((HK16.out).setnew (o := 0) (v := .string k.1) tn.out)).setnew (o := 1) (v := .string k.2) tn.out)).setnew (o := 2) (v := .int .i64 st) tn.out)).setnew (o := 3) (v := .int .i64 ov) tn.out)).setnew (o := 4) (v := .int .i64 l) tn.out)).setnew (o := 5) (v := .int .i64 tt) tn.out)).setnew (o := 6) (v := .int .i64 nd) tn.out)).setnew (o := 7) (v := .int .i64 n) tn.out)).setnew (o := 8) (v := .bool g) tn.out)⟩


theorem rMany_succ {α : Type} (f : Rw → α × Rw) : ∀ (n : Nat) (s : Rw), rMany f (n + 1) s = ((rMany f n s).1 ++ [(f (rMany f n s).2).1], (f (rMany f n s).2).2)
  | 0, s => rfl
  | n + 1, s => by
    rw [rMany, rMany_succ f n (f s).2]
    rfl
theorem rMany_len {α : Type} (f : Rw → α × Rw) : ∀ (n : Nat) (s : Rw), (rMany f n s).1.length = n
  | 0, s => rfl
  | n + 1, s => by rw [rMany, List.length_cons, rMany_len f n]
end Go.Proofs.YtfdalmodnkkfiaaDoor
