/- Messages are read: the head; take. -/
import Derived.Test.YtfdalmodnkkfiaaDoorMlH
import Derived.Test.YtfdalmodnkkfiaaDoorMlO
namespace Go.Proofs.YtfdalmodnkkfiaaDoor
open Go.RowKit
set_option linter.unusedVariables false
set_option linter.unusedSimpArgs false

theorem CAt.keptT {w w' : World} {a : Option Addr} {ls : List Cd} {t : Nat} {cs : Array Value} {T : TypeId} (h : CAt w a ls) (hx : w.heap[t]? = some (.cells cs T (0, 0))) (hT : T ≠ 50) (hk : Kept t w w') : CAt w' a ls :=
  h.keep fun b cur hc _ => hk.block b (by rintro rfl; rw [hx] at hc; simp at hc; exact hT hc.2)
theorem KyAt.keptT {w w' : World} {a : Option Addr} {ls : List Ky} {t : Nat} {cs : Array Value} {T : TypeId} (h : KyAt w a ls) (hx : w.heap[t]? = some (.cells cs T (0, 0))) (hT : T ≠ 24) (hk : Kept t w w') : KyAt w' a ls :=
  SAt.keep h fun b cur hc _ => hk.block b (by rintro rfl; rw [hx] at hc; simp at hc; exact hT hc.2)
theorem kept13 {t : Nat} {w : World} {v0 v1 v2 v3 v4 v5 v6 v7 v8 v9 v10 v11 v12 : Value} : Kept t w (((((((((((((w.setCell ⟨t, 0, none⟩ v0).setCell ⟨t, 1, none⟩ v1).setCell ⟨t, 2, none⟩ v2).setCell ⟨t, 3, none⟩ v3).setCell ⟨t, 4, none⟩ v4).setCell ⟨t, 5, none⟩ v5).setCell ⟨t, 6, none⟩ v6).setCell ⟨t, 7, none⟩ v7).setCell ⟨t, 8, none⟩ v8).setCell ⟨t, 9, none⟩ v9).setCell ⟨t, 10, none⟩ v10).setCell ⟨t, 11, none⟩ v11).setCell ⟨t, 12, none⟩ v12) := ((((((((((((((Kept.refl t w).setCell 0 v0).setCell 1 v1).setCell 2 v2).setCell 3 v3).setCell 4 v4).setCell 5 v5).setCell 6 v6).setCell 7 v7).setCell 8 v8).setCell 9 v9).setCell 10 v10).setCell 11 v11).setCell 12 v12)
set_option maxRecDepth 100000 in
set_option maxHeartbeats 4000000 in
theorem mailHead (p rb q z : Nat) (s : Rw) (kd : Int) (u w : World) (h : RwAt w p rb s) (hu : Rq p rb u w) (hn : u.heap.size ≤ q) (qp : q ≠ p) (qq : q ≠ rb) (hx : w.heap[q]? = some (.cells #[.int .i64 kd, .int .i64 0, .int .i64 0, .int .i64 0, .int .i64 0, .int .i64 0, .int .i64 0, .string ⟨#[]⟩, .string ⟨#[]⟩, .bool false, .int .u32 0, .slice none 0 0, .slice none 0 0] 29 (0, 0))) (zp : z ≠ p) (zq : z ≠ rb) (z_q : z ≠ q) (hz : w.heap[z]? = some (.cells #[.int .i64 0, .int .i64 0, .int .i64 0, .int .i64 0, .int .i64 0, .int .i64 0, .int .i64 0, .string ⟨#[]⟩, .string ⟨#[]⟩, .bool false, .int .u32 0, .slice none 0 0, .slice none 0 0] 29 (0, 0))) :
    Calls Tryd.prog 49 #[.pointer (some ⟨p, 0, none⟩), .pointer (some ⟨q, 0, none⟩)] w fun r w' => r = .returned (.tuple #[]) ∧ ∃ (op tag : Int) (k : ByteArray × ByteArray) (s' : Rw), rHead ⟨kd, 0, 0, 0, 0, 0, 0, (⟨#[]⟩, ⟨#[]⟩), false, 0, [], []⟩ s = (⟨kd, op, 0, 0, tag, 0, 0, k, false, 0, [], []⟩, s') ∧ RwAt w' p rb s' ∧ w'.heap[q]? = some (.cells #[.int .i64 kd, .int .i64 op, .int .i64 0, .int .i64 0, .int .i64 tag, .int .i64 0, .int .i64 0, .string k.1, .string k.2, .bool false, .int .u32 0, .slice none 0 0, .slice none 0 0] 29 (0, 0)) ∧ w'.heap[z]? = some (.cells #[.int .i64 0, .int .i64 0, .int .i64 0, .int .i64 0, .int .i64 0, .int .i64 0, .int .i64 0, .string ⟨#[]⟩, .string ⟨#[]⟩, .bool false, .int .u32 0, .slice none 0 0, .slice none 0 0] 29 (0, 0)) ∧ Rq p rb u w' := by
  have HZ0 := Lib.hid hz
  clear hz
  have HR0 := Lib.hid h
  have HK0 := Lib.hid hu
  have HX0 := Lib.hid hx
  have qn := Lib.hid hn
  clear h hu hx hn
  go_enter Tryd.func49, Tryd.ntmps49
  obtain ⟨tag, s1, hE⟩ : ∃ x0 x1, rI s = (x0, x1) := ⟨_, _, rfl⟩
  have HE1 := Lib.hid hE
  clear hE
  have hc : ∀ n, w.cell? ⟨p, n, none⟩ = (#[.pointer (some ⟨rb, 0, none⟩), .bool s.2] : Array Value)[n]? := blk_cell HR0.out.1
  have hl := HR0.out.lt
  go_wp2_with fail
  refine (rdInt p rb s s1 w HR0.out _ HE1.out).mono ?_
  rintro e w1 ⟨rfl, hr, hk⟩
  have HR1 := Lib.hid hr
  have HK1 := Lib.hid (HK0.out.trans hk)
  have HX1 := Lib.hid ((hk.block q qp qq (blk_lt HX0.out)).trans HX0.out)
  have HZ1 := Lib.hid ((hk.block z zp zq (blk_lt HZ0.out)).trans HZ0.out)
  clear hr hk hc hl HK0 HX0 HZ0
  have hc := blk_cell HX1.out
  have hf := blk_free HX1.out
  have hl := blk_lt HX1.out
  go_upto_region 1 with (fail)
  clear hc hf hl
  have HX2 := Lib.hid (blk_set (n := 4) (u := .int .i64 tag) (vs' := #[.int .i64 kd, .int .i64 0, .int .i64 0, .int .i64 0, .int .i64 tag, .int .i64 0, .int .i64 0, .string ⟨#[]⟩, .string ⟨#[]⟩, .bool false, .int .u32 0, .slice none 0 0, .slice none 0 0]) (HX1.out) (by simp))
  have HR2 := Lib.hid ((HR1.out).set (o := 4) (v := .int .i64 tag) (HX1.out) (by decide) qp qq)
  have HK2 := Lib.hid ((HK1.out).setnew (o := 4) (v := .int .i64 tag) qn.out)
  have HZ2 := Lib.hid (blk_set_other (b := z) (b' := q) (n := 4) (u := .int .i64 tag) z_q (HZ1.out))
  clear HK1 HX1 HZ1
  generalize (w1.setCell ⟨q, 4, none⟩ (.int .i64 tag)) = w2 at *
  obtain ⟨op, s2, hE⟩ : ∃ x0 x1, rB s1 = (x0, x1) := ⟨_, _, rfl⟩
  have HE2 := Lib.hid hE
  clear hE
  have hc : ∀ n, w2.cell? ⟨p, n, none⟩ = (#[.pointer (some ⟨rb, 0, none⟩), .bool s1.2] : Array Value)[n]? := blk_cell HR2.out.1
  have hl := HR2.out.lt
  go_wp2_with fail
  refine (rdByte p rb s1 s2 w2 HR2.out _ HE2.out).mono ?_
  rintro e w3 ⟨rfl, hr, hk⟩
  have HR3 := Lib.hid hr
  have HK3 := Lib.hid (HK2.out.trans hk)
  have HX3 := Lib.hid ((hk.block q qp qq (blk_lt HX2.out)).trans HX2.out)
  have HZ3 := Lib.hid ((hk.block z zp zq (blk_lt HZ2.out)).trans HZ2.out)
  clear hr hk hc hl HK2 HX2 HZ2
  have hc := blk_cell HX3.out
  have hf := blk_free HX3.out
  have hl := blk_lt HX3.out
  go_upto_region 2 with (fail)
  clear hc hf hl
  have HX4 := Lib.hid (blk_set (n := 1) (u := .int .i64 op) (vs' := #[.int .i64 kd, .int .i64 op, .int .i64 0, .int .i64 0, .int .i64 tag, .int .i64 0, .int .i64 0, .string ⟨#[]⟩, .string ⟨#[]⟩, .bool false, .int .u32 0, .slice none 0 0, .slice none 0 0]) (HX3.out) (by simp))
  have HR4 := Lib.hid ((HR3.out).set (o := 1) (v := .int .i64 op) (HX3.out) (by decide) qp qq)
  have HK4 := Lib.hid ((HK3.out).setnew (o := 1) (v := .int .i64 op) qn.out)
  have HZ4 := Lib.hid (blk_set_other (b := z) (b' := q) (n := 1) (u := .int .i64 op) z_q (HZ3.out))
  clear HK3 HX3 HZ3
  generalize (w3.setCell ⟨q, 1, none⟩ (.int .i64 op)) = w4 at *
  obtain ⟨k, s3, hE⟩ : ∃ x0 x1, rK s2 = (x0, x1) := ⟨_, _, rfl⟩
  have HE3 := Lib.hid hE
  clear hE
  have hc : ∀ n, w4.cell? ⟨p, n, none⟩ = (#[.pointer (some ⟨rb, 0, none⟩), .bool s2.2] : Array Value)[n]? := blk_cell HR4.out.1
  have hl := HR4.out.lt
  go_wp2_with fail
  refine (rdKey p rb s2 s3 w4 HR4.out _ HE3.out).mono ?_
  rintro e w5 ⟨rfl, hr, hk⟩
  have HR5 := Lib.hid hr
  have HK5 := Lib.hid (HK4.out.trans hk)
  have HX5 := Lib.hid ((hk.block q qp qq (blk_lt HX4.out)).trans HX4.out)
  have HZ5 := Lib.hid ((hk.block z zp zq (blk_lt HZ4.out)).trans HZ4.out)
  clear hr hk hc hl HK4 HX4 HZ4
  have hc := blk_cell HX5.out
  have hf := blk_free HX5.out
  have hl := blk_lt HX5.out
  go_wp2
  first | go_end0 | go_returns
  clear hc hf hl
  have HX6 := Lib.hid (blk_set (n := 8) (u := .string k.2) (vs' := #[.int .i64 kd, .int .i64 op, .int .i64 0, .int .i64 0, .int .i64 tag, .int .i64 0, .int .i64 0, .string k.1, .string k.2, .bool false, .int .u32 0, .slice none 0 0, .slice none 0 0]) ((blk_set (n := 7) (u := .string k.1) (vs' := #[.int .i64 kd, .int .i64 op, .int .i64 0, .int .i64 0, .int .i64 tag, .int .i64 0, .int .i64 0, .string k.1, .string ⟨#[]⟩, .bool false, .int .u32 0, .slice none 0 0, .slice none 0 0]) (HX5.out) (by simp))) (by simp))
  have HR6 := Lib.hid ((((HR5.out).set (o := 7) (v := .string k.1) (HX5.out) (by decide) qp qq)).set (o := 8) (v := .string k.2) ((blk_set (n := 7) (u := .string k.1) (vs' := #[.int .i64 kd, .int .i64 op, .int .i64 0, .int .i64 0, .int .i64 tag, .int .i64 0, .int .i64 0, .string k.1, .string ⟨#[]⟩, .bool false, .int .u32 0, .slice none 0 0, .slice none 0 0]) (HX5.out) (by simp))) (by decide) qp qq)
  have HK6 := Lib.hid ((((HK5.out).setnew (o := 7) (v := .string k.1) qn.out)).setnew (o := 8) (v := .string k.2) qn.out)
  have HZ6 := Lib.hid (blk_set_other (b := z) (b' := q) (n := 8) (u := .string k.2) z_q ((blk_set_other (b := z) (b' := q) (n := 7) (u := .string k.1) z_q (HZ5.out))))
  clear HK5 HX5 HZ5
  have hH : rHead ⟨kd, 0, 0, 0, 0, 0, 0, (⟨#[]⟩, ⟨#[]⟩), false, 0, [], []⟩ s = (⟨kd, op, 0, 0, tag, 0, 0, k, false, 0, [], []⟩, s3) := by
    unfold rHead
    simp only [HE1.out, HE2.out, HE3.out]
  exact ⟨rfl, op, tag, k, s3, hH, HR6.out, HX6.out, HZ6.out, HK6.out⟩

theorem FC.over {w w' : World} {base : Value} {t : Nat} {cs : Array Value} {T : TypeId} (hx : w.heap[t]? = some (.cells cs T (0, 0))) (hT : T ≠ 83) (hk : Kept t w w') : ∀ {ops : List ByteArray} {e : Value}, FC w base ops e → FC w' base ops e
  | [], _, h => h
  | _ :: _, _, ⟨p, e', h1, h2, h3⟩ => ⟨p, e', h1, (hk.block p (by rintro rfl; rw [hx] at h2; simp at h2; exact hT h2.2)).trans h2, FC.over hx hT hk h3⟩
end Go.Proofs.YtfdalmodnkkfiaaDoor
