/- Messages are read: take, of one kind. -/
import Derived.Test.YtfdalmodnkkfiaaDoorMlT
namespace Go.Proofs.YtfdalmodnkkfiaaDoor
open Go.RowKit
set_option linter.unusedVariables false
set_option linter.unusedSimpArgs false

set_option maxRecDepth 100000 in
set_option maxHeartbeats 4000000 in
theorem mailTake1 (a : Option Addr) (n cap : Nat) (xs : List Int) (w : World) (h : BAt w a xs) (hl : xs.length = n) (hn : n ≤ 1000000) (hw : Wb xs) (hkd : ∀ kd s1, rB ((xs, false), false) = (kd, s1) → kd = 1) :
    Calls Tryd.prog 27 #[.slice a n cap] w fun r w' => ∃ M e', r = .returned (.tuple #[.agg M, e']) ∧ Below w.heap.size w w' ∧ ((rOk (rM ((xs, false), false)).2 = true ∧ ∃ ca cn cc ka kn kc, M = #[.int .i64 (rM ((xs, false), false)).1.kd, .int .i64 (rM ((xs, false), false)).1.op, .int .i64 (rM ((xs, false), false)).1.st, .int .i64 (rM ((xs, false), false)).1.cod, .int .i64 (rM ((xs, false), false)).1.tag, .int .i64 (rM ((xs, false), false)).1.n, .int .i64 (rM ((xs, false), false)).1.sq, .string (rM ((xs, false), false)).1.k.1, .string (rM ((xs, false), false)).1.k.2, .bool (rM ((xs, false), false)).1.fu, .int .u32 (rM ((xs, false), false)).1.su, .slice ca cn cc, .slice ka kn kc] ∧ e' = .nilIface ∧ MgMem w' (rM ((xs, false), false)).1 ca cn cc ka kn kc) ∨ (rOk (rM ((xs, false), false)).2 = false ∧ M = #[.int .i64 0, .int .i64 0, .int .i64 0, .int .i64 0, .int .i64 0, .int .i64 0, .int .i64 0, .string ⟨#[]⟩, .string ⟨#[]⟩, .bool false, .int .u32 0, .slice none 0 0, .slice none 0 0] ∧ FC w' (.iface 43 (.int .i64 12)) [⟨#[98, 121, 116, 101, 115]⟩] e')) := by
  have HA := Lib.hid h
  have HL := Lib.hid hl
  have HWB := Lib.hid hw
  have hE := (Below.refl w.heap.size w).alloc (Nat.le_refl _) (.cells #[.int .i64 0, .int .i64 0, .int .i64 0, .int .i64 0, .int .i64 0, .int .i64 0, .int .i64 0, .string ⟨#[]⟩, .string ⟨#[]⟩, .bool false, .int .u32 0, .slice none 0 0, .slice none 0 0] 29)
  have D0 := Lib.hid hE
  have HZ0 := Lib.hid (blk_new w #[.int .i64 0, .int .i64 0, .int .i64 0, .int .i64 0, .int .i64 0, .int .i64 0, .int .i64 0, .string ⟨#[]⟩, .string ⟨#[]⟩, .bool false, .int .u32 0, .slice none 0 0, .slice none 0 0] 29)
  clear h hl hw hE
  go_enter Tryd.func27, Tryd.ntmps27
  go_upto_region 1 with (fail)
  obtain ⟨z, hz⟩ : ∃ t, w.heap.size = t := ⟨_, rfl⟩
  have zn := Lib.hid (show w.heap.size ≤ z by omega)
  rw [hz] at HZ0
  try rw [hz]
  clear hz
  generalize (w.alloc (.cells #[.int .i64 0, .int .i64 0, .int .i64 0, .int .i64 0, .int .i64 0, .int .i64 0, .int .i64 0, .string ⟨#[]⟩, .string ⟨#[]⟩, .bool false, .int .u32 0, .slice none 0 0, .slice none 0 0] 29)) = w0 at *
  go_wp2_with fail
  refine (packNew a n cap xs w0 (HA.out.ext D0.out) HL.out (by omega) HWB.out).mono ?_
  rintro e w1 ⟨rb, rfl, hrb, hR, hb⟩
  have hE := (Below.refl w1.heap.size w1).alloc (Nat.le_refl _) (.cells #[.pointer (some ⟨rb, 0, none⟩), .bool false] 90)
  have D1 := Lib.hid (ext_trans D0.out hb)
  have D2 := Lib.hid (ext_trans D1.out hE)
  have HZ2 := Lib.hid (blk_ext hE (blk_ext hb HZ0.out))
  have HRR := Lib.hid (show RdAt 107 (w1.alloc (.cells #[.pointer (some ⟨rb, 0, none⟩), .bool false] 90)) rb (xs, false) from hR.ext hE)
  have HPP := Lib.hid (blk_new w1 #[.pointer (some ⟨rb, 0, none⟩), .bool false] 90)
  have hs0 := D0.out.size
  have hs1 := D1.out.size
  have hrl := hR.lt
  have hzl := blk_lt HZ0.out
  have hsz := hb.size
  have hrb0 : w.heap.size ≤ rb := by omega
  have hzr : z ≠ rb := by omega
  clear hE hb hR D0 HZ0
  go_upto_region 2 with (fail)
  obtain ⟨p, hp⟩ : ∃ t, w1.heap.size = t := ⟨_, rfl⟩
  have hp0 : w.heap.size ≤ p := by omega
  have zp : z ≠ p := by omega
  have zq : z ≠ rb := by omega
  rw [hp] at HPP
  try rw [hp]
  clear hp hs0 hs1 hrl hzl hsz
  have HR2 := Lib.hid (show RwAt (w1.alloc (.cells #[.pointer (some ⟨rb, 0, none⟩), .bool false] 90)) p rb ((xs, false), false) from ⟨HPP.out, HRR.out⟩)
  have HK2 := Lib.hid (Rq.of (p := p) (q := rb) D2.out)
  clear HPP HRR D1
  generalize (w1.alloc (.cells #[.pointer (some ⟨rb, 0, none⟩), .bool false] 90)) = w2 at *
  obtain ⟨s, hs⟩ : ∃ s : Rw, s = ((xs, false), false) := ⟨_, rfl⟩
  have HS := Lib.hid hs
  rw [← hs] at HR2
  clear hs
  obtain ⟨kd, s1, hE⟩ : ∃ x0 x1, rB s = (x0, x1) := ⟨_, _, rfl⟩
  have HE1 := Lib.hid hE
  clear hE
  have hc : ∀ n, w2.cell? ⟨p, n, none⟩ = (#[.pointer (some ⟨rb, 0, none⟩), .bool s.2] : Array Value)[n]? := blk_cell HR2.out.1
  have hl := HR2.out.lt
  go_wp2_with fail
  refine (rdByte p rb s s1 w2 HR2.out _ HE1.out).mono ?_
  rintro e w3 ⟨rfl, hr, hk⟩
  have HR3 := Lib.hid hr
  have HK3 := Lib.hid (HK2.out.trans hk)
  have HZ3 := Lib.hid ((hk.block z zp zq (blk_lt HZ2.out)).trans HZ2.out)
  clear hr hk hc hl HK2 HZ2
  have hE := (Below.refl w3.heap.size w3).alloc (Nat.le_refl _) (.cells #[.int .i64 kd, .int .i64 0, .int .i64 0, .int .i64 0, .int .i64 0, .int .i64 0, .int .i64 0, .string ⟨#[]⟩, .string ⟨#[]⟩, .bool false, .int .u32 0, .slice none 0 0, .slice none 0 0] 29)
  have HX4 := Lib.hid (blk_new w3 #[.int .i64 kd, .int .i64 0, .int .i64 0, .int .i64 0, .int .i64 0, .int .i64 0, .int .i64 0, .string ⟨#[]⟩, .string ⟨#[]⟩, .bool false, .int .u32 0, .slice none 0 0, .slice none 0 0] 29)
  have HR4 := Lib.hid (HR3.out.ext hE)
  have HK4 := Lib.hid (HK3.out.trans (Rq.of hE))
  have HZ4 := Lib.hid (blk_ext hE HZ3.out)
  have hs1 := HK3.out.size
  have hs2 := HR3.out.lt
  have hs3 := HR3.out.lt2
  have hs4 := blk_lt HZ3.out
  clear hE
  go_upto_region 3 with (fail)
  obtain ⟨q, hq⟩ : ∃ q, w3.heap.size = q := ⟨_, rfl⟩
  have qp : q ≠ p := by omega
  have qq : q ≠ rb := by omega
  have qz : q ≠ z := by omega
  have zq9 : z ≠ q := by omega
  have qn := Lib.hid (show w.heap.size ≤ q by omega)
  rw [hq] at HX4
  try rw [hq]
  clear hq hs1 hs2 hs3 hs4 HK3 HZ3 D2
  generalize (w3.alloc (.cells #[.int .i64 kd, .int .i64 0, .int .i64 0, .int .i64 0, .int .i64 0, .int .i64 0, .int .i64 0, .string ⟨#[]⟩, .string ⟨#[]⟩, .bool false, .int .u32 0, .slice none 0 0, .slice none 0 0] 29)) = w4 at *
  have z_q := zq9
  have HKD := Lib.hid (hkd kd s1 (by rw [← HS.out]; exact HE1.out))
  clear hkd
  have hkd9 := HKD.out
  have g1 : (kd == 1) = true := by first | simpa using (show kd ≠ 1 by omega) | simpa using hkd9
  clear hkd9
  have hc : ∀ n, w4.cell? ⟨p, n, none⟩ = (#[.pointer (some ⟨rb, 0, none⟩), .bool s1.2] : Array Value)[n]? := blk_cell HR4.out.1
  have hl := HR4.out.lt
  have hcx := blk_cell HX4.out
  have hlx := blk_lt HX4.out
  go_wp2_with fail
  refine (mailHead p rb q z s1 kd w w4 HR4.out HK4.out qn.out qp qq HX4.out zp zq z_q HZ4.out).mono ?_
  rintro e w5 ⟨rfl, op, tag, k, s9, hE, hr, hx, hz, hk⟩
  have HEH := Lib.hid hE
  have HR5 := Lib.hid hr
  have HX5 := Lib.hid hx
  have HZ5 := Lib.hid hz
  have HK5 := Lib.hid hk
  clear hE hr hx hz hk hc hl hcx hlx HX4 HK4 HZ4
  obtain ⟨nn, s2, hE⟩ : ∃ x0 x1, rI s9 = (x0, x1) := ⟨_, _, rfl⟩
  have HE2 := Lib.hid hE
  clear hE
  have hc : ∀ n, w5.cell? ⟨p, n, none⟩ = (#[.pointer (some ⟨rb, 0, none⟩), .bool s9.2] : Array Value)[n]? := blk_cell HR5.out.1
  have hl := HR5.out.lt
  go_wp2_with fail
  refine (rdInt p rb s9 s2 w5 HR5.out _ HE2.out).mono ?_
  rintro e w6 ⟨rfl, hr, hk⟩
  have HR6 := Lib.hid hr
  have HK6 := Lib.hid (HK5.out.trans hk)
  have HZ6 := Lib.hid ((hk.block z zp zq (blk_lt HZ5.out)).trans HZ5.out)
  have HX6 := Lib.hid ((hk.block q qp qq (blk_lt HX5.out)).trans HX5.out)
  clear hr hk hc hl HK5 HZ5 HX5
  have hc := blk_cell HX6.out
  have hf := blk_free HX6.out
  have hl := blk_lt HX6.out
  go_upto_region 7 with (fail)
  clear hc hf hl
  have HX7 := Lib.hid (blk_set (n := 5) (u := .int .i64 nn) (vs' := #[.int .i64 kd, .int .i64 op, .int .i64 0, .int .i64 0, .int .i64 tag, .int .i64 nn, .int .i64 0, .string k.1, .string k.2, .bool false, .int .u32 0, .slice none 0 0, .slice none 0 0]) (HX6.out) (by simp))
  have HR7 := Lib.hid ((HR6.out).set (o := 5) (v := .int .i64 nn) (HX6.out) (by decide) qp qq)
  have HK7 := Lib.hid ((HK6.out).setnew (o := 5) (v := .int .i64 nn) qn.out)
  have HZ7 := Lib.hid (blk_set_other (b := z) (b' := q) (n := 5) (u := .int .i64 nn) z_q (HZ6.out))
  clear HK6 HZ6 HX6
  generalize (w6.setCell ⟨q, 5, none⟩ (.int .i64 nn)) = w7 at *
  obtain ⟨st, s3, hE⟩ : ∃ x0 x1, rB s2 = (x0, x1) := ⟨_, _, rfl⟩
  have HE3 := Lib.hid hE
  clear hE
  have hc : ∀ n, w7.cell? ⟨p, n, none⟩ = (#[.pointer (some ⟨rb, 0, none⟩), .bool s2.2] : Array Value)[n]? := blk_cell HR7.out.1
  have hl := HR7.out.lt
  go_wp2_with fail
  refine (rdByte p rb s2 s3 w7 HR7.out _ HE3.out).mono ?_
  rintro e w8 ⟨rfl, hr, hk⟩
  have HR8 := Lib.hid hr
  have HK8 := Lib.hid (HK7.out.trans hk)
  have HZ8 := Lib.hid ((hk.block z zp zq (blk_lt HZ7.out)).trans HZ7.out)
  have HX8 := Lib.hid ((hk.block q qp qq (blk_lt HX7.out)).trans HX7.out)
  clear hr hk hc hl HK7 HZ7 HX7
  have hc := blk_cell HX8.out
  have hf := blk_free HX8.out
  have hl := blk_lt HX8.out
  go_upto_region 8 with (fail)
  clear hc hf hl
  have HX9 := Lib.hid (blk_set (n := 2) (u := .int .i64 st) (vs' := #[.int .i64 kd, .int .i64 op, .int .i64 st, .int .i64 0, .int .i64 tag, .int .i64 nn, .int .i64 0, .string k.1, .string k.2, .bool false, .int .u32 0, .slice none 0 0, .slice none 0 0]) (HX8.out) (by simp))
  have HR9 := Lib.hid ((HR8.out).set (o := 2) (v := .int .i64 st) (HX8.out) (by decide) qp qq)
  have HK9 := Lib.hid ((HK8.out).setnew (o := 2) (v := .int .i64 st) qn.out)
  have HZ9 := Lib.hid (blk_set_other (b := z) (b' := q) (n := 2) (u := .int .i64 st) z_q (HZ8.out))
  clear HK8 HZ8 HX8
  generalize (w8.setCell ⟨q, 2, none⟩ (.int .i64 st)) = w9 at *
  obtain ⟨sq, s4, hE⟩ : ∃ x0 x1, rI s3 = (x0, x1) := ⟨_, _, rfl⟩
  have HE4 := Lib.hid hE
  clear hE
  have hc : ∀ n, w9.cell? ⟨p, n, none⟩ = (#[.pointer (some ⟨rb, 0, none⟩), .bool s3.2] : Array Value)[n]? := blk_cell HR9.out.1
  have hl := HR9.out.lt
  go_wp2_with fail
  refine (rdInt p rb s3 s4 w9 HR9.out _ HE4.out).mono ?_
  rintro e w10 ⟨rfl, hr, hk⟩
  have HR10 := Lib.hid hr
  have HK10 := Lib.hid (HK9.out.trans hk)
  have HZ10 := Lib.hid ((hk.block z zp zq (blk_lt HZ9.out)).trans HZ9.out)
  have HX10 := Lib.hid ((hk.block q qp qq (blk_lt HX9.out)).trans HX9.out)
  clear hr hk hc hl HK9 HZ9 HX9
  have hc := blk_cell HX10.out
  have hf := blk_free HX10.out
  have hl := blk_lt HX10.out
  go_upto_region 21 with (fail)
  clear hc hf hl
  have HX11 := Lib.hid (blk_set (n := 6) (u := .int .i64 sq) (vs' := #[.int .i64 kd, .int .i64 op, .int .i64 st, .int .i64 0, .int .i64 tag, .int .i64 nn, .int .i64 sq, .string k.1, .string k.2, .bool false, .int .u32 0, .slice none 0 0, .slice none 0 0]) (HX10.out) (by simp))
  have HR11 := Lib.hid ((HR10.out).set (o := 6) (v := .int .i64 sq) (HX10.out) (by decide) qp qq)
  have HK11 := Lib.hid ((HK10.out).setnew (o := 6) (v := .int .i64 sq) qn.out)
  have HZ11 := Lib.hid (blk_set_other (b := z) (b' := q) (n := 6) (u := .int .i64 sq) z_q (HZ10.out))
  clear HK10 HZ10 HX10
  generalize (w10.setCell ⟨q, 6, none⟩ (.int .i64 sq)) = w11 at *
  have HM := Lib.hid (show rM s = ((⟨1, op, st, 0, tag, nn, sq, k, false, 0, [], []⟩ : Mg), s4) from by
    have hkd9 := HKD.out
    unfold rM
    simp only [HE1.out, HEH.out, HE2.out, HE3.out, HE4.out]
    subst hkd9
    first | rfl | (simp [Mg.zero, HEH.out, HE2.out, HE3.out, HE4.out]; done) | (simp only [Mg.zero]; simp [HEH.out, HE2.out, HE3.out, HE4.out]))
  obtain ⟨dn, hdn⟩ : ∃ b, dn' s4.1 = b := ⟨_, rfl⟩
  obtain ⟨wr, hwr⟩ : ∃ b, s4.2 = b := ⟨_, rfl⟩
  have HDN := Lib.hid hdn
  have HWR := Lib.hid hwr
  clear hdn hwr
  cases dn
  · cases wr
    · have hc : ∀ n, w11.cell? ⟨p, n, none⟩ = (#[.pointer (some ⟨rb, 0, none⟩), .bool false] : Array Value)[n]? := by have h := blk_cell HR11.out.1; rw [HWR.out] at h; exact h
      have hl := HR11.out.lt
      have hcx := blk_cell HX11.out
      have hlx := blk_lt HX11.out
      have hcz := blk_cell HZ11.out
      have hfz := blk_free HZ11.out
      have hlz := blk_lt HZ11.out
      go_wp2_with fail
      refine (packRDone rb s4.1 w11 HR11.out.2).mono ?_
      rintro e wx ⟨rfl, hx⟩
      obtain rfl := hx
      rw [HDN.out]
      go_wp2_with fail
      refine (faultNew ⟨#[98, 121, 116, 101, 115]⟩ 12 w11 (by decide)).mono ?_
      rintro e wy ⟨e1, rfl, hf, hb⟩
      have HF := Lib.hid hf
      have HBB := Lib.hid (ext_trans (HK11.out.below hp0 hrb0 (Nat.le_refl _)) hb)
      have HZY := Lib.hid (blk_ext hb HZ11.out)
      clear hf hb hc hl hcx hlx hcz hfz hlz
      have hcz := blk_cell HZY.out
      have hfz := blk_free HZY.out
      have hlz := blk_lt HZY.out
      go_wp2_with fail
      have hk2 := blk_cell (blk_fill13 (v0 := .int .i64 0) (v1 := .int .i64 0) (v2 := .int .i64 0) (v3 := .int .i64 0) (v4 := .int .i64 0) (v5 := .int .i64 0) (v6 := .int .i64 0) (v7 := .string ⟨#[]⟩) (v8 := .string ⟨#[]⟩) (v9 := .bool false) (v10 := .int .u32 0) (v11 := .slice none 0 0) (v12 := .slice none 0 0) HZY.out rfl)
      refine bodyPost_ret (v := .tuple #[.agg #[.int .i64 0, .int .i64 0, .int .i64 0, .int .i64 0, .int .i64 0, .int .i64 0, .int .i64 0, .string ⟨#[]⟩, .string ⟨#[]⟩, .bool false, .int .u32 0, .slice none 0 0, .slice none 0 0], e1]) (by simp [results, Tryd.results27, go_sem, hk2]) rfl ?_
      have hs9 := HS.out
      subst hs9
      refine ⟨_, _, rfl, below_fill13 HBB.out zn.out, .inr ⟨?_, rfl, FC.over HZY.out (by decide) kept13 HF.out⟩⟩
      rw [HM.out]
      show (dn' s4.1 && !s4.2) = false
      rw [HDN.out, HWR.out]
      rfl
    · have hc : ∀ n, w11.cell? ⟨p, n, none⟩ = (#[.pointer (some ⟨rb, 0, none⟩), .bool true] : Array Value)[n]? := by have h := blk_cell HR11.out.1; rw [HWR.out] at h; exact h
      have hl := HR11.out.lt
      have hcx := blk_cell HX11.out
      have hlx := blk_lt HX11.out
      have hcz := blk_cell HZ11.out
      have hfz := blk_free HZ11.out
      have hlz := blk_lt HZ11.out
      go_wp2_with fail
      refine (packRDone rb s4.1 w11 HR11.out.2).mono ?_
      rintro e wx ⟨rfl, hx⟩
      obtain rfl := hx
      rw [HDN.out]
      go_wp2_with fail
      refine (faultNew ⟨#[98, 121, 116, 101, 115]⟩ 12 w11 (by decide)).mono ?_
      rintro e wy ⟨e1, rfl, hf, hb⟩
      have HF := Lib.hid hf
      have HBB := Lib.hid (ext_trans (HK11.out.below hp0 hrb0 (Nat.le_refl _)) hb)
      have HZY := Lib.hid (blk_ext hb HZ11.out)
      clear hf hb hc hl hcx hlx hcz hfz hlz
      have hcz := blk_cell HZY.out
      have hfz := blk_free HZY.out
      have hlz := blk_lt HZY.out
      go_wp2_with fail
      have hk2 := blk_cell (blk_fill13 (v0 := .int .i64 0) (v1 := .int .i64 0) (v2 := .int .i64 0) (v3 := .int .i64 0) (v4 := .int .i64 0) (v5 := .int .i64 0) (v6 := .int .i64 0) (v7 := .string ⟨#[]⟩) (v8 := .string ⟨#[]⟩) (v9 := .bool false) (v10 := .int .u32 0) (v11 := .slice none 0 0) (v12 := .slice none 0 0) HZY.out rfl)
      refine bodyPost_ret (v := .tuple #[.agg #[.int .i64 0, .int .i64 0, .int .i64 0, .int .i64 0, .int .i64 0, .int .i64 0, .int .i64 0, .string ⟨#[]⟩, .string ⟨#[]⟩, .bool false, .int .u32 0, .slice none 0 0, .slice none 0 0], e1]) (by simp [results, Tryd.results27, go_sem, hk2]) rfl ?_
      have hs9 := HS.out
      subst hs9
      refine ⟨_, _, rfl, below_fill13 HBB.out zn.out, .inr ⟨?_, rfl, FC.over HZY.out (by decide) kept13 HF.out⟩⟩
      rw [HM.out]
      show (dn' s4.1 && !s4.2) = false
      rw [HDN.out, HWR.out]
      rfl
  · cases wr
    · have hc : ∀ n, w11.cell? ⟨p, n, none⟩ = (#[.pointer (some ⟨rb, 0, none⟩), .bool false] : Array Value)[n]? := by have h := blk_cell HR11.out.1; rw [HWR.out] at h; exact h
      have hl := HR11.out.lt
      have hcx := blk_cell HX11.out
      have hlx := blk_lt HX11.out
      have hcz := blk_cell HZ11.out
      have hfz := blk_free HZ11.out
      have hlz := blk_lt HZ11.out
      go_wp2_with fail
      refine (packRDone rb s4.1 w11 HR11.out.2).mono ?_
      rintro e wx ⟨rfl, hx⟩
      obtain rfl := hx
      rw [HDN.out]
      go_wp2_with fail
      have hk2 := blk_cell (blk_fill13 (v0 := .int .i64 kd) (v1 := .int .i64 op) (v2 := .int .i64 st) (v3 := .int .i64 0) (v4 := .int .i64 tag) (v5 := .int .i64 nn) (v6 := .int .i64 sq) (v7 := .string k.1) (v8 := .string k.2) (v9 := .bool false) (v10 := .int .u32 0) (v11 := .slice none 0 0) (v12 := .slice none 0 0) HZ11.out rfl)
      refine bodyPost_ret (v := .tuple #[.agg #[.int .i64 kd, .int .i64 op, .int .i64 st, .int .i64 0, .int .i64 tag, .int .i64 nn, .int .i64 sq, .string k.1, .string k.2, .bool false, .int .u32 0, .slice none 0 0, .slice none 0 0], .nilIface]) (by simp [results, Tryd.results27, go_sem, hk2]) rfl ?_
      have hs9 := HS.out
      subst hs9
      refine ⟨_, _, rfl, below_fill13 (HK11.out.below hp0 hrb0 (Nat.le_refl _)) zn.out, .inl ⟨?_, none, 0, 0, none, 0, 0, ?_, rfl, ?_⟩⟩
      · rw [HM.out]
        show (dn' s4.1 && !s4.2) = true
        rw [HDN.out, HWR.out]
        rfl
      · rw [HM.out]; rw [show kd = 1 from HKD.out]
      · rw [HM.out]
        exact ⟨(.inl rfl), rfl, Nat.le_refl _, by simp [maxLen], (.inl rfl), rfl, Nat.le_refl _, by simp [maxLen], fun _ => ⟨rfl, rfl⟩, fun _ => ⟨rfl, rfl⟩⟩
    · have hc : ∀ n, w11.cell? ⟨p, n, none⟩ = (#[.pointer (some ⟨rb, 0, none⟩), .bool true] : Array Value)[n]? := by have h := blk_cell HR11.out.1; rw [HWR.out] at h; exact h
      have hl := HR11.out.lt
      have hcx := blk_cell HX11.out
      have hlx := blk_lt HX11.out
      have hcz := blk_cell HZ11.out
      have hfz := blk_free HZ11.out
      have hlz := blk_lt HZ11.out
      go_wp2_with fail
      refine (packRDone rb s4.1 w11 HR11.out.2).mono ?_
      rintro e wx ⟨rfl, hx⟩
      obtain rfl := hx
      rw [HDN.out]
      go_wp2_with fail
      refine (faultNew ⟨#[98, 121, 116, 101, 115]⟩ 12 w11 (by decide)).mono ?_
      rintro e wy ⟨e1, rfl, hf, hb⟩
      have HF := Lib.hid hf
      have HBB := Lib.hid (ext_trans (HK11.out.below hp0 hrb0 (Nat.le_refl _)) hb)
      have HZY := Lib.hid (blk_ext hb HZ11.out)
      clear hf hb hc hl hcx hlx hcz hfz hlz
      have hcz := blk_cell HZY.out
      have hfz := blk_free HZY.out
      have hlz := blk_lt HZY.out
      go_wp2_with fail
      have hk2 := blk_cell (blk_fill13 (v0 := .int .i64 0) (v1 := .int .i64 0) (v2 := .int .i64 0) (v3 := .int .i64 0) (v4 := .int .i64 0) (v5 := .int .i64 0) (v6 := .int .i64 0) (v7 := .string ⟨#[]⟩) (v8 := .string ⟨#[]⟩) (v9 := .bool false) (v10 := .int .u32 0) (v11 := .slice none 0 0) (v12 := .slice none 0 0) HZY.out rfl)
      refine bodyPost_ret (v := .tuple #[.agg #[.int .i64 0, .int .i64 0, .int .i64 0, .int .i64 0, .int .i64 0, .int .i64 0, .int .i64 0, .string ⟨#[]⟩, .string ⟨#[]⟩, .bool false, .int .u32 0, .slice none 0 0, .slice none 0 0], e1]) (by simp [results, Tryd.results27, go_sem, hk2]) rfl ?_
      have hs9 := HS.out
      subst hs9
      refine ⟨_, _, rfl, below_fill13 HBB.out zn.out, .inr ⟨?_, rfl, FC.over HZY.out (by decide) kept13 HF.out⟩⟩
      rw [HM.out]
      show (dn' s4.1 && !s4.2) = false
      rw [HDN.out, HWR.out]
      rfl

end Go.Proofs.YtfdalmodnkkfiaaDoor
