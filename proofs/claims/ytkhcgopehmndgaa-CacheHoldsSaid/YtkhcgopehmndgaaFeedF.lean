/- Feeds: head, Full, the document's own Full. -/
import Derived.Test.YtkhcgopehmndgaaFeedC
import Derived.Test.YtkhcgopehmndgaaBk
import Derived.Test.YtkhcgopehmndgaaSealR
import Derived.Test.YtkhcgopehmndgaaBn
import Derived.Test.YtkhcgopehmndgaaSplit
namespace Go.Proofs.Ytkhcgopehmndgaa
open Go.RowKit
set_option linter.unusedVariables false
set_option linter.unusedSimpArgs false

theorem blk_fill13 {w : World} {b : Nat} {T : TypeId} {vs : Array Value} {v0 v1 v2 v3 v4 v5 v6 v7 v8 v9 v10 v11 v12 : Value} (h : w.heap[b]? = some (.cells vs T (0, 0))) (hs : vs.size = 13) : (((((((((((((w.setCell ⟨b, 0, none⟩ v0).setCell ⟨b, 1, none⟩ v1).setCell ⟨b, 2, none⟩ v2).setCell ⟨b, 3, none⟩ v3).setCell ⟨b, 4, none⟩ v4).setCell ⟨b, 5, none⟩ v5).setCell ⟨b, 6, none⟩ v6).setCell ⟨b, 7, none⟩ v7).setCell ⟨b, 8, none⟩ v8).setCell ⟨b, 9, none⟩ v9).setCell ⟨b, 10, none⟩ v10).setCell ⟨b, 11, none⟩ v11).setCell ⟨b, 12, none⟩ v12).heap[b]? = some (.cells #[v0, v1, v2, v3, v4, v5, v6, v7, v8, v9, v10, v11, v12] T (0, 0)) := by
  obtain ⟨l⟩ := vs
  match l, hs with
  | [x0, x1, x2, x3, x4, x5, x6, x7, x8, x9, x10, x11, x12], _ =>
    have h0 := blk_set (n := 0) (u := v0) (vs' := #[v0, x1, x2, x3, x4, x5, x6, x7, x8, x9, x10, x11, x12]) h (by simp)
    have h1 := blk_set (n := 1) (u := v1) (vs' := #[v0, v1, x2, x3, x4, x5, x6, x7, x8, x9, x10, x11, x12]) h0 (by simp)
    have h2 := blk_set (n := 2) (u := v2) (vs' := #[v0, v1, v2, x3, x4, x5, x6, x7, x8, x9, x10, x11, x12]) h1 (by simp)
    have h3 := blk_set (n := 3) (u := v3) (vs' := #[v0, v1, v2, v3, x4, x5, x6, x7, x8, x9, x10, x11, x12]) h2 (by simp)
    have h4 := blk_set (n := 4) (u := v4) (vs' := #[v0, v1, v2, v3, v4, x5, x6, x7, x8, x9, x10, x11, x12]) h3 (by simp)
    have h5 := blk_set (n := 5) (u := v5) (vs' := #[v0, v1, v2, v3, v4, v5, x6, x7, x8, x9, x10, x11, x12]) h4 (by simp)
    have h6 := blk_set (n := 6) (u := v6) (vs' := #[v0, v1, v2, v3, v4, v5, v6, x7, x8, x9, x10, x11, x12]) h5 (by simp)
    have h7 := blk_set (n := 7) (u := v7) (vs' := #[v0, v1, v2, v3, v4, v5, v6, v7, x8, x9, x10, x11, x12]) h6 (by simp)
    have h8 := blk_set (n := 8) (u := v8) (vs' := #[v0, v1, v2, v3, v4, v5, v6, v7, v8, x9, x10, x11, x12]) h7 (by simp)
    have h9 := blk_set (n := 9) (u := v9) (vs' := #[v0, v1, v2, v3, v4, v5, v6, v7, v8, v9, x10, x11, x12]) h8 (by simp)
    have h10 := blk_set (n := 10) (u := v10) (vs' := #[v0, v1, v2, v3, v4, v5, v6, v7, v8, v9, v10, x11, x12]) h9 (by simp)
    have h11 := blk_set (n := 11) (u := v11) (vs' := #[v0, v1, v2, v3, v4, v5, v6, v7, v8, v9, v10, v11, x12]) h10 (by simp)
    have h12 := blk_set (n := 12) (u := v12) (vs' := #[v0, v1, v2, v3, v4, v5, v6, v7, v8, v9, v10, v11, v12]) h11 (by simp)
    exact h12
theorem blk_over13 {w : World} {b c : Nat} {o : Obj} {v0 v1 v2 v3 v4 v5 v6 v7 v8 v9 v10 v11 v12 : Value} (hn : c ≠ b) (h : w.heap[c]? = some o) : (((((((((((((w.setCell ⟨b, 0, none⟩ v0).setCell ⟨b, 1, none⟩ v1).setCell ⟨b, 2, none⟩ v2).setCell ⟨b, 3, none⟩ v3).setCell ⟨b, 4, none⟩ v4).setCell ⟨b, 5, none⟩ v5).setCell ⟨b, 6, none⟩ v6).setCell ⟨b, 7, none⟩ v7).setCell ⟨b, 8, none⟩ v8).setCell ⟨b, 9, none⟩ v9).setCell ⟨b, 10, none⟩ v10).setCell ⟨b, 11, none⟩ v11).setCell ⟨b, 12, none⟩ v12).heap[c]? = some o := by
  exact (blk_set_other hn (blk_set_other hn (blk_set_other hn (blk_set_other hn (blk_set_other hn (blk_set_other hn (blk_set_other hn (blk_set_other hn (blk_set_other hn (blk_set_other hn (blk_set_other hn (blk_set_other hn (blk_set_other hn h)))))))))))))
theorem below_fill13 {m : Nat} {u w : World} {b : Nat} {v0 v1 v2 v3 v4 v5 v6 v7 v8 v9 v10 v11 v12 : Value} (h : Below m u w) (hb : m ≤ b) : Below m u (((((((((((((w.setCell ⟨b, 0, none⟩ v0).setCell ⟨b, 1, none⟩ v1).setCell ⟨b, 2, none⟩ v2).setCell ⟨b, 3, none⟩ v3).setCell ⟨b, 4, none⟩ v4).setCell ⟨b, 5, none⟩ v5).setCell ⟨b, 6, none⟩ v6).setCell ⟨b, 7, none⟩ v7).setCell ⟨b, 8, none⟩ v8).setCell ⟨b, 9, none⟩ v9).setCell ⟨b, 10, none⟩ v10).setCell ⟨b, 11, none⟩ v11).setCell ⟨b, 12, none⟩ v12) := (((((((((((((h.setCell hb _).setCell hb _).setCell hb _).setCell hb _).setCell hb _).setCell hb _).setCell hb _).setCell hb _).setCell hb _).setCell hb _).setCell hb _).setCell hb _).setCell hb _)


/-- what a feed is: full or not, its number, its sum, its cards -/
def FdP (full : Bool) (q s : Int) (cs : List Cd) (w : World) (e : Ending) (w' : World) : Prop := ∃ a n c, e = .returned (.agg #[.int .i64 2, .int .i64 5, .int .i64 0, .int .i64 0, .int .i64 0, .int .i64 0, .int .i64 q, .string ⟨#[]⟩, .string ⟨#[]⟩, .bool full, .int .u32 s, .slice a n c, .slice none 0 0]) ∧ cs.length = n ∧ n ≤ c ∧ c ≤ maxLen ∧ CAt w' a cs ∧ Below w.heap.size w w'
set_option maxRecDepth 100000 in
set_option maxHeartbeats 2000000 in
theorem feedHead (sb rb q : Nat) (most : Int) (es : List En) (ks : List Ky) (w : World) (h : ShP w sb most es) (h2 : RecAt w rb q ks) (hn : es.length ≤ 20) (hc : ∀ x ∈ es, CdS x.c) :
    Calls Try.prog 41 #[.pointer (some ⟨sb, 0, none⟩), .pointer (some ⟨rb, 0, none⟩)] w fun r w' => r = .returned (.agg #[.int .i64 2, .int .i64 5, .int .i64 0, .int .i64 0, .int .i64 0, .int .i64 0, .int .i64 q, .string ⟨#[]⟩, .string ⟨#[]⟩, .bool false, .int .u32 (sm (sealB (es.map (·.c)))), .slice none 0 0, .slice none 0 0]) ∧ Below w.heap.size w w' := by
  have D0 : Below w.heap.size w (w.alloc (.cells #[.int .i64 0, .int .i64 0, .int .i64 0, .int .i64 0, .int .i64 0, .int .i64 0, .int .i64 0, .string ⟨#[]⟩, .string ⟨#[]⟩, .bool false, .int .u32 0, .slice none 0 0, .slice none 0 0] 36)) := (Below.refl _ _).alloc (Nat.le_refl _) _
  have HX := Lib.hid (blk_new w #[.int .i64 0, .int .i64 0, .int .i64 0, .int .i64 0, .int .i64 0, .int .i64 0, .int .i64 0, .string ⟨#[]⟩, .string ⟨#[]⟩, .bool false, .int .u32 0, .slice none 0 0, .slice none 0 0] 36)
  have HS := Lib.hid (h.ext D0)
  have HQ := Lib.hid (h2.ext D0)
  have HB0 := Lib.hid D0
  have HCS := Lib.hid (show ∀ x ∈ (es.map (·.c)), CdS x from fun x hx => by obtain ⟨e, he, rfl⟩ := List.mem_map.1 hx; exact hc e he)
  clear h h2 D0 hc
  go_enter Try.func41, Try.ntmps41
  go_upto_region 1 with (fail)
  obtain ⟨r, hr⟩ : ∃ r, w.heap.size = r := ⟨_, rfl⟩
  rw [hr] at HX
  try rw [hr]
  have HRr := Lib.hid (show w.heap.size ≤ r by omega)
  clear hr
  generalize (w.alloc (.cells #[.int .i64 0, .int .i64 0, .int .i64 0, .int .i64 0, .int .i64 0, .int .i64 0, .int .i64 0, .string ⟨#[]⟩, .string ⟨#[]⟩, .bool false, .int .u32 0, .slice none 0 0, .slice none 0 0] 36)) = w0 at *
  go_wp2_with fail
  refine (recentSeq rb q ks _ HQ.out).mono ?_
  rintro e w1 ⟨rfl, hw1⟩
  have HX1 := Lib.hid (show w1.heap[r]? = some (.cells #[.int .i64 0, .int .i64 0, .int .i64 0, .int .i64 0, .int .i64 0, .int .i64 0, .int .i64 0, .string ⟨#[]⟩, .string ⟨#[]⟩, .bool false, .int .u32 0, .slice none 0 0, .slice none 0 0] 36 (0, 0)) from by rw [← hw1]; exact HX.out)
  have HS1 := Lib.hid (show ShP w1 sb most es from by rw [← hw1]; exact HS.out)
  have HB1 := Lib.hid (show Below w.heap.size w w1 from by rw [← hw1]; exact HB0.out)
  clear hw1 HX HS HB0 HQ
  go_wp2_with fail
  refine (shCards sb most es _ HS1.out (by omega)).mono ?_
  rintro e w2 ⟨v, rfl, ho, hb⟩
  obtain ⟨ca, cc', rfl, hcc, hcm, hcat, -, -⟩ := ho.read
  rw [List.length_map] at hcc ⊢
  have HX2 := Lib.hid (blk_ext hb HX1.out)
  have HB2 := Lib.hid (ext_trans HB1.out hb)
  have HC2 := Lib.hid hcat
  clear ho hb hcat HX1 HS1 HB1
  go_wp2_with fail
  refine (sealOf ca es.length cc' (es.map (·.c)) _ HC2.out (List.length_map ..) hn hcc HCS.out).mono ?_
  rintro e w3 ⟨rfl, hb⟩
  obtain ⟨S, hS⟩ : ∃ S, sm (sealB (es.map (·.c))) = S := ⟨_, rfl⟩
  have HSS := Lib.hid hS
  rw [hS]
  have HX3 := Lib.hid (blk_ext hb HX2.out)
  have HB3 := Lib.hid (ext_trans HB2.out hb)
  have hk3 := blk_cell HX3.out
  have hf3 := blk_free HX3.out
  have hl3 := blk_lt HX3.out
  clear hb HX2 HB2 HC2 hS
  go_wp2_with fail
  exact bodyPost_ret (v := .agg #[.int .i64 2, .int .i64 5, .int .i64 0, .int .i64 0, .int .i64 0, .int .i64 0, .int .i64 q, .string ⟨#[]⟩, .string ⟨#[]⟩, .bool false, .int .u32 S, .slice none 0 0, .slice none 0 0]) (by have hk2 := blk_cell (blk_fill13 (v0 := .int .i64 2) (v1 := .int .i64 5) (v2 := .int .i64 0) (v3 := .int .i64 0) (v4 := .int .i64 0) (v5 := .int .i64 0) (v6 := .int .i64 q) (v7 := .string ⟨#[]⟩) (v8 := .string ⟨#[]⟩) (v9 := .bool false) (v10 := .int .u32 S) (v11 := .slice none 0 0) (v12 := .slice none 0 0) HX3.out rfl); simp [results, Try.results41, go_sem, hk2]) rfl ⟨by rw [HSS.out], below_fill13 HB3.out HRr.out⟩

set_option maxRecDepth 100000 in
set_option maxHeartbeats 2000000 in
theorem feedFull (sb rb q : Nat) (most : Int) (es : List En) (ks : List Ky) (w : World) (h : ShP w sb most es) (h2 : RecAt w rb q ks) (hn : es.length ≤ 20) (hc : ∀ x ∈ es, CdS x.c) :
    Calls Try.prog 24 #[.pointer (some ⟨sb, 0, none⟩), .pointer (some ⟨rb, 0, none⟩)] w fun r w' => FdP true q (sm (sealB (es.map (·.c)))) (seenL (es.map (·.c))) w r w' := by
  have D0 : Below w.heap.size w (w.alloc (.cells #[.int .i64 0, .int .i64 0, .int .i64 0, .int .i64 0, .int .i64 0, .int .i64 0, .int .i64 0, .string ⟨#[]⟩, .string ⟨#[]⟩, .bool false, .int .u32 0, .slice none 0 0, .slice none 0 0] 36)) := (Below.refl _ _).alloc (Nat.le_refl _) _
  have HX := Lib.hid (blk_new w #[.int .i64 0, .int .i64 0, .int .i64 0, .int .i64 0, .int .i64 0, .int .i64 0, .int .i64 0, .string ⟨#[]⟩, .string ⟨#[]⟩, .bool false, .int .u32 0, .slice none 0 0, .slice none 0 0] 36)
  have HS := Lib.hid (h.ext D0)
  have HQ := Lib.hid (h2.ext D0)
  have HB0 := Lib.hid D0
  clear h h2 D0
  go_enter Try.func24, Try.ntmps24
  go_upto_region 1 with (fail)
  obtain ⟨r, hr⟩ : ∃ r, w.heap.size = r := ⟨_, rfl⟩
  rw [hr] at HX
  try rw [hr]
  have HRr := Lib.hid (show w.heap.size ≤ r by omega)
  clear hr
  generalize (w.alloc (.cells #[.int .i64 0, .int .i64 0, .int .i64 0, .int .i64 0, .int .i64 0, .int .i64 0, .int .i64 0, .string ⟨#[]⟩, .string ⟨#[]⟩, .bool false, .int .u32 0, .slice none 0 0, .slice none 0 0] 36)) = w0 at *
  go_wp2_with fail
  refine (feedHead sb rb q most es ks _ HS.out HQ.out hn hc).mono ?_
  rintro e w1 ⟨rfl, hb⟩
  obtain ⟨CS, hCS⟩ : ∃ CS, (es.map (·.c)) = CS := ⟨_, rfl⟩
  have HCS := Lib.hid hCS
  rw [hCS]
  obtain ⟨S, hS⟩ : ∃ S, sm (sealB CS) = S := ⟨_, rfl⟩
  have HSS := Lib.hid hS
  rw [hS]
  have HX1 := Lib.hid (blk_ext hb HX.out)
  have HS1 := Lib.hid (HS.out.ext hb)
  have HB1 := Lib.hid (ext_trans HB0.out hb)
  have hl1 := blk_lt HX1.out
  have D2 := Lib.hid (show Below w1.heap.size w1 (w1.alloc (.cells #[.int .i64 2, .int .i64 5, .int .i64 0, .int .i64 0, .int .i64 0, .int .i64 0, .int .i64 q, .string ⟨#[]⟩, .string ⟨#[]⟩, .bool false, .int .u32 S, .slice none 0 0, .slice none 0 0] 36)) from (Below.refl _ _).alloc (Nat.le_refl _) _)
  have HM2 := Lib.hid (blk_new w1 #[.int .i64 2, .int .i64 5, .int .i64 0, .int .i64 0, .int .i64 0, .int .i64 0, .int .i64 q, .string ⟨#[]⟩, .string ⟨#[]⟩, .bool false, .int .u32 S, .slice none 0 0, .slice none 0 0] 36)
  clear hb HX HS HQ HB0 hCS hS
  go_upto_region 4 with (fail)
  obtain ⟨m, hm⟩ : ∃ m, w1.heap.size = m := ⟨_, rfl⟩
  have hrm : r ≠ m := by omega
  have HM0 := Lib.hid (show w.heap.size ≤ m from by rw [← hm]; exact HB1.out.size)
  rw [hm] at HM2
  try rw [hm]
  have HX2 := Lib.hid (blk_ext D2.out HX1.out)
  have HS2 := Lib.hid (HS1.out.ext D2.out)
  have HB2 := Lib.hid (ext_trans HB1.out D2.out)
  have HW2 := Lib.hid (show m < (w1.alloc (.cells #[.int .i64 2, .int .i64 5, .int .i64 0, .int .i64 0, .int .i64 0, .int .i64 0, .int .i64 q, .string ⟨#[]⟩, .string ⟨#[]⟩, .bool false, .int .u32 S, .slice none 0 0, .slice none 0 0] 36)).heap.size from blk_lt HM2.out)
  clear HX1 HS1 HB1 D2 hm
  generalize (w1.alloc (.cells #[.int .i64 2, .int .i64 5, .int .i64 0, .int .i64 0, .int .i64 0, .int .i64 0, .int .i64 q, .string ⟨#[]⟩, .string ⟨#[]⟩, .bool false, .int .u32 S, .slice none 0 0, .slice none 0 0] 36)) = w2 at *
  go_wp2_with fail
  refine (shCards sb most es _ HS2.out (by omega)).mono ?_
  rintro e w3 ⟨v, rfl, ho, hb⟩
  obtain ⟨ca, cc', rfl, hcc, hcm, hcat, -, -⟩ := ho.read
  rw [HCS.out] at hcc hcat ⊢
  have hCl : CS.length = es.length := by rw [← HCS.out, List.length_map]
  have HCL := Lib.hid hCl
  rw [hCl] at hcc ⊢
  clear hCl
  have HX3 := Lib.hid (blk_ext hb HX2.out)
  have HM3 := Lib.hid (blk_ext hb HM2.out)
  have HB3 := Lib.hid (ext_trans HB2.out hb)
  have HC3 := Lib.hid hcat
  clear ho hb hcat HX2 HS2 HB2 HM2
  go_wp2_with fail
  refine (sealSeen ca es.length cc' CS _ HC3.out HCL.out hn hcc).mono ?_
  rintro e w4 ⟨v, rfl, ho, hb⟩
  obtain ⟨va, vc, rfl, hvc, hvm, hvat, hvb, -⟩ := ho.read
  obtain ⟨k, hk⟩ : ∃ k, (seenL CS).length = k := ⟨_, rfl⟩
  have HKL := Lib.hid hk
  rw [hk] at hvc ⊢
  clear hk
  have HX4 := Lib.hid (blk_ext hb HX3.out)
  have HM4 := Lib.hid (blk_ext hb HM3.out)
  have HB4 := Lib.hid (ext_trans HB3.out hb)
  have HV4 := Lib.hid hvat
  have hz3 := blk_lt HX3.out
  have hz3m := blk_lt HM3.out
  have HVB := Lib.hid (show ∀ b o, va = some ⟨b, o, none⟩ → b ≠ r ∧ b ≠ m from fun b o e => by have := (hvb b o e).1; omega)
  have hk4 := blk_cell HM4.out
  have hf4 := blk_free HM4.out
  have hl4 := blk_lt HM4.out
  clear ho hb hvat hvb HX3 HM3 HB3 HC3
  go_upto_region 5 with (fail)
  have HM5 : ((w4.setCell ⟨m, 9, none⟩ (.bool true)).setCell ⟨m, 11, none⟩ (.slice va k vc)).heap[m]? = some (.cells #[.int .i64 2, .int .i64 5, .int .i64 0, .int .i64 0, .int .i64 0, .int .i64 0, .int .i64 q, .string ⟨#[]⟩, .string ⟨#[]⟩, .bool true, .int .u32 S, .slice va k vc, .slice none 0 0] 36 (0, 0)) := blk_set (blk_set HM4.out (by first | rfl | simp)) (by first | rfl | simp)
  have hkp : Kept m w4 ((w4.setCell ⟨m, 9, none⟩ (.bool true)).setCell ⟨m, 11, none⟩ (.slice va k vc)) := ((Kept.refl m w4).setCell _ _).setCell _ _
  have HV5 := Lib.hid (show CAt ((w4.setCell ⟨m, 9, none⟩ (.bool true)).setCell ⟨m, 11, none⟩ (.slice va k vc)) va (seenL CS) from HV4.out.keep fun b cur hc he => hkp.block b (by obtain ⟨o, e⟩ := he; exact (HVB.out b o e).2))
  have HX5 := Lib.hid ((hkp.block r hrm).trans HX4.out)
  have HB5 := Lib.hid (show Below w.heap.size w ((w4.setCell ⟨m, 9, none⟩ (.bool true)).setCell ⟨m, 11, none⟩ (.slice va k vc)) from (HB4.out.setCell HM0.out _).setCell HM0.out _)
  have HM6 := Lib.hid HM5
  clear hk4 hf4 hl4 hkp HM5 HX4 HM4 HB4 HV4 hl1 hz3 hz3m HW2 hrm
  generalize ((w4.setCell ⟨m, 9, none⟩ (.bool true)).setCell ⟨m, 11, none⟩ (.slice va k vc)) = w5 at *
  have hk5 := blk_cell HM6.out
  have hl5 := blk_lt HM6.out
  have hr5 := blk_cell HX5.out
  have hf5 := blk_free HX5.out
  have hlr5 := blk_lt HX5.out
  go_wp2_with fail
  refine bodyPost_ret (v := .agg #[.int .i64 2, .int .i64 5, .int .i64 0, .int .i64 0, .int .i64 0, .int .i64 0, .int .i64 q, .string ⟨#[]⟩, .string ⟨#[]⟩, .bool true, .int .u32 S, .slice va k vc, .slice none 0 0]) (by have hk2 := blk_cell (blk_fill13 (v0 := .int .i64 2) (v1 := .int .i64 5) (v2 := .int .i64 0) (v3 := .int .i64 0) (v4 := .int .i64 0) (v5 := .int .i64 0) (v6 := .int .i64 q) (v7 := .string ⟨#[]⟩) (v8 := .string ⟨#[]⟩) (v9 := .bool true) (v10 := .int .u32 S) (v11 := .slice va k vc) (v12 := .slice none 0 0) HX5.out rfl); simp [results, Try.results24, go_sem, hk2]) rfl ?_
  rw [HCS.out, HSS.out]
  exact ⟨va, k, vc, rfl, HKL.out, hvc, hvm, HV5.out.keep (fun b cur hc he => by
    obtain ⟨o, e⟩ := he
    exact (blk_over13 (HVB.out b o e).1 hc).trans hc.symm), below_fill13 HB5.out HRr.out⟩

end Go.Proofs.Ytkhcgopehmndgaa
