/- The document's own net: all its calls. -/
import Derived.Test.YtkkmnodhmmdllaaN8C
import Derived.Test.YtkkmnodhmmdllaaN8D
import Derived.Test.YtkkmnodhmmdllaaN8E
import Derived.Test.YtkkmnodhmmdllaaN8F
namespace Go.Proofs.Ytkkmnodhmmdllaa
open Go.RowKit
set_option linter.unusedVariables false
set_option linter.unusedSimpArgs false

def zML : ML := ⟨0, 0, []⟩
def sendM (N : Nat) (bl : List ML) (x : ML) : Int × List ML := if hnB N x.f = true ∧ hnB N x.t = true then (if bl.length < 64 then (0, bl ++ [x]) else (24, bl)) else (23, bl)
def dropM (bl : List ML) (i : Int) : Int × List ML := if 0 ≤ i ∧ i < (bl.length : Int) then (0, bl.eraseIdx i.toNat) else (23, bl)
def twiceM (bl : List ML) (i : Int) : Int × List ML := if 0 ≤ i ∧ i < (bl.length : Int) then (if bl.length < 64 then (0, bl ++ [bl.getD i.toNat zML]) else (24, bl)) else (23, bl)
def delM (N : Nat) (p : List Bool) (bl : List ML) (i : Int) : Int × ML × List ML := if 0 ≤ i ∧ i < (bl.length : Int) then (if prB N p (bl.getD i.toNat zML).f (bl.getD i.toNat zML).t = true then (26, zML, bl) else (0, bl.getD i.toNat zML, bl.eraseIdx i.toNat)) else (23, zML, bl)
theorem str_nil : strOfNums [] = ⟨#[]⟩ := by rfl
theorem rnOutS (rb nodes P : Nat) (bl : List ML) (x : ML) (p : List Bool) (w : World) (h : RN w rb nodes bl p) (hx : bl[P]? = some x) :
    Calls Try.prog 31 #[.pointer (some ⟨rb, 0, none⟩), .int .i64 (P : Int)] w fun r w' => r = .returned (.agg #[.int .i64 x.f, .int .i64 x.t, .string (strOfNums x.xs)]) ∧ RNs w.heap.size w' rb nodes (bl.eraseIdx P) p ∧ Rim rb w w' := by
  obtain ⟨h1, h2, h3, a, c, h4, h5, h6, h7, h8⟩ := h
  have hlt : P < bl.length := (List.getElem?_eq_some_iff.1 hx).1
  rcases h8 with ⟨rfl, rfl⟩ | ⟨b, o, rfl⟩
  · omega
  · by_cases hc : c = P + 1
    · exact rnOutB rb nodes b o c P bl x p w h4 h7 h5 h6 h3 h1 h2 hx hc
    · exact rnOutA rb nodes b o c P bl x p w h4 h7 h5 h6 h3 h1 h2 hx hc
theorem rnOut (rb nodes P : Nat) (bl : List ML) (x : ML) (p : List Bool) (w : World) (h : RN w rb nodes bl p) (hx : bl[P]? = some x) :
    Calls Try.prog 31 #[.pointer (some ⟨rb, 0, none⟩), .int .i64 (P : Int)] w fun r w' => r = .returned (.agg #[.int .i64 x.f, .int .i64 x.t, .string (strOfNums x.xs)]) ∧ RN w' rb nodes (bl.eraseIdx P) p ∧ Rim rb w w' := by
  exact (rnOutS rb nodes P bl x p w h hx).mono fun r w' ⟨e, h, hr⟩ => ⟨e, h.of, hr⟩

set_option maxRecDepth 100000 in
set_option maxHeartbeats 1000000 in
theorem rnSend_f (rb nodes : Nat) (bl : List ML) (x : ML) (p : List Bool) (w : World) (h : RN w rb nodes bl p) (hf : hnB nodes x.f = false) :
    Calls Try.prog 22 #[.pointer (some ⟨rb, 0, none⟩), .agg #[.int .i64 x.f, .int .i64 x.t, .string (strOfNums x.xs)]] w fun r w' => r = .returned (.int .i64 23) ∧ Below w.heap.size w w' := by
  have D0 := Lib.hid (show Below w.heap.size w (w.alloc (.cells #[.int .i64 x.f, .int .i64 x.t, .string (strOfNums x.xs)] 50)) from (Below.refl _ _).alloc (Nat.le_refl _) _)
  have HPX := Lib.hid (blk_new w #[.int .i64 x.f, .int .i64 x.t, .string (strOfNums x.xs)] 50)
  obtain ⟨-, -, -, a, c, h4, -⟩ := h
  have HB := Lib.hid (RNB.ext h4 D0.out)
  have HF := Lib.hid hf
  clear h4 hf
  go_enter Try.func22, Try.ntmps22
  go_upto_region 1 with (fail)
  obtain ⟨pb, hpb⟩ : ∃ r, w.heap.size = r := ⟨_, rfl⟩
  rw [hpb] at HPX
  try rw [hpb]
  clear hpb
  generalize (w.alloc (.cells #[.int .i64 x.f, .int .i64 x.t, .string (strOfNums x.xs)] 50)) = w1 at *
  have hk := blk_cell HPX.out
  have hkl := blk_lt HPX.out
  go_wp2_with fail
  refine (rnIn rb nodes _ p x.f _ HB.out).mono ?_
  rintro e w2 ⟨rfl, rfl⟩
  rw [HF.out]
  go_wp2
  go_ret
  exact ⟨rfl, D0.out⟩

set_option maxRecDepth 100000 in
set_option maxHeartbeats 1000000 in
theorem rnSend_t (rb nodes : Nat) (bl : List ML) (x : ML) (p : List Bool) (w : World) (h : RN w rb nodes bl p) (hf : hnB nodes x.t = false) (hf1 : hnB nodes x.f = true) :
    Calls Try.prog 22 #[.pointer (some ⟨rb, 0, none⟩), .agg #[.int .i64 x.f, .int .i64 x.t, .string (strOfNums x.xs)]] w fun r w' => r = .returned (.int .i64 23) ∧ Below w.heap.size w w' := by
  have D0 := Lib.hid (show Below w.heap.size w (w.alloc (.cells #[.int .i64 x.f, .int .i64 x.t, .string (strOfNums x.xs)] 50)) from (Below.refl _ _).alloc (Nat.le_refl _) _)
  have HPX := Lib.hid (blk_new w #[.int .i64 x.f, .int .i64 x.t, .string (strOfNums x.xs)] 50)
  obtain ⟨-, -, -, a, c, h4, -⟩ := h
  have HB := Lib.hid (RNB.ext h4 D0.out)
  have HF := Lib.hid hf
  clear h4 hf
  go_enter Try.func22, Try.ntmps22
  go_upto_region 1 with (fail)
  obtain ⟨pb, hpb⟩ : ∃ r, w.heap.size = r := ⟨_, rfl⟩
  rw [hpb] at HPX
  try rw [hpb]
  clear hpb
  generalize (w.alloc (.cells #[.int .i64 x.f, .int .i64 x.t, .string (strOfNums x.xs)] 50)) = w1 at *
  have hk := blk_cell HPX.out
  have hkl := blk_lt HPX.out
  go_wp2_with fail
  refine (rnIn rb nodes _ p x.f _ HB.out).mono ?_
  rintro e w2 ⟨rfl, rfl⟩
  rw [hf1]
  go_wp2_with fail
  refine (rnIn rb nodes _ p x.t _ HB.out).mono ?_
  rintro e w2 ⟨rfl, rfl⟩
  rw [HF.out]
  go_wp2
  go_ret
  exact ⟨rfl, D0.out⟩

set_option maxRecDepth 100000 in
set_option maxHeartbeats 1000000 in
theorem rnSend_full (rb nodes : Nat) (bl : List ML) (x : ML) (p : List Bool) (w : World) (h : RN w rb nodes bl p) (hf1 : hnB nodes x.f = true) (ht1 : hnB nodes x.t = true) (h64 : ¬ bl.length < 64) :
    Calls Try.prog 22 #[.pointer (some ⟨rb, 0, none⟩), .agg #[.int .i64 x.f, .int .i64 x.t, .string (strOfNums x.xs)]] w fun r w' => r = .returned (.int .i64 24) ∧ Below w.heap.size w w' := by
  have D0 := Lib.hid (show Below w.heap.size w (w.alloc (.cells #[.int .i64 x.f, .int .i64 x.t, .string (strOfNums x.xs)] 50)) from (Below.refl _ _).alloc (Nat.le_refl _) _)
  have HPX := Lib.hid (blk_new w #[.int .i64 x.f, .int .i64 x.t, .string (strOfNums x.xs)] 50)
  obtain ⟨-, -, -, a, c, h4, -⟩ := h
  obtain ⟨n, hl⟩ : ∃ n, bl.length = n := ⟨_, rfl⟩
  rw [hl] at h4 h64
  have HB := Lib.hid (RNB.ext h4 D0.out)
  have d64 : decide ((64 : Int) ≤ (n : Int)) = true := decide_eq_true (by omega)
  have d64' : decide (64 ≤ n) = true := decide_eq_true (by omega)
  clear h4
  go_enter Try.func22, Try.ntmps22
  go_upto_region 1 with (fail)
  obtain ⟨pb, hpb⟩ : ∃ r, w.heap.size = r := ⟨_, rfl⟩
  rw [hpb] at HPX
  try rw [hpb]
  clear hpb
  generalize (w.alloc (.cells #[.int .i64 x.f, .int .i64 x.t, .string (strOfNums x.xs)] 50)) = w1 at *
  have hk := blk_cell HPX.out
  have hkl := blk_lt HPX.out
  go_wp2_with fail
  refine (rnIn rb nodes _ p x.f _ HB.out).mono ?_
  rintro e w2 ⟨rfl, rfl⟩
  rw [hf1]
  go_wp2_with fail
  refine (rnIn rb nodes _ p x.t _ HB.out).mono ?_
  rintro e w2 ⟨rfl, rfl⟩
  rw [ht1]
  have hc := HB.out.c1
  have hcl := HB.out.lt
  go_wp2
  go_ret
  exact ⟨rfl, D0.out⟩

set_option maxRecDepth 100000 in
set_option maxHeartbeats 1000000 in
theorem rnSendG (rb nodes : Nat) (bl : List ML) (x : ML) (p : List Bool) (w : World) (h : RN w rb nodes bl p) :
    Calls Try.prog 22 #[.pointer (some ⟨rb, 0, none⟩), .agg #[.int .i64 x.f, .int .i64 x.t, .string (strOfNums x.xs)]] w fun r w' => r = .returned (.int .i64 (sendM nodes bl x).1) ∧ RN w' rb nodes (sendM nodes bl x).2 p ∧ Rim rb w w' := by
  have HH := h
  unfold sendM
  rcases hf : hnB nodes x.f with _ | _
  · rw [if_neg (by rintro ⟨h, _⟩; cases h)]
    exact (rnSend_f rb nodes bl x p w h hf).mono fun r w' ⟨e, hb⟩ => ⟨e, h.ext hb, Rim.of hb⟩
  · rcases ht : hnB nodes x.t with _ | _
    · rw [if_neg (by rintro ⟨_, h⟩; cases h)]
      exact (rnSend_t rb nodes bl x p w h ht hf).mono fun r w' ⟨e, hb⟩ => ⟨e, h.ext hb, Rim.of hb⟩
    · rw [if_pos ⟨rfl, rfl⟩]
      by_cases h64 : bl.length < 64
      · rw [if_pos h64]
        obtain ⟨h1, h2, h3, a, c, h4, h5, h6, h7, h8⟩ := h
        rcases h8 with ⟨rfl, rfl⟩ | ⟨b, o, rfl⟩
        · exact rnSendB rb nodes 0 bl x p w h4 h7 h5 h6 h64 h1 h2 hf ht (List.eq_nil_of_length_eq_zero (by omega)) rfl
        · exact rnSendA rb nodes b o c bl x p w h4 h7 h5 h6 h64 h1 h2 hf ht
      · rw [if_neg h64]
        exact (rnSend_full rb nodes bl x p w h hf ht h64).mono fun r w' ⟨e, hb⟩ => ⟨e, h.ext hb, Rim.of hb⟩

set_option maxRecDepth 100000 in
set_option maxHeartbeats 1000000 in
theorem rnDropNo_lo (rb nodes : Nat) (bl : List ML) (i : Int) (p : List Bool) (w : World) (h : RN w rb nodes bl p) (hi : i < 0) :
    Calls Try.prog 18 #[.pointer (some ⟨rb, 0, none⟩), .int .i64 i] w fun r w' => r = .returned (.int .i64 23) ∧ w = w' := by
  obtain ⟨n, hl⟩ : ∃ n, bl.length = n := ⟨_, rfl⟩
  have HL := Lib.hid hl
  have HH := Lib.hid h
  obtain ⟨h1, h2, h3, a, c, h4, h5, h6, h7, h8⟩ := h
  rw [hl] at h4 h3 h5
  have HB := Lib.hid h4
  have HS := Lib.hid h7
  have hc := h4.c1
  have hcl := h4.lt
  clear h4 h7 h8 hl h6
  have d1 : decide (i < 0) = true := decide_eq_true hi
  go_enter Try.func18, Try.ntmps18
  go_wp2
  go_ret
  exact ⟨rfl, rfl⟩

set_option maxRecDepth 100000 in
set_option maxHeartbeats 1000000 in
theorem rnDropNo_hi (rb nodes : Nat) (bl : List ML) (i : Int) (p : List Bool) (w : World) (h : RN w rb nodes bl p) (h0 : 0 ≤ i) (hi : (bl.length : Int) ≤ i) :
    Calls Try.prog 18 #[.pointer (some ⟨rb, 0, none⟩), .int .i64 i] w fun r w' => r = .returned (.int .i64 23) ∧ w = w' := by
  obtain ⟨n, hl⟩ : ∃ n, bl.length = n := ⟨_, rfl⟩
  have HL := Lib.hid hl
  have HH := Lib.hid h
  obtain ⟨h1, h2, h3, a, c, h4, h5, h6, h7, h8⟩ := h
  rw [hl] at h4 h3 h5
  have HB := Lib.hid h4
  have HS := Lib.hid h7
  have hc := h4.c1
  have hcl := h4.lt
  clear h4 h7 h8 hl h6
  have d1 : decide (i < 0) = false := decide_eq_false (by omega)
  have d2 : decide ((n : Int) ≤ i) = true := decide_eq_true (by have := HL.out; omega)
  go_enter Try.func18, Try.ntmps18
  go_wp2
  go_ret
  exact ⟨rfl, rfl⟩

set_option maxRecDepth 100000 in
set_option maxHeartbeats 1000000 in
theorem rnTwiceNo_lo (rb nodes : Nat) (bl : List ML) (i : Int) (p : List Bool) (w : World) (h : RN w rb nodes bl p) (hi : i < 0) :
    Calls Try.prog 20 #[.pointer (some ⟨rb, 0, none⟩), .int .i64 i] w fun r w' => r = .returned (.int .i64 23) ∧ w = w' := by
  obtain ⟨n, hl⟩ : ∃ n, bl.length = n := ⟨_, rfl⟩
  have HL := Lib.hid hl
  have HH := Lib.hid h
  obtain ⟨h1, h2, h3, a, c, h4, h5, h6, h7, h8⟩ := h
  rw [hl] at h4 h3 h5
  have HB := Lib.hid h4
  have HS := Lib.hid h7
  have hc := h4.c1
  have hcl := h4.lt
  clear h4 h7 h8 hl h6
  have d1 : decide (i < 0) = true := decide_eq_true hi
  go_enter Try.func20, Try.ntmps20
  go_wp2
  go_ret
  exact ⟨rfl, rfl⟩

set_option maxRecDepth 100000 in
set_option maxHeartbeats 1000000 in
theorem rnTwiceNo_hi (rb nodes : Nat) (bl : List ML) (i : Int) (p : List Bool) (w : World) (h : RN w rb nodes bl p) (h0 : 0 ≤ i) (hi : (bl.length : Int) ≤ i) :
    Calls Try.prog 20 #[.pointer (some ⟨rb, 0, none⟩), .int .i64 i] w fun r w' => r = .returned (.int .i64 23) ∧ w = w' := by
  obtain ⟨n, hl⟩ : ∃ n, bl.length = n := ⟨_, rfl⟩
  have HL := Lib.hid hl
  have HH := Lib.hid h
  obtain ⟨h1, h2, h3, a, c, h4, h5, h6, h7, h8⟩ := h
  rw [hl] at h4 h3 h5
  have HB := Lib.hid h4
  have HS := Lib.hid h7
  have hc := h4.c1
  have hcl := h4.lt
  clear h4 h7 h8 hl h6
  have d1 : decide (i < 0) = false := decide_eq_false (by omega)
  have d2 : decide ((n : Int) ≤ i) = true := decide_eq_true (by have := HL.out; omega)
  go_enter Try.func20, Try.ntmps20
  go_wp2
  go_ret
  exact ⟨rfl, rfl⟩

set_option maxRecDepth 100000 in
set_option maxHeartbeats 1000000 in
theorem rnDelNo_lo (rb nodes : Nat) (bl : List ML) (i : Int) (p : List Bool) (w : World) (h : RN w rb nodes bl p) (hi : i < 0) :
    Calls Try.prog 16 #[.pointer (some ⟨rb, 0, none⟩), .int .i64 i] w fun r w' => r = .returned (.tuple #[.agg #[.int .i64 0, .int .i64 0, .string ⟨#[]⟩], .int .i64 23]) ∧ Below w.heap.size w w' := by
  obtain ⟨n, hl⟩ : ∃ n, bl.length = n := ⟨_, rfl⟩
  have HL := Lib.hid hl
  have HH := Lib.hid h
  obtain ⟨h1, h2, h3, a, c, h4, h5, h6, h7, h8⟩ := h
  rw [hl] at h4 h3 h5
  have HB := Lib.hid h4
  have HS := Lib.hid h7
  have hc := h4.c1
  have hcl := h4.lt
  clear h4 h7 h8 hl h6
  have d1 : decide (i < 0) = true := decide_eq_true hi
  have D0 := Lib.hid (show Below w.heap.size w (w.alloc (.cells #[.int .i64 0, .int .i64 0, .string ⟨#[]⟩] 50)) from (Below.refl _ _).alloc (Nat.le_refl _) _)
  have HZ := Lib.hid (blk_new w #[.int .i64 0, .int .i64 0, .string ⟨#[]⟩] 50)
  have HB1 := Lib.hid (HB.out.ext D0.out)
  have HH1 := Lib.hid (HH.out.ext D0.out)
  clear hc hcl HB HH
  go_enter Try.func16, Try.ntmps16
  go_upto_region 1 with (fail)
  obtain ⟨r, hr⟩ : ∃ r, w.heap.size = r := ⟨_, rfl⟩
  have HRW0 := Lib.hid (show w.heap.size ≤ r from by omega)
  rw [hr] at HZ
  try rw [hr]
  clear hr
  generalize (w.alloc (.cells #[.int .i64 0, .int .i64 0, .string ⟨#[]⟩] 50)) = w1 at *
  have hc := HB1.out.c1
  have hcl := HB1.out.lt
  have hk := blk_cell HZ.out
  have hkl := blk_lt HZ.out
  have hkf := blk_free HZ.out
  go_wp2_with fail
  refine bodyPost_ret (v := .tuple #[.agg #[.int .i64 0, .int .i64 0, .string ⟨#[]⟩], .int .i64 23]) (by have hk3 := blk_cell (blk_fill3 (v0 := .int .i64 0) (v1 := .int .i64 0) (v2 := .string ⟨#[]⟩) HZ.out rfl); simp [results, Try.results16, go_sem, hk3]) rfl ⟨rfl, below_fill3 D0.out HRW0.out⟩

set_option maxRecDepth 100000 in
set_option maxHeartbeats 1000000 in
theorem rnDelNo_hi (rb nodes : Nat) (bl : List ML) (i : Int) (p : List Bool) (w : World) (h : RN w rb nodes bl p) (h0 : 0 ≤ i) (hi : (bl.length : Int) ≤ i) :
    Calls Try.prog 16 #[.pointer (some ⟨rb, 0, none⟩), .int .i64 i] w fun r w' => r = .returned (.tuple #[.agg #[.int .i64 0, .int .i64 0, .string ⟨#[]⟩], .int .i64 23]) ∧ Below w.heap.size w w' := by
  obtain ⟨n, hl⟩ : ∃ n, bl.length = n := ⟨_, rfl⟩
  have HL := Lib.hid hl
  have HH := Lib.hid h
  obtain ⟨h1, h2, h3, a, c, h4, h5, h6, h7, h8⟩ := h
  rw [hl] at h4 h3 h5
  have HB := Lib.hid h4
  have HS := Lib.hid h7
  have hc := h4.c1
  have hcl := h4.lt
  clear h4 h7 h8 hl h6
  have d1 : decide (i < 0) = false := decide_eq_false (by omega)
  have d2 : decide ((n : Int) ≤ i) = true := decide_eq_true (by have := HL.out; omega)
  have D0 := Lib.hid (show Below w.heap.size w (w.alloc (.cells #[.int .i64 0, .int .i64 0, .string ⟨#[]⟩] 50)) from (Below.refl _ _).alloc (Nat.le_refl _) _)
  have HZ := Lib.hid (blk_new w #[.int .i64 0, .int .i64 0, .string ⟨#[]⟩] 50)
  have HB1 := Lib.hid (HB.out.ext D0.out)
  have HH1 := Lib.hid (HH.out.ext D0.out)
  clear hc hcl HB HH
  go_enter Try.func16, Try.ntmps16
  go_upto_region 1 with (fail)
  obtain ⟨r, hr⟩ : ∃ r, w.heap.size = r := ⟨_, rfl⟩
  have HRW0 := Lib.hid (show w.heap.size ≤ r from by omega)
  rw [hr] at HZ
  try rw [hr]
  clear hr
  generalize (w.alloc (.cells #[.int .i64 0, .int .i64 0, .string ⟨#[]⟩] 50)) = w1 at *
  have hc := HB1.out.c1
  have hcl := HB1.out.lt
  have hk := blk_cell HZ.out
  have hkl := blk_lt HZ.out
  have hkf := blk_free HZ.out
  go_wp2_with fail
  refine bodyPost_ret (v := .tuple #[.agg #[.int .i64 0, .int .i64 0, .string ⟨#[]⟩], .int .i64 23]) (by have hk3 := blk_cell (blk_fill3 (v0 := .int .i64 0) (v1 := .int .i64 0) (v2 := .string ⟨#[]⟩) HZ.out rfl); simp [results, Try.results16, go_sem, hk3]) rfl ⟨rfl, below_fill3 D0.out HRW0.out⟩

set_option maxRecDepth 100000 in
set_option maxHeartbeats 1000000 in
theorem rnDropYes (rb nodes P : Nat) (bl : List ML) (x : ML) (p : List Bool) (w : World) (h : RN w rb nodes bl p) (hx : bl[P]? = some x) :
    Calls Try.prog 18 #[.pointer (some ⟨rb, 0, none⟩), .int .i64 (P : Int)] w fun r w' => r = .returned (.int .i64 0) ∧ RN w' rb nodes (bl.eraseIdx P) p ∧ Rim rb w w' := by
  obtain ⟨n, hl⟩ : ∃ n, bl.length = n := ⟨_, rfl⟩
  have HL := Lib.hid hl
  have HH := Lib.hid h
  obtain ⟨h1, h2, h3, a, c, h4, h5, h6, h7, h8⟩ := h
  rw [hl] at h4 h3 h5
  have HB := Lib.hid h4
  have HS := Lib.hid h7
  have hc := h4.c1
  have hcl := h4.lt
  clear h4 h7 h8 hl h6
  have hPn : P < n := by have := (List.getElem?_eq_some_iff.1 hx).1; have := HL.out; omega
  have HX := Lib.hid hx
  have d1 : decide ((P : Int) < 0) = false := decide_eq_false (by omega)
  have d2 : decide ((n : Int) ≤ (P : Int)) = false := decide_eq_false (by omega)
  have hPi : (P : Int) < (n : Int) := by omega
  have ha : ∃ b o, a = some ⟨b, o, none⟩ := by
    rcases HS.out with h | ⟨b, o, e, _⟩
    · rw [h] at hx; simp at hx
    · exact ⟨b, o, e⟩
  obtain ⟨b, o, rfl⟩ := ha
  clear hx
  go_enter Try.func18, Try.ntmps18
  go_wp2_with fail
  refine (rnOut rb nodes P bl x p _ HH.out HX.out).mono ?_
  rintro e w2 ⟨rfl, h2, hr⟩
  have H2 := Lib.hid h2
  have HR := Lib.hid hr
  clear h2 hr hc hcl
  go_wp2
  go_ret
  exact ⟨rfl, H2.out, HR.out⟩

set_option maxRecDepth 100000 in
set_option maxHeartbeats 1000000 in
theorem rnTwiceYes (rb nodes P : Nat) (bl : List ML) (x : ML) (p : List Bool) (w : World) (h : RN w rb nodes bl p) (hx : bl[P]? = some x) :
    Calls Try.prog 20 #[.pointer (some ⟨rb, 0, none⟩), .int .i64 (P : Int)] w fun r w' => r = .returned (.int .i64 (sendM nodes bl x).1) ∧ RN w' rb nodes (sendM nodes bl x).2 p ∧ Rim rb w w' := by
  obtain ⟨n, hl⟩ : ∃ n, bl.length = n := ⟨_, rfl⟩
  have HL := Lib.hid hl
  have HH := Lib.hid h
  obtain ⟨h1, h2, h3, a, c, h4, h5, h6, h7, h8⟩ := h
  rw [hl] at h4 h3 h5
  have HB := Lib.hid h4
  have HS := Lib.hid h7
  have hc := h4.c1
  have hcl := h4.lt
  clear h4 h7 h8 hl h6
  have hPn : P < n := by have := (List.getElem?_eq_some_iff.1 hx).1; have := HL.out; omega
  have HX := Lib.hid hx
  have d1 : decide ((P : Int) < 0) = false := decide_eq_false (by omega)
  have d2 : decide ((n : Int) ≤ (P : Int)) = false := decide_eq_false (by omega)
  have hPi : (P : Int) < (n : Int) := by omega
  have ha : ∃ b o, a = some ⟨b, o, none⟩ := by
    rcases HS.out with h | ⟨b, o, e, _⟩
    · rw [h] at hx; simp at hx
    · exact ⟨b, o, e⟩
  obtain ⟨b, o, rfl⟩ := ha
  clear hx
  have y0 := HS.out.get rlc_len HX.out 0 _ rfl
  have y1 := HS.out.get rlc_len HX.out 1 _ rfl
  have y2 := HS.out.get rlc_len HX.out 2 _ rfl
  simp only [Nat.add_zero] at y0
  have hbl := cell_lt y0
  go_enter Try.func20, Try.ntmps20
  go_wp2_with fail
  refine (rnSendG rb nodes bl x p _ HH.out).mono ?_
  rintro e w2 ⟨rfl, h2, hr⟩
  have H2 := Lib.hid h2
  have HR := Lib.hid hr
  clear h2 hr hc hcl y0 y1 y2
  go_wp2
  go_ret
  exact ⟨rfl, H2.out, HR.out⟩

theorem rnPartedP (nb nodes : Nat) (v : Value) (p : List Bool) (a b : Int) (y : Bool) (w : World) (h : RNB w nb nodes v p) (hn : nodes ≤ 6) (hp : p.length = 36) (hy : prB nodes p a b = y) :
    Calls Try.prog 30 #[.pointer (some ⟨nb, 0, none⟩), .int .i64 a, .int .i64 b] w fun e w' => e = .returned (.bool y) ∧ w = w' := by
  subst hy
  exact rnParted nb nodes v p a b w h hn hp
set_option maxRecDepth 100000 in
set_option maxHeartbeats 1000000 in
theorem rnDelCut (rb nodes P : Nat) (bl : List ML) (x : ML) (p : List Bool) (w : World) (h : RN w rb nodes bl p) (hx : bl[P]? = some x) (hpr : prB nodes p x.f x.t = true) :
    Calls Try.prog 16 #[.pointer (some ⟨rb, 0, none⟩), .int .i64 (P : Int)] w fun r w' => r = .returned (.tuple #[.agg #[.int .i64 0, .int .i64 0, .string ⟨#[]⟩], .int .i64 26]) ∧ Below w.heap.size w w' := by
  obtain ⟨n, hl⟩ : ∃ n, bl.length = n := ⟨_, rfl⟩
  have HL := Lib.hid hl
  have HH := Lib.hid h
  obtain ⟨h1, h2, h3, a, c, h4, h5, h6, h7, h8⟩ := h
  rw [hl] at h4 h3 h5
  have HB := Lib.hid h4
  have HS := Lib.hid h7
  have hc := h4.c1
  have hcl := h4.lt
  clear h4 h7 h8 hl h6
  have hPn : P < n := by have := (List.getElem?_eq_some_iff.1 hx).1; have := HL.out; omega
  have HX := Lib.hid hx
  have d1 : decide ((P : Int) < 0) = false := decide_eq_false (by omega)
  have d2 : decide ((n : Int) ≤ (P : Int)) = false := decide_eq_false (by omega)
  have hPi : (P : Int) < (n : Int) := by omega
  have ha : ∃ b o, a = some ⟨b, o, none⟩ := by
    rcases HS.out with h | ⟨b, o, e, _⟩
    · rw [h] at hx; simp at hx
    · exact ⟨b, o, e⟩
  obtain ⟨b, o, rfl⟩ := ha
  clear hx
  have HN6 := Lib.hid h1
  have HP6 := Lib.hid h2
  have HPR := Lib.hid hpr
  clear hpr h1 h2
  have D0 := Lib.hid (show Below w.heap.size w (w.alloc (.cells #[.int .i64 0, .int .i64 0, .string ⟨#[]⟩] 50)) from (Below.refl _ _).alloc (Nat.le_refl _) _)
  have HZ := Lib.hid (blk_new w #[.int .i64 0, .int .i64 0, .string ⟨#[]⟩] 50)
  have HB1 := Lib.hid (HB.out.ext D0.out)
  have HH1 := Lib.hid (HH.out.ext D0.out)
  have HS1 := Lib.hid (SAt.ext HS.out D0.out)
  clear hc hcl HB HH HS
  go_enter Try.func16, Try.ntmps16
  go_upto_region 1 with (fail)
  obtain ⟨r, hr⟩ : ∃ r, w.heap.size = r := ⟨_, rfl⟩
  have HRW0 := Lib.hid (show w.heap.size ≤ r from by omega)
  rw [hr] at HZ
  try rw [hr]
  clear hr
  generalize (w.alloc (.cells #[.int .i64 0, .int .i64 0, .string ⟨#[]⟩] 50)) = w1 at *
  have hc := HB1.out.c1
  have hcl := HB1.out.lt
  have y0 := HS1.out.get rlc_len HX.out 0 _ rfl
  have y1 := HS1.out.get rlc_len HX.out 1 _ rfl
  have y2 := HS1.out.get rlc_len HX.out 2 _ rfl
  simp only [Nat.add_zero] at y0
  have hbl := cell_lt y0
  go_upto_region 3 with (fail)
  haveI hIq : Nonempty (Of w1) := of_some _
  have hF0 := of_cell hc
  have hF1 := of_cell y0
  have hF2 := of_cell y1
  first | (refine wp_region_stay w1 (by kernel_rfl) (by kernel_rfl) (by go_grown) ?_) | (refine wp_region_stay_seq w1 (by go_grown) ?_)
  repeat (go_big_quiet_step ((go_at_call 30; with_reducible refine stay_same (rnPartedP rb nodes _ p x.f x.t true _ (HB1.out.ext (In.h _)) HN6.out HP6.out HPR.out))))
  refine wpQuiet_nil ?_
  intro w3 hb3
  clear hIq hF0 hF1 hF2
  have HZ3 := Lib.hid (blk_ext hb3 HZ.out)
  have D3 := Lib.hid (ext_trans D0.out hb3)
  clear hb3 hc hcl y0 y1 y2 hbl HZ D0
  have hk := blk_cell HZ3.out
  have hkl := blk_lt HZ3.out
  have hkf := blk_free HZ3.out
  go_wp2_with fail
  refine bodyPost_ret (v := .tuple #[.agg #[.int .i64 0, .int .i64 0, .string ⟨#[]⟩], .int .i64 26]) (by have hk3 := blk_cell (blk_fill3 (v0 := .int .i64 0) (v1 := .int .i64 0) (v2 := .string ⟨#[]⟩) HZ3.out rfl); simp [results, Try.results16, go_sem, hk3]) rfl ⟨rfl, below_fill3 D3.out HRW0.out⟩

set_option maxRecDepth 100000 in
set_option maxHeartbeats 1000000 in
theorem rnDelYes (rb nodes P : Nat) (bl : List ML) (x : ML) (p : List Bool) (w : World) (h : RN w rb nodes bl p) (hx : bl[P]? = some x) (hpr : prB nodes p x.f x.t = false) :
    Calls Try.prog 16 #[.pointer (some ⟨rb, 0, none⟩), .int .i64 (P : Int)] w fun r w' => r = .returned (.tuple #[.agg #[.int .i64 x.f, .int .i64 x.t, .string (strOfNums x.xs)], .int .i64 0]) ∧ RN w' rb nodes (bl.eraseIdx P) p ∧ Rim rb w w' := by
  obtain ⟨n, hl⟩ : ∃ n, bl.length = n := ⟨_, rfl⟩
  have HL := Lib.hid hl
  have HH := Lib.hid h
  obtain ⟨h1, h2, h3, a, c, h4, h5, h6, h7, h8⟩ := h
  rw [hl] at h4 h3 h5
  have HB := Lib.hid h4
  have HS := Lib.hid h7
  have hc := h4.c1
  have hcl := h4.lt
  clear h4 h7 h8 hl h6
  have hPn : P < n := by have := (List.getElem?_eq_some_iff.1 hx).1; have := HL.out; omega
  have HX := Lib.hid hx
  have d1 : decide ((P : Int) < 0) = false := decide_eq_false (by omega)
  have d2 : decide ((n : Int) ≤ (P : Int)) = false := decide_eq_false (by omega)
  have hPi : (P : Int) < (n : Int) := by omega
  have ha : ∃ b o, a = some ⟨b, o, none⟩ := by
    rcases HS.out with h | ⟨b, o, e, _⟩
    · rw [h] at hx; simp at hx
    · exact ⟨b, o, e⟩
  obtain ⟨b, o, rfl⟩ := ha
  clear hx
  have HN6 := Lib.hid h1
  have HP6 := Lib.hid h2
  have HPR := Lib.hid hpr
  clear hpr h1 h2
  have D0 := Lib.hid (show Below w.heap.size w (w.alloc (.cells #[.int .i64 0, .int .i64 0, .string ⟨#[]⟩] 50)) from (Below.refl _ _).alloc (Nat.le_refl _) _)
  have HZ := Lib.hid (blk_new w #[.int .i64 0, .int .i64 0, .string ⟨#[]⟩] 50)
  have HB1 := Lib.hid (HB.out.ext D0.out)
  have HH1 := Lib.hid (HH.out.ext D0.out)
  have HS1 := Lib.hid (SAt.ext HS.out D0.out)
  clear hc hcl HB HH HS
  go_enter Try.func16, Try.ntmps16
  go_upto_region 1 with (fail)
  obtain ⟨r, hr⟩ : ∃ r, w.heap.size = r := ⟨_, rfl⟩
  have HRW0 := Lib.hid (show w.heap.size ≤ r from by omega)
  rw [hr] at HZ
  try rw [hr]
  clear hr
  generalize (w.alloc (.cells #[.int .i64 0, .int .i64 0, .string ⟨#[]⟩] 50)) = w1 at *
  have hc := HB1.out.c1
  have hcl := HB1.out.lt
  have y0 := HS1.out.get rlc_len HX.out 0 _ rfl
  have y1 := HS1.out.get rlc_len HX.out 1 _ rfl
  have y2 := HS1.out.get rlc_len HX.out 2 _ rfl
  simp only [Nat.add_zero] at y0
  have hbl := cell_lt y0
  go_upto_region 3 with (fail)
  haveI hIq : Nonempty (Of w1) := of_some _
  have hF0 := of_cell hc
  have hF1 := of_cell y0
  have hF2 := of_cell y1
  first | (refine wp_region_stay w1 (by kernel_rfl) (by kernel_rfl) (by go_grown) ?_) | (refine wp_region_stay_seq w1 (by go_grown) ?_)
  repeat (go_big_quiet_step ((go_at_call 30; with_reducible refine stay_same (rnPartedP rb nodes _ p x.f x.t false _ (HB1.out.ext (In.h _)) HN6.out HP6.out HPR.out))))
  refine wpQuiet_nil ?_
  intro w3 hb3
  clear hIq hF0 hF1 hF2
  have HZ3 := Lib.hid (blk_ext hb3 HZ.out)
  have HH3 := Lib.hid (HH1.out.ext hb3)
  have D3 := Lib.hid (ext_trans D0.out hb3)
  clear hb3 hc hcl y0 y1 y2 hbl HZ D0 HH1
  go_wp2_with fail
  refine (rnOutS rb nodes P bl x p _ HH3.out HX.out).mono ?_
  rintro e w4 ⟨rfl, h2, hr⟩
  have hrb : r ≠ rb := by
    rintro rfl
    obtain ⟨-, -, -, a', c', h4', -⟩ := HH3.out
    have := (RNB.blk h4').symm.trans HZ3.out
    simp at this
  have HZ4 := Lib.hid ((hr.block r hrb (blk_lt HZ3.out)).trans HZ3.out)
  have HSZ := Lib.hid (blk_lt HZ3.out)
  have H4 := Lib.hid h2
  have HR4 := Lib.hid ((Rim.of D3.out).trans hr)
  clear h2 hr HZ3 HH3
  have hk := blk_cell HZ4.out
  have hkl := blk_lt HZ4.out
  have hkf := blk_free HZ4.out
  go_wp2_with fail
  refine bodyPost_ret (v := .tuple #[.agg #[.int .i64 x.f, .int .i64 x.t, .string (strOfNums x.xs)], .int .i64 0]) (by have hk3 := blk_cell (blk_fill3 (v0 := .int .i64 x.f) (v1 := .int .i64 x.t) (v2 := .string (strOfNums x.xs)) HZ4.out rfl); simp [results, Try.results16, go_sem, hk3]) rfl ⟨rfl, ?_, ?_⟩
  · exact H4.out.rim (rim_set3 (Rim.of (Below.refl _ _))) HZ4.out HSZ.out
  · exact rim_newL HR4.out HRW0.out HZ4.out (rim_set3 (Rim.of (Below.refl _ _)))

end Go.Proofs.Ytkkmnodhmmdllaa
