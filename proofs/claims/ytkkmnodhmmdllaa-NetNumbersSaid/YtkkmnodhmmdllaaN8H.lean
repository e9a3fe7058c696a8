/- The program's net, all its calls, in the words of the document's letters. -/
import Derived.Test.YtkkmnodhmmdllaaN8G
namespace Go.Proofs.Ytkkmnodhmmdllaa
open Go.RowKit
set_option linter.unusedVariables false
set_option linter.unusedSimpArgs false

def zLt : Lt := ⟨0, 0, none, 0, 0⟩
/-- the program's letters are those of the document -/
def Fit (w : World) (ls : List Lt) (bl : List ML) : Prop := ls.length = bl.length ∧ ∀ (i : Nat) (x : Lt) (y : ML), ls[i]? = some x → bl[i]? = some y → x.f = y.f ∧ x.t = y.t ∧ OwnB 0 w x y.xs ∧ y.xs.length ≤ 140737488355328
theorem Fit.types {w w' : World} {ls : List Lt} {bl : List ML} (h : Fit w ls bl) (hk : ∀ (b : Nat) (cur : Array Value), w.heap[b]? = some (.cells cur 5 (0, 0)) → w'.heap[b]? = w.heap[b]?) : Fit w' ls bl :=
  ⟨h.1, fun i x y hx hy => ⟨(h.2 i x y hx hy).1, (h.2 i x y hx hy).2.1, own_blocks (h.2 i x y hx hy).2.2.1 hk, (h.2 i x y hx hy).2.2.2⟩⟩
theorem Fit.ext {w w' : World} {ls : List Lt} {bl : List ML} (h : Fit w ls bl) (hb : Below w.heap.size w w') : Fit w' ls bl := h.types fun b cur hc => hb.block b (blk_lt hc)
theorem Fit.nil (w : World) : Fit w [] [] := ⟨rfl, fun i x y hx => by simp at hx⟩
theorem Fit.snoc {w : World} {ls : List Lt} {bl : List ML} {x : Lt} {y : ML} (h : Fit w ls bl) (h1 : x.f = y.f) (h2 : x.t = y.t) (h3 : OwnB 0 w x y.xs) (h4 : y.xs.length ≤ 140737488355328) : Fit w (ls ++ [x]) (bl ++ [y]) := by
  refine ⟨by simp [h.1], fun i a b ha hb => ?_⟩
  rcases Nat.lt_or_ge i ls.length with hlt | hge
  · rw [List.getElem?_append_left hlt] at ha
    rw [List.getElem?_append_left (by rw [← h.1]; exact hlt)] at hb
    exact h.2 i a b ha hb
  · rw [List.getElem?_append_right hge] at ha
    rw [List.getElem?_append_right (by rw [← h.1]; exact hge)] at hb
    have e1 : i - ls.length = 0 := by
      rcases Nat.eq_zero_or_pos (i - ls.length) with h0 | h0
      · exact h0
      · rw [List.getElem?_eq_none (by simp; omega)] at ha; cases ha
    rw [e1] at ha
    rw [← h.1, e1] at hb
    simp at ha hb
    subst ha hb
    exact ⟨h1, h2, h3, h4⟩
theorem Fit.erase {w : World} {ls : List Lt} {bl : List ML} (h : Fit w ls bl) (P : Nat) : Fit w (ls.eraseIdx P) (bl.eraseIdx P) := by
  refine ⟨by simp only [List.length_eraseIdx, h.1], fun i a b ha hb => ?_⟩
  rw [List.getElem?_eraseIdx] at ha hb
  by_cases hi : i < P
  · rw [if_pos hi] at ha hb; exact h.2 i a b ha hb
  · rw [if_neg hi] at ha hb; exact h.2 (i + 1) a b ha hb
theorem Fit.at {w : World} {ls : List Lt} {bl : List ML} (h : Fit w ls bl) {P : Nat} {y : ML} (hy : bl[P]? = some y) : ∃ x, ls[P]? = some x ∧ x.f = y.f ∧ x.t = y.t ∧ OwnB 0 w x y.xs ∧ y.xs.length ≤ 140737488355328 := by
  have hlt : P < ls.length := by rw [h.1]; exact (List.getElem?_eq_some_iff.1 hy).1
  exact ⟨ls[P], List.getElem?_eq_getElem hlt, h.2 P _ y (List.getElem?_eq_getElem hlt) hy⟩
/-- the program's net, of these letters -/
def PN (w : World) (nb nodes : Nat) (bl : List ML) (p : List Bool) : Prop := ∃ ls, NS w nb nodes ls p ∧ Fit w ls bl
theorem PN.ext {w w' : World} {nb nodes : Nat} {bl : List ML} {p : List Bool} (h : PN w nb nodes bl p) (hb : Below w.heap.size w w') : PN w' nb nodes bl p := by
  obtain ⟨ls, h1, h2⟩ := h
  exact ⟨ls, h1.ext hb, h2.ext hb⟩
theorem PN.lt {w : World} {nb nodes : Nat} {bl : List ML} {p : List Bool} (h : PN w nb nodes bl p) : nb < w.heap.size := by
  obtain ⟨ls, h1, h2⟩ := h
  exact h1.lt
theorem PN.blk {w : World} {nb nodes : Nat} {bl : List ML} {p : List Bool} (h : PN w nb nodes bl p) : ∃ cs, w.heap[nb]? = some (.cells cs 59 (0, 0)) := by
  obtain ⟨ls, ⟨-, -, -, v, h1, -⟩, h2⟩ := h
  exact ⟨_, h1.blk⟩
theorem RN.blk {w : World} {nb nodes : Nat} {bl : List ML} {p : List Bool} (h : RN w nb nodes bl p) : ∃ cs, w.heap[nb]? = some (.cells cs 48 (0, 0)) := by
  obtain ⟨-, -, -, a, c, h1, -⟩ := h
  exact ⟨_, h1.blk⟩
/-- a block is written that is none of the net's -/
theorem PN.rim {w w' : World} {nb nodes b0 : Nat} {bl : List ML} {p : List Bool} {cs : Array Value} {T : TypeId} (h : PN w nb nodes bl p) (hr : Rim b0 w w') (h0 : w.heap[b0]? = some (.cells cs T (0, 0))) (h1 : 59 ≠ T) (h2 : 34 ≠ T) (h3 : 5 ≠ T) : PN w' nb nodes bl p := by
  have hk : ∀ (b : Nat) (cur : Array Value) (T' : TypeId), T' ≠ T → w.heap[b]? = some (.cells cur T' (0, 0)) → w'.heap[b]? = w.heap[b]? := fun b cur T' hne hc => hr.block b (fun e => by subst e; rw [h0] at hc; simp at hc; exact hne hc.2.symm) (blk_lt hc)
  obtain ⟨ls, ⟨g1, g2, g3, v, g4, g5⟩, g6⟩ := h
  exact ⟨ls, ⟨g1, g2, g3, v, (hk _ _ _ h1 g4.blk).trans g4.blk, own_blocks g5 fun b cur hc => hk b cur _ h2 hc⟩, g6.types fun b cur hc => hk b cur _ h3 hc⟩
theorem RN.rim {w w' : World} {nb nodes b0 : Nat} {bl : List ML} {p : List Bool} {cs : Array Value} {T : TypeId} (h : RN w nb nodes bl p) (hr : Rim b0 w w') (h0 : w.heap[b0]? = some (.cells cs T (0, 0))) (h1 : 48 ≠ T) (h2 : 50 ≠ T) : RN w' nb nodes bl p := by
  have hk : ∀ (b : Nat) (cur : Array Value) (T' : TypeId), T' ≠ T → w.heap[b]? = some (.cells cur T' (0, 0)) → w'.heap[b]? = w.heap[b]? := fun b cur T' hne hc => hr.block b (fun e => by subst e; rw [h0] at hc; simp at hc; exact hne hc.2.symm) (blk_lt hc)
  obtain ⟨g1, g2, g3, a, c, g4, g5, g6, g7, g8⟩ := h
  exact ⟨g1, g2, g3, a, c, (hk _ _ _ h1 g4.blk).trans g4.blk, g5, g6, g7.keep fun b cur hc _ => hk b cur _ h2 hc, g8⟩
theorem NS.fit {w w' : World} {nb nodes : Nat} {ls ms : List Lt} {bl : List ML} {p : List Bool} (h : NS w nb nodes ls p) (hf : Fit w ms bl) (hr : Rim nb w w') : Fit w' ms bl :=
  ⟨hf.1, fun i x y hx hy => ⟨(hf.2 i x y hx hy).1, (hf.2 i x y hx hy).2.1, h.bytes hr (hf.2 i x y hx hy).2.2.1, (hf.2 i x y hx hy).2.2.2⟩⟩
set_option maxRecDepth 100000 in
set_option maxHeartbeats 1000000 in
theorem nsSend_f (nb nodes : Nat) (ls : List Lt) (x : Lt) (p : List Bool) (w : World) (h : NS w nb nodes ls p) (hf : hnB nodes x.f = false) :
    Calls Try.prog 9 #[.pointer (some ⟨nb, 0, none⟩), .agg #[.int .i64 x.f, .int .i64 x.t, .slice x.a x.n x.c]] w fun r w' => r = .returned (.int .i64 23) ∧ Below w.heap.size w w' := by
  have D0 := Lib.hid (show Below w.heap.size w (w.alloc (.cells #[.int .i64 x.f, .int .i64 x.t, .slice x.a x.n x.c] 34)) from (Below.refl _ _).alloc (Nat.le_refl _) _)
  have HPX := Lib.hid (blk_new w #[.int .i64 x.f, .int .i64 x.t, .slice x.a x.n x.c] 34)
  obtain ⟨a, c, hB, hO⟩ := h.open
  obtain ⟨n, hl⟩ : ∃ n, ls.length = n := ⟨_, rfl⟩
  have HL := Lib.hid hl
  have HH := Lib.hid h
  have hn64 : n ≤ 64 := by rw [← hl]; exact h.2.2.1
  rw [hl] at hB hO
  have HB := Lib.hid (hB.ext D0.out)
  have HF := Lib.hid hf
  clear hB hO hl h hf
  go_enter Try.func9, Try.ntmps9
  go_upto_region 1 with (fail)
  obtain ⟨pb, hpb⟩ : ∃ r, w.heap.size = r := ⟨_, rfl⟩
  rw [hpb] at HPX
  try rw [hpb]
  clear hpb
  generalize (w.alloc (.cells #[.int .i64 x.f, .int .i64 x.t, .slice x.a x.n x.c] 34)) = w1 at *
  have hk := blk_cell HPX.out
  have hkl := blk_lt HPX.out
  go_wp2_with fail
  refine (netHas nb nodes _ p x.f _ HB.out).mono ?_
  rintro e w2 ⟨rfl, rfl⟩
  rw [HF.out]
  go_wp2
  go_ret
  exact ⟨rfl, D0.out⟩

set_option maxRecDepth 100000 in
set_option maxHeartbeats 1000000 in
theorem nsSend_t (nb nodes : Nat) (ls : List Lt) (x : Lt) (p : List Bool) (w : World) (h : NS w nb nodes ls p) (hf : hnB nodes x.t = false) (hf1 : hnB nodes x.f = true) :
    Calls Try.prog 9 #[.pointer (some ⟨nb, 0, none⟩), .agg #[.int .i64 x.f, .int .i64 x.t, .slice x.a x.n x.c]] w fun r w' => r = .returned (.int .i64 23) ∧ Below w.heap.size w w' := by
  have D0 := Lib.hid (show Below w.heap.size w (w.alloc (.cells #[.int .i64 x.f, .int .i64 x.t, .slice x.a x.n x.c] 34)) from (Below.refl _ _).alloc (Nat.le_refl _) _)
  have HPX := Lib.hid (blk_new w #[.int .i64 x.f, .int .i64 x.t, .slice x.a x.n x.c] 34)
  obtain ⟨a, c, hB, hO⟩ := h.open
  obtain ⟨n, hl⟩ : ∃ n, ls.length = n := ⟨_, rfl⟩
  have HL := Lib.hid hl
  have HH := Lib.hid h
  have hn64 : n ≤ 64 := by rw [← hl]; exact h.2.2.1
  rw [hl] at hB hO
  have HB := Lib.hid (hB.ext D0.out)
  have HF := Lib.hid hf
  clear hB hO hl h hf
  go_enter Try.func9, Try.ntmps9
  go_upto_region 1 with (fail)
  obtain ⟨pb, hpb⟩ : ∃ r, w.heap.size = r := ⟨_, rfl⟩
  rw [hpb] at HPX
  try rw [hpb]
  clear hpb
  generalize (w.alloc (.cells #[.int .i64 x.f, .int .i64 x.t, .slice x.a x.n x.c] 34)) = w1 at *
  have hk := blk_cell HPX.out
  have hkl := blk_lt HPX.out
  go_wp2_with fail
  refine (netHas nb nodes _ p x.f _ HB.out).mono ?_
  rintro e w2 ⟨rfl, rfl⟩
  rw [hf1]
  go_wp2_with fail
  refine (netHas nb nodes _ p x.t _ HB.out).mono ?_
  rintro e w2 ⟨rfl, rfl⟩
  rw [HF.out]
  go_wp2
  go_ret
  exact ⟨rfl, D0.out⟩

set_option maxRecDepth 100000 in
set_option maxHeartbeats 1000000 in
theorem netPut_full (nb nodes : Nat) (a : Option Addr) (n c : Nat) (x : Lt) (p : List Bool) (w : World) (h : NetB w nb nodes (.slice a n c) p) (hn : ¬ n < 64) :
    Calls Try.prog 25 #[.pointer (some ⟨nb, 0, none⟩), .agg #[.int .i64 x.f, .int .i64 x.t, .slice x.a x.n x.c]] w fun r w' => r = .returned (.int .i64 24) ∧ Below w.heap.size w w' := by
  have D0 := Lib.hid (show Below w.heap.size w (w.alloc (.cells #[.int .i64 x.f, .int .i64 x.t, .slice x.a x.n x.c] 34)) from (Below.refl _ _).alloc (Nat.le_refl _) _)
  have HPX := Lib.hid (blk_new w #[.int .i64 x.f, .int .i64 x.t, .slice x.a x.n x.c] 34)
  have HB := Lib.hid (h.ext D0.out)
  have d64 : decide ((64 : Int) ≤ (n : Int)) = true := decide_eq_true (by omega)
  have d64' : decide (64 ≤ n) = true := decide_eq_true (by omega)
  clear h
  go_enter Try.func25, Try.ntmps25
  go_upto_region 1 with (fail)
  obtain ⟨pb, hpb⟩ : ∃ r, w.heap.size = r := ⟨_, rfl⟩
  rw [hpb] at HPX
  try rw [hpb]
  clear hpb
  generalize (w.alloc (.cells #[.int .i64 x.f, .int .i64 x.t, .slice x.a x.n x.c] 34)) = w1 at *
  have hk := blk_cell HPX.out
  have hkl := blk_lt HPX.out
  have hc := HB.out.c1
  have hcl := HB.out.lt
  go_wp2
  go_ret
  exact ⟨rfl, D0.out⟩

set_option maxRecDepth 100000 in
set_option maxHeartbeats 1000000 in
theorem nsSend_full (nb nodes : Nat) (ls : List Lt) (x : Lt) (p : List Bool) (w : World) (h : NS w nb nodes ls p) (xs : List Int) (hf1 : hnB nodes x.f = true) (ht1 : hnB nodes x.t = true) (h64 : ¬ ls.length < 64) (hb : BAt w x.a xs) (hbl : xs.length = x.n) (hbn : x.n ≤ 140737488355328) :
    Calls Try.prog 9 #[.pointer (some ⟨nb, 0, none⟩), .agg #[.int .i64 x.f, .int .i64 x.t, .slice x.a x.n x.c]] w fun r w' => r = .returned (.int .i64 24) ∧ Below w.heap.size w w' := by
  have D0 := Lib.hid (show Below w.heap.size w (w.alloc (.cells #[.int .i64 x.f, .int .i64 x.t, .slice x.a x.n x.c] 34)) from (Below.refl _ _).alloc (Nat.le_refl _) _)
  have HPX := Lib.hid (blk_new w #[.int .i64 x.f, .int .i64 x.t, .slice x.a x.n x.c] 34)
  obtain ⟨a, c, hB, hO⟩ := h.open
  obtain ⟨n, hl⟩ : ∃ n, ls.length = n := ⟨_, rfl⟩
  have HL := Lib.hid hl
  have HH := Lib.hid h
  have hn64 : n ≤ 64 := by rw [← hl]; exact h.2.2.1
  rw [hl] at hB hO
  have HB := Lib.hid (hB.ext D0.out)
  have HA := Lib.hid (hb.ext D0.out)
  have HAL := Lib.hid hbl
  have h64' : ¬ n < 64 := by rw [← hl]; exact h64
  clear hB hO hl h hb hbl h64
  go_enter Try.func9, Try.ntmps9
  go_upto_region 1 with (fail)
  obtain ⟨pb, hpb⟩ : ∃ r, w.heap.size = r := ⟨_, rfl⟩
  rw [hpb] at HPX
  try rw [hpb]
  clear hpb
  generalize (w.alloc (.cells #[.int .i64 x.f, .int .i64 x.t, .slice x.a x.n x.c] 34)) = w1 at *
  have hk := blk_cell HPX.out
  have hkl := blk_lt HPX.out
  go_wp2_with fail
  refine (netHas nb nodes _ p x.f _ HB.out).mono ?_
  rintro e w2 ⟨rfl, rfl⟩
  rw [hf1]
  go_wp2_with fail
  refine (netHas nb nodes _ p x.t _ HB.out).mono ?_
  rintro e w2 ⟨rfl, rfl⟩
  rw [ht1]
  go_wp2_with fail
  refine (copied x xs _ HA.out HAL.out hbn).mono ?_
  rintro e w2 ⟨y, rfl, -, -, -, hb2⟩
  have HB2 := Lib.hid (HB.out.ext hb2)
  have D2 := Lib.hid (ext_trans D0.out hb2)
  clear hb2 hk hkl HB D0 HPX HA
  go_wp2_with fail
  refine (netPut_full nb nodes a n c y p _ HB2.out h64').mono ?_
  rintro e w3 ⟨rfl, hb3⟩
  have D3 := Lib.hid (ext_trans D2.out hb3)
  clear hb3
  go_wp2
  go_ret
  exact ⟨rfl, D3.out⟩

theorem pnSendG (nb nodes : Nat) (bl : List ML) (x : Lt) (y : ML) (p : List Bool) (w : World) (h : PN w nb nodes bl p) (hf : x.f = y.f) (ht : x.t = y.t) (hb : BAt w x.a y.xs) (hbl : y.xs.length = x.n) (hbn : x.n ≤ 140737488355328) :
    Calls Try.prog 9 #[.pointer (some ⟨nb, 0, none⟩), .agg #[.int .i64 x.f, .int .i64 x.t, .slice x.a x.n x.c]] w fun r w' => r = .returned (.int .i64 (sendM nodes bl y).1) ∧ PN w' nb nodes (sendM nodes bl y).2 p ∧ Rim nb w w' := by
  obtain ⟨ls, h1, h2⟩ := h
  unfold sendM
  rw [← hf, ← ht]
  rcases hf1 : hnB nodes x.f with _ | _
  · rw [if_neg (by rintro ⟨h, _⟩; cases h)]
    exact (nsSend_f nb nodes ls x p w h1 hf1).mono fun r w' ⟨e, hb⟩ => ⟨e, ⟨ls, h1.ext hb, h2.ext hb⟩, Rim.of hb⟩
  · rcases ht1 : hnB nodes x.t with _ | _
    · rw [if_neg (by rintro ⟨_, h⟩; cases h)]
      exact (nsSend_t nb nodes ls x p w h1 ht1 hf1).mono fun r w' ⟨e, hb⟩ => ⟨e, ⟨ls, h1.ext hb, h2.ext hb⟩, Rim.of hb⟩
    · rw [if_pos ⟨rfl, rfl⟩]
      by_cases h64 : bl.length < 64
      · rw [if_pos h64]
        have f1 : 0 ≤ x.f ∧ x.f < nodes := by unfold hnB at hf1; simp at hf1; exact hf1
        have f2 : 0 ≤ x.t ∧ x.t < nodes := by unfold hnB at ht1; simp at ht1; exact ht1
        refine (nsSend nb nodes ls p x y.xs w h1 (by rw [h2.1]; exact h64) f1.1 f1.2 f2.1 f2.2 hb hbl hbn).mono ?_
        rintro r w' ⟨z, e, e1, e2, e3, e4, hr⟩
        exact ⟨e, ⟨_, e4, (h1.fit h2 hr).snoc (e1.trans hf) (e2.trans ht) e3 (by omega)⟩, hr⟩
      · rw [if_neg h64]
        exact (nsSend_full nb nodes ls x p w h1 y.xs hf1 ht1 (by rw [h2.1]; exact h64) hb hbl hbn).mono fun r w' ⟨e, hb⟩ => ⟨e, ⟨ls, h1.ext hb, h2.ext hb⟩, Rim.of hb⟩
set_option maxRecDepth 100000 in
set_option maxHeartbeats 1000000 in
theorem nsTwice_no (nb nodes : Nat) (ls : List Lt) (i : Int) (p : List Bool) (w : World) (h : NS w nb nodes ls p) (hi : i < 0 ∨ (ls.length : Int) ≤ i) :
    Calls Try.prog 19 #[.pointer (some ⟨nb, 0, none⟩), .int .i64 i] w fun r w' => r = .returned (.int .i64 23) ∧ w = w' := by
  obtain ⟨a, c, hB, hO⟩ := h.open
  obtain ⟨n, hl⟩ : ∃ n, ls.length = n := ⟨_, rfl⟩
  have HL := Lib.hid hl
  have HH := Lib.hid h
  have hn64 : n ≤ 64 := by rw [← hl]; exact h.2.2.1
  rw [hl] at hB hO
  rw [hl] at hi
  have HB := Lib.hid hB
  have HI := Lib.hid hi
  clear hB hO hl h hi
  go_enter Try.func19, Try.ntmps19
  go_wp2_with fail
  refine (netHasI nb nodes a n c p i _ HB.out (by omega)).mono ?_
  rintro e w1 ⟨rfl, rfl⟩
  rw [hnB_no HI.out]
  go_wp2
  go_ret
  exact ⟨rfl, rfl⟩

set_option maxRecDepth 100000 in
set_option maxHeartbeats 1000000 in
theorem nsTwice_full (nb nodes P : Nat) (ls : List Lt) (x : Lt) (p : List Bool) (w : World) (h : NS w nb nodes ls p) (hx : ls[P]? = some x) (h64 : ¬ ls.length < 64) :
    Calls Try.prog 19 #[.pointer (some ⟨nb, 0, none⟩), .int .i64 (P : Int)] w fun r w' => r = .returned (.int .i64 24) ∧ Below w.heap.size w w' := by
  obtain ⟨a, c, hB, hO⟩ := h.open
  obtain ⟨n, hl⟩ : ∃ n, ls.length = n := ⟨_, rfl⟩
  have HL := Lib.hid hl
  have HH := Lib.hid h
  have hn64 : n ≤ 64 := by rw [← hl]; exact h.2.2.1
  rw [hl] at hB hO
  have hPn : P < n := by rw [← hl]; exact (List.getElem?_eq_some_iff.1 hx).1
  obtain ⟨g, rfl, -, hgl, hnc, hcm⟩ := hO.some hl (by omega)
  obtain ⟨x0, x1, x2⟩ := hO.at hx
  have HB := Lib.hid hB
  have HO := Lib.hid hO
  have HX := Lib.hid hx
  have k1 := hB.c1
  have l1 := hB.lt
  have hiI : (P : Int) < n := by omega
  unfold maxLen at hcm
  have h64' : ¬ n < 64 := by rw [← hl]; exact h64
  clear hB hO hl h hx h64
  go_enter Try.func19, Try.ntmps19
  go_wp2_with fail
  refine (netHasI nb nodes (some ⟨g, 0, none⟩) n c p (P : Int) _ HB.out (by omega)).mono ?_
  rintro e w1 ⟨rfl, rfl⟩
  rw [hnB_yes (by omega) (by omega)]
  go_wp2_with fail
  refine (netPut_full nb nodes (some ⟨g, 0, none⟩) n c x p _ HB.out h64').mono ?_
  rintro e w2 ⟨rfl, hb⟩
  have HD := Lib.hid hb
  clear hb
  go_wp2
  go_ret
  exact ⟨rfl, HD.out⟩

set_option maxRecDepth 100000 in
set_option maxHeartbeats 1000000 in
theorem nsDrop (nb nodes P : Nat) (ls : List Lt) (x : Lt) (p : List Bool) (w : World) (h : NS w nb nodes ls p) (hx : ls[P]? = some x) :
    Calls Try.prog 17 #[.pointer (some ⟨nb, 0, none⟩), .int .i64 (P : Int)] w fun r w' => r = .returned (.int .i64 0) ∧ NS w' nb nodes (ls.eraseIdx P) p ∧ Rim nb w w' := by
  obtain ⟨a, c, hB, hO⟩ := h.open
  obtain ⟨n, hl⟩ : ∃ n, ls.length = n := ⟨_, rfl⟩
  have HL := Lib.hid hl
  have HH := Lib.hid h
  have hn64 : n ≤ 64 := by rw [← hl]; exact h.2.2.1
  rw [hl] at hB hO
  have hPn : P < n := by rw [← hl]; exact (List.getElem?_eq_some_iff.1 hx).1
  obtain ⟨g, rfl, -, hgl, hnc, hcm⟩ := hO.some hl (by omega)
  obtain ⟨x0, x1, x2⟩ := hO.at hx
  have HB := Lib.hid hB
  have HO := Lib.hid hO
  have HX := Lib.hid hx
  have k1 := hB.c1
  have l1 := hB.lt
  have hiI : (P : Int) < n := by omega
  unfold maxLen at hcm
  clear hB hO h hx
  go_enter Try.func17, Try.ntmps17
  go_wp2_with fail
  refine (netHasI nb nodes (some ⟨g, 0, none⟩) n c p (P : Int) _ HB.out (by omega)).mono ?_
  rintro e w1 ⟨rfl, rfl⟩
  rw [hnB_yes (by omega) (by omega)]
  go_wp2_with fail
  refine (netTake nb nodes (some ⟨g, 0, none⟩) n c P ls x p _ HB.out HO.out hl hn64 HX.out).mono ?_
  rintro e w2 ⟨rfl, ⟨v, e1, e2⟩, hr⟩
  have HS := Lib.hid (show NS w2 nb nodes (ls.eraseIdx P) p from ⟨HH.out.1, HH.out.2.1, by have := List.length_eraseIdx_le ls P; omega, v, e1, ownsRow_base e2 (Nat.zero_le _)⟩)
  have HR := Lib.hid hr
  clear hr e1 e2 x0 x1 x2 k1 l1
  go_wp2
  go_ret
  exact ⟨rfl, HS.out, HR.out⟩

theorem getD_of {bl : List ML} {P : Nat} {y : ML} (h : bl[P]? = some y) : bl.getD ((P : Int)).toNat zML = y := by
  rw [List.getD_eq_getElem?_getD, show ((P : Int)).toNat = P from by omega, h]; rfl
theorem pnDropG (nb nodes : Nat) (bl : List ML) (i : Int) (p : List Bool) (w : World) (h : PN w nb nodes bl p) :
    Calls Try.prog 17 #[.pointer (some ⟨nb, 0, none⟩), .int .i64 i] w fun r w' => r = .returned (.int .i64 (dropM bl i).1) ∧ PN w' nb nodes (dropM bl i).2 p ∧ Rim nb w w' := by
  obtain ⟨ls, h1, h2⟩ := h
  unfold dropM
  by_cases hi : 0 ≤ i ∧ i < (bl.length : Int)
  · rw [if_pos hi]
    obtain ⟨P, rfl⟩ := Int.eq_ofNat_of_zero_le hi.1
    obtain ⟨y, hy⟩ : ∃ y, bl[P]? = some y := ⟨_, List.getElem?_eq_getElem (by omega)⟩
    obtain ⟨x, hx, -⟩ := h2.at hy
    refine (nsDrop nb nodes P ls x p w h1 hx).mono ?_
    rintro r w' ⟨e, e1, hr⟩
    exact ⟨e, ⟨_, e1, (h1.fit h2 hr).erase P⟩, hr⟩
  · rw [if_neg hi]
    refine (nsDrop_no nb nodes ls p i w h1 (by rw [h2.1]; omega)).mono ?_
    rintro r w' ⟨e, rfl⟩
    exact ⟨e, ⟨ls, h1, h2⟩, Rim.of (Below.refl _ _)⟩
theorem pnTwiceG (nb nodes : Nat) (bl : List ML) (i : Int) (p : List Bool) (w : World) (h : PN w nb nodes bl p) :
    Calls Try.prog 19 #[.pointer (some ⟨nb, 0, none⟩), .int .i64 i] w fun r w' => r = .returned (.int .i64 (twiceM bl i).1) ∧ PN w' nb nodes (twiceM bl i).2 p ∧ Rim nb w w' := by
  obtain ⟨ls, h1, h2⟩ := h
  unfold twiceM
  by_cases hi : 0 ≤ i ∧ i < (bl.length : Int)
  · rw [if_pos hi]
    obtain ⟨P, rfl⟩ := Int.eq_ofNat_of_zero_le hi.1
    obtain ⟨y, hy⟩ : ∃ y, bl[P]? = some y := ⟨_, List.getElem?_eq_getElem (by omega)⟩
    obtain ⟨x, hx, e1, e2, e3, e4⟩ := h2.at hy
    rw [getD_of hy]
    by_cases h64 : bl.length < 64
    · rw [if_pos h64]
      refine (nsTwice nb nodes ls p P x w h1 (by rw [h2.1]; exact h64) hx).mono ?_
      rintro r w' ⟨e, g1, hr⟩
      exact ⟨e, ⟨_, g1, (h1.fit h2 hr).snoc e1 e2 (h1.bytes hr e3) e4⟩, hr⟩
    · rw [if_neg h64]
      exact (nsTwice_full nb nodes P ls x p w h1 hx (by rw [h2.1]; exact h64)).mono fun r w' ⟨e, hb⟩ => ⟨e, ⟨ls, h1.ext hb, h2.ext hb⟩, Rim.of hb⟩
  · rw [if_neg hi]
    refine (nsTwice_no nb nodes ls i p w h1 (by rw [h2.1]; omega)).mono ?_
    rintro r w' ⟨e, rfl⟩
    exact ⟨e, ⟨ls, h1, h2⟩, Rim.of (Below.refl _ _)⟩
theorem pnDelG (nb nodes : Nat) (bl : List ML) (i : Int) (p : List Bool) (w : World) (h : PN w nb nodes bl p) :
    Calls Try.prog 10 #[.pointer (some ⟨nb, 0, none⟩), .int .i64 i] w fun r w' => ∃ z : Lt, r = .returned (.tuple #[.agg #[.int .i64 z.f, .int .i64 z.t, .slice z.a z.n z.c], .int .i64 (delM nodes p bl i).1]) ∧ z.f = (delM nodes p bl i).2.1.f ∧ z.t = (delM nodes p bl i).2.1.t ∧ BAt w' z.a (delM nodes p bl i).2.1.xs ∧ (delM nodes p bl i).2.1.xs.length = z.n ∧ PN w' nb nodes (delM nodes p bl i).2.2 p ∧ Rim nb w w' := by
  obtain ⟨ls, h1, h2⟩ := h
  unfold delM
  by_cases hi : 0 ≤ i ∧ i < (bl.length : Int)
  · rw [if_pos hi]
    obtain ⟨P, rfl⟩ := Int.eq_ofNat_of_zero_le hi.1
    obtain ⟨y, hy⟩ : ∃ y, bl[P]? = some y := ⟨_, List.getElem?_eq_getElem (by omega)⟩
    obtain ⟨x, hx, e1, e2, e3, e4⟩ := h2.at hy
    rw [getD_of hy]
    rcases hpr : prB nodes p y.f y.t with _ | _
    · rw [if_neg (by decide)]
      refine (nsDeliver nb nodes ls p P x y.xs w h1 hx (by rw [e1, e2]; exact hpr) e3 e4).mono ?_
      rintro r w' ⟨z, e, g1, g2, g3, g4, hr⟩
      exact ⟨z, e, g1.trans e1, g2.trans e2, g3.read.1, g3.read.2, ⟨_, g4, (h1.fit h2 hr).erase P⟩, hr⟩
    · rw [if_pos rfl]
      refine (nsDeliver_cut nb nodes ls p P x w h1 hx (by rw [e1, e2]; exact hpr)).mono ?_
      rintro r w' ⟨e, g1, hb⟩
      exact ⟨zLt, e, rfl, rfl, .inl rfl, rfl, ⟨ls, g1, h2.ext hb⟩, Rim.of hb⟩
  · rw [if_neg hi]
    refine (nsDeliver_no nb nodes ls p i w h1 (by rw [h2.1]; omega)).mono ?_
    rintro r w' ⟨e, g1, hb⟩
    exact ⟨zLt, e, rfl, rfl, .inl rfl, rfl, ⟨ls, g1, h2.ext hb⟩, Rim.of hb⟩
theorem pnCutG (nb nodes : Nat) (bl : List ML) (A B : Int) (p : List Bool) (w : World) (h : PN w nb nodes bl p) :
    Calls Try.prog 13 #[.pointer (some ⟨nb, 0, none⟩), .int .i64 A, .int .i64 B] w fun r w' => r = .returned (.int .i64 (setM nodes p A B true).1) ∧ PN w' nb nodes bl (setM nodes p A B true).2 ∧ Rim nb w w' := by
  obtain ⟨ls, h1, h2⟩ := h
  obtain ⟨g1, g2, g3, v, g4, g5⟩ := h1
  refine (netCutG nb nodes v p A B w g4 g1 g2).mono ?_
  rintro r w' ⟨e, e1, hr⟩
  exact ⟨e, ⟨ls, ⟨g1, setM_len g2, g3, v, e1, own_rim g4 hr (by decide) g5⟩, NS.fit ⟨g1, g2, g3, v, g4, g5⟩ h2 hr⟩, hr⟩
theorem pnHealG (nb nodes : Nat) (bl : List ML) (A B : Int) (p : List Bool) (w : World) (h : PN w nb nodes bl p) :
    Calls Try.prog 15 #[.pointer (some ⟨nb, 0, none⟩), .int .i64 A, .int .i64 B] w fun r w' => r = .returned (.int .i64 (setM nodes p A B false).1) ∧ PN w' nb nodes bl (setM nodes p A B false).2 ∧ Rim nb w w' := by
  obtain ⟨ls, h1, h2⟩ := h
  obtain ⟨g1, g2, g3, v, g4, g5⟩ := h1
  refine (netHealG nb nodes v p A B w g4 g1 g2).mono ?_
  rintro r w' ⟨e, e1, hr⟩
  exact ⟨e, ⟨ls, ⟨g1, setM_len g2, g3, v, e1, own_rim g4 hr (by decide) g5⟩, NS.fit ⟨g1, g2, g3, v, g4, g5⟩ h2 hr⟩, hr⟩
theorem rnSetN (rb nodes : Nat) (bl : List ML) (A B : Int) (y : Bool) (p : List Bool) (w : World) (h : RN w rb nodes bl p) :
    Calls Try.prog 21 #[.pointer (some ⟨rb, 0, none⟩), .int .i64 A, .int .i64 B, .bool y] w fun r w' => r = .returned (.int .i64 (setM nodes p A B y).1) ∧ RN w' rb nodes bl (setM nodes p A B y).2 ∧ Rim rb w w' := by
  obtain ⟨g1, g2, g3, a, c, g4, g5, g6, g7, g8⟩ := h
  refine (rnSetG rb nodes _ p A B y w g4 g1 g2).mono ?_
  rintro r w' ⟨e, e1, hr⟩
  refine ⟨e, ⟨g1, setM_len g2, g3, a, c, e1, g5, g6, g7.keep fun b cur hc _ => hr.block b (fun e => ?_) (blk_lt hc), g8⟩, hr⟩
  subst e
  have := g4.blk.symm.trans hc
  simp at this
theorem rnDropG (rb nodes : Nat) (bl : List ML) (i : Int) (p : List Bool) (w : World) (h : RN w rb nodes bl p) :
    Calls Try.prog 18 #[.pointer (some ⟨rb, 0, none⟩), .int .i64 i] w fun r w' => r = .returned (.int .i64 (dropM bl i).1) ∧ RN w' rb nodes (dropM bl i).2 p ∧ Rim rb w w' := by
  unfold dropM
  by_cases hi : 0 ≤ i ∧ i < (bl.length : Int)
  · rw [if_pos hi]
    obtain ⟨P, rfl⟩ := Int.eq_ofNat_of_zero_le hi.1
    obtain ⟨y, hy⟩ : ∃ y, bl[P]? = some y := ⟨_, List.getElem?_eq_getElem (by omega)⟩
    exact rnDropYes rb nodes P bl y p w h hy
  · rw [if_neg hi]
    by_cases h0 : i < 0
    · exact (rnDropNo_lo rb nodes bl i p w h h0).mono fun r w' ⟨e, e2⟩ => ⟨e, e2 ▸ h, e2 ▸ Rim.of (Below.refl _ _)⟩
    · exact (rnDropNo_hi rb nodes bl i p w h (by omega) (by omega)).mono fun r w' ⟨e, e2⟩ => ⟨e, e2 ▸ h, e2 ▸ Rim.of (Below.refl _ _)⟩
theorem rnTwiceG (rb nodes : Nat) (bl : List ML) (i : Int) (p : List Bool) (w : World) (h : RN w rb nodes bl p) (hv : ∀ y ∈ bl, hnB nodes y.f = true ∧ hnB nodes y.t = true) :
    Calls Try.prog 20 #[.pointer (some ⟨rb, 0, none⟩), .int .i64 i] w fun r w' => r = .returned (.int .i64 (twiceM bl i).1) ∧ RN w' rb nodes (twiceM bl i).2 p ∧ Rim rb w w' := by
  unfold twiceM
  by_cases hi : 0 ≤ i ∧ i < (bl.length : Int)
  · rw [if_pos hi]
    obtain ⟨P, rfl⟩ := Int.eq_ofNat_of_zero_le hi.1
    obtain ⟨y, hy⟩ : ∃ y, bl[P]? = some y := ⟨_, List.getElem?_eq_getElem (by omega)⟩
    rw [getD_of hy]
    have e : sendM nodes bl y = if bl.length < 64 then (0, bl ++ [y]) else (24, bl) := by
      unfold sendM
      rw [if_pos (hv y (List.mem_of_getElem? hy))]
    rw [← e]
    exact rnTwiceYes rb nodes P bl y p w h hy
  · rw [if_neg hi]
    by_cases h0 : i < 0
    · exact (rnTwiceNo_lo rb nodes bl i p w h h0).mono fun r w' ⟨e, e2⟩ => ⟨e, e2 ▸ h, e2 ▸ Rim.of (Below.refl _ _)⟩
    · exact (rnTwiceNo_hi rb nodes bl i p w h (by omega) (by omega)).mono fun r w' ⟨e, e2⟩ => ⟨e, e2 ▸ h, e2 ▸ Rim.of (Below.refl _ _)⟩
theorem rnDelG (rb nodes : Nat) (bl : List ML) (i : Int) (p : List Bool) (w : World) (h : RN w rb nodes bl p) :
    Calls Try.prog 16 #[.pointer (some ⟨rb, 0, none⟩), .int .i64 i] w fun r w' => r = .returned (.tuple #[.agg #[.int .i64 (delM nodes p bl i).2.1.f, .int .i64 (delM nodes p bl i).2.1.t, .string (strOfNums (delM nodes p bl i).2.1.xs)], .int .i64 (delM nodes p bl i).1]) ∧ RN w' rb nodes (delM nodes p bl i).2.2 p ∧ Rim rb w w' := by
  unfold delM
  by_cases hi : 0 ≤ i ∧ i < (bl.length : Int)
  · rw [if_pos hi]
    obtain ⟨P, rfl⟩ := Int.eq_ofNat_of_zero_le hi.1
    obtain ⟨y, hy⟩ : ∃ y, bl[P]? = some y := ⟨_, List.getElem?_eq_getElem (by omega)⟩
    rw [getD_of hy]
    rcases hpr : prB nodes p y.f y.t with _ | _
    · rw [if_neg (by decide)]
      exact rnDelYes rb nodes P bl y p w h hy hpr
    · rw [if_pos rfl]
      exact (rnDelCut rb nodes P bl y p w h hy hpr).mono fun r w' ⟨e, hb⟩ => ⟨e, h.ext hb, Rim.of hb⟩
  · rw [if_neg hi]
    by_cases h0 : i < 0
    · exact (rnDelNo_lo rb nodes bl i p w h h0).mono fun r w' ⟨e, hb⟩ => ⟨e, h.ext hb, Rim.of hb⟩
    · exact (rnDelNo_hi rb nodes bl i p w h (by omega) (by omega)).mono fun r w' ⟨e, hb⟩ => ⟨e, h.ext hb, Rim.of hb⟩
end Go.Proofs.Ytkkmnodhmmdllaa
