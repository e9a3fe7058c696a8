/- Package net's walks: letters are sent, taken, doubled. -/
import Derived.Test.YtkkmnodhmmdllaaNetP
import Derived.Deep.DeepCutAuto
namespace Go.Proofs.Ytkkmnodhmmdllaa
open Go.RowKit
set_option linter.unusedVariables false

theorem Rim.keptNew {b s : Nat} {w w1 w2 : World} (h : Rim b w w1) (k : Kept s w1 w2) (hs : w.heap.size ≤ s) : Rim b w w2 :=
  ⟨k.os.trans h.os, k.tape.trans h.tape, k.output.trans h.output, by rw [k.size]; exact h.size, fun i hi hl => (k.block i (by omega)).trans (h.block i hi hl)⟩
theorem Rim.below_trans {b n : Nat} {w w1 w2 : World} (h : Rim b w w1) (k : Below n w1 w2) (hn : w.heap.size ≤ n) : Rim b w w2 :=
  ⟨k.os.trans h.os, k.tape.trans h.tape, k.output.trans h.output, Nat.le_trans h.size k.size, fun i hi hl => (k.block i (by omega)).trans (h.block i hi hl)⟩
theorem OwnL.some {base n c : Nat} {a : Option Addr} {w : World} {ls : List Lt} (h : OwnL base w (.slice a n c) ls) (hl : ls.length = n) (hn : 0 < n) : ∃ g, a = some ⟨g, 0, none⟩ ∧ base ≤ g ∧ g < w.heap.size ∧ n ≤ c ∧ c ≤ maxLen := by
  obtain ⟨a', c', e, h1, h2, h3⟩ := h.form
  simp only [Value.slice.injEq] at e
  obtain ⟨rfl, rfl, rfl⟩ := e
  rcases h3 with ⟨-, -, e⟩ | ⟨g, e, h4, h5⟩
  · rw [e] at hn; simp at hn
  · exact ⟨g, e, h4, h5, h1, h2⟩

set_option maxRecDepth 100000 in
set_option maxHeartbeats 1000000 in
theorem netTake (nb nodes : Nat) (a : Option Addr) (n c i : Nat) (ls : List Lt) (x : Lt) (p : List Bool) (w : World) (h : NetB w nb nodes (.slice a n c) p) (ho : OwnL 0 w (.slice a n c) ls) (hl : ls.length = n) (hn : n ≤ 64) (hx : ls[i]? = some x) :
    Calls Try.prog 28 #[.pointer (some ⟨nb, 0, none⟩), .int .i64 (i : Int)] w fun e w' => e = .returned (.agg #[.int .i64 x.f, .int .i64 x.t, .slice x.a x.n x.c]) ∧ (∃ v, NetB w' nb nodes v p ∧ OwnL w.heap.size w' v (ls.eraseIdx i)) ∧ Rim nb w w' := by
  have hin : i < n := by
    rcases Nat.lt_or_ge i n with h' | h'
    · exact h'
    · rw [List.getElem?_eq_none (by omega)] at hx; cases hx
  obtain ⟨g, rfl, -, hgl, hnc, hcm⟩ := ho.some hl (by omega)
  obtain ⟨x0, x1, x2⟩ := ho.at hx
  have HL := Lib.hid hl
  have hlt := h.lt
  have D0 : Below w.heap.size w (w.alloc (.cells #[.int .i64 0, .int .i64 0, .slice none 0 0] 34)) := (Below.refl _ _).alloc (Nat.le_refl _) _
  have D1 : Below w.heap.size w ((w.alloc (.cells #[.int .i64 0, .int .i64 0, .slice none 0 0] 34)).alloc (.cells #[.int .i64 x.f, .int .i64 x.t, .slice x.a x.n x.c] 34)) := D0.alloc D0.size _
  have h1 := h.ext D0
  have k1 := h1.c1
  have l1 := h1.lt
  have y0 := ext_cell D0 x0
  have y1 := ext_cell D0 x1
  have y2 := ext_cell D0 x2
  have gl1 := (show g < (w.alloc (.cells #[.int .i64 0, .int .i64 0, .slice none 0 0] 34)).heap.size from by have := D0.size; omega)
  have HB0 := Lib.hid h
  have HO0 := Lib.hid ho
  have S0 := Lib.hid (blk_alloc (blk_new w #[.int .i64 0, .int .i64 0, .slice none 0 0] 34) (.cells #[.int .i64 x.f, .int .i64 x.t, .slice x.a x.n x.c] 34))
  have S1 := Lib.hid (blk_new_at (w := w.alloc (.cells #[.int .i64 0, .int .i64 0, .slice none 0 0] 34)) (b := w.heap.size + 1) (by simp) #[.int .i64 x.f, .int .i64 x.t, .slice x.a x.n x.c] 34)
  have hiI : (i : Int) < n := by omega
  unfold maxLen at hcm
  clear h ho hl hx h1 x0 x1 x2
  go_enter Try.func28, Try.ntmps28
  go_upto_region 2 with (fail)
  obtain ⟨s, hs⟩ : ∃ s, w.heap.size = s := ⟨_, rfl⟩
  have HS := Lib.hid hs
  rw [hs] at S0 S1
  have HB1 := Lib.hid (HB0.out.ext D1)
  have HO1 := Lib.hid (HO0.out.ext D1)
  have hns : s ≠ nb := by omega
  have hns1 : s + 1 ≠ nb := by omega
  rw [hs]
  clear hs k1 l1 y0 y1 y2 gl1 D0
  generalize ((w.alloc (.cells #[.int .i64 0, .int .i64 0, .slice none 0 0] 34)).alloc (.cells #[.int .i64 x.f, .int .i64 x.t, .slice x.a x.n x.c] 34)) = w2 at *
  have k2 := HB1.out.c1
  have l2 := HB1.out.lt
  go_wp2_with fail
  refine (cloneL (.slice (some ⟨g, 0, none⟩) n c) ls _ HO1.out (by have := HL.out; omega)).mono ?_
  rintro e w3 ⟨v3, rfl, ho3, hb3⟩
  obtain ⟨a3, n3, c3, rfl⟩ := own_form ho3
  have hn3 : n3 = n := by
    obtain ⟨_, _, e, _⟩ := ho3.form
    simp only [Value.slice.injEq] at e
    rw [e.2.1, HL.out]
  subst hn3
  obtain ⟨g3, rfl, hg3, hg3l, hnc3, hcm3⟩ := ho3.some HL.out (by omega)
  have D3 := ext_trans D1 hb3
  have HB3 := Lib.hid (HB1.out.ext hb3)
  have HO3 := Lib.hid (ho3.base D1.size)
  have T0 := Lib.hid (blk_ext hb3 S0.out)
  have T1 := Lib.hid (blk_ext hb3 S1.out)
  have gz := D1.size
  have gz2 := blk_lt S1.out
  clear ho3 hb3 S0 S1 HB1 HO1 k2 l2
  go_wp2_with fail
  refine (deleteL w.heap.size g3 n3 c3 i ls _ HO3.out HL.out hnc3 hcm3 hin (by omega)).mono ?_
  rintro e w4 ⟨rfl, ho4, hr4⟩
  have D4 := D3.trans (hr4.below (by omega) D3.size)
  have hb4 : NetB w4 nb nodes (.slice (some ⟨g, 0, none⟩) n3 c) p := hr4.blk (by omega) HB3.out
  have T04 := Lib.hid (hr4.blk (by omega) T0.out)
  have T14 := Lib.hid (hr4.blk (by omega) T1.out)
  have k4 := hb4.c1
  have f4 := blk_free hb4.blk
  have l4 := hb4.lt
  have HB4 := Lib.hid hb4
  have HO4 := Lib.hid ho4
  clear ho4 hr4 hb4 HB3 HO3 T0 T1
  go_upto_region 3 with (fail)
  have hk5 : Kept nb w4 (w4.setCell ⟨nb, 1, none⟩ (.slice (some ⟨g3, 0, none⟩) (n3 - 1) c3)) := (Kept.refl _ _).setCell _ _
  have HB5 := Lib.hid (HB4.out.row (.slice (some ⟨g3, 0, none⟩) (n3 - 1) c3) rfl)
  have HO5 := Lib.hid (own_rim HB4.out (Rim.kept hk5) (by decide) HO4.out)
  have R5 := (Rim.of D4).trans (Rim.kept hk5)
  have U0 := (hk5.block s hns).trans T04.out
  have U1 := (hk5.block (s + 1) hns1).trans T14.out
  clear hk5 HB4 HO4 k4 f4 l4 T04 T14
  generalize (w4.setCell ⟨nb, 1, none⟩ (.slice (some ⟨g3, 0, none⟩) (n3 - 1) c3)) = w5 at *
  have HU0 := Lib.hid U0
  have p0 := blk_cell U0
  have p1 := blk_cell U1
  have q0 := blk_free U0
  have m0 := blk_lt U0
  have m1 := blk_lt U1
  clear U0
  go_wp2
  have hk6 : Kept s w5 (((w5.setCell ⟨s, 0, none⟩ (.int .i64 x.f)).setCell ⟨s, 1, none⟩ (.int .i64 x.t)).setCell ⟨s, 2, none⟩ (.slice x.a x.n x.c)) := (((Kept.refl _ _).setCell _ _).setCell _ _).setCell _ _
  have HF : (((w5.setCell ⟨s, 0, none⟩ (.int .i64 x.f)).setCell ⟨s, 1, none⟩ (.int .i64 x.t)).setCell ⟨s, 2, none⟩ (.slice x.a x.n x.c)).heap[s]? = some (.cells #[.int .i64 x.f, .int .i64 x.t, .slice x.a x.n x.c] 34 (0, 0)) := blk_set (blk_set (blk_set HU0.out rfl) rfl) (by simp)
  have HB6 := Lib.hid (show NetB (((w5.setCell ⟨s, 0, none⟩ (.int .i64 x.f)).setCell ⟨s, 1, none⟩ (.int .i64 x.t)).setCell ⟨s, 2, none⟩ (.slice x.a x.n x.c)) nb nodes (.slice (some ⟨g3, 0, none⟩) (n3 - 1) c3) p from (hk6.block nb (Ne.symm hns)).trans HB5.out)
  have HO6 := Lib.hid (ownsRow_keep HO5.out hk6 (by simp [Value.ownBlock]; omega))
  have R6 := Lib.hid (R5.keptNew hk6 (by have := HS.out; omega))
  clear hk6 p0 p1 q0 HB5 HO5
  generalize (((w5.setCell ⟨s, 0, none⟩ (.int .i64 x.f)).setCell ⟨s, 1, none⟩ (.int .i64 x.t)).setCell ⟨s, 2, none⟩ (.slice x.a x.n x.c)) = w6 at *
  have kz := blk_cell HF
  exact bodyPost_ret (v := .agg #[.int .i64 x.f, .int .i64 x.t, .slice x.a x.n x.c]) (by simp [results, Try.results28, go_sem, kz]) rfl ⟨rfl, ⟨_, HB6.out, HO6.out⟩, R6.out⟩

set_option maxRecDepth 100000 in
set_option maxHeartbeats 1000000 in
theorem netDrop_no (nb nodes : Nat) (a : Option Addr) (n c : Nat) (ls : List Lt) (p : List Bool) (i : Int) (w : World) (h : NetB w nb nodes (.slice a n c) p) (ho : OwnL 0 w (.slice a n c) ls) (hl : ls.length = n) (hn : n ≤ 64) (hi : i < 0 ∨ (n : Int) ≤ i) :
    Calls Try.prog 17 #[.pointer (some ⟨nb, 0, none⟩), .int .i64 i] w fun e w' => e = .returned (.int .i64 23) ∧ w = w' := by
  have HB := Lib.hid h
  have HI := Lib.hid hi
  clear h ho hi
  go_enter Try.func17, Try.ntmps17
  go_wp2_with fail
  refine (netHasI nb nodes a n c p i _ HB.out (by omega)).mono ?_
  rintro e w1 ⟨rfl, rfl⟩
  rw [hnB_no HI.out]
  go_wp2
  go_ret
  exact ⟨rfl, rfl⟩

set_option maxRecDepth 100000 in
set_option maxHeartbeats 1000000 in
theorem netTwice (nb nodes : Nat) (a : Option Addr) (n c : Nat) (ls : List Lt) (p : List Bool) (i : Nat) (x : Lt) (w : World) (h : NetB w nb nodes (.slice a n c) p) (ho : OwnL 0 w (.slice a n c) ls) (hl : ls.length = n) (hn : n ≤ 64) (hn2 : n < 64) (hx : ls[i]? = some x) :
    Calls Try.prog 19 #[.pointer (some ⟨nb, 0, none⟩), .int .i64 (i : Int)] w fun e w' => e = .returned (.int .i64 0) ∧ (∃ v, NetB w' nb nodes v p ∧ OwnL 0 w' v (ls ++ [x])) ∧ Rim nb w w' := by
  have hin : i < n := by
    rcases Nat.lt_or_ge i n with h' | h'
    · exact h'
    · rw [List.getElem?_eq_none (by omega)] at hx; cases hx
  obtain ⟨g, rfl, -, hgl, hnc, hcm⟩ := ho.some hl (by omega)
  obtain ⟨x0, x1, x2⟩ := ho.at hx
  have HB := Lib.hid h
  have HO := Lib.hid ho
  have HL := Lib.hid hl
  have k1 := h.c1
  have l1 := h.lt
  have hiI : (i : Int) < n := by omega
  unfold maxLen at hcm
  clear h ho hl hx
  go_enter Try.func19, Try.ntmps19
  go_wp2_with fail
  refine (netHasI nb nodes (some ⟨g, 0, none⟩) n c p (i : Int) _ HB.out (by omega)).mono ?_
  rintro e w1 ⟨rfl, rfl⟩
  rw [hnB_yes (by omega) (by omega)]
  go_wp2_with fail
  refine (netPut nb nodes (some ⟨g, 0, none⟩) n c ls x p _ HB.out HO.out HL.out hn2).mono ?_
  rintro e w2 ⟨rfl, hs, hr⟩
  have HS := Lib.hid hs
  have HR := Lib.hid hr
  clear hs hr
  go_wp2
  go_ret
  exact ⟨rfl, HS.out, HR.out⟩

set_option maxRecDepth 100000 in
set_option maxHeartbeats 1000000 in
theorem netDeliver_no (nb nodes : Nat) (a : Option Addr) (n c : Nat) (ls : List Lt) (p : List Bool) (i : Int) (w : World) (h : NetB w nb nodes (.slice a n c) p) (ho : OwnL 0 w (.slice a n c) ls) (hl : ls.length = n) (hn : n ≤ 64) (hi : i < 0 ∨ (n : Int) ≤ i) :
    Calls Try.prog 10 #[.pointer (some ⟨nb, 0, none⟩), .int .i64 i] w fun e w' => e = .returned (.tuple #[.agg #[.int .i64 0, .int .i64 0, .slice none 0 0], .int .i64 23]) ∧ Below w.heap.size w w' := by
  have D0 : Below w.heap.size w (w.alloc (.cells #[.int .i64 0, .int .i64 0, .slice none 0 0] 34)) := (Below.refl _ _).alloc (Nat.le_refl _) _
  have HB := Lib.hid (h.ext D0)
  have HI := Lib.hid hi
  clear h ho hi
  go_enter Try.func10, Try.ntmps10
  go_wp2_with fail
  refine (netHasI nb nodes a n c p i _ HB.out (by omega)).mono ?_
  rintro e w1 ⟨rfl, rfl⟩
  rw [hnB_no HI.out]
  go_wp2
  exact bodyPost_ret (v := .tuple #[.agg #[.int .i64 0, .int .i64 0, .slice none 0 0], .int .i64 23]) (by simp [results, Try.results10, go_sem, *]) rfl ⟨rfl, D0⟩

set_option maxRecDepth 100000 in
set_option maxHeartbeats 1000000 in
theorem netDeliver_cut (nb nodes : Nat) (a : Option Addr) (n c : Nat) (ls : List Lt) (p : List Bool) (i : Nat) (x : Lt) (w : World) (h : NetB w nb nodes (.slice a n c) p) (ho : OwnL 0 w (.slice a n c) ls) (hl : ls.length = n) (hn : n ≤ 64) (hnd : nodes ≤ 6) (hp : p.length = 36) (hx : ls[i]? = some x) (hpr : prB nodes p x.f x.t = true) :
    Calls Try.prog 10 #[.pointer (some ⟨nb, 0, none⟩), .int .i64 (i : Int)] w fun e w' => e = .returned (.tuple #[.agg #[.int .i64 0, .int .i64 0, .slice none 0 0], .int .i64 26]) ∧ Below w.heap.size w w' := by
  have hin : i < n := by
    rcases Nat.lt_or_ge i n with h' | h'
    · exact h'
    · rw [List.getElem?_eq_none (by omega)] at hx; cases hx
  obtain ⟨g, rfl, -, hgl, hnc, hcm⟩ := ho.some hl (by omega)
  have D0 : Below w.heap.size w (w.alloc (.cells #[.int .i64 0, .int .i64 0, .slice none 0 0] 34)) := (Below.refl _ _).alloc (Nat.le_refl _) _
  have HB := Lib.hid (h.ext D0)
  have HO := Lib.hid (ho.ext D0)
  have HL := Lib.hid hl
  have HX := Lib.hid hx
  have S0 := Lib.hid (blk_new w #[.int .i64 0, .int .i64 0, .slice none 0 0] 34)
  have HP := Lib.hid hp
  have HPR := Lib.hid hpr
  have hlt := h.lt
  have hiI : (i : Int) < n := by omega
  unfold maxLen at hcm
  clear h ho hl hx hp hpr
  go_enter Try.func10, Try.ntmps10
  go_wp2_with fail
  obtain ⟨s, hs⟩ : ∃ s, w.heap.size = s := ⟨_, rfl⟩
  have HS := Lib.hid hs
  have hns : s ≠ nb := by omega
  rw [hs] at S0 ⊢
  clear hs
  generalize (w.alloc (.cells #[.int .i64 0, .int .i64 0, .slice none 0 0] 34)) = w1 at *
  refine (netHasI nb nodes (some ⟨g, 0, none⟩) n c p (i : Int) _ HB.out (by omega)).mono ?_
  rintro e w1' ⟨rfl, rfl⟩
  rw [hnB_yes (by omega) (by omega)]
  obtain ⟨x0, x1, x2⟩ := HO.out.at HX.out
  go_wp2_with fail
  haveI hIq : Nonempty (Of w1) := of_some _
  have hF0 := of_cell HB.out.c1
  have hF1 := of_cell x0
  have hF2 := of_cell x1
  refine wp_region_stay w1 (by kernel_rfl) (by kernel_rfl) (by go_grown) ?_
  repeat (go_big_quiet_step ((go_at_call 14; refine stay_same (netParted nb nodes (.slice (some ⟨g, 0, none⟩) n c) p x.f x.t _ (HB.out.ext (In.h _)) hnd HP.out))))
  refine wpQuiet_nil ?_
  intro w2 hb
  clear hIq hF0 hF1 hF2 x0 x1 x2
  rw [HPR.out]
  have D2 := ext_trans D0 hb
  have S2 := blk_ext hb S0.out
  have k2 := blk_cell S2
  have f2 := blk_free S2
  have l2 := blk_lt S2
  have HS2 := Lib.hid S2
  clear hb S2
  go_wp2
  have hk6 : Kept s w2 (((w2.setCell ⟨s, 0, none⟩ (.int .i64 0)).setCell ⟨s, 1, none⟩ (.int .i64 0)).setCell ⟨s, 2, none⟩ (.slice none 0 0)) := (((Kept.refl _ _).setCell _ _).setCell _ _).setCell _ _
  have HF : (((w2.setCell ⟨s, 0, none⟩ (.int .i64 0)).setCell ⟨s, 1, none⟩ (.int .i64 0)).setCell ⟨s, 2, none⟩ (.slice none 0 0)).heap[s]? = some (.cells #[.int .i64 0, .int .i64 0, .slice none 0 0] 34 (0, 0)) := blk_set (blk_set (blk_set HS2.out rfl) rfl) (by simp)
  have D6 := Lib.hid (D2.trans (hk6.below (by have := HS.out; omega)))
  clear hk6 k2 f2
  generalize (((w2.setCell ⟨s, 0, none⟩ (.int .i64 0)).setCell ⟨s, 1, none⟩ (.int .i64 0)).setCell ⟨s, 2, none⟩ (.slice none 0 0)) = w6 at *
  have kz := blk_cell HF
  exact bodyPost_ret (v := .tuple #[.agg #[.int .i64 0, .int .i64 0, .slice none 0 0], .int .i64 26]) (by simp [results, Try.results10, go_sem, kz]) rfl ⟨rfl, D6.out⟩

set_option maxRecDepth 100000 in
set_option maxHeartbeats 1000000 in
theorem netDeliver (nb nodes : Nat) (a : Option Addr) (n c : Nat) (ls : List Lt) (p : List Bool) (i : Nat) (x : Lt) (xs : List Int) (w : World) (h : NetB w nb nodes (.slice a n c) p) (ho : OwnL 0 w (.slice a n c) ls) (hl : ls.length = n) (hn : n ≤ 64) (hnd : nodes ≤ 6) (hp : p.length = 36) (hx : ls[i]? = some x) (hpr : prB nodes p x.f x.t = false) (hb0 : OwnB 0 w x xs) (hxn : xs.length ≤ 140737488355328) :
    Calls Try.prog 10 #[.pointer (some ⟨nb, 0, none⟩), .int .i64 (i : Int)] w fun e w' => ∃ y : Lt, e = .returned (.tuple #[.agg #[.int .i64 y.f, .int .i64 y.t, .slice y.a y.n y.c], .int .i64 0]) ∧ y.f = x.f ∧ y.t = x.t ∧ OwnB w.heap.size w' y xs ∧ (∃ v, NetB w' nb nodes v p ∧ OwnL 0 w' v (ls.eraseIdx i)) ∧ Rim nb w w' := by
  have HXB := Lib.hid hb0
  clear hb0
  have hin : i < n := by
    rcases Nat.lt_or_ge i n with h' | h'
    · exact h'
    · rw [List.getElem?_eq_none (by omega)] at hx; cases hx
  obtain ⟨g, rfl, -, hgl, hnc, hcm⟩ := ho.some hl (by omega)
  have D0 : Below w.heap.size w (w.alloc (.cells #[.int .i64 0, .int .i64 0, .slice none 0 0] 34)) := (Below.refl _ _).alloc (Nat.le_refl _) _
  have HB := Lib.hid (h.ext D0)
  have HXB1 := Lib.hid (ownsRow_ext HXB.out D0)
  have HO := Lib.hid (ho.ext D0)
  have HL := Lib.hid hl
  have HX := Lib.hid hx
  have S0 := Lib.hid (blk_new w #[.int .i64 0, .int .i64 0, .slice none 0 0] 34)
  have HP := Lib.hid hp
  have HPR := Lib.hid hpr
  have hlt := h.lt
  have hiI : (i : Int) < n := by omega
  unfold maxLen at hcm
  clear h ho hl hx hp hpr
  go_enter Try.func10, Try.ntmps10
  go_wp2_with fail
  obtain ⟨s, hs⟩ : ∃ s, w.heap.size = s := ⟨_, rfl⟩
  have HS := Lib.hid hs
  have hns : s ≠ nb := by omega
  rw [hs] at S0 ⊢
  clear hs
  generalize (w.alloc (.cells #[.int .i64 0, .int .i64 0, .slice none 0 0] 34)) = w1 at *
  refine (netHasI nb nodes (some ⟨g, 0, none⟩) n c p (i : Int) _ HB.out (by omega)).mono ?_
  rintro e w1' ⟨rfl, rfl⟩
  rw [hnB_yes (by omega) (by omega)]
  obtain ⟨x0, x1, x2⟩ := HO.out.at HX.out
  go_wp2_with fail
  haveI hIq : Nonempty (Of w1) := of_some _
  have hF0 := of_cell HB.out.c1
  have hF1 := of_cell x0
  have hF2 := of_cell x1
  refine wp_region_stay w1 (by kernel_rfl) (by kernel_rfl) (by go_grown) ?_
  repeat (go_big_quiet_step ((go_at_call 14; refine stay_same (netParted nb nodes (.slice (some ⟨g, 0, none⟩) n c) p x.f x.t _ (HB.out.ext (In.h _)) hnd HP.out))))
  refine wpQuiet_nil ?_
  intro w2 hb
  clear hIq hF0 hF1 hF2 x0 x1 x2
  rw [HPR.out]
  have D2 := ext_trans D0 hb
  have S2 := blk_ext hb S0.out
  have HB2 := Lib.hid (HB.out.ext hb)
  have HO2 := Lib.hid (HO.out.ext hb)
  have HX2 := Lib.hid (ownsRow_ext HXB1.out hb)
  have HS2 := Lib.hid S2
  have HSL := Lib.hid (blk_lt S2)
  have gz2 := D2.size
  clear hb S2 HB HO HXB1
  go_wp2_with fail
  refine (netTake nb nodes (some ⟨g, 0, none⟩) n c i ls x p _ HB2.out HO2.out HL.out hn HX.out).mono ?_
  rintro e w3 ⟨rfl, ⟨v3, hB3, hO3⟩, hr3⟩
  have HB3 := Lib.hid hB3
  have HO3 := Lib.hid hO3
  have HX3 := Lib.hid (own_rim HB2.out hr3 (by decide) HX2.out)
  have HS3 := Lib.hid (hr3.blk hns HS2.out)
  have R3 := (Rim.of (b := nb) D2).trans hr3
  have hbx := own_u8 HX3.out
  obtain ⟨a', c', hae, hnx, -, -, hbat⟩ := hbx
  simp only [Value.slice.injEq] at hae
  obtain ⟨hae1, hae2, -⟩ := hae
  rw [← hae1] at hbat
  have HAT := Lib.hid hbat
  have HXN := Lib.hid (show xs.length = x.n by rw [hae2])
  clear hB3 hO3 hr3 HB2 HO2 HX2 HS2 hbat hae1 hae2 hnx
  go_wp2_with fail
  refine (copied x xs _ HAT.out HXN.out (by have := HXN.out; omega)).mono ?_
  rintro e w4 ⟨y, rfl, hyf, hyt, hyo, hb4⟩
  have HB4 := Lib.hid (HB3.out.ext hb4)
  have HO4 := Lib.hid (HO3.out.ext hb4)
  have S4 := blk_ext hb4 HS3.out
  have R4 := R3.trans (Rim.of hb4)
  have HYO := Lib.hid hyo
  have HYF := Lib.hid hyf
  have HYT := Lib.hid hyt
  have Z3 := R3.size
  have k4 := blk_cell S4
  have f4 := blk_free S4
  have l4 := blk_lt S4
  have HS4 := Lib.hid S4
  clear hb4 hyo hyf hyt S4 HB3 HO3 HS3 HX3
  go_wp2
  have hk6 : Kept s w4 (((w4.setCell ⟨s, 0, none⟩ (.int .i64 y.f)).setCell ⟨s, 1, none⟩ (.int .i64 y.t)).setCell ⟨s, 2, none⟩ (.slice y.a y.n y.c)) := (((Kept.refl _ _).setCell _ _).setCell _ _).setCell _ _
  have HF : (((w4.setCell ⟨s, 0, none⟩ (.int .i64 y.f)).setCell ⟨s, 1, none⟩ (.int .i64 y.t)).setCell ⟨s, 2, none⟩ (.slice y.a y.n y.c)).heap[s]? = some (.cells #[.int .i64 y.f, .int .i64 y.t, .slice y.a y.n y.c] 34 (0, 0)) := blk_set (blk_set (blk_set HS4.out rfl) rfl) (by simp)
  have HB6 := Lib.hid (show NetB (((w4.setCell ⟨s, 0, none⟩ (.int .i64 y.f)).setCell ⟨s, 1, none⟩ (.int .i64 y.t)).setCell ⟨s, 2, none⟩ (.slice y.a y.n y.c)) nb nodes v3 p from (hk6.block nb (Ne.symm hns)).trans HB4.out)
  have HO6 := Lib.hid (ownsRow_base (ownsRow_keep HO4.out hk6 (fun e => by have h1 := own_ge HO4.out e.symm; have h2 := HSL.out; omega)) (Nat.zero_le _))
  have HY6 := Lib.hid (ownsRow_base (ownsRow_keep HYO.out hk6 (own_ne HYO.out HS4.out (by decide))) Z3)
  have R6 := Lib.hid (R4.keptNew hk6 (by have := HS.out; omega))
  clear hk6 k4 f4 HB4 HO4 HYO
  generalize (((w4.setCell ⟨s, 0, none⟩ (.int .i64 y.f)).setCell ⟨s, 1, none⟩ (.int .i64 y.t)).setCell ⟨s, 2, none⟩ (.slice y.a y.n y.c)) = w6 at *
  have kz := blk_cell HF
  exact bodyPost_ret (v := .tuple #[.agg #[.int .i64 y.f, .int .i64 y.t, .slice y.a y.n y.c], .int .i64 0]) (by simp [results, Try.results10, go_sem, kz]) rfl ⟨y, rfl, HYF.out, HYT.out, HY6.out, ⟨_, HB6.out, HO6.out⟩, R6.out⟩

set_option maxRecDepth 100000 in
set_option maxHeartbeats 1000000 in
theorem netSend (nb nodes : Nat) (a : Option Addr) (n c : Nat) (ls : List Lt) (p : List Bool) (x : Lt) (xs : List Int) (w : World) (h : NetB w nb nodes (.slice a n c) p) (ho : OwnL 0 w (.slice a n c) ls) (hl : ls.length = n) (hn : n ≤ 64) (hn2 : n < 64) (hf0 : 0 ≤ x.f) (hf1 : x.f < nodes) (ht0 : 0 ≤ x.t) (ht1 : x.t < nodes) (hb : BAt w x.a xs) (hbl : xs.length = x.n) (hbn : x.n ≤ 140737488355328) :
    Calls Try.prog 9 #[.pointer (some ⟨nb, 0, none⟩), .agg #[.int .i64 x.f, .int .i64 x.t, .slice x.a x.n x.c]] w fun e w' => ∃ y : Lt, e = .returned (.int .i64 0) ∧ y.f = x.f ∧ y.t = x.t ∧ OwnB w.heap.size w' y xs ∧ (∃ v, NetB w' nb nodes v p ∧ OwnL 0 w' v (ls ++ [y])) ∧ Rim nb w w' := by
  have D0 : Below w.heap.size w (w.alloc (.cells #[.int .i64 x.f, .int .i64 x.t, .slice x.a x.n x.c] 34)) := (Below.refl _ _).alloc (Nat.le_refl _) _
  have HB := Lib.hid (h.ext D0)
  have HO := Lib.hid (ho.ext D0)
  have HL := Lib.hid hl
  have HA := Lib.hid (hb.ext D0)
  have HAL := Lib.hid hbl
  have HF := Lib.hid (hnB_yes hf0 hf1)
  have HT := Lib.hid (hnB_yes ht0 ht1)
  have hlt := h.lt
  clear h ho hl hb hbl hf0 hf1 ht0 ht1
  go_enter Try.func9, Try.ntmps9
  go_wp2_with fail
  refine (netHas nb nodes (.slice a n c) p x.f _ HB.out).mono ?_
  rintro e w1 ⟨rfl, rfl⟩
  rw [HF.out]
  go_wp2_with fail
  refine (netHas nb nodes (.slice a n c) p x.t _ HB.out).mono ?_
  rintro e w1 ⟨rfl, rfl⟩
  rw [HT.out]
  go_wp2_with fail
  refine (copied x xs _ HA.out HAL.out hbn).mono ?_
  rintro e w2 ⟨y, rfl, hyf, hyt, hyo, hb2⟩
  have D2 := ext_trans D0 hb2
  have HB2 := Lib.hid (HB.out.ext hb2)
  have HO2 := Lib.hid (HO.out.ext hb2)
  have HY := Lib.hid (ownsRow_base hyo D0.size)
  have HYF := Lib.hid hyf
  have HYT := Lib.hid hyt
  clear hyf hyt hyo hb2 HB HO HA
  go_wp2_with fail
  refine (netPut nb nodes a n c ls y p _ HB2.out HO2.out HL.out hn2).mono ?_
  rintro e w3 ⟨rfl, hs, hr⟩
  have HS := Lib.hid hs
  have HY3 := Lib.hid (own_rim HB2.out hr (by decide) HY.out)
  have R3 := Lib.hid ((Rim.of (b := nb) D2).trans hr)
  clear hs hr HB2 HO2 HY
  go_wp2
  go_ret
  exact ⟨y, rfl, HYF.out, HYT.out, HY3.out, HS.out, R3.out⟩

end Go.Proofs.Ytkkmnodhmmdllaa
