/- Rows of keys, of cards held against one another. -/
import Derived.Test.YtfdalmodnkkfiaaDoorMlS
namespace Go.Proofs.YtfdalmodnkkfiaaDoor
open Go.RowKit
set_option linter.unusedVariables false
set_option linter.unusedSimpArgs false

set_option maxRecDepth 100000 in
set_option maxHeartbeats 4000000 in
theorem equalCards (a1 a2 : Option Addr) (n1 c1 n2 c2 : Nat) (xs ys : List Cd) (w : World) (h1 : CAt w a1 xs) (h2 : CAt w a2 ys) (hl1 : xs.length = n1) (hl2 : ys.length = n2) (hn1 : n1 ≤ 1000) (hn2 : n2 ≤ 1000) :
    Calls Tryd.prog 61 #[.slice a1 n1 c1, .slice a2 n2 c2] w fun r w' => ∃ b : Bool, r = .returned (.bool b) ∧ (b = true ↔ xs = ys) ∧ Below w.heap.size w w' := by
  by_cases hnn : n1 = n2
  rotate_left
  · have hne : ((n1 : Int) != (n2 : Int)) = true := by simpa using (show (n1 : Int) ≠ (n2 : Int) by omega)
    have HR := Lib.hid (show ¬ xs = ys from fun e => hnn (by rw [← hl1, ← hl2, e]))
    clear h1 h2 hl1 hl2 hnn
    go_enter Tryd.func61, Tryd.ntmps61
    go_wp2
    go_ret
    exact ⟨false, rfl, ⟨fun h => by simp at h, fun h => absurd h HR.out⟩, Below.refl _ _⟩
  · obtain rfl := hnn
    have HN1 := Lib.hid hl1
    have HN2 := Lib.hid hl2
    have H1 := Lib.hid h1
    have H2 := Lib.hid h2
    clear h1 h2 hl1 hl2
    go_enter Tryd.func61, Tryd.ntmps61
    go_wp2_with fail
    go_loopw [13] (fun j wr => ∃ J : Nat, J ≤ n1 ∧ j = .int .i64 (J : Int) ∧ xs.take J = ys.take J ∧ Below w.heap.size w wr) (fun j _ => n1 - (intOf j).toNat)
    case atStart => exact ⟨0, by omega, rfl, rfl, Below.refl _ _⟩
    case round =>
      obtain ⟨w2, rfl⟩ : ∃ y : World, y = wr := ⟨_, rfl⟩
      obtain ⟨J, hJ, rfl, htk, hb2⟩ := hrel
      have HTK := Lib.hid htk
      clear htk
      by_cases hlt : J < n1
      rotate_left
      · obtain rfl : J = n1 := by omega
        have HE := Lib.hid (show xs = ys from by have h := HTK.out; rwa [List.take_of_length_le (by have := HN1.out; omega), List.take_of_length_le (by have := HN2.out; omega)] at h)
        have HB2 := Lib.hid hb2
        clear hb2
        go_wp2
        go_ret
        exact ⟨true, rfl, ⟨fun _ => HE.out, fun _ => rfl⟩, HB2.out⟩
      · obtain ⟨x, hx⟩ : ∃ x, xs[J]? = some x := ⟨_, List.getElem?_eq_getElem (by have := HN1.out; omega)⟩
        obtain ⟨y, hy⟩ : ∃ y, ys[J]? = some y := ⟨_, List.getElem?_eq_getElem (by have := HN2.out; omega)⟩
        obtain ⟨b1, o1, rfl⟩ : ∃ b o, a1 = some ⟨b, o, none⟩ := by
          rcases H1.out with h | ⟨b, o, e, _⟩
          · rw [h] at hx; simp at hx
          · exact ⟨b, o, e⟩
        obtain ⟨b2, o2, rfl⟩ : ∃ b o, a2 = some ⟨b, o, none⟩ := by
          rcases H2.out with h | ⟨b, o, e, _⟩
          · rw [h] at hy; simp at hy
          · exact ⟨b, o, e⟩
        obtain ⟨y0, y1, y2, y3, y4, y5, y6, y7, y8⟩ := (H1.out.ext hb2).at hx
        obtain ⟨z0, z1, z2, z3, z4, z5, z6, z7, z8⟩ := (H2.out.ext hb2).at hy
        have HB2 := Lib.hid hb2
        have HX := Lib.hid hx
        have HY := Lib.hid hy
        clear hb2 hx hy
        by_cases e0 : x.a = y.a
        rotate_left
        · have HF := Lib.hid (show ¬ x = y from fun e => e0 (by rw [e]))
          have e0' : ¬ x.a.toList = y.a.toList := fun e => e0 (str_inj e)
          have e0'' : decide (x.a.toList = y.a.toList) = false := decide_eq_false e0'
          go_wp2_with fail
          haveI hIq : Nonempty (Of w2) := of_some _
          have hF0 := of_cell y0
          have hG0 := of_cell z0
          have hF1 := of_cell y1
          have hG1 := of_cell z1
          have hF2 := of_cell y2
          have hG2 := of_cell z2
          have hF3 := of_cell y3
          have hG3 := of_cell z3
          have hF4 := of_cell y4
          have hG4 := of_cell z4
          have hF5 := of_cell y5
          have hG5 := of_cell z5
          have hF6 := of_cell y6
          have hG6 := of_cell z6
          have hF7 := of_cell y7
          have hG7 := of_cell z7
          have hF8 := of_cell y8
          have hG8 := of_cell z8
          first | (refine wp_region_stay w2 (by kernel_rfl) (by kernel_rfl) (by go_grown) ?_) | (refine wp_region_stay_seq w2 (by go_grown) ?_)
          repeat (go_big_quiet_step (fail))
          refine wpQuiet_nil ?_
          intro w6 hb6
          have HB6 := Lib.hid (ext_trans HB2.out hb6)
          clear hIq hF0 hG0 hF1 hG1 hF2 hG2 hF3 hG3 hF4 hG4 hF5 hG5 hF6 hG6 hF7 hG7 hF8 hG8 hb6
          go_wp2
          go_ret
          exact ⟨false, rfl, ⟨fun h => by simp at h, fun h => absurd (by have h1 := HX.out; have h2 := HY.out; rw [h] at h1; exact Option.some.inj (h1.symm.trans h2)) HF.out⟩, HB6.out⟩
        rw [← e0] at z0
        by_cases e1 : x.i = y.i
        rotate_left
        · have HF := Lib.hid (show ¬ x = y from fun e => e1 (by rw [e]))
          have e1' : ¬ x.i.toList = y.i.toList := fun e => e1 (str_inj e)
          have e1'' : decide (x.i.toList = y.i.toList) = false := decide_eq_false e1'
          go_wp2_with fail
          haveI hIq : Nonempty (Of w2) := of_some _
          have hF0 := of_cell y0
          have hG0 := of_cell z0
          have hF1 := of_cell y1
          have hG1 := of_cell z1
          have hF2 := of_cell y2
          have hG2 := of_cell z2
          have hF3 := of_cell y3
          have hG3 := of_cell z3
          have hF4 := of_cell y4
          have hG4 := of_cell z4
          have hF5 := of_cell y5
          have hG5 := of_cell z5
          have hF6 := of_cell y6
          have hG6 := of_cell z6
          have hF7 := of_cell y7
          have hG7 := of_cell z7
          have hF8 := of_cell y8
          have hG8 := of_cell z8
          first | (refine wp_region_stay w2 (by kernel_rfl) (by kernel_rfl) (by go_grown) ?_) | (refine wp_region_stay_seq w2 (by go_grown) ?_)
          repeat (go_big_quiet_step (fail))
          refine wpQuiet_nil ?_
          intro w6 hb6
          have HB6 := Lib.hid (ext_trans HB2.out hb6)
          clear hIq hF0 hG0 hF1 hG1 hF2 hG2 hF3 hG3 hF4 hG4 hF5 hG5 hF6 hG6 hF7 hG7 hF8 hG8 hb6
          go_wp2
          go_ret
          exact ⟨false, rfl, ⟨fun h => by simp at h, fun h => absurd (by have h1 := HX.out; have h2 := HY.out; rw [h] at h1; exact Option.some.inj (h1.symm.trans h2)) HF.out⟩, HB6.out⟩
        rw [← e1] at z1
        by_cases e2 : x.s = y.s
        rotate_left
        · have HF := Lib.hid (show ¬ x = y from fun e => e2 (by rw [e]))
          have e2' : (x.s == y.s) = false := by simpa using e2
          have e2'' : decide (x.s = y.s) = false := decide_eq_false e2
          go_wp2_with fail
          haveI hIq : Nonempty (Of w2) := of_some _
          have hF0 := of_cell y0
          have hG0 := of_cell z0
          have hF1 := of_cell y1
          have hG1 := of_cell z1
          have hF2 := of_cell y2
          have hG2 := of_cell z2
          have hF3 := of_cell y3
          have hG3 := of_cell z3
          have hF4 := of_cell y4
          have hG4 := of_cell z4
          have hF5 := of_cell y5
          have hG5 := of_cell z5
          have hF6 := of_cell y6
          have hG6 := of_cell z6
          have hF7 := of_cell y7
          have hG7 := of_cell z7
          have hF8 := of_cell y8
          have hG8 := of_cell z8
          first | (refine wp_region_stay w2 (by kernel_rfl) (by kernel_rfl) (by go_grown) ?_) | (refine wp_region_stay_seq w2 (by go_grown) ?_)
          repeat (go_big_quiet_step (fail))
          refine wpQuiet_nil ?_
          intro w6 hb6
          have HB6 := Lib.hid (ext_trans HB2.out hb6)
          clear hIq hF0 hG0 hF1 hG1 hF2 hG2 hF3 hG3 hF4 hG4 hF5 hG5 hF6 hG6 hF7 hG7 hF8 hG8 hb6
          go_wp2
          go_ret
          exact ⟨false, rfl, ⟨fun h => by simp at h, fun h => absurd (by have h1 := HX.out; have h2 := HY.out; rw [h] at h1; exact Option.some.inj (h1.symm.trans h2)) HF.out⟩, HB6.out⟩
        rw [← e2] at z2
        by_cases e3 : x.o = y.o
        rotate_left
        · have HF := Lib.hid (show ¬ x = y from fun e => e3 (by rw [e]))
          have e3' : (x.o == y.o) = false := by simpa using e3
          have e3'' : decide (x.o = y.o) = false := decide_eq_false e3
          go_wp2_with fail
          haveI hIq : Nonempty (Of w2) := of_some _
          have hF0 := of_cell y0
          have hG0 := of_cell z0
          have hF1 := of_cell y1
          have hG1 := of_cell z1
          have hF2 := of_cell y2
          have hG2 := of_cell z2
          have hF3 := of_cell y3
          have hG3 := of_cell z3
          have hF4 := of_cell y4
          have hG4 := of_cell z4
          have hF5 := of_cell y5
          have hG5 := of_cell z5
          have hF6 := of_cell y6
          have hG6 := of_cell z6
          have hF7 := of_cell y7
          have hG7 := of_cell z7
          have hF8 := of_cell y8
          have hG8 := of_cell z8
          first | (refine wp_region_stay w2 (by kernel_rfl) (by kernel_rfl) (by go_grown) ?_) | (refine wp_region_stay_seq w2 (by go_grown) ?_)
          repeat (go_big_quiet_step (fail))
          refine wpQuiet_nil ?_
          intro w6 hb6
          have HB6 := Lib.hid (ext_trans HB2.out hb6)
          clear hIq hF0 hG0 hF1 hG1 hF2 hG2 hF3 hG3 hF4 hG4 hF5 hG5 hF6 hG6 hF7 hG7 hF8 hG8 hb6
          go_wp2
          go_ret
          exact ⟨false, rfl, ⟨fun h => by simp at h, fun h => absurd (by have h1 := HX.out; have h2 := HY.out; rw [h] at h1; exact Option.some.inj (h1.symm.trans h2)) HF.out⟩, HB6.out⟩
        rw [← e3] at z3
        by_cases e4 : x.l = y.l
        rotate_left
        · have HF := Lib.hid (show ¬ x = y from fun e => e4 (by rw [e]))
          have e4' : (x.l == y.l) = false := by simpa using e4
          have e4'' : decide (x.l = y.l) = false := decide_eq_false e4
          go_wp2_with fail
          haveI hIq : Nonempty (Of w2) := of_some _
          have hF0 := of_cell y0
          have hG0 := of_cell z0
          have hF1 := of_cell y1
          have hG1 := of_cell z1
          have hF2 := of_cell y2
          have hG2 := of_cell z2
          have hF3 := of_cell y3
          have hG3 := of_cell z3
          have hF4 := of_cell y4
          have hG4 := of_cell z4
          have hF5 := of_cell y5
          have hG5 := of_cell z5
          have hF6 := of_cell y6
          have hG6 := of_cell z6
          have hF7 := of_cell y7
          have hG7 := of_cell z7
          have hF8 := of_cell y8
          have hG8 := of_cell z8
          first | (refine wp_region_stay w2 (by kernel_rfl) (by kernel_rfl) (by go_grown) ?_) | (refine wp_region_stay_seq w2 (by go_grown) ?_)
          repeat (go_big_quiet_step (fail))
          refine wpQuiet_nil ?_
          intro w6 hb6
          have HB6 := Lib.hid (ext_trans HB2.out hb6)
          clear hIq hF0 hG0 hF1 hG1 hF2 hG2 hF3 hG3 hF4 hG4 hF5 hG5 hF6 hG6 hF7 hG7 hF8 hG8 hb6
          go_wp2
          go_ret
          exact ⟨false, rfl, ⟨fun h => by simp at h, fun h => absurd (by have h1 := HX.out; have h2 := HY.out; rw [h] at h1; exact Option.some.inj (h1.symm.trans h2)) HF.out⟩, HB6.out⟩
        rw [← e4] at z4
        by_cases e5 : x.t = y.t
        rotate_left
        · have HF := Lib.hid (show ¬ x = y from fun e => e5 (by rw [e]))
          have e5' : (x.t == y.t) = false := by simpa using e5
          have e5'' : decide (x.t = y.t) = false := decide_eq_false e5
          go_wp2_with fail
          haveI hIq : Nonempty (Of w2) := of_some _
          have hF0 := of_cell y0
          have hG0 := of_cell z0
          have hF1 := of_cell y1
          have hG1 := of_cell z1
          have hF2 := of_cell y2
          have hG2 := of_cell z2
          have hF3 := of_cell y3
          have hG3 := of_cell z3
          have hF4 := of_cell y4
          have hG4 := of_cell z4
          have hF5 := of_cell y5
          have hG5 := of_cell z5
          have hF6 := of_cell y6
          have hG6 := of_cell z6
          have hF7 := of_cell y7
          have hG7 := of_cell z7
          have hF8 := of_cell y8
          have hG8 := of_cell z8
          first | (refine wp_region_stay w2 (by kernel_rfl) (by kernel_rfl) (by go_grown) ?_) | (refine wp_region_stay_seq w2 (by go_grown) ?_)
          repeat (go_big_quiet_step (fail))
          refine wpQuiet_nil ?_
          intro w6 hb6
          have HB6 := Lib.hid (ext_trans HB2.out hb6)
          clear hIq hF0 hG0 hF1 hG1 hF2 hG2 hF3 hG3 hF4 hG4 hF5 hG5 hF6 hG6 hF7 hG7 hF8 hG8 hb6
          go_wp2
          go_ret
          exact ⟨false, rfl, ⟨fun h => by simp at h, fun h => absurd (by have h1 := HX.out; have h2 := HY.out; rw [h] at h1; exact Option.some.inj (h1.symm.trans h2)) HF.out⟩, HB6.out⟩
        rw [← e5] at z5
        by_cases e6 : x.k = y.k
        rotate_left
        · have HF := Lib.hid (show ¬ x = y from fun e => e6 (by rw [e]))
          have e6' : (x.k == y.k) = false := by simpa using e6
          have e6'' : decide (x.k = y.k) = false := decide_eq_false e6
          go_wp2_with fail
          haveI hIq : Nonempty (Of w2) := of_some _
          have hF0 := of_cell y0
          have hG0 := of_cell z0
          have hF1 := of_cell y1
          have hG1 := of_cell z1
          have hF2 := of_cell y2
          have hG2 := of_cell z2
          have hF3 := of_cell y3
          have hG3 := of_cell z3
          have hF4 := of_cell y4
          have hG4 := of_cell z4
          have hF5 := of_cell y5
          have hG5 := of_cell z5
          have hF6 := of_cell y6
          have hG6 := of_cell z6
          have hF7 := of_cell y7
          have hG7 := of_cell z7
          have hF8 := of_cell y8
          have hG8 := of_cell z8
          first | (refine wp_region_stay w2 (by kernel_rfl) (by kernel_rfl) (by go_grown) ?_) | (refine wp_region_stay_seq w2 (by go_grown) ?_)
          repeat (go_big_quiet_step (fail))
          refine wpQuiet_nil ?_
          intro w6 hb6
          have HB6 := Lib.hid (ext_trans HB2.out hb6)
          clear hIq hF0 hG0 hF1 hG1 hF2 hG2 hF3 hG3 hF4 hG4 hF5 hG5 hF6 hG6 hF7 hG7 hF8 hG8 hb6
          go_wp2
          go_ret
          exact ⟨false, rfl, ⟨fun h => by simp at h, fun h => absurd (by have h1 := HX.out; have h2 := HY.out; rw [h] at h1; exact Option.some.inj (h1.symm.trans h2)) HF.out⟩, HB6.out⟩
        rw [← e6] at z6
        by_cases e7 : x.n = y.n
        rotate_left
        · have HF := Lib.hid (show ¬ x = y from fun e => e7 (by rw [e]))
          have e7' : (x.n == y.n) = false := by simpa using e7
          have e7'' : decide (x.n = y.n) = false := decide_eq_false e7
          go_wp2_with fail
          haveI hIq : Nonempty (Of w2) := of_some _
          have hF0 := of_cell y0
          have hG0 := of_cell z0
          have hF1 := of_cell y1
          have hG1 := of_cell z1
          have hF2 := of_cell y2
          have hG2 := of_cell z2
          have hF3 := of_cell y3
          have hG3 := of_cell z3
          have hF4 := of_cell y4
          have hG4 := of_cell z4
          have hF5 := of_cell y5
          have hG5 := of_cell z5
          have hF6 := of_cell y6
          have hG6 := of_cell z6
          have hF7 := of_cell y7
          have hG7 := of_cell z7
          have hF8 := of_cell y8
          have hG8 := of_cell z8
          first | (refine wp_region_stay w2 (by kernel_rfl) (by kernel_rfl) (by go_grown) ?_) | (refine wp_region_stay_seq w2 (by go_grown) ?_)
          repeat (go_big_quiet_step (fail))
          refine wpQuiet_nil ?_
          intro w6 hb6
          have HB6 := Lib.hid (ext_trans HB2.out hb6)
          clear hIq hF0 hG0 hF1 hG1 hF2 hG2 hF3 hG3 hF4 hG4 hF5 hG5 hF6 hG6 hF7 hG7 hF8 hG8 hb6
          go_wp2
          go_ret
          exact ⟨false, rfl, ⟨fun h => by simp at h, fun h => absurd (by have h1 := HX.out; have h2 := HY.out; rw [h] at h1; exact Option.some.inj (h1.symm.trans h2)) HF.out⟩, HB6.out⟩
        rw [← e7] at z7
        by_cases e8 : x.g = y.g
        rotate_left
        · have HF := Lib.hid (show ¬ x = y from fun e => e8 (by rw [e]))
          have e8' : (x.g == y.g) = false := by simpa using e8
          have e8'' : decide (x.g = y.g) = false := decide_eq_false e8
          go_wp2_with fail
          haveI hIq : Nonempty (Of w2) := of_some _
          have hF0 := of_cell y0
          have hG0 := of_cell z0
          have hF1 := of_cell y1
          have hG1 := of_cell z1
          have hF2 := of_cell y2
          have hG2 := of_cell z2
          have hF3 := of_cell y3
          have hG3 := of_cell z3
          have hF4 := of_cell y4
          have hG4 := of_cell z4
          have hF5 := of_cell y5
          have hG5 := of_cell z5
          have hF6 := of_cell y6
          have hG6 := of_cell z6
          have hF7 := of_cell y7
          have hG7 := of_cell z7
          have hF8 := of_cell y8
          have hG8 := of_cell z8
          first | (refine wp_region_stay w2 (by kernel_rfl) (by kernel_rfl) (by go_grown) ?_) | (refine wp_region_stay_seq w2 (by go_grown) ?_)
          repeat (go_big_quiet_step (fail))
          refine wpQuiet_nil ?_
          intro w6 hb6
          have HB6 := Lib.hid (ext_trans HB2.out hb6)
          clear hIq hF0 hG0 hF1 hG1 hF2 hG2 hF3 hG3 hF4 hG4 hF5 hG5 hF6 hG6 hF7 hG7 hF8 hG8 hb6
          go_wp2
          go_ret
          exact ⟨false, rfl, ⟨fun h => by simp at h, fun h => absurd (by have h1 := HX.out; have h2 := HY.out; rw [h] at h1; exact Option.some.inj (h1.symm.trans h2)) HF.out⟩, HB6.out⟩
        rw [← e8] at z8
        have HXY := Lib.hid (show x = y from by obtain ⟨p0, p1, p2, p3, p4, p5, p6, p7, p8⟩ := x; obtain ⟨q0, q1, q2, q3, q4, q5, q6, q7, q8⟩ := y; simp only [] at *; simp only [e0, e1, e2, e3, e4, e5, e6, e7, e8])
        clear e0 e1 e2 e3 e4 e5 e6 e7 e8
        go_wp2_with fail
        haveI hIq : Nonempty (Of w2) := of_some _
        have hF0 := of_cell y0
        have hG0 := of_cell z0
        have hF1 := of_cell y1
        have hG1 := of_cell z1
        have hF2 := of_cell y2
        have hG2 := of_cell z2
        have hF3 := of_cell y3
        have hG3 := of_cell z3
        have hF4 := of_cell y4
        have hG4 := of_cell z4
        have hF5 := of_cell y5
        have hG5 := of_cell z5
        have hF6 := of_cell y6
        have hG6 := of_cell z6
        have hF7 := of_cell y7
        have hG7 := of_cell z7
        have hF8 := of_cell y8
        have hG8 := of_cell z8
        first | (refine wp_region_stay w2 (by kernel_rfl) (by kernel_rfl) (by go_grown) ?_) | (refine wp_region_stay_seq w2 (by go_grown) ?_)
        repeat (go_big_quiet_step (fail))
        refine wpQuiet_nil ?_
        intro w6 hb6
        have HB6 := Lib.hid (ext_trans HB2.out hb6)
        clear hIq hF0 hG0 hF1 hG1 hF2 hG2 hF3 hG3 hF4 hG4 hF5 hG5 hF6 hG6 hF7 hG7 hF8 hG8 hb6
        have HTJ := Lib.hid (show xs.take (J + 1) = ys.take (J + 1) from by rw [List.take_add_one, List.take_add_one, HTK.out, HX.out, HY.out, HXY.out])
        go_wp2
        go_roundw
        case rel => exact ⟨J + 1, by omega, by go_num, HTJ.out, HB6.out⟩
        case measure => simp [intOf]; omega

end Go.Proofs.YtfdalmodnkkfiaaDoor
