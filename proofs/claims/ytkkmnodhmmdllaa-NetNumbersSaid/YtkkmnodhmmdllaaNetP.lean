/- Package net's walks: a letter is laid last. -/
import Derived.Test.YtkkmnodhmmdllaaNetD
namespace Go.Proofs.Ytkkmnodhmmdllaa
open Go.RowKit
set_option linter.unusedVariables false

theorem Rim.blk {b k : Nat} {w w' : World} {o : Obj} (h : Rim b w w') (hk : k ≠ b) (hc : w.heap[k]? = some o) : w'.heap[k]? = some o := by
  have hl : k < w.heap.size := by
    rcases Nat.lt_or_ge k w.heap.size with h' | h'
    · exact h'
    · rw [Array.getElem?_eq_none h'] at hc; cases hc
  exact (h.block k hk hl).trans hc
theorem NetB.ne {w : World} {nb nodes k : Nat} {v : Value} {p : List Bool} (h : NetB w nb nodes v p) {cur : Array Value} {T : TypeId} (hT : T ≠ 59) (hc : w.heap[k]? = some (.cells cur T (0, 0))) : k ≠ nb := by
  intro e
  subst e
  have h1 := h.blk
  rw [hc] at h1
  simp only [Option.some.injEq, Obj.cells.injEq] at h1
  exact hT h1.2.1
theorem own_rim {w w' : World} {nb nodes base size n : Nat} {v v' : Value} {p : List Bool} {T : TypeId} {xs : List Value} (h : NetB w nb nodes v p) (hr : Rim nb w w') (hT : T ≠ 59) (ho : w.ownsRow base T size v' n xs) : w'.ownsRow base T size v' n xs :=
  own_blocks ho (fun b cur hc => hr.block b (h.ne hT hc) (blk_lt hc))
theorem own_nb {w : World} {nb nodes base size n : Nat} {v v' : Value} {p : List Bool} {T : TypeId} {xs : List Value} (h : NetB w nb nodes v p) (hT : T ≠ 59) (ho : w.ownsRow base T size v' n xs) : some nb ≠ v'.ownBlock := own_ne ho h.blk (fun e => hT e.symm)

theorem own_form {w : World} {base size n : Nat} {e : TypeId} {v : Value} {vs : List Value} (h : w.ownsRow base e size v n vs) : ∃ a n c, v = .slice a n c := by
  rcases h.2 with ⟨e, _⟩ | ⟨g, cp, cur, e, _⟩
  · exact ⟨_, _, _, e⟩
  · exact ⟨_, _, _, e⟩
set_option maxRecDepth 100000 in
set_option maxHeartbeats 8000000 in
theorem netPut (nb nodes : Nat) (a : Option Addr) (n c : Nat) (ls : List Lt) (l : Lt) (p : List Bool) (w : World) (h : NetB w nb nodes (.slice a n c) p) (ho : OwnL 0 w (.slice a n c) ls) (hl : ls.length = n) (hn : n < 64) :
    Calls Try.prog 25 #[.pointer (some ⟨nb, 0, none⟩), .agg #[.int .i64 l.f, .int .i64 l.t, .slice l.a l.n l.c]] w fun e w' => e = .returned (.int .i64 0) ∧ (∃ v, NetB w' nb nodes v p ∧ OwnL 0 w' v (ls ++ [l])) ∧ Rim nb w w' := by
  obtain ⟨i0, hi, hz0, hz1, hz2⟩ := info_parts info_letter
  have HN := Lib.hid hl
  have hlt := h.lt
  have D0 : Below w.heap.size w (w.alloc (.cells #[.int .i64 l.f, .int .i64 l.t, .slice l.a l.n l.c] 34)) := (Below.refl _ _).alloc (Nat.le_refl _) _
  have HB := Lib.hid (h.ext D0)
  have HOL := Lib.hid (ho.ext D0)
  have HX := Lib.hid (blk_new w #[.int .i64 l.f, .int .i64 l.t, .slice l.a l.n l.c] 34)
  have hd : decide (64 ≤ (n : Int)) = false := by simp; omega
  have hc1 := HB.out.c1
  have hl1 := HB.out.lt
  clear h ho hl
  go_enter Try.func25, Try.ntmps25
  go_wp2_with fail
  obtain ⟨s, hs⟩ : ∃ s, w.heap.size = s := ⟨_, rfl⟩
  have HS := Lib.hid hs
  rw [hs] at HX ⊢
  generalize (w.alloc (.cells #[.int .i64 l.f, .int .i64 l.t, .slice l.a l.n l.c] 34)) = w1 at *
  have Z1 := D0.size
  have hsn : s ≠ nb := HB.out.ne (by decide) HX.out
  clear hs hc1 hl1
  refine wp_region_inv_eq (J := fun A d act x => ∃ u11 u12 u13 u14 u15 u16 u17 u18 u19 u20 u21 : Value, act = (((((((((((A.put (some 11) u11).put (some 12) u12).put (some 13) u13).put (some 14) u14).put (some 15) u15).put (some 16) u16).put (some 17) u17).put (some 18) u18).put (some 19) u19).put (some 20) u20).put (some 21) u21) ∧ (d 0 = true → u11 = .pointer (some ⟨nb, 0, none⟩)) ∧ (d 1 = true → u12 = .pointer (some ⟨nb, 0, none⟩)) ∧ (d 2 = true → u13 = .pointer (some ⟨nb, 0, none⟩)) ∧ (d 3 = true → u14 = .pointer (some ⟨nb, 1, none⟩)) ∧ (d 4 = true → u15 = .slice a n c) ∧ (d 5 = true → (d 8 = false → x.ownsRow w1.heap.size 34 3 u16 n (lf ls))) ∧ (d 6 = true → u17 = .agg #[.int .i64 l.f, .int .i64 l.t, .slice l.a l.n l.c]) ∧ (d 7 = true → (d 8 = false → ∃ b : Nat, u18 = .slice (some ⟨b, 0, none⟩) 1 1 ∧ x.heap[b]? = some (.cells #[.int .i64 l.f, .int .i64 l.t, .slice l.a l.n l.c] 34 (0, 0)))) ∧ (d 8 = true → x.ownsRow w1.heap.size 34 3 u19 (n + 1) (lf (ls ++ [l]))) ∧ (d 9 = true → u20 = .pointer (some ⟨nb, 0, none⟩)) ∧ (d 10 = true → u21 = .pointer (some ⟨nb, 1, none⟩)) ∧ (d 11 = true → NetB x nb nodes u19 p) ∧ Rim nb w1 x ∧ (d 11 = false → NetB x nb nodes (.slice a n c) p) ∧ (d 11 = true → d 8 = true ∧ d 4 = true) ∧ (d 5 = true → d 4 = true)) (by simp only [Act.put, List.setIfInBounds_toArray, List.set_cons_succ, List.set_cons_zero]; rfl) (by kernel_rfl) (by kernel_rfl) ?_ ?_ ?_
  · refine ⟨_, _, _, _, _, _, _, _, _, _, _, rfl, ?_, ?_, ?_, ?_, ?_, ?_, ?_, ?_, ?_, ?_, ?_, ?_, ?_, ?_, ?_, ?_⟩
    · intro h; cases h
    · intro h; cases h
    · intro h; cases h
    · intro h; cases h
    · intro h; cases h
    · intro h; cases h
    · intro h; cases h
    · intro h; cases h
    · intro h; cases h
    · intro h; cases h
    · intro h; cases h
    · intro h; cases h
    · exact Rim.of ((Below.refl _ _).drew)
    · exact (fun _ => blk_drew HB.out)
    · exact (fun h => by cases h)
    · exact (fun h => by cases h)
  · refine stepsOk_cons (k := 0) ?_ (stepsOk_cons (k := 1) ?_ (stepsOk_cons (k := 2) ?_ (stepsOk_cons (k := 3) ?_ (stepsOk_cons (k := 4) ?_ (stepsOk_cons (k := 5) ?_ (stepsOk_cons (k := 6) ?_ (stepsOk_cons (k := 7) ?_ (stepsOk_cons (k := 8) ?_ (stepsOk_cons (k := 9) ?_ (stepsOk_cons (k := 10) ?_ (stepsOk_cons (k := 11) ?_ stepsOk_nil)))))))))))
    · unfold StepOk
      rintro d act x ⟨u11, u12, u13, u14, u15, u16, u17, u18, u19, u20, u21, rfl, f0, f1, f2, f3, f4, f5, f6, f7, f8, f9, f10, f11, g0, g1, g2, g3⟩ hd hdep Kc hKc
      rw [if_pos (by rfl)]
      go_big_op
      refine hKc _ _ ⟨_, _, _, _, _, _, _, _, _, _, _, rfl, ?_, ?_, ?_, ?_, ?_, ?_, ?_, ?_, ?_, ?_, ?_, ?_, ?_, ?_, ?_, ?_⟩
      · exact (fun _ => rfl)
      · exact (fun h => f1 (up h rfl))
      · exact (fun h => f2 (up h rfl))
      · exact (fun h => f3 (up h rfl))
      · exact (fun h => f4 (up h rfl))
      · exact (fun h h5 => f5 (up h rfl) (dn h5))
      · exact (fun h => f6 (up h rfl))
      · exact (fun h h5 => f7 (up h rfl) (dn h5))
      · exact (fun h => f8 (up h rfl))
      · exact (fun h => f9 (up h rfl))
      · exact (fun h => f10 (up h rfl))
      · exact (fun h => f11 (up h rfl))
      · exact g0
      · exact (fun h => g1 (dn h))
      · exact (fun h => ⟨upl (g2 (up h rfl)).1, upl (g2 (up h rfl)).2⟩)
      · exact (fun h => upl (g3 (up h rfl)))
    · unfold StepOk
      rintro d act x ⟨u11, u12, u13, u14, u15, u16, u17, u18, u19, u20, u21, rfl, f0, f1, f2, f3, f4, f5, f6, f7, f8, f9, f10, f11, g0, g1, g2, g3⟩ hd hdep Kc hKc
      rw [if_pos (by rfl)]
      go_big_op
      refine hKc _ _ ⟨_, _, _, _, _, _, _, _, _, _, _, rfl, ?_, ?_, ?_, ?_, ?_, ?_, ?_, ?_, ?_, ?_, ?_, ?_, ?_, ?_, ?_, ?_⟩
      · exact (fun h => f0 (up h rfl))
      · exact (fun _ => rfl)
      · exact (fun h => f2 (up h rfl))
      · exact (fun h => f3 (up h rfl))
      · exact (fun h => f4 (up h rfl))
      · exact (fun h h5 => f5 (up h rfl) (dn h5))
      · exact (fun h => f6 (up h rfl))
      · exact (fun h h5 => f7 (up h rfl) (dn h5))
      · exact (fun h => f8 (up h rfl))
      · exact (fun h => f9 (up h rfl))
      · exact (fun h => f10 (up h rfl))
      · exact (fun h => f11 (up h rfl))
      · exact g0
      · exact (fun h => g1 (dn h))
      · exact (fun h => ⟨upl (g2 (up h rfl)).1, upl (g2 (up h rfl)).2⟩)
      · exact (fun h => upl (g3 (up h rfl)))
    · unfold StepOk
      rintro d act x ⟨u11, u12, u13, u14, u15, u16, u17, u18, u19, u20, u21, rfl, f0, f1, f2, f3, f4, f5, f6, f7, f8, f9, f10, f11, g0, g1, g2, g3⟩ hd hdep Kc hKc
      have hd1 : d 1 = true := hdep ⟨1, .data⟩ (by simp) rfl
      obtain rfl := f1 hd1
      rw [if_pos (by rfl)]
      go_big_op
      refine hKc _ _ ⟨_, _, _, _, _, _, _, _, _, _, _, rfl, ?_, ?_, ?_, ?_, ?_, ?_, ?_, ?_, ?_, ?_, ?_, ?_, ?_, ?_, ?_, ?_⟩
      · exact (fun h => f0 (up h rfl))
      · exact (fun h => f1 (up h rfl))
      · exact (fun _ => rfl)
      · exact (fun h => f3 (up h rfl))
      · exact (fun h => f4 (up h rfl))
      · exact (fun h h5 => f5 (up h rfl) (dn h5))
      · exact (fun h => f6 (up h rfl))
      · exact (fun h h5 => f7 (up h rfl) (dn h5))
      · exact (fun h => f8 (up h rfl))
      · exact (fun h => f9 (up h rfl))
      · exact (fun h => f10 (up h rfl))
      · exact (fun h => f11 (up h rfl))
      · exact g0
      · exact (fun h => g1 (dn h))
      · exact (fun h => ⟨upl (g2 (up h rfl)).1, upl (g2 (up h rfl)).2⟩)
      · exact (fun h => upl (g3 (up h rfl)))
    · unfold StepOk
      rintro d act x ⟨u11, u12, u13, u14, u15, u16, u17, u18, u19, u20, u21, rfl, f0, f1, f2, f3, f4, f5, f6, f7, f8, f9, f10, f11, g0, g1, g2, g3⟩ hd hdep Kc hKc
      have hd2 : d 2 = true := hdep ⟨2, .data⟩ (by simp) rfl
      obtain rfl := f2 hd2
      rw [if_pos (by rfl)]
      go_big_op
      refine hKc _ _ ⟨_, _, _, _, _, _, _, _, _, _, _, rfl, ?_, ?_, ?_, ?_, ?_, ?_, ?_, ?_, ?_, ?_, ?_, ?_, ?_, ?_, ?_, ?_⟩
      · exact (fun h => f0 (up h rfl))
      · exact (fun h => f1 (up h rfl))
      · exact (fun h => f2 (up h rfl))
      · exact (fun _ => rfl)
      · exact (fun h => f4 (up h rfl))
      · exact (fun h h5 => f5 (up h rfl) (dn h5))
      · exact (fun h => f6 (up h rfl))
      · exact (fun h h5 => f7 (up h rfl) (dn h5))
      · exact (fun h => f8 (up h rfl))
      · exact (fun h => f9 (up h rfl))
      · exact (fun h => f10 (up h rfl))
      · exact (fun h => f11 (up h rfl))
      · exact g0
      · exact (fun h => g1 (dn h))
      · exact (fun h => ⟨upl (g2 (up h rfl)).1, upl (g2 (up h rfl)).2⟩)
      · exact (fun h => upl (g3 (up h rfl)))
    · unfold StepOk
      rintro d act x ⟨u11, u12, u13, u14, u15, u16, u17, u18, u19, u20, u21, rfl, f0, f1, f2, f3, f4, f5, f6, f7, f8, f9, f10, f11, g0, g1, g2, g3⟩ hd hdep Kc hKc
      have hd3 : d 3 = true := hdep ⟨3, .data⟩ (by simp) rfl
      obtain rfl := f3 hd3
      have n11 : d 11 = false := by
        cases h11 : d 11 with
        | false => rfl
        | true => have h8 := (g2 h11).2; rw [hd] at h8; cases h8
      have hx := (g1 n11).c1
      rw [if_pos (by rfl)]
      go_big_op
      refine hKc _ _ ⟨_, _, _, _, _, _, _, _, _, _, _, rfl, ?_, ?_, ?_, ?_, ?_, ?_, ?_, ?_, ?_, ?_, ?_, ?_, ?_, ?_, ?_, ?_⟩
      · exact (fun h => f0 (up h rfl))
      · exact (fun h => f1 (up h rfl))
      · exact (fun h => f2 (up h rfl))
      · exact (fun h => f3 (up h rfl))
      · exact (fun _ => rfl)
      · exact (fun h h5 => f5 (up h rfl) (dn h5))
      · exact (fun h => f6 (up h rfl))
      · exact (fun h h5 => f7 (up h rfl) (dn h5))
      · exact (fun h => f8 (up h rfl))
      · exact (fun h => f9 (up h rfl))
      · exact (fun h => f10 (up h rfl))
      · exact (fun h => f11 (up h rfl))
      · exact g0
      · exact (fun h => g1 (dn h))
      · exact (fun h => ⟨upl (g2 (up h rfl)).1, upl (g2 (up h rfl)).2⟩)
      · exact (fun h => upl (g3 (up h rfl)))
    · unfold StepOk
      rintro d act x ⟨u11, u12, u13, u14, u15, u16, u17, u18, u19, u20, u21, rfl, f0, f1, f2, f3, f4, f5, f6, f7, f8, f9, f10, f11, g0, g1, g2, g3⟩ hd hdep Kc hKc
      have hd4 : d 4 = true := hdep ⟨4, .data⟩ (by simp) rfl
      obtain rfl := f4 hd4
      rw [if_pos (by rfl)]
      go_big_op
      refine (cloneL (.slice a n c) ls _ (own_rim HB.out g0 (by decide) HOL.out) (by have := HN.out; omega)).mono ?_
      rintro e x1 ⟨cv, rfl, hcv, hbl⟩
      have hcv' := ownsRow_base hcv g0.size
      rw [HN.out] at hcv'
      refine hKc _ _ ⟨_, _, _, _, _, _, _, _, _, _, _, rfl, ?_, ?_, ?_, ?_, ?_, ?_, ?_, ?_, ?_, ?_, ?_, ?_, ?_, ?_, ?_, ?_⟩
      · exact (fun h => f0 (up h rfl))
      · exact (fun h => f1 (up h rfl))
      · exact (fun h => f2 (up h rfl))
      · exact (fun h => f3 (up h rfl))
      · exact (fun h => f4 (up h rfl))
      · exact (fun _ => (fun h5 => hcv'))
      · exact (fun h => f6 (up h rfl))
      · exact (fun h h5 => by obtain ⟨b, e1, e2⟩ := f7 (up h rfl) (dn h5); exact ⟨b, e1, blk_ext hbl e2⟩)
      · exact (fun h => ownsRow_ext (f8 (up h rfl)) hbl)
      · exact (fun h => f9 (up h rfl))
      · exact (fun h => f10 (up h rfl))
      · exact (fun h => NetB.ext (f11 (up h rfl)) hbl)
      · exact (g0.trans (Rim.of hbl))
      · exact (fun h => (g1 (dn h)).ext hbl)
      · exact (fun h => ⟨upl (g2 (up h rfl)).1, upl (g2 (up h rfl)).2⟩)
      · exact (fun h => upl hd4)
    · unfold StepOk
      rintro d act x ⟨u11, u12, u13, u14, u15, u16, u17, u18, u19, u20, u21, rfl, f0, f1, f2, f3, f4, f5, f6, f7, f8, f9, f10, f11, g0, g1, g2, g3⟩ hd hdep Kc hKc
      have hx := blk_cell (g0.blk hsn HX.out)
      rw [if_pos (by rfl)]
      go_big_op
      refine hKc _ _ ⟨_, _, _, _, _, _, _, _, _, _, _, rfl, ?_, ?_, ?_, ?_, ?_, ?_, ?_, ?_, ?_, ?_, ?_, ?_, ?_, ?_, ?_, ?_⟩
      · exact (fun h => f0 (up h rfl))
      · exact (fun h => f1 (up h rfl))
      · exact (fun h => f2 (up h rfl))
      · exact (fun h => f3 (up h rfl))
      · exact (fun h => f4 (up h rfl))
      · exact (fun h h5 => f5 (up h rfl) (dn h5))
      · exact (fun _ => rfl)
      · exact (fun h h5 => f7 (up h rfl) (dn h5))
      · exact (fun h => f8 (up h rfl))
      · exact (fun h => f9 (up h rfl))
      · exact (fun h => f10 (up h rfl))
      · exact (fun h => f11 (up h rfl))
      · exact g0
      · exact (fun h => g1 (dn h))
      · exact (fun h => ⟨upl (g2 (up h rfl)).1, upl (g2 (up h rfl)).2⟩)
      · exact (fun h => upl (g3 (up h rfl)))
    · unfold StepOk
      rintro d act x ⟨u11, u12, u13, u14, u15, u16, u17, u18, u19, u20, u21, rfl, f0, f1, f2, f3, f4, f5, f6, f7, f8, f9, f10, f11, g0, g1, g2, g3⟩ hd hdep Kc hKc
      have hd6 : d 6 = true := hdep ⟨6, .data⟩ (by simp) rfl
      obtain rfl := f6 hd6
      rw [if_pos (by rfl)]
      go_big_op
      refine hKc _ _ ⟨_, _, _, _, _, _, _, _, _, _, _, rfl, ?_, ?_, ?_, ?_, ?_, ?_, ?_, ?_, ?_, ?_, ?_, ?_, ?_, ?_, ?_, ?_⟩
      · exact (fun h => f0 (up h rfl))
      · exact (fun h => f1 (up h rfl))
      · exact (fun h => f2 (up h rfl))
      · exact (fun h => f3 (up h rfl))
      · exact (fun h => f4 (up h rfl))
      · exact (fun h h5 => (f5 (up h rfl) (dn h5)).alloc _)
      · exact (fun h => f6 (up h rfl))
      · exact (fun _ => (fun h5 => ⟨_, rfl, blk_new _ _ _⟩))
      · exact (fun h => (f8 (up h rfl)).alloc _)
      · exact (fun h => f9 (up h rfl))
      · exact (fun h => f10 (up h rfl))
      · exact (fun h => NetB.ext (f11 (up h rfl)) ((Below.refl _ _).alloc (Nat.le_refl _) _))
      · exact (g0.trans (Rim.of ((Below.refl _ _).alloc (Nat.le_refl _) _)))
      · exact (fun h => (g1 (dn h)).ext ((Below.refl _ _).alloc (Nat.le_refl _) _))
      · exact (fun h => ⟨upl (g2 (up h rfl)).1, upl (g2 (up h rfl)).2⟩)
      · exact (fun h => upl (g3 (up h rfl)))
    · unfold StepOk
      rintro d act x ⟨u11, u12, u13, u14, u15, u16, u17, u18, u19, u20, u21, rfl, f0, f1, f2, f3, f4, f5, f6, f7, f8, f9, f10, f11, g0, g1, g2, g3⟩ hd hdep Kc hKc
      have hd5 : d 5 = true := hdep ⟨5, .data⟩ (by simp) rfl
      have hd7 : d 7 = true := hdep ⟨7, .data⟩ (by simp) rfl
      have f5' := f5 hd5 hd
      obtain ⟨b7, rfl, hb7⟩ := f7 hd7 hd
      have n11 : d 11 = false := by
        cases h11 : d 11 with
        | false => rfl
        | true => have h8 := (g2 h11).1; rw [hd] at h8; cases h8
      rw [if_pos (by rfl)]
      refine wp_append_own _ _ _ 57 rfl (w1.heap.size) 34 i0 (.agg #[.int .i64 0, .int .i64 0, .slice none 0 0]) 3 40 Try.underlying57 hi hz0 hz1 hz2 rfl (by decide) _ _ _ rfl f5' ⟨b7, 0, none⟩ 1 1 [.int .i64 l.f, .int .i64 l.t, .slice l.a l.n l.c] rfl rfl ?c1 ?c2 ?c3 ?c4 ?c5 ?_
      case c1 =>
        intro j' u hj'
        match j', hj' with
        | 0, hj' => simp at hj'; subst hj'; simpa [Addr.add] using blk_cell hb7 0
        | 1, hj' => simp at hj'; subst hj'; simpa [Addr.add] using blk_cell hb7 1
        | 2, hj' => simp at hj'; subst hj'; simpa [Addr.add] using blk_cell hb7 2
      case c2 => intro u hu; simp at hu; rcases hu with rfl | rfl | rfl <;> rfl
      case c3 => unfold maxLen; omega
      case c4 => omega
      case c5 => exact g0.size
      intro v' x1 hown' hgrow _
      have hr8 : Rim nb w1 x1 := ⟨hgrow.os.trans g0.os, hgrow.tape.trans g0.tape, hgrow.output.trans g0.output, Nat.le_trans g0.size hgrow.size, fun q hq hl => (hgrow.block q (Nat.lt_of_lt_of_le hl g0.size) (fun e => absurd (own_ge f5' e.symm) (by omega))).trans (g0.block q hq hl)⟩
      refine hKc _ _ ⟨_, _, _, _, _, _, _, _, _, _, _, rfl, ?_, ?_, ?_, ?_, ?_, ?_, ?_, ?_, ?_, ?_, ?_, ?_, ?_, ?_, ?_, ?_⟩
      · exact (fun h => f0 (up h rfl))
      · exact (fun h => f1 (up h rfl))
      · exact (fun h => f2 (up h rfl))
      · exact (fun h => f3 (up h rfl))
      · exact (fun h => f4 (up h rfl))
      · exact (fun h h5 => by simp at h5)
      · exact (fun h => f6 (up h rfl))
      · exact (fun h h5 => by simp at h5)
      · exact (fun _ => (by rw [lf_snoc]; exact hown'))
      · exact (fun h => f9 (up h rfl))
      · exact (fun h => f10 (up h rfl))
      · exact (fun h => by have := (g2 (up h rfl)).1; rw [hd] at this; cases this)
      · exact hr8
      · exact (fun h => (hgrow.block nb (g1 (dn h)).lt (own_nb (g1 (dn h)) (by decide) f5')).trans (g1 (dn h)))
      · exact (fun h => ⟨by simp, upl (g3 hd5)⟩)
      · exact (fun h => upl (g3 (up h rfl)))
    · unfold StepOk
      rintro d act x ⟨u11, u12, u13, u14, u15, u16, u17, u18, u19, u20, u21, rfl, f0, f1, f2, f3, f4, f5, f6, f7, f8, f9, f10, f11, g0, g1, g2, g3⟩ hd hdep Kc hKc
      have hd0 : d 0 = true := hdep ⟨0, .data⟩ (by simp) rfl
      have hd0 : d 0 = true := hdep ⟨0, .phase⟩ (by simp) rfl
      obtain rfl := f0 hd0
      rw [if_pos (by rfl)]
      go_big_op
      refine hKc _ _ ⟨_, _, _, _, _, _, _, _, _, _, _, rfl, ?_, ?_, ?_, ?_, ?_, ?_, ?_, ?_, ?_, ?_, ?_, ?_, ?_, ?_, ?_, ?_⟩
      · exact (fun h => f0 (up h rfl))
      · exact (fun h => f1 (up h rfl))
      · exact (fun h => f2 (up h rfl))
      · exact (fun h => f3 (up h rfl))
      · exact (fun h => f4 (up h rfl))
      · exact (fun h h5 => f5 (up h rfl) (dn h5))
      · exact (fun h => f6 (up h rfl))
      · exact (fun h h5 => f7 (up h rfl) (dn h5))
      · exact (fun h => f8 (up h rfl))
      · exact (fun _ => rfl)
      · exact (fun h => f10 (up h rfl))
      · exact (fun h => f11 (up h rfl))
      · exact g0
      · exact (fun h => g1 (dn h))
      · exact (fun h => ⟨upl (g2 (up h rfl)).1, upl (g2 (up h rfl)).2⟩)
      · exact (fun h => upl (g3 (up h rfl)))
    · unfold StepOk
      rintro d act x ⟨u11, u12, u13, u14, u15, u16, u17, u18, u19, u20, u21, rfl, f0, f1, f2, f3, f4, f5, f6, f7, f8, f9, f10, f11, g0, g1, g2, g3⟩ hd hdep Kc hKc
      have hd9 : d 9 = true := hdep ⟨9, .data⟩ (by simp) rfl
      obtain rfl := f9 hd9
      rw [if_pos (by rfl)]
      go_big_op
      refine hKc _ _ ⟨_, _, _, _, _, _, _, _, _, _, _, rfl, ?_, ?_, ?_, ?_, ?_, ?_, ?_, ?_, ?_, ?_, ?_, ?_, ?_, ?_, ?_, ?_⟩
      · exact (fun h => f0 (up h rfl))
      · exact (fun h => f1 (up h rfl))
      · exact (fun h => f2 (up h rfl))
      · exact (fun h => f3 (up h rfl))
      · exact (fun h => f4 (up h rfl))
      · exact (fun h h5 => f5 (up h rfl) (dn h5))
      · exact (fun h => f6 (up h rfl))
      · exact (fun h h5 => f7 (up h rfl) (dn h5))
      · exact (fun h => f8 (up h rfl))
      · exact (fun h => f9 (up h rfl))
      · exact (fun _ => rfl)
      · exact (fun h => f11 (up h rfl))
      · exact g0
      · exact (fun h => g1 (dn h))
      · exact (fun h => ⟨upl (g2 (up h rfl)).1, upl (g2 (up h rfl)).2⟩)
      · exact (fun h => upl (g3 (up h rfl)))
    · unfold StepOk
      rintro d act x ⟨u11, u12, u13, u14, u15, u16, u17, u18, u19, u20, u21, rfl, f0, f1, f2, f3, f4, f5, f6, f7, f8, f9, f10, f11, g0, g1, g2, g3⟩ hd hdep Kc hKc
      have hd10 : d 10 = true := hdep ⟨10, .data⟩ (by simp) rfl
      obtain rfl := f10 hd10
      have hd8 : d 8 = true := hdep ⟨8, .data⟩ (by simp) rfl
      have hd4 : d 4 = true := hdep ⟨4, .phase⟩ (by simp) rfl
      have f8' := f8 hd8
      obtain ⟨aa, N, cc, e24⟩ := own_form f8'
      subst e24
      have hbc := (g1 hd).c1
      have hbf := blk_free (g1 hd).blk
      have hbl2 := (g1 hd).lt
      rw [if_pos (by rfl)]
      go_big_op
      have hkp : Kept nb x (x.setCell ⟨nb, 1, none⟩ (.slice aa N cc)) := (Kept.refl _ _).setCell _ _
      have RB : NetB (x.setCell ⟨nb, 1, none⟩ (.slice aa N cc)) nb nodes (.slice aa N cc) p := (g1 hd).row _ rfl
      have F8 : (x.setCell ⟨nb, 1, none⟩ (.slice aa N cc)).ownsRow w1.heap.size 34 3 (.slice aa N cc) (n + 1) (lf (ls ++ [l])) := ownsRow_keep f8' hkp (own_nb (g1 hd) (by decide) f8')
      generalize (x.setCell ⟨nb, 1, none⟩ (.slice aa N cc)) = X at *
      refine hKc _ _ ⟨_, _, _, _, _, _, _, _, _, _, _, rfl, ?_, ?_, ?_, ?_, ?_, ?_, ?_, ?_, ?_, ?_, ?_, ?_, ?_, ?_, ?_, ?_⟩
      · exact (fun h => f0 (up h rfl))
      · exact (fun h => f1 (up h rfl))
      · exact (fun h => f2 (up h rfl))
      · exact (fun h => f3 (up h rfl))
      · exact (fun h => f4 (up h rfl))
      · exact (fun h h5 => by have := dn h5; rw [hd8] at this; cases this)
      · exact (fun h => f6 (up h rfl))
      · exact (fun h h5 => by have := dn h5; rw [hd8] at this; cases this)
      · exact (fun h => F8)
      · exact (fun h => f9 (up h rfl))
      · exact (fun h => f10 (up h rfl))
      · exact (fun _ => RB)
      · exact (g0.trans (Rim.kept hkp))
      · exact (fun h => by simp at h)
      · exact (fun h => ⟨upl hd8, upl hd4⟩)
      · exact (fun h => upl (g3 (up h rfl)))
  · rintro d act x ⟨u11, u12, u13, u14, u15, u16, u17, u18, u19, u20, u21, rfl, f0, f1, f2, f3, f4, f5, f6, f7, f8, f9, f10, f11, g0, g1, g2, g3⟩ hall
    have f8' := f8 (hall 8 (by decide))
    have f11' := f11 (hall 11 (by decide))
    have HF8 := Lib.hid f8'
    have HF11 := Lib.hid f11'
    have HG0 := Lib.hid g0
    clear f0 f1 f2 f3 f4 f5 f6 f7 f8 f9 f10 f11 g0 g1 g2 g3 hall f8' f11'
    go_wp2
    go_ret
    refine ⟨rfl, ⟨_, HF11.out, ?_⟩, (Rim.of D0).trans HG0.out⟩
    have := HF8.out
    unfold OwnL
    rw [List.length_append, HN.out]
    exact ownsRow_base this (Nat.zero_le _)
end Go.Proofs.Ytkkmnodhmmdllaa
