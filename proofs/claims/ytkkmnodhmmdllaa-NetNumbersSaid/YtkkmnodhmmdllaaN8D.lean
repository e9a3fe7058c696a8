/- The document's own net: letters in and out. -/
import Derived.Test.YtkkmnodhmmdllaaN8B
import Derived.Test.YtkkmnodhmmdllaaFill
namespace Go.Proofs.Ytkkmnodhmmdllaa
open Go.RowKit
set_option linter.unusedVariables false
set_option linter.unusedSimpArgs false

set_option maxRecDepth 100000 in
set_option maxHeartbeats 4000000 in
theorem rnOutB (rb nodes b o c P : Nat) (bl : List ML) (x : ML) (p : List Bool) (w : World) (h : RNB w rb nodes (.slice (some ⟨b, o, none⟩) bl.length c) p) (hs : SAt rlc 3 50 w (some ⟨b, o, none⟩) bl) (h5 : bl.length ≤ c) (h6 : c ≤ maxLen) (hn64 : bl.length ≤ 64) (hnd : nodes ≤ 6) (hp36 : p.length = 36) (hx : bl[P]? = some x) (hcP : c = P + 1) :
    Calls Try.prog 31 #[.pointer (some ⟨rb, 0, none⟩), .int .i64 (P : Int)] w fun r w' => r = .returned (.agg #[.int .i64 x.f, .int .i64 x.t, .string (strOfNums x.xs)]) ∧ RNs w.heap.size w' rb nodes (bl.eraseIdx P) p ∧ Rim rb w w' := by
  obtain ⟨n, hl⟩ : ∃ n, bl.length = n := ⟨_, rfl⟩
  have hlt0 : P < bl.length := (List.getElem?_eq_some_iff.1 hx).1
  have HLT := Lib.hid hlt0
  have HL := Lib.hid hl
  rw [hl] at h h5 hn64 hlt0
  have HND := Lib.hid (And.intro hnd hp36)
  obtain ⟨Q, hQ⟩ : ∃ Q, Q = P + 1 := ⟨_, rfl⟩
  have HQ := Lib.hid hQ
  have HQI := Lib.hid (show (P : Int) + 1 = (Q : Int) from by omega)
  have hQn : Q ≤ n := by omega
  have hPQ : P ≤ Q := by omega
  have hQ0 : 0 < Q := by omega
  have hPn : (P : Int) ≤ (n : Int) := by omega
  have hPn2 : (P : Int) < (n : Int) := by omega
  have hQn' : (Q : Int) ≤ (n : Int) := by omega
  rw [← hQ] at hcP
  have hce : (c = Q) = True := eq_true hcP
  clear hcP
  have y0 := hs.get rlc_len hx 0 _ rfl
  have y1 := hs.get rlc_len hx 1 _ rfl
  have y2 := hs.get rlc_len hx 2 _ rfl
  simp only [Nat.add_zero] at y0
  have hbl : b < w.heap.size := cell_lt y0
  have D0 := Lib.hid (show Below w.heap.size w (w.alloc (.cells #[.int .i64 0, .int .i64 0, .string ⟨#[]⟩] 50)) from (Below.refl _ _).alloc (Nat.le_refl _) _)
  have HZ := Lib.hid (blk_new w #[.int .i64 0, .int .i64 0, .string ⟨#[]⟩] 50)
  have HX0 := Lib.hid (And.intro (ext_cell D0.out y0) (And.intro (ext_cell D0.out y1) (And.intro (ext_cell D0.out y2) (Nat.lt_of_lt_of_le hbl D0.out.size))))
  have HB1 := Lib.hid (RNB.ext h D0.out)
  have HS1 := Lib.hid (SAt.ext hs D0.out)
  have hrl := h.lt
  unfold maxLen at h6
  clear y0 y1 y2 hbl h hs hl hQ hx hnd hp36
  go_enter Try.func31, Try.ntmps31
  go_upto_region 1 with (fail)
  obtain ⟨r, hr⟩ : ∃ r, w.heap.size = r := ⟨_, rfl⟩
  have HRW0 := Lib.hid (show w.heap.size ≤ r from by omega)
  rw [hr] at HZ
  try rw [hr]
  clear hr hrl
  generalize (w.alloc (.cells #[.int .i64 0, .int .i64 0, .string ⟨#[]⟩] 50)) = w1 at *
  obtain ⟨y0, y1, y2, hbl⟩ := HX0.out
  have hc1 := HB1.out.c1
  have hl1 := HB1.out.lt
  have E2 := Lib.hid (show Below w1.heap.size w1 (w1.alloc (.cells #[.int .i64 x.f, .int .i64 x.t, .string (strOfNums x.xs)] 50)) from (Below.refl _ _).alloc (Nat.le_refl _) _)
  have HK2 := Lib.hid (blk_new w1 #[.int .i64 x.f, .int .i64 x.t, .string (strOfNums x.xs)] 50)
  go_upto_region 2 with (fail)
  obtain ⟨p5, hp5⟩ : ∃ r, w1.heap.size = r := ⟨_, rfl⟩
  rw [hp5] at HK2
  try rw [hp5]
  have HB2 := Lib.hid (HB1.out.ext E2.out)
  have HS2 := Lib.hid (SAt.ext HS1.out E2.out)
  have HZ2 := Lib.hid (blk_ext E2.out HZ.out)
  have D2 := Lib.hid (ext_trans D0.out E2.out)
  clear hp5 E2 HB1 HS1 HZ D0 y0 y1 y2 hbl hc1 hl1 HX0
  generalize (w1.alloc (.cells #[.int .i64 x.f, .int .i64 x.t, .string (strOfNums x.xs)] 50)) = w2 at *
  obtain ⟨i0, hi, hz0, hz1, hz2⟩ := info_parts2 info_rl
  obtain ⟨W0, hW0⟩ : ∃ W0, w2.drew = W0 := ⟨_, rfl⟩
  have HRW := Lib.hid (show RNB W0 rb nodes (.slice (some ⟨b, o, none⟩) n c) p from by rw [← hW0]; exact HB2.out.ext (Below.refl _ _).drew)
  have HEW := Lib.hid (show SAt rlc 3 50 W0 (some ⟨b, o, none⟩) bl from by rw [← hW0]; exact SAt.ext HS2.out (Below.refl _ _).drew)
  have HBW := Lib.hid (show Below w.heap.size w W0 from by rw [← hW0]; exact D2.out.drew)
  have HKW := Lib.hid (show W0.heap[p5]? = some (.cells #[.int .i64 x.f, .int .i64 x.t, .string (strOfNums x.xs)] 50 (0, 0)) from by rw [← hW0]; exact blk_drew HK2.out)
  have HZW := Lib.hid (show W0.heap[r]? = some (.cells #[.int .i64 0, .int .i64 0, .string ⟨#[]⟩] 50 (0, 0)) from by rw [← hW0]; exact blk_drew HZ2.out)
  have HCE := Lib.hid (show ∀ (x : World), Below W0.heap.size W0 x → ∀ q u, (flat rlc bl)[q]? = some u → x.cell? ⟨b, o + q, none⟩ = some u from fun x hb q u hq => by
    rcases SAt.ext HEW.out hb with h | ⟨b', o', e', _, h⟩
    · rw [h] at hq; simp [flat] at hq
    · simp at e'
      obtain ⟨rfl, rfl⟩ := e'
      exact h q u hq)
  have HSRC := Lib.hid (show ∀ (x : World), Below W0.heap.size W0 x → ∀ q u, (flat rlc (bl.take P))[q]? = some u → x.cell? ⟨b, o + q, none⟩ = some u from fun x hb q u hq => by
    refine HCE.out x hb q u ?_
    rw [← flat_take rlc_len] at hq
    rw [List.getElem?_take] at hq
    split at hq
    · exact hq
    · cases hq)
  have HSR2 := Lib.hid (show ∀ (x : World), Below W0.heap.size W0 x → ∀ q u, (flat rlc (bl.drop Q))[q]? = some u → x.cell? ⟨b, o + q, none⟩ = some u from fun x hb q u hq => by
    rw [List.drop_of_length_le (by rw [HL.out]; have := of_eq_true hce; omega)] at hq
    simp [flat] at hq)
  have hrbW := HRW.out.lt
  clear HB2 HS2 HK2 HZ2 D2
  go_wp2_with fail
  refine wp_region_inv_eq (J := fun A d act x0 => ∃ u13 u14 u15 u16 u17 u18 u19 u20 u21 u22 u23 u24 u25 u26 u27 u28 u29 u30 u31 : Value, act = (((((((((((((((((((A.put (some 13) u13).put (some 14) u14).put (some 15) u15).put (some 16) u16).put (some 17) u17).put (some 18) u18).put (some 19) u19).put (some 20) u20).put (some 21) u21).put (some 22) u22).put (some 23) u23).put (some 24) u24).put (some 25) u25).put (some 26) u26).put (some 27) u27).put (some 28) u28).put (some 29) u29).put (some 30) u30).put (some 31) u31) ∧ (d 0 = true → u13 = .pointer (some ⟨rb, 0, none⟩)) ∧ (d 1 = true → (d 8 = false → ∃ b1 : Nat, u14 = .slice (some ⟨b1, 0, none⟩) 0 0 ∧ x0.heap[b1]? = some (.cells #[] 50 (0, 0)) ∧ W0.heap.size ≤ b1)) ∧ (d 2 = true → u15 = .pointer (some ⟨rb, 0, none⟩)) ∧ (d 3 = true → u16 = .pointer (some ⟨rb, 0, none⟩)) ∧ (d 4 = true → u17 = .pointer (some ⟨rb, 1, none⟩)) ∧ (d 5 = true → u18 = .slice (some ⟨b, o, none⟩) n c) ∧ (d 6 = true → u19 = .int .i64 (P : Int)) ∧ (d 7 = true → u20 = .slice (some ⟨b, o, none⟩) P c) ∧ (d 8 = true → (d 16 = false → x0.ownsRow W0.heap.size 50 3 u21 P (flat rlc (bl.take P)))) ∧ (d 9 = true → u22 = .pointer (some ⟨rb, 0, none⟩)) ∧ (d 10 = true → u23 = .pointer (some ⟨rb, 0, none⟩)) ∧ (d 11 = true → u24 = .pointer (some ⟨rb, 1, none⟩)) ∧ (d 12 = true → u25 = .slice (some ⟨b, o, none⟩) n c) ∧ (d 13 = true → u26 = .int .i64 (P : Int)) ∧ (d 14 = true → u27 = .int .i64 (Q : Int)) ∧ (d 15 = true → u28 = .slice (some ⟨b, o, none⟩) (n - Q) (c - Q)) ∧ (d 16 = true → (d 19 = false → ∃ (a' : Option Addr) (c' : Nat), u29 = .slice a' (n - 1) c' ∧ OwnRL W0.heap.size x0 (.slice a' (n - 1) c') (bl.eraseIdx P))) ∧ (d 17 = true → u30 = .pointer (some ⟨rb, 0, none⟩)) ∧ (d 18 = true → u31 = .pointer (some ⟨rb, 1, none⟩)) ∧ (d 19 = true → (∃ (v : Value) (y : World), x0 = y.setCell ⟨rb, 1, none⟩ v ∧ Below W0.heap.size W0 y ∧ OwnRL W0.heap.size y v (bl.eraseIdx P))) ∧ (d 19 = false → Below W0.heap.size W0 x0) ∧ (d 16 = true → d 8 = true) ∧ (d 19 = true → ∀ i : Nat, i < 17 → d i = true)) (by simp only [Act.put, List.setIfInBounds_toArray, List.set_cons_succ, List.set_cons_zero]; rfl) (by kernel_rfl) (by kernel_rfl) ?_ ?_ ?_
  · refine ⟨_, _, _, _, _, _, _, _, _, _, _, _, _, _, _, _, _, _, _, rfl, ?_, ?_, ?_, ?_, ?_, ?_, ?_, ?_, ?_, ?_, ?_, ?_, ?_, ?_, ?_, ?_, ?_, ?_, ?_, ?_, ?_, ?_, ?_⟩
    · intro h; cases h
    · intro h; cases h
    · intro h; cases h
    · intro h; cases h
    · intro h; cases h
    · intro h; cases h
    · intro h; cases h
    · intro h; cases h
    · intro h; cases h
    · intro h; cases h
    · intro h; cases h
    · intro h; cases h
    · intro h; cases h
    · intro h; cases h
    · intro h; cases h
    · intro h; cases h
    · intro h; cases h
    · intro h; cases h
    · intro h; cases h
    · intro h; cases h
    · exact (fun _ => by rw [← hW0]; exact (Below.refl _ _))
    · exact (fun h => by cases h)
    · exact (fun h => by cases h)
  · refine stepsOk_cons (k := 0) ?_ (stepsOk_cons (k := 1) ?_ (stepsOk_cons (k := 2) ?_ (stepsOk_cons (k := 3) ?_ (stepsOk_cons (k := 4) ?_ (stepsOk_cons (k := 5) ?_ (stepsOk_cons (k := 6) ?_ (stepsOk_cons (k := 7) ?_ (stepsOk_cons (k := 8) ?_ (stepsOk_cons (k := 9) ?_ (stepsOk_cons (k := 10) ?_ (stepsOk_cons (k := 11) ?_ (stepsOk_cons (k := 12) ?_ (stepsOk_cons (k := 13) ?_ (stepsOk_cons (k := 14) ?_ (stepsOk_cons (k := 15) ?_ (stepsOk_cons (k := 16) ?_ (stepsOk_cons (k := 17) ?_ (stepsOk_cons (k := 18) ?_ (stepsOk_cons (k := 19) ?_ stepsOk_nil)))))))))))))))))))
    · unfold StepOk
      rintro d act x0 ⟨u13, u14, u15, u16, u17, u18, u19, u20, u21, u22, u23, u24, u25, u26, u27, u28, u29, u30, u31, rfl, f0, f1, f2, f3, f4, f5, f6, f7, f8, f9, f10, f11, f12, f13, f14, f15, f16, f17, f18, f19, g0, g1, g2⟩ hd hdep Kc hKc
      rw [if_pos (by rfl)]
      go_big_op
      refine hKc _ _ ⟨_, _, _, _, _, _, _, _, _, _, _, _, _, _, _, _, _, _, _, rfl, ?_, ?_, ?_, ?_, ?_, ?_, ?_, ?_, ?_, ?_, ?_, ?_, ?_, ?_, ?_, ?_, ?_, ?_, ?_, ?_, ?_, ?_, ?_⟩
      · exact (fun _ => rfl)
      · exact (fun h h5 => f1 (up h rfl) (dn h5))
      · exact (fun h => f2 (up h rfl))
      · exact (fun h => f3 (up h rfl))
      · exact (fun h => f4 (up h rfl))
      · exact (fun h => f5 (up h rfl))
      · exact (fun h => f6 (up h rfl))
      · exact (fun h => f7 (up h rfl))
      · exact (fun h h5 => f8 (up h rfl) (dn h5))
      · exact (fun h => f9 (up h rfl))
      · exact (fun h => f10 (up h rfl))
      · exact (fun h => f11 (up h rfl))
      · exact (fun h => f12 (up h rfl))
      · exact (fun h => f13 (up h rfl))
      · exact (fun h => f14 (up h rfl))
      · exact (fun h => f15 (up h rfl))
      · exact (fun h h5 => f16 (up h rfl) (dn h5))
      · exact (fun h => f17 (up h rfl))
      · exact (fun h => f18 (up h rfl))
      · exact (fun h => f19 (up h rfl))
      · exact (fun h => g0 (dn h))
      · exact (fun h => upl (g1 (up h rfl)))
      · exact (fun h i hi => upl (g2 (up h rfl) i hi))
    · unfold StepOk
      rintro d act x0 ⟨u13, u14, u15, u16, u17, u18, u19, u20, u21, u22, u23, u24, u25, u26, u27, u28, u29, u30, u31, rfl, f0, f1, f2, f3, f4, f5, f6, f7, f8, f9, f10, f11, f12, f13, f14, f15, f16, f17, f18, f19, g0, g1, g2⟩ hd hdep Kc hKc
      have h19 : d 19 = false := by
        cases h : d 19 with
        | false => rfl
        | true => have := g2 h 1 (by omega); rw [hd] at this; cases this
      have B0 := g0 h19
      rw [if_pos (by rfl)]
      go_big_op
      refine hKc _ _ ⟨_, _, _, _, _, _, _, _, _, _, _, _, _, _, _, _, _, _, _, rfl, ?_, ?_, ?_, ?_, ?_, ?_, ?_, ?_, ?_, ?_, ?_, ?_, ?_, ?_, ?_, ?_, ?_, ?_, ?_, ?_, ?_, ?_, ?_⟩
      · exact (fun h => f0 (up h rfl))
      · exact (fun _ => (fun h5 => ⟨_, rfl, blk_new _ _ _, B0.size⟩))
      · exact (fun h => f2 (up h rfl))
      · exact (fun h => f3 (up h rfl))
      · exact (fun h => f4 (up h rfl))
      · exact (fun h => f5 (up h rfl))
      · exact (fun h => f6 (up h rfl))
      · exact (fun h => f7 (up h rfl))
      · exact (fun h h5 => (f8 (up h rfl) (dn h5)).alloc _)
      · exact (fun h => f9 (up h rfl))
      · exact (fun h => f10 (up h rfl))
      · exact (fun h => f11 (up h rfl))
      · exact (fun h => f12 (up h rfl))
      · exact (fun h => f13 (up h rfl))
      · exact (fun h => f14 (up h rfl))
      · exact (fun h => f15 (up h rfl))
      · exact (fun h h5 => by obtain ⟨a', c', e1, e2⟩ := f16 (up h rfl) (dn h5); exact ⟨a', c', e1, OwnR.ext e2 ((Below.refl _ _).alloc (Nat.le_refl _) _)⟩)
      · exact (fun h => f17 (up h rfl))
      · exact (fun h => f18 (up h rfl))
      · exact (fun h => absurd (up h rfl) (by rw [h19]; simp))
      · exact (fun _ => B0.alloc B0.size _)
      · exact (fun h => upl (g1 (up h rfl)))
      · exact (fun h i hi => upl (g2 (up h rfl) i hi))
    · unfold StepOk
      rintro d act x0 ⟨u13, u14, u15, u16, u17, u18, u19, u20, u21, u22, u23, u24, u25, u26, u27, u28, u29, u30, u31, rfl, f0, f1, f2, f3, f4, f5, f6, f7, f8, f9, f10, f11, f12, f13, f14, f15, f16, f17, f18, f19, g0, g1, g2⟩ hd hdep Kc hKc
      rw [if_pos (by rfl)]
      go_big_op
      refine hKc _ _ ⟨_, _, _, _, _, _, _, _, _, _, _, _, _, _, _, _, _, _, _, rfl, ?_, ?_, ?_, ?_, ?_, ?_, ?_, ?_, ?_, ?_, ?_, ?_, ?_, ?_, ?_, ?_, ?_, ?_, ?_, ?_, ?_, ?_, ?_⟩
      · exact (fun h => f0 (up h rfl))
      · exact (fun h h5 => f1 (up h rfl) (dn h5))
      · exact (fun _ => rfl)
      · exact (fun h => f3 (up h rfl))
      · exact (fun h => f4 (up h rfl))
      · exact (fun h => f5 (up h rfl))
      · exact (fun h => f6 (up h rfl))
      · exact (fun h => f7 (up h rfl))
      · exact (fun h h5 => f8 (up h rfl) (dn h5))
      · exact (fun h => f9 (up h rfl))
      · exact (fun h => f10 (up h rfl))
      · exact (fun h => f11 (up h rfl))
      · exact (fun h => f12 (up h rfl))
      · exact (fun h => f13 (up h rfl))
      · exact (fun h => f14 (up h rfl))
      · exact (fun h => f15 (up h rfl))
      · exact (fun h h5 => f16 (up h rfl) (dn h5))
      · exact (fun h => f17 (up h rfl))
      · exact (fun h => f18 (up h rfl))
      · exact (fun h => f19 (up h rfl))
      · exact (fun h => g0 (dn h))
      · exact (fun h => upl (g1 (up h rfl)))
      · exact (fun h i hi => upl (g2 (up h rfl) i hi))
    · unfold StepOk
      rintro d act x0 ⟨u13, u14, u15, u16, u17, u18, u19, u20, u21, u22, u23, u24, u25, u26, u27, u28, u29, u30, u31, rfl, f0, f1, f2, f3, f4, f5, f6, f7, f8, f9, f10, f11, f12, f13, f14, f15, f16, f17, f18, f19, g0, g1, g2⟩ hd hdep Kc hKc
      have hd2 : d 2 = true := hdep ⟨2, .data⟩ (by simp) rfl
      obtain rfl := f2 hd2
      rw [if_pos (by rfl)]
      go_big_op
      refine hKc _ _ ⟨_, _, _, _, _, _, _, _, _, _, _, _, _, _, _, _, _, _, _, rfl, ?_, ?_, ?_, ?_, ?_, ?_, ?_, ?_, ?_, ?_, ?_, ?_, ?_, ?_, ?_, ?_, ?_, ?_, ?_, ?_, ?_, ?_, ?_⟩
      · exact (fun h => f0 (up h rfl))
      · exact (fun h h5 => f1 (up h rfl) (dn h5))
      · exact (fun h => f2 (up h rfl))
      · exact (fun _ => rfl)
      · exact (fun h => f4 (up h rfl))
      · exact (fun h => f5 (up h rfl))
      · exact (fun h => f6 (up h rfl))
      · exact (fun h => f7 (up h rfl))
      · exact (fun h h5 => f8 (up h rfl) (dn h5))
      · exact (fun h => f9 (up h rfl))
      · exact (fun h => f10 (up h rfl))
      · exact (fun h => f11 (up h rfl))
      · exact (fun h => f12 (up h rfl))
      · exact (fun h => f13 (up h rfl))
      · exact (fun h => f14 (up h rfl))
      · exact (fun h => f15 (up h rfl))
      · exact (fun h h5 => f16 (up h rfl) (dn h5))
      · exact (fun h => f17 (up h rfl))
      · exact (fun h => f18 (up h rfl))
      · exact (fun h => f19 (up h rfl))
      · exact (fun h => g0 (dn h))
      · exact (fun h => upl (g1 (up h rfl)))
      · exact (fun h i hi => upl (g2 (up h rfl) i hi))
    · unfold StepOk
      rintro d act x0 ⟨u13, u14, u15, u16, u17, u18, u19, u20, u21, u22, u23, u24, u25, u26, u27, u28, u29, u30, u31, rfl, f0, f1, f2, f3, f4, f5, f6, f7, f8, f9, f10, f11, f12, f13, f14, f15, f16, f17, f18, f19, g0, g1, g2⟩ hd hdep Kc hKc
      have hd3 : d 3 = true := hdep ⟨3, .data⟩ (by simp) rfl
      obtain rfl := f3 hd3
      rw [if_pos (by rfl)]
      go_big_op
      refine hKc _ _ ⟨_, _, _, _, _, _, _, _, _, _, _, _, _, _, _, _, _, _, _, rfl, ?_, ?_, ?_, ?_, ?_, ?_, ?_, ?_, ?_, ?_, ?_, ?_, ?_, ?_, ?_, ?_, ?_, ?_, ?_, ?_, ?_, ?_, ?_⟩
      · exact (fun h => f0 (up h rfl))
      · exact (fun h h5 => f1 (up h rfl) (dn h5))
      · exact (fun h => f2 (up h rfl))
      · exact (fun h => f3 (up h rfl))
      · exact (fun _ => rfl)
      · exact (fun h => f5 (up h rfl))
      · exact (fun h => f6 (up h rfl))
      · exact (fun h => f7 (up h rfl))
      · exact (fun h h5 => f8 (up h rfl) (dn h5))
      · exact (fun h => f9 (up h rfl))
      · exact (fun h => f10 (up h rfl))
      · exact (fun h => f11 (up h rfl))
      · exact (fun h => f12 (up h rfl))
      · exact (fun h => f13 (up h rfl))
      · exact (fun h => f14 (up h rfl))
      · exact (fun h => f15 (up h rfl))
      · exact (fun h h5 => f16 (up h rfl) (dn h5))
      · exact (fun h => f17 (up h rfl))
      · exact (fun h => f18 (up h rfl))
      · exact (fun h => f19 (up h rfl))
      · exact (fun h => g0 (dn h))
      · exact (fun h => upl (g1 (up h rfl)))
      · exact (fun h i hi => upl (g2 (up h rfl) i hi))
    · unfold StepOk
      rintro d act x0 ⟨u13, u14, u15, u16, u17, u18, u19, u20, u21, u22, u23, u24, u25, u26, u27, u28, u29, u30, u31, rfl, f0, f1, f2, f3, f4, f5, f6, f7, f8, f9, f10, f11, f12, f13, f14, f15, f16, f17, f18, f19, g0, g1, g2⟩ hd hdep Kc hKc
      have hd4 : d 4 = true := hdep ⟨4, .data⟩ (by simp) rfl
      obtain rfl := f4 hd4
      have h19 : d 19 = false := by
        cases h : d 19 with
        | false => rfl
        | true => have := g2 h 5 (by omega); rw [hd] at this; cases this
      have B0 := g0 h19
      have hc := (RNB.ext HRW.out B0).c1
      have hl := (RNB.ext HRW.out B0).lt
      rw [if_pos (by rfl)]
      go_big_op
      refine hKc _ _ ⟨_, _, _, _, _, _, _, _, _, _, _, _, _, _, _, _, _, _, _, rfl, ?_, ?_, ?_, ?_, ?_, ?_, ?_, ?_, ?_, ?_, ?_, ?_, ?_, ?_, ?_, ?_, ?_, ?_, ?_, ?_, ?_, ?_, ?_⟩
      · exact (fun h => f0 (up h rfl))
      · exact (fun h h5 => f1 (up h rfl) (dn h5))
      · exact (fun h => f2 (up h rfl))
      · exact (fun h => f3 (up h rfl))
      · exact (fun h => f4 (up h rfl))
      · exact (fun _ => rfl)
      · exact (fun h => f6 (up h rfl))
      · exact (fun h => f7 (up h rfl))
      · exact (fun h h5 => f8 (up h rfl) (dn h5))
      · exact (fun h => f9 (up h rfl))
      · exact (fun h => f10 (up h rfl))
      · exact (fun h => f11 (up h rfl))
      · exact (fun h => f12 (up h rfl))
      · exact (fun h => f13 (up h rfl))
      · exact (fun h => f14 (up h rfl))
      · exact (fun h => f15 (up h rfl))
      · exact (fun h h5 => f16 (up h rfl) (dn h5))
      · exact (fun h => f17 (up h rfl))
      · exact (fun h => f18 (up h rfl))
      · exact (fun h => f19 (up h rfl))
      · exact (fun h => g0 (dn h))
      · exact (fun h => upl (g1 (up h rfl)))
      · exact (fun h i hi => upl (g2 (up h rfl) i hi))
    · unfold StepOk
      rintro d act x0 ⟨u13, u14, u15, u16, u17, u18, u19, u20, u21, u22, u23, u24, u25, u26, u27, u28, u29, u30, u31, rfl, f0, f1, f2, f3, f4, f5, f6, f7, f8, f9, f10, f11, f12, f13, f14, f15, f16, f17, f18, f19, g0, g1, g2⟩ hd hdep Kc hKc
      rw [if_pos (by rfl)]
      go_big_op
      refine hKc _ _ ⟨_, _, _, _, _, _, _, _, _, _, _, _, _, _, _, _, _, _, _, rfl, ?_, ?_, ?_, ?_, ?_, ?_, ?_, ?_, ?_, ?_, ?_, ?_, ?_, ?_, ?_, ?_, ?_, ?_, ?_, ?_, ?_, ?_, ?_⟩
      · exact (fun h => f0 (up h rfl))
      · exact (fun h h5 => f1 (up h rfl) (dn h5))
      · exact (fun h => f2 (up h rfl))
      · exact (fun h => f3 (up h rfl))
      · exact (fun h => f4 (up h rfl))
      · exact (fun h => f5 (up h rfl))
      · exact (fun _ => rfl)
      · exact (fun h => f7 (up h rfl))
      · exact (fun h h5 => f8 (up h rfl) (dn h5))
      · exact (fun h => f9 (up h rfl))
      · exact (fun h => f10 (up h rfl))
      · exact (fun h => f11 (up h rfl))
      · exact (fun h => f12 (up h rfl))
      · exact (fun h => f13 (up h rfl))
      · exact (fun h => f14 (up h rfl))
      · exact (fun h => f15 (up h rfl))
      · exact (fun h h5 => f16 (up h rfl) (dn h5))
      · exact (fun h => f17 (up h rfl))
      · exact (fun h => f18 (up h rfl))
      · exact (fun h => f19 (up h rfl))
      · exact (fun h => g0 (dn h))
      · exact (fun h => upl (g1 (up h rfl)))
      · exact (fun h i hi => upl (g2 (up h rfl) i hi))
    · unfold StepOk
      rintro d act x0 ⟨u13, u14, u15, u16, u17, u18, u19, u20, u21, u22, u23, u24, u25, u26, u27, u28, u29, u30, u31, rfl, f0, f1, f2, f3, f4, f5, f6, f7, f8, f9, f10, f11, f12, f13, f14, f15, f16, f17, f18, f19, g0, g1, g2⟩ hd hdep Kc hKc
      have hd5 : d 5 = true := hdep ⟨5, .data⟩ (by simp) rfl
      have hd6 : d 6 = true := hdep ⟨6, .data⟩ (by simp) rfl
      obtain rfl := f5 hd5
      obtain rfl := f6 hd6
      rw [if_pos (by rfl)]
      go_big_op
      refine hKc _ _ ⟨_, _, _, _, _, _, _, _, _, _, _, _, _, _, _, _, _, _, _, rfl, ?_, ?_, ?_, ?_, ?_, ?_, ?_, ?_, ?_, ?_, ?_, ?_, ?_, ?_, ?_, ?_, ?_, ?_, ?_, ?_, ?_, ?_, ?_⟩
      · exact (fun h => f0 (up h rfl))
      · exact (fun h h5 => f1 (up h rfl) (dn h5))
      · exact (fun h => f2 (up h rfl))
      · exact (fun h => f3 (up h rfl))
      · exact (fun h => f4 (up h rfl))
      · exact (fun h => f5 (up h rfl))
      · exact (fun h => f6 (up h rfl))
      · exact (fun _ => rfl)
      · exact (fun h h5 => f8 (up h rfl) (dn h5))
      · exact (fun h => f9 (up h rfl))
      · exact (fun h => f10 (up h rfl))
      · exact (fun h => f11 (up h rfl))
      · exact (fun h => f12 (up h rfl))
      · exact (fun h => f13 (up h rfl))
      · exact (fun h => f14 (up h rfl))
      · exact (fun h => f15 (up h rfl))
      · exact (fun h h5 => f16 (up h rfl) (dn h5))
      · exact (fun h => f17 (up h rfl))
      · exact (fun h => f18 (up h rfl))
      · exact (fun h => f19 (up h rfl))
      · exact (fun h => g0 (dn h))
      · exact (fun h => upl (g1 (up h rfl)))
      · exact (fun h i hi => upl (g2 (up h rfl) i hi))
    · unfold StepOk
      rintro d act x0 ⟨u13, u14, u15, u16, u17, u18, u19, u20, u21, u22, u23, u24, u25, u26, u27, u28, u29, u30, u31, rfl, f0, f1, f2, f3, f4, f5, f6, f7, f8, f9, f10, f11, f12, f13, f14, f15, f16, f17, f18, f19, g0, g1, g2⟩ hd hdep Kc hKc
      have h19 : d 19 = false := by
        cases h : d 19 with
        | false => rfl
        | true => have := g2 h 8 (by omega); rw [hd] at this; cases this
      have B0 := g0 h19
      have h16 : d 16 = false := by
        cases h : d 16 with
        | false => rfl
        | true => have := g1 h; rw [hd] at this; cases this
      have hd1 : d 1 = true := hdep ⟨1, .data⟩ (by simp) rfl
      have hd7 : d 7 = true := hdep ⟨7, .data⟩ (by simp) rfl
      obtain ⟨b1, rfl, hb1, hge1⟩ := f1 hd1 hd
      have o0 := own_empty3 hb1 hge1
      obtain rfl := f7 hd7
      rw [if_pos (by rfl)]
      refine wp_append_own _ _ _ 44 rfl (W0.heap.size) 50 i0 (.agg #[.int .i64 0, .int .i64 0, .string ⟨#[]⟩]) 3 32 Try.underlying44 hi hz0 hz1 hz2 rfl (by decide) _ 0 (flat rlc []) rfl o0 ⟨b, o, none⟩ P c (flat rlc (bl.take P)) rfl ?c0 ?c1 ?c2 ?c3 ?c4 ?c5 ?_
      case c0 => rw [flat_len rlc_len, List.length_take, HL.out]; congr 1; omega
      case c1 => intro j u hj; rw [add_offR]; exact HSRC.out x0 B0 j u hj
      case c2 => exact flat_one rlc_one _
      case c3 => unfold maxLen; omega
      case c4 => omega
      case c5 => exact B0.size
      intro v' x1 hown' hgrow _
      have gB : Below W0.heap.size W0 x1 := B0.grown hgrow B0.size (fun q hq => own_ge o0 hq)
      refine hKc _ _ ⟨_, _, _, _, _, _, _, _, _, _, _, _, _, _, _, _, _, _, _, rfl, ?_, ?_, ?_, ?_, ?_, ?_, ?_, ?_, ?_, ?_, ?_, ?_, ?_, ?_, ?_, ?_, ?_, ?_, ?_, ?_, ?_, ?_, ?_⟩
      · exact (fun h => f0 (up h rfl))
      · exact (fun h h5 => by simp at h5)
      · exact (fun h => f2 (up h rfl))
      · exact (fun h => f3 (up h rfl))
      · exact (fun h => f4 (up h rfl))
      · exact (fun h => f5 (up h rfl))
      · exact (fun h => f6 (up h rfl))
      · exact (fun h => f7 (up h rfl))
      · exact (fun _ => (fun h5 => by simpa [flat_nil] using hown'))
      · exact (fun h => f9 (up h rfl))
      · exact (fun h => f10 (up h rfl))
      · exact (fun h => f11 (up h rfl))
      · exact (fun h => f12 (up h rfl))
      · exact (fun h => f13 (up h rfl))
      · exact (fun h => f14 (up h rfl))
      · exact (fun h => f15 (up h rfl))
      · exact (fun h h5 => by have := up h rfl; rw [h16] at this; cases this)
      · exact (fun h => f17 (up h rfl))
      · exact (fun h => f18 (up h rfl))
      · exact (fun h => absurd (up h rfl) (by rw [h19]; simp))
      · exact (fun _ => gB)
      · exact (fun h => by simp)
      · exact (fun h i hi => upl (g2 (up h rfl) i hi))
    · unfold StepOk
      rintro d act x0 ⟨u13, u14, u15, u16, u17, u18, u19, u20, u21, u22, u23, u24, u25, u26, u27, u28, u29, u30, u31, rfl, f0, f1, f2, f3, f4, f5, f6, f7, f8, f9, f10, f11, f12, f13, f14, f15, f16, f17, f18, f19, g0, g1, g2⟩ hd hdep Kc hKc
      rw [if_pos (by rfl)]
      go_big_op
      refine hKc _ _ ⟨_, _, _, _, _, _, _, _, _, _, _, _, _, _, _, _, _, _, _, rfl, ?_, ?_, ?_, ?_, ?_, ?_, ?_, ?_, ?_, ?_, ?_, ?_, ?_, ?_, ?_, ?_, ?_, ?_, ?_, ?_, ?_, ?_, ?_⟩
      · exact (fun h => f0 (up h rfl))
      · exact (fun h h5 => f1 (up h rfl) (dn h5))
      · exact (fun h => f2 (up h rfl))
      · exact (fun h => f3 (up h rfl))
      · exact (fun h => f4 (up h rfl))
      · exact (fun h => f5 (up h rfl))
      · exact (fun h => f6 (up h rfl))
      · exact (fun h => f7 (up h rfl))
      · exact (fun h h5 => f8 (up h rfl) (dn h5))
      · exact (fun _ => rfl)
      · exact (fun h => f10 (up h rfl))
      · exact (fun h => f11 (up h rfl))
      · exact (fun h => f12 (up h rfl))
      · exact (fun h => f13 (up h rfl))
      · exact (fun h => f14 (up h rfl))
      · exact (fun h => f15 (up h rfl))
      · exact (fun h h5 => f16 (up h rfl) (dn h5))
      · exact (fun h => f17 (up h rfl))
      · exact (fun h => f18 (up h rfl))
      · exact (fun h => f19 (up h rfl))
      · exact (fun h => g0 (dn h))
      · exact (fun h => upl (g1 (up h rfl)))
      · exact (fun h i hi => upl (g2 (up h rfl) i hi))
    · unfold StepOk
      rintro d act x0 ⟨u13, u14, u15, u16, u17, u18, u19, u20, u21, u22, u23, u24, u25, u26, u27, u28, u29, u30, u31, rfl, f0, f1, f2, f3, f4, f5, f6, f7, f8, f9, f10, f11, f12, f13, f14, f15, f16, f17, f18, f19, g0, g1, g2⟩ hd hdep Kc hKc
      have hd9 : d 9 = true := hdep ⟨9, .data⟩ (by simp) rfl
      obtain rfl := f9 hd9
      rw [if_pos (by rfl)]
      go_big_op
      refine hKc _ _ ⟨_, _, _, _, _, _, _, _, _, _, _, _, _, _, _, _, _, _, _, rfl, ?_, ?_, ?_, ?_, ?_, ?_, ?_, ?_, ?_, ?_, ?_, ?_, ?_, ?_, ?_, ?_, ?_, ?_, ?_, ?_, ?_, ?_, ?_⟩
      · exact (fun h => f0 (up h rfl))
      · exact (fun h h5 => f1 (up h rfl) (dn h5))
      · exact (fun h => f2 (up h rfl))
      · exact (fun h => f3 (up h rfl))
      · exact (fun h => f4 (up h rfl))
      · exact (fun h => f5 (up h rfl))
      · exact (fun h => f6 (up h rfl))
      · exact (fun h => f7 (up h rfl))
      · exact (fun h h5 => f8 (up h rfl) (dn h5))
      · exact (fun h => f9 (up h rfl))
      · exact (fun _ => rfl)
      · exact (fun h => f11 (up h rfl))
      · exact (fun h => f12 (up h rfl))
      · exact (fun h => f13 (up h rfl))
      · exact (fun h => f14 (up h rfl))
      · exact (fun h => f15 (up h rfl))
      · exact (fun h h5 => f16 (up h rfl) (dn h5))
      · exact (fun h => f17 (up h rfl))
      · exact (fun h => f18 (up h rfl))
      · exact (fun h => f19 (up h rfl))
      · exact (fun h => g0 (dn h))
      · exact (fun h => upl (g1 (up h rfl)))
      · exact (fun h i hi => upl (g2 (up h rfl) i hi))
    · unfold StepOk
      rintro d act x0 ⟨u13, u14, u15, u16, u17, u18, u19, u20, u21, u22, u23, u24, u25, u26, u27, u28, u29, u30, u31, rfl, f0, f1, f2, f3, f4, f5, f6, f7, f8, f9, f10, f11, f12, f13, f14, f15, f16, f17, f18, f19, g0, g1, g2⟩ hd hdep Kc hKc
      have hd10 : d 10 = true := hdep ⟨10, .data⟩ (by simp) rfl
      obtain rfl := f10 hd10
      rw [if_pos (by rfl)]
      go_big_op
      refine hKc _ _ ⟨_, _, _, _, _, _, _, _, _, _, _, _, _, _, _, _, _, _, _, rfl, ?_, ?_, ?_, ?_, ?_, ?_, ?_, ?_, ?_, ?_, ?_, ?_, ?_, ?_, ?_, ?_, ?_, ?_, ?_, ?_, ?_, ?_, ?_⟩
      · exact (fun h => f0 (up h rfl))
      · exact (fun h h5 => f1 (up h rfl) (dn h5))
      · exact (fun h => f2 (up h rfl))
      · exact (fun h => f3 (up h rfl))
      · exact (fun h => f4 (up h rfl))
      · exact (fun h => f5 (up h rfl))
      · exact (fun h => f6 (up h rfl))
      · exact (fun h => f7 (up h rfl))
      · exact (fun h h5 => f8 (up h rfl) (dn h5))
      · exact (fun h => f9 (up h rfl))
      · exact (fun h => f10 (up h rfl))
      · exact (fun _ => rfl)
      · exact (fun h => f12 (up h rfl))
      · exact (fun h => f13 (up h rfl))
      · exact (fun h => f14 (up h rfl))
      · exact (fun h => f15 (up h rfl))
      · exact (fun h h5 => f16 (up h rfl) (dn h5))
      · exact (fun h => f17 (up h rfl))
      · exact (fun h => f18 (up h rfl))
      · exact (fun h => f19 (up h rfl))
      · exact (fun h => g0 (dn h))
      · exact (fun h => upl (g1 (up h rfl)))
      · exact (fun h i hi => upl (g2 (up h rfl) i hi))
    · unfold StepOk
      rintro d act x0 ⟨u13, u14, u15, u16, u17, u18, u19, u20, u21, u22, u23, u24, u25, u26, u27, u28, u29, u30, u31, rfl, f0, f1, f2, f3, f4, f5, f6, f7, f8, f9, f10, f11, f12, f13, f14, f15, f16, f17, f18, f19, g0, g1, g2⟩ hd hdep Kc hKc
      have hd11 : d 11 = true := hdep ⟨11, .data⟩ (by simp) rfl
      obtain rfl := f11 hd11
      have h19 : d 19 = false := by
        cases h : d 19 with
        | false => rfl
        | true => have := g2 h 12 (by omega); rw [hd] at this; cases this
      have B0 := g0 h19
      have hc := (RNB.ext HRW.out B0).c1
      have hl := (RNB.ext HRW.out B0).lt
      rw [if_pos (by rfl)]
      go_big_op
      refine hKc _ _ ⟨_, _, _, _, _, _, _, _, _, _, _, _, _, _, _, _, _, _, _, rfl, ?_, ?_, ?_, ?_, ?_, ?_, ?_, ?_, ?_, ?_, ?_, ?_, ?_, ?_, ?_, ?_, ?_, ?_, ?_, ?_, ?_, ?_, ?_⟩
      · exact (fun h => f0 (up h rfl))
      · exact (fun h h5 => f1 (up h rfl) (dn h5))
      · exact (fun h => f2 (up h rfl))
      · exact (fun h => f3 (up h rfl))
      · exact (fun h => f4 (up h rfl))
      · exact (fun h => f5 (up h rfl))
      · exact (fun h => f6 (up h rfl))
      · exact (fun h => f7 (up h rfl))
      · exact (fun h h5 => f8 (up h rfl) (dn h5))
      · exact (fun h => f9 (up h rfl))
      · exact (fun h => f10 (up h rfl))
      · exact (fun h => f11 (up h rfl))
      · exact (fun _ => rfl)
      · exact (fun h => f13 (up h rfl))
      · exact (fun h => f14 (up h rfl))
      · exact (fun h => f15 (up h rfl))
      · exact (fun h h5 => f16 (up h rfl) (dn h5))
      · exact (fun h => f17 (up h rfl))
      · exact (fun h => f18 (up h rfl))
      · exact (fun h => f19 (up h rfl))
      · exact (fun h => g0 (dn h))
      · exact (fun h => upl (g1 (up h rfl)))
      · exact (fun h i hi => upl (g2 (up h rfl) i hi))
    · unfold StepOk
      rintro d act x0 ⟨u13, u14, u15, u16, u17, u18, u19, u20, u21, u22, u23, u24, u25, u26, u27, u28, u29, u30, u31, rfl, f0, f1, f2, f3, f4, f5, f6, f7, f8, f9, f10, f11, f12, f13, f14, f15, f16, f17, f18, f19, g0, g1, g2⟩ hd hdep Kc hKc
      rw [if_pos (by rfl)]
      go_big_op
      refine hKc _ _ ⟨_, _, _, _, _, _, _, _, _, _, _, _, _, _, _, _, _, _, _, rfl, ?_, ?_, ?_, ?_, ?_, ?_, ?_, ?_, ?_, ?_, ?_, ?_, ?_, ?_, ?_, ?_, ?_, ?_, ?_, ?_, ?_, ?_, ?_⟩
      · exact (fun h => f0 (up h rfl))
      · exact (fun h h5 => f1 (up h rfl) (dn h5))
      · exact (fun h => f2 (up h rfl))
      · exact (fun h => f3 (up h rfl))
      · exact (fun h => f4 (up h rfl))
      · exact (fun h => f5 (up h rfl))
      · exact (fun h => f6 (up h rfl))
      · exact (fun h => f7 (up h rfl))
      · exact (fun h h5 => f8 (up h rfl) (dn h5))
      · exact (fun h => f9 (up h rfl))
      · exact (fun h => f10 (up h rfl))
      · exact (fun h => f11 (up h rfl))
      · exact (fun h => f12 (up h rfl))
      · exact (fun _ => rfl)
      · exact (fun h => f14 (up h rfl))
      · exact (fun h => f15 (up h rfl))
      · exact (fun h h5 => f16 (up h rfl) (dn h5))
      · exact (fun h => f17 (up h rfl))
      · exact (fun h => f18 (up h rfl))
      · exact (fun h => f19 (up h rfl))
      · exact (fun h => g0 (dn h))
      · exact (fun h => upl (g1 (up h rfl)))
      · exact (fun h i hi => upl (g2 (up h rfl) i hi))
    · unfold StepOk
      rintro d act x0 ⟨u13, u14, u15, u16, u17, u18, u19, u20, u21, u22, u23, u24, u25, u26, u27, u28, u29, u30, u31, rfl, f0, f1, f2, f3, f4, f5, f6, f7, f8, f9, f10, f11, f12, f13, f14, f15, f16, f17, f18, f19, g0, g1, g2⟩ hd hdep Kc hKc
      have hd13 : d 13 = true := hdep ⟨13, .data⟩ (by simp) rfl
      obtain rfl := f13 hd13
      rw [if_pos (by rfl)]
      go_big_op
      refine hKc _ _ ⟨_, _, _, _, _, _, _, _, _, _, _, _, _, _, _, _, _, _, _, rfl, ?_, ?_, ?_, ?_, ?_, ?_, ?_, ?_, ?_, ?_, ?_, ?_, ?_, ?_, ?_, ?_, ?_, ?_, ?_, ?_, ?_, ?_, ?_⟩
      · exact (fun h => f0 (up h rfl))
      · exact (fun h h5 => f1 (up h rfl) (dn h5))
      · exact (fun h => f2 (up h rfl))
      · exact (fun h => f3 (up h rfl))
      · exact (fun h => f4 (up h rfl))
      · exact (fun h => f5 (up h rfl))
      · exact (fun h => f6 (up h rfl))
      · exact (fun h => f7 (up h rfl))
      · exact (fun h h5 => f8 (up h rfl) (dn h5))
      · exact (fun h => f9 (up h rfl))
      · exact (fun h => f10 (up h rfl))
      · exact (fun h => f11 (up h rfl))
      · exact (fun h => f12 (up h rfl))
      · exact (fun h => f13 (up h rfl))
      · exact (fun _ => (by rw [← HQI.out]))
      · exact (fun h => f15 (up h rfl))
      · exact (fun h h5 => f16 (up h rfl) (dn h5))
      · exact (fun h => f17 (up h rfl))
      · exact (fun h => f18 (up h rfl))
      · exact (fun h => f19 (up h rfl))
      · exact (fun h => g0 (dn h))
      · exact (fun h => upl (g1 (up h rfl)))
      · exact (fun h i hi => upl (g2 (up h rfl) i hi))
    · unfold StepOk
      rintro d act x0 ⟨u13, u14, u15, u16, u17, u18, u19, u20, u21, u22, u23, u24, u25, u26, u27, u28, u29, u30, u31, rfl, f0, f1, f2, f3, f4, f5, f6, f7, f8, f9, f10, f11, f12, f13, f14, f15, f16, f17, f18, f19, g0, g1, g2⟩ hd hdep Kc hKc
      have hd12 : d 12 = true := hdep ⟨12, .data⟩ (by simp) rfl
      have hd14 : d 14 = true := hdep ⟨14, .data⟩ (by simp) rfl
      obtain rfl := f12 hd12
      obtain rfl := f14 hd14
      rw [if_pos (by rfl)]
      go_big_op
      refine hKc _ _ ⟨_, _, _, _, _, _, _, _, _, _, _, _, _, _, _, _, _, _, _, rfl, ?_, ?_, ?_, ?_, ?_, ?_, ?_, ?_, ?_, ?_, ?_, ?_, ?_, ?_, ?_, ?_, ?_, ?_, ?_, ?_, ?_, ?_, ?_⟩
      · exact (fun h => f0 (up h rfl))
      · exact (fun h h5 => f1 (up h rfl) (dn h5))
      · exact (fun h => f2 (up h rfl))
      · exact (fun h => f3 (up h rfl))
      · exact (fun h => f4 (up h rfl))
      · exact (fun h => f5 (up h rfl))
      · exact (fun h => f6 (up h rfl))
      · exact (fun h => f7 (up h rfl))
      · exact (fun h h5 => f8 (up h rfl) (dn h5))
      · exact (fun h => f9 (up h rfl))
      · exact (fun h => f10 (up h rfl))
      · exact (fun h => f11 (up h rfl))
      · exact (fun h => f12 (up h rfl))
      · exact (fun h => f13 (up h rfl))
      · exact (fun h => f14 (up h rfl))
      · exact (fun _ => rfl)
      · exact (fun h h5 => f16 (up h rfl) (dn h5))
      · exact (fun h => f17 (up h rfl))
      · exact (fun h => f18 (up h rfl))
      · exact (fun h => f19 (up h rfl))
      · exact (fun h => g0 (dn h))
      · exact (fun h => upl (g1 (up h rfl)))
      · exact (fun h i hi => upl (g2 (up h rfl) i hi))
    · unfold StepOk
      rintro d act x0 ⟨u13, u14, u15, u16, u17, u18, u19, u20, u21, u22, u23, u24, u25, u26, u27, u28, u29, u30, u31, rfl, f0, f1, f2, f3, f4, f5, f6, f7, f8, f9, f10, f11, f12, f13, f14, f15, f16, f17, f18, f19, g0, g1, g2⟩ hd hdep Kc hKc
      have h19 : d 19 = false := by
        cases h : d 19 with
        | false => rfl
        | true => have := g2 h 16 (by omega); rw [hd] at this; cases this
      have B0 := g0 h19
      have hd8 : d 8 = true := hdep ⟨8, .data⟩ (by simp) rfl
      have hd15 : d 15 = true := hdep ⟨15, .data⟩ (by simp) rfl
      have f8' := f8 hd8 hd
      obtain rfl := f15 hd15
      rw [if_pos (by rfl)]
      refine wp_append_own _ _ _ 44 rfl (W0.heap.size) 50 i0 (.agg #[.int .i64 0, .int .i64 0, .string ⟨#[]⟩]) 3 32 Try.underlying44 hi hz0 hz1 hz2 rfl (by decide) _ P (flat rlc (bl.take P)) rfl f8' ⟨b, o, none⟩ (n - Q) (c - Q) (flat rlc (bl.drop Q)) rfl ?c0 ?c1 ?c2 ?c3 ?c4 ?c5 ?_
      case c0 => rw [flat_len rlc_len, List.length_drop, HL.out]
      case c1 => intro j u hj; rw [add_offR]; exact HSR2.out x0 B0 j u hj
      case c2 => exact flat_one rlc_one _
      case c3 => unfold maxLen; omega
      case c4 => omega
      case c5 => exact B0.size
      intro v' x1 hown' hgrow _
      have gB : Below W0.heap.size W0 x1 := B0.grown hgrow B0.size (fun q hq => own_ge f8' hq)
      have hoo : OwnRL W0.heap.size x1 v' (bl.eraseIdx P) := by
        unfold OwnRL OwnR
        rw [List.length_eraseIdx_of_lt HLT.out, HL.out, show n - 1 = P + (n - Q) by have := HQ.out; omega, List.eraseIdx_eq_take_drop_succ, ← HQ.out, flat_app]
        exact hown'
      obtain ⟨a', c', rfl, -, -, -⟩ := OwnR.form hoo
      rw [List.length_eraseIdx_of_lt HLT.out, HL.out] at hoo ⊢
      refine hKc _ _ ⟨_, _, _, _, _, _, _, _, _, _, _, _, _, _, _, _, _, _, _, rfl, ?_, ?_, ?_, ?_, ?_, ?_, ?_, ?_, ?_, ?_, ?_, ?_, ?_, ?_, ?_, ?_, ?_, ?_, ?_, ?_, ?_, ?_, ?_⟩
      · exact (fun h => f0 (up h rfl))
      · exact (fun h h5 => by have := dn h5; rw [hd8] at this; cases this)
      · exact (fun h => f2 (up h rfl))
      · exact (fun h => f3 (up h rfl))
      · exact (fun h => f4 (up h rfl))
      · exact (fun h => f5 (up h rfl))
      · exact (fun h => f6 (up h rfl))
      · exact (fun h => f7 (up h rfl))
      · exact (fun h h5 => by simp at h5)
      · exact (fun h => f9 (up h rfl))
      · exact (fun h => f10 (up h rfl))
      · exact (fun h => f11 (up h rfl))
      · exact (fun h => f12 (up h rfl))
      · exact (fun h => f13 (up h rfl))
      · exact (fun h => f14 (up h rfl))
      · exact (fun h => f15 (up h rfl))
      · exact (fun _ => (fun h5 => ⟨_, _, rfl, hoo⟩))
      · exact (fun h => f17 (up h rfl))
      · exact (fun h => f18 (up h rfl))
      · exact (fun h => absurd (up h rfl) (by rw [h19]; simp))
      · exact (fun _ => gB)
      · exact (fun h => upl hd8)
      · exact (fun h i hi => upl (g2 (up h rfl) i hi))
    · unfold StepOk
      rintro d act x0 ⟨u13, u14, u15, u16, u17, u18, u19, u20, u21, u22, u23, u24, u25, u26, u27, u28, u29, u30, u31, rfl, f0, f1, f2, f3, f4, f5, f6, f7, f8, f9, f10, f11, f12, f13, f14, f15, f16, f17, f18, f19, g0, g1, g2⟩ hd hdep Kc hKc
      have hd0 : d 0 = true := hdep ⟨0, .data⟩ (by simp) rfl
      have hd0 : d 0 = true := hdep ⟨0, .phase⟩ (by simp) rfl
      obtain rfl := f0 hd0
      rw [if_pos (by rfl)]
      go_big_op
      refine hKc _ _ ⟨_, _, _, _, _, _, _, _, _, _, _, _, _, _, _, _, _, _, _, rfl, ?_, ?_, ?_, ?_, ?_, ?_, ?_, ?_, ?_, ?_, ?_, ?_, ?_, ?_, ?_, ?_, ?_, ?_, ?_, ?_, ?_, ?_, ?_⟩
      · exact (fun h => f0 (up h rfl))
      · exact (fun h h5 => f1 (up h rfl) (dn h5))
      · exact (fun h => f2 (up h rfl))
      · exact (fun h => f3 (up h rfl))
      · exact (fun h => f4 (up h rfl))
      · exact (fun h => f5 (up h rfl))
      · exact (fun h => f6 (up h rfl))
      · exact (fun h => f7 (up h rfl))
      · exact (fun h h5 => f8 (up h rfl) (dn h5))
      · exact (fun h => f9 (up h rfl))
      · exact (fun h => f10 (up h rfl))
      · exact (fun h => f11 (up h rfl))
      · exact (fun h => f12 (up h rfl))
      · exact (fun h => f13 (up h rfl))
      · exact (fun h => f14 (up h rfl))
      · exact (fun h => f15 (up h rfl))
      · exact (fun h h5 => f16 (up h rfl) (dn h5))
      · exact (fun _ => rfl)
      · exact (fun h => f18 (up h rfl))
      · exact (fun h => f19 (up h rfl))
      · exact (fun h => g0 (dn h))
      · exact (fun h => upl (g1 (up h rfl)))
      · exact (fun h i hi => upl (g2 (up h rfl) i hi))
    · unfold StepOk
      rintro d act x0 ⟨u13, u14, u15, u16, u17, u18, u19, u20, u21, u22, u23, u24, u25, u26, u27, u28, u29, u30, u31, rfl, f0, f1, f2, f3, f4, f5, f6, f7, f8, f9, f10, f11, f12, f13, f14, f15, f16, f17, f18, f19, g0, g1, g2⟩ hd hdep Kc hKc
      have hd17 : d 17 = true := hdep ⟨17, .data⟩ (by simp) rfl
      obtain rfl := f17 hd17
      rw [if_pos (by rfl)]
      go_big_op
      refine hKc _ _ ⟨_, _, _, _, _, _, _, _, _, _, _, _, _, _, _, _, _, _, _, rfl, ?_, ?_, ?_, ?_, ?_, ?_, ?_, ?_, ?_, ?_, ?_, ?_, ?_, ?_, ?_, ?_, ?_, ?_, ?_, ?_, ?_, ?_, ?_⟩
      · exact (fun h => f0 (up h rfl))
      · exact (fun h h5 => f1 (up h rfl) (dn h5))
      · exact (fun h => f2 (up h rfl))
      · exact (fun h => f3 (up h rfl))
      · exact (fun h => f4 (up h rfl))
      · exact (fun h => f5 (up h rfl))
      · exact (fun h => f6 (up h rfl))
      · exact (fun h => f7 (up h rfl))
      · exact (fun h h5 => f8 (up h rfl) (dn h5))
      · exact (fun h => f9 (up h rfl))
      · exact (fun h => f10 (up h rfl))
      · exact (fun h => f11 (up h rfl))
      · exact (fun h => f12 (up h rfl))
      · exact (fun h => f13 (up h rfl))
      · exact (fun h => f14 (up h rfl))
      · exact (fun h => f15 (up h rfl))
      · exact (fun h h5 => f16 (up h rfl) (dn h5))
      · exact (fun h => f17 (up h rfl))
      · exact (fun _ => rfl)
      · exact (fun h => f19 (up h rfl))
      · exact (fun h => g0 (dn h))
      · exact (fun h => upl (g1 (up h rfl)))
      · exact (fun h i hi => upl (g2 (up h rfl) i hi))
    · unfold StepOk
      rintro d act x0 ⟨u13, u14, u15, u16, u17, u18, u19, u20, u21, u22, u23, u24, u25, u26, u27, u28, u29, u30, u31, rfl, f0, f1, f2, f3, f4, f5, f6, f7, f8, f9, f10, f11, f12, f13, f14, f15, f16, f17, f18, f19, g0, g1, g2⟩ hd hdep Kc hKc
      have hd16 : d 16 = true := hdep ⟨16, .data⟩ (by simp) rfl
      have hd18 : d 18 = true := hdep ⟨18, .data⟩ (by simp) rfl
      have B0 := g0 hd
      have hd8 := g1 hd16
      obtain ⟨a', c', rfl, hoo⟩ := f16 hd16 hd
      obtain rfl := f18 hd18
      have hc := (RNB.ext HRW.out B0).c1
      have hl := (RNB.ext HRW.out B0).lt
      have hf := blk_free (RNB.blk (RNB.ext HRW.out B0))
      have hall : ∀ i : Nat, i < 17 → d i = true := by
        intro i hi
        have q0 : d 0 = true := hdep ⟨0, .phase⟩ (by simp) rfl
        have q1 : d 1 = true := hdep ⟨1, .phase⟩ (by simp) rfl
        have q2 : d 2 = true := hdep ⟨2, .phase⟩ (by simp) rfl
        have q3 : d 3 = true := hdep ⟨3, .phase⟩ (by simp) rfl
        have q4 : d 4 = true := hdep ⟨4, .phase⟩ (by simp) rfl
        have q5 : d 5 = true := hdep ⟨5, .phase⟩ (by simp) rfl
        have q6 : d 6 = true := hdep ⟨6, .phase⟩ (by simp) rfl
        have q7 : d 7 = true := hdep ⟨7, .phase⟩ (by simp) rfl
        have q8 : d 8 = true := hdep ⟨8, .phase⟩ (by simp) rfl
        have q9 : d 9 = true := hdep ⟨9, .phase⟩ (by simp) rfl
        have q10 : d 10 = true := hdep ⟨10, .phase⟩ (by simp) rfl
        have q11 : d 11 = true := hdep ⟨11, .phase⟩ (by simp) rfl
        have q12 : d 12 = true := hdep ⟨12, .phase⟩ (by simp) rfl
        have q13 : d 13 = true := hdep ⟨13, .phase⟩ (by simp) rfl
        have q14 : d 14 = true := hdep ⟨14, .phase⟩ (by simp) rfl
        have q15 : d 15 = true := hdep ⟨15, .phase⟩ (by simp) rfl
        have q16 : d 16 = true := hdep ⟨16, .phase⟩ (by simp) rfl
        have hh : i = 0 ∨ i = 1 ∨ i = 2 ∨ i = 3 ∨ i = 4 ∨ i = 5 ∨ i = 6 ∨ i = 7 ∨ i = 8 ∨ i = 9 ∨ i = 10 ∨ i = 11 ∨ i = 12 ∨ i = 13 ∨ i = 14 ∨ i = 15 ∨ i = 16 := by omega
        rcases hh with rfl | rfl | rfl | rfl | rfl | rfl | rfl | rfl | rfl | rfl | rfl | rfl | rfl | rfl | rfl | rfl | rfl
        · exact q0
        · exact q1
        · exact q2
        · exact q3
        · exact q4
        · exact q5
        · exact q6
        · exact q7
        · exact q8
        · exact q9
        · exact q10
        · exact q11
        · exact q12
        · exact q13
        · exact q14
        · exact q15
        · exact q16
      rw [if_pos (by rfl)]
      go_big_op
      refine hKc _ _ ⟨_, _, _, _, _, _, _, _, _, _, _, _, _, _, _, _, _, _, _, rfl, ?_, ?_, ?_, ?_, ?_, ?_, ?_, ?_, ?_, ?_, ?_, ?_, ?_, ?_, ?_, ?_, ?_, ?_, ?_, ?_, ?_, ?_, ?_⟩
      · exact (fun h => f0 (up h rfl))
      · exact (fun h h5 => by have := dn h5; rw [hd8] at this; cases this)
      · exact (fun h => f2 (up h rfl))
      · exact (fun h => f3 (up h rfl))
      · exact (fun h => f4 (up h rfl))
      · exact (fun h => f5 (up h rfl))
      · exact (fun h => f6 (up h rfl))
      · exact (fun h => f7 (up h rfl))
      · exact (fun h h5 => by have := dn h5; rw [hd16] at this; cases this)
      · exact (fun h => f9 (up h rfl))
      · exact (fun h => f10 (up h rfl))
      · exact (fun h => f11 (up h rfl))
      · exact (fun h => f12 (up h rfl))
      · exact (fun h => f13 (up h rfl))
      · exact (fun h => f14 (up h rfl))
      · exact (fun h => f15 (up h rfl))
      · exact (fun h h5 => by simp at h5)
      · exact (fun h => f17 (up h rfl))
      · exact (fun h => f18 (up h rfl))
      · exact (fun _ => ⟨_, _, rfl, B0, hoo⟩)
      · exact (fun h => by simp at h)
      · exact (fun h => upl (g1 (up h rfl)))
      · exact (fun _ i hi => upl (hall i hi))
  · rintro d act x0 ⟨u13, u14, u15, u16, u17, u18, u19, u20, u21, u22, u23, u24, u25, u26, u27, u28, u29, u30, u31, rfl, f0, f1, f2, f3, f4, f5, f6, f7, f8, f9, f10, f11, f12, f13, f14, f15, f16, f17, f18, f19, g0, g1, g2⟩ hall
    obtain f19' := f19 (hall 19 (by decide))
    clear f0 f1 f2 f3 f4 f5 f6 f7 f8 f9 f10 f11 f12 f13 f14 f15 f16 f17 f18 f19 hall
    obtain ⟨v, y, rfl, hby, hoo⟩ := f19'
    have hr0 : Rim rb y (y.setCell ⟨rb, 1, none⟩ v) := Rim.kept ((Kept.refl rb y).setCell 1 v)
    have HRES := Lib.hid (RNs.set (HRW.out.ext hby) HND.out.1 HND.out.2 (by rw [List.length_eraseIdx_of_lt HLT.out, HL.out]; omega) hoo)
    have HRIM := Lib.hid (show Rim rb w (y.setCell ⟨rb, 1, none⟩ v) from (Rim.of (ext_trans HBW.out hby)).trans hr0)
    have hne : ∀ (q : Nat) (cs : Array Value), W0.heap[q]? = some (.cells cs 50 (0, 0)) → (y.setCell ⟨rb, 1, none⟩ v).heap[q]? = some (.cells cs 50 (0, 0)) := fun q cs hq => by
      have h9 := blk_ext hby hq
      refine (hr0.block q (fun e => ?_) (blk_lt h9)).trans h9
      subst e
      have := (RNB.blk (HRW.out.ext hby)).symm.trans h9
      simp at this
    have HK3 := Lib.hid (hne _ _ HKW.out)
    have HZ3 := Lib.hid (hne _ _ HZW.out)
    clear hby hoo hr0 hne
    generalize (y.setCell ⟨rb, 1, none⟩ v) = w5 at *
    have hk := blk_cell HK3.out
    have hl := blk_lt HK3.out
    have hk2 := blk_cell HZ3.out
    have hl2 := blk_lt HZ3.out
    have hf2 := blk_free HZ3.out
    go_wp2_with fail
    refine bodyPost_ret (v := .agg #[.int .i64 x.f, .int .i64 x.t, .string (strOfNums x.xs)]) (by have hk3 := blk_cell (blk_fill3 (v0 := .int .i64 x.f) (v1 := .int .i64 x.t) (v2 := .string (strOfNums x.xs)) HZ3.out rfl); simp [results, Try.results31, go_sem, hk3]) rfl ⟨rfl, ?_, ?_⟩
    · exact (HRES.out.rimS (rim_set3 (Rim.of (Below.refl _ _))) HZ3.out (blk_lt HZW.out)).base HBW.out.size
    · exact rim_newL HRIM.out HRW0.out HZ3.out (rim_set3 (Rim.of (Below.refl _ _)))

end Go.Proofs.Ytkkmnodhmmdllaa
