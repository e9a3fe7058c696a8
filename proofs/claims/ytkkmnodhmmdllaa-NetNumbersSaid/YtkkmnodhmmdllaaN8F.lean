/- The document's own net: letters in and out. -/
import Derived.Test.YtkkmnodhmmdllaaN8B
import Derived.Test.YtkkmnodhmmdllaaFill
namespace Go.Proofs.Ytkkmnodhmmdllaa
open Go.RowKit
set_option linter.unusedVariables false
set_option linter.unusedSimpArgs false

set_option maxRecDepth 100000 in
set_option maxHeartbeats 4000000 in
theorem rnSendB (rb nodes c : Nat) (bl : List ML) (x : ML) (p : List Bool) (w : World) (h : RNB w rb nodes (.slice none bl.length c) p) (hs : SAt rlc 3 50 w none bl) (h5 : bl.length ≤ c) (h6 : c ≤ maxLen) (hn64 : bl.length < 64) (hnd : nodes ≤ 6) (hp36 : p.length = 36) (hf1 : hnB nodes x.f = true) (ht1 : hnB nodes x.t = true) (hb0 : bl = []) (hc0 : c = 0) :
    Calls Try.prog 22 #[.pointer (some ⟨rb, 0, none⟩), .agg #[.int .i64 x.f, .int .i64 x.t, .string (strOfNums x.xs)]] w fun r w' => r = .returned (.int .i64 0) ∧ RN w' rb nodes (bl ++ [x]) p ∧ Rim rb w w' := by
  obtain ⟨n, hl⟩ : ∃ n, bl.length = n := ⟨_, rfl⟩
  have HL := Lib.hid hl
  have HBL := Lib.hid hb0
  have HN0 := Lib.hid (show 0 = n from by rw [← hl, hb0]; rfl)
  obtain rfl : 0 = c := hc0.symm
  clear hb0
  rw [hl] at h h5 hn64
  have HND := Lib.hid (And.intro hnd hp36)
  have HHF := Lib.hid hf1
  have HHT := Lib.hid ht1
  have d64 : decide ((64 : Int) ≤ (n : Int)) = false := decide_eq_false (by omega)
  have d64' : decide (64 ≤ n) = false := decide_eq_false (by omega)
  have D0 := Lib.hid (show Below w.heap.size w (w.alloc (.cells #[.int .i64 x.f, .int .i64 x.t, .string (strOfNums x.xs)] 50)) from (Below.refl _ _).alloc (Nat.le_refl _) _)
  have HPX := Lib.hid (blk_new w #[.int .i64 x.f, .int .i64 x.t, .string (strOfNums x.xs)] 50)
  have HB1 := Lib.hid (RNB.ext h D0.out)
  have HS1 := Lib.hid (SAt.ext hs D0.out)
  unfold maxLen at h6
  clear h hs hl hnd hp36 hf1 ht1
  go_enter Try.func22, Try.ntmps22
  go_upto_region 1 with (fail)
  obtain ⟨pb, hpb⟩ : ∃ r, w.heap.size = r := ⟨_, rfl⟩
  rw [hpb] at HPX
  try rw [hpb]
  clear hpb
  generalize (w.alloc (.cells #[.int .i64 x.f, .int .i64 x.t, .string (strOfNums x.xs)] 50)) = w1 at *
  have hk := blk_cell HPX.out
  have hkl := blk_lt HPX.out
  go_wp2_with fail
  refine (rnIn rb nodes _ p x.f _ HB1.out).mono ?_
  rintro e w2 ⟨rfl, rfl⟩
  rw [HHF.out]
  go_wp2_with fail
  refine (rnIn rb nodes _ p x.t _ HB1.out).mono ?_
  rintro e w2 ⟨rfl, rfl⟩
  rw [HHT.out]
  have hc := HB1.out.c1
  have hcl := HB1.out.lt
  go_upto_region 5 with (fail)
  clear hc hcl hk hkl
  obtain ⟨i0, hi, hz0, hz1, hz2⟩ := info_parts2 info_rl
  obtain ⟨W0, hW0⟩ : ∃ W0, w1.drew = W0 := ⟨_, rfl⟩
  have HRW := Lib.hid (show RNB W0 rb nodes (.slice none n 0) p from by rw [← hW0]; exact HB1.out.ext (Below.refl _ _).drew)
  have HEW := Lib.hid (show SAt rlc 3 50 W0 none bl from by rw [← hW0]; exact SAt.ext HS1.out (Below.refl _ _).drew)
  have HBW := Lib.hid (show Below w.heap.size w W0 from by rw [← hW0]; exact D0.out.drew)
  have HPW := Lib.hid (show W0.heap[pb]? = some (.cells #[.int .i64 x.f, .int .i64 x.t, .string (strOfNums x.xs)] 50 (0, 0)) from by rw [← hW0]; exact blk_drew HPX.out)
  have hrbW := HRW.out.lt
  clear HB1 HS1 HPX D0
  go_wp2_with fail
  refine wp_region_inv_eq (J := fun A d act x0 => ∃ u23 u24 u25 u26 u27 u28 u29 u30 u31 u32 u33 u34 : Value, act = ((((((((((((A.put (some 23) u23).put (some 24) u24).put (some 25) u25).put (some 26) u26).put (some 27) u27).put (some 28) u28).put (some 29) u29).put (some 30) u30).put (some 31) u31).put (some 32) u32).put (some 33) u33).put (some 34) u34) ∧ (d 0 = true → u23 = .pointer (some ⟨rb, 0, none⟩)) ∧ (d 1 = true → (d 6 = false → ∃ b1 : Nat, u24 = .slice (some ⟨b1, 0, none⟩) 0 0 ∧ x0.heap[b1]? = some (.cells #[] 50 (0, 0)) ∧ W0.heap.size ≤ b1)) ∧ (d 2 = true → u25 = .pointer (some ⟨rb, 0, none⟩)) ∧ (d 3 = true → u26 = .pointer (some ⟨rb, 0, none⟩)) ∧ (d 4 = true → u27 = .pointer (some ⟨rb, 1, none⟩)) ∧ (d 5 = true → u28 = .slice none n 0) ∧ (d 6 = true → (d 9 = false → x0.ownsRow W0.heap.size 50 3 u29 n (flat rlc bl))) ∧ (d 7 = true → u30 = .agg #[.int .i64 x.f, .int .i64 x.t, .string (strOfNums x.xs)]) ∧ (d 8 = true → (d 9 = false → ∃ b : Nat, u31 = .slice (some ⟨b, 0, none⟩) 1 1 ∧ x0.heap[b]? = some (.cells #[.int .i64 x.f, .int .i64 x.t, .string (strOfNums x.xs)] 50 (0, 0)))) ∧ (d 9 = true → (d 12 = false → ∃ (a' : Option Addr) (c' : Nat), u32 = .slice a' (n + 1) c' ∧ OwnRL W0.heap.size x0 (.slice a' (n + 1) c') (bl ++ [x]))) ∧ (d 10 = true → u33 = .pointer (some ⟨rb, 0, none⟩)) ∧ (d 11 = true → u34 = .pointer (some ⟨rb, 1, none⟩)) ∧ (d 12 = true → (∃ (v : Value) (y : World), x0 = y.setCell ⟨rb, 1, none⟩ v ∧ Below W0.heap.size W0 y ∧ OwnRL W0.heap.size y v (bl ++ [x]))) ∧ (d 12 = false → Below W0.heap.size W0 x0) ∧ (d 9 = true → d 6 = true) ∧ (d 12 = true → ∀ i : Nat, i < 10 → d i = true)) (by simp only [Act.put, List.setIfInBounds_toArray, List.set_cons_succ, List.set_cons_zero]; rfl) (by kernel_rfl) (by kernel_rfl) ?_ ?_ ?_
  · refine ⟨_, _, _, _, _, _, _, _, _, _, _, _, rfl, ?_, ?_, ?_, ?_, ?_, ?_, ?_, ?_, ?_, ?_, ?_, ?_, ?_, ?_, ?_, ?_⟩
    · intro h; cases h
    · intro h; cases h
    · intro h; cases h
    · intro h; cases h
    · intro h; cases h
    · intro h; cases h
    · intro h; cases h
    · intro h; cases h
    · intro h; cases h
    · intro h; cases h
    · intro h; cases h
    · intro h; cases h
    · intro h; cases h
    · exact (fun _ => by rw [← hW0]; exact (Below.refl _ _))
    · exact (fun h => by cases h)
    · exact (fun h => by cases h)
  · refine stepsOk_cons (k := 0) ?_ (stepsOk_cons (k := 1) ?_ (stepsOk_cons (k := 2) ?_ (stepsOk_cons (k := 3) ?_ (stepsOk_cons (k := 4) ?_ (stepsOk_cons (k := 5) ?_ (stepsOk_cons (k := 6) ?_ (stepsOk_cons (k := 7) ?_ (stepsOk_cons (k := 8) ?_ (stepsOk_cons (k := 9) ?_ (stepsOk_cons (k := 10) ?_ (stepsOk_cons (k := 11) ?_ (stepsOk_cons (k := 12) ?_ stepsOk_nil))))))))))))
    · unfold StepOk
      rintro d act x0 ⟨u23, u24, u25, u26, u27, u28, u29, u30, u31, u32, u33, u34, rfl, f0, f1, f2, f3, f4, f5, f6, f7, f8, f9, f10, f11, f12, g0, g1, g2⟩ hd hdep Kc hKc
      rw [if_pos (by rfl)]
      go_big_op
      refine hKc _ _ ⟨_, _, _, _, _, _, _, _, _, _, _, _, rfl, ?_, ?_, ?_, ?_, ?_, ?_, ?_, ?_, ?_, ?_, ?_, ?_, ?_, ?_, ?_, ?_⟩
      · exact (fun _ => rfl)
      · exact (fun h h5 => f1 (up h rfl) (dn h5))
      · exact (fun h => f2 (up h rfl))
      · exact (fun h => f3 (up h rfl))
      · exact (fun h => f4 (up h rfl))
      · exact (fun h => f5 (up h rfl))
      · exact (fun h h5 => f6 (up h rfl) (dn h5))
      · exact (fun h => f7 (up h rfl))
      · exact (fun h h5 => f8 (up h rfl) (dn h5))
      · exact (fun h h5 => f9 (up h rfl) (dn h5))
      · exact (fun h => f10 (up h rfl))
      · exact (fun h => f11 (up h rfl))
      · exact (fun h => f12 (up h rfl))
      · exact (fun h => g0 (dn h))
      · exact (fun h => upl (g1 (up h rfl)))
      · exact (fun h i hi => upl (g2 (up h rfl) i hi))
    · unfold StepOk
      rintro d act x0 ⟨u23, u24, u25, u26, u27, u28, u29, u30, u31, u32, u33, u34, rfl, f0, f1, f2, f3, f4, f5, f6, f7, f8, f9, f10, f11, f12, g0, g1, g2⟩ hd hdep Kc hKc
      have h12 : d 12 = false := by
        cases h : d 12 with
        | false => rfl
        | true => have := g2 h 1 (by omega); rw [hd] at this; cases this
      have B0 := g0 h12
      rw [if_pos (by rfl)]
      go_big_op
      refine hKc _ _ ⟨_, _, _, _, _, _, _, _, _, _, _, _, rfl, ?_, ?_, ?_, ?_, ?_, ?_, ?_, ?_, ?_, ?_, ?_, ?_, ?_, ?_, ?_, ?_⟩
      · exact (fun h => f0 (up h rfl))
      · exact (fun _ => (fun h5 => ⟨_, rfl, blk_new _ _ _, B0.size⟩))
      · exact (fun h => f2 (up h rfl))
      · exact (fun h => f3 (up h rfl))
      · exact (fun h => f4 (up h rfl))
      · exact (fun h => f5 (up h rfl))
      · exact (fun h h5 => (f6 (up h rfl) (dn h5)).alloc _)
      · exact (fun h => f7 (up h rfl))
      · exact (fun h h5 => by obtain ⟨b, e1, e2⟩ := f8 (up h rfl) (dn h5); exact ⟨b, e1, blk_alloc e2 _⟩)
      · exact (fun h h5 => by obtain ⟨a', c', e1, e2⟩ := f9 (up h rfl) (dn h5); exact ⟨a', c', e1, OwnR.ext e2 ((Below.refl _ _).alloc (Nat.le_refl _) _)⟩)
      · exact (fun h => f10 (up h rfl))
      · exact (fun h => f11 (up h rfl))
      · exact (fun h => absurd (up h rfl) (by rw [h12]; simp))
      · exact (fun _ => B0.alloc B0.size _)
      · exact (fun h => upl (g1 (up h rfl)))
      · exact (fun h i hi => upl (g2 (up h rfl) i hi))
    · unfold StepOk
      rintro d act x0 ⟨u23, u24, u25, u26, u27, u28, u29, u30, u31, u32, u33, u34, rfl, f0, f1, f2, f3, f4, f5, f6, f7, f8, f9, f10, f11, f12, g0, g1, g2⟩ hd hdep Kc hKc
      rw [if_pos (by rfl)]
      go_big_op
      refine hKc _ _ ⟨_, _, _, _, _, _, _, _, _, _, _, _, rfl, ?_, ?_, ?_, ?_, ?_, ?_, ?_, ?_, ?_, ?_, ?_, ?_, ?_, ?_, ?_, ?_⟩
      · exact (fun h => f0 (up h rfl))
      · exact (fun h h5 => f1 (up h rfl) (dn h5))
      · exact (fun _ => rfl)
      · exact (fun h => f3 (up h rfl))
      · exact (fun h => f4 (up h rfl))
      · exact (fun h => f5 (up h rfl))
      · exact (fun h h5 => f6 (up h rfl) (dn h5))
      · exact (fun h => f7 (up h rfl))
      · exact (fun h h5 => f8 (up h rfl) (dn h5))
      · exact (fun h h5 => f9 (up h rfl) (dn h5))
      · exact (fun h => f10 (up h rfl))
      · exact (fun h => f11 (up h rfl))
      · exact (fun h => f12 (up h rfl))
      · exact (fun h => g0 (dn h))
      · exact (fun h => upl (g1 (up h rfl)))
      · exact (fun h i hi => upl (g2 (up h rfl) i hi))
    · unfold StepOk
      rintro d act x0 ⟨u23, u24, u25, u26, u27, u28, u29, u30, u31, u32, u33, u34, rfl, f0, f1, f2, f3, f4, f5, f6, f7, f8, f9, f10, f11, f12, g0, g1, g2⟩ hd hdep Kc hKc
      have hd2 : d 2 = true := hdep ⟨2, .data⟩ (by simp) rfl
      obtain rfl := f2 hd2
      rw [if_pos (by rfl)]
      go_big_op
      refine hKc _ _ ⟨_, _, _, _, _, _, _, _, _, _, _, _, rfl, ?_, ?_, ?_, ?_, ?_, ?_, ?_, ?_, ?_, ?_, ?_, ?_, ?_, ?_, ?_, ?_⟩
      · exact (fun h => f0 (up h rfl))
      · exact (fun h h5 => f1 (up h rfl) (dn h5))
      · exact (fun h => f2 (up h rfl))
      · exact (fun _ => rfl)
      · exact (fun h => f4 (up h rfl))
      · exact (fun h => f5 (up h rfl))
      · exact (fun h h5 => f6 (up h rfl) (dn h5))
      · exact (fun h => f7 (up h rfl))
      · exact (fun h h5 => f8 (up h rfl) (dn h5))
      · exact (fun h h5 => f9 (up h rfl) (dn h5))
      · exact (fun h => f10 (up h rfl))
      · exact (fun h => f11 (up h rfl))
      · exact (fun h => f12 (up h rfl))
      · exact (fun h => g0 (dn h))
      · exact (fun h => upl (g1 (up h rfl)))
      · exact (fun h i hi => upl (g2 (up h rfl) i hi))
    · unfold StepOk
      rintro d act x0 ⟨u23, u24, u25, u26, u27, u28, u29, u30, u31, u32, u33, u34, rfl, f0, f1, f2, f3, f4, f5, f6, f7, f8, f9, f10, f11, f12, g0, g1, g2⟩ hd hdep Kc hKc
      have hd3 : d 3 = true := hdep ⟨3, .data⟩ (by simp) rfl
      obtain rfl := f3 hd3
      rw [if_pos (by rfl)]
      go_big_op
      refine hKc _ _ ⟨_, _, _, _, _, _, _, _, _, _, _, _, rfl, ?_, ?_, ?_, ?_, ?_, ?_, ?_, ?_, ?_, ?_, ?_, ?_, ?_, ?_, ?_, ?_⟩
      · exact (fun h => f0 (up h rfl))
      · exact (fun h h5 => f1 (up h rfl) (dn h5))
      · exact (fun h => f2 (up h rfl))
      · exact (fun h => f3 (up h rfl))
      · exact (fun _ => rfl)
      · exact (fun h => f5 (up h rfl))
      · exact (fun h h5 => f6 (up h rfl) (dn h5))
      · exact (fun h => f7 (up h rfl))
      · exact (fun h h5 => f8 (up h rfl) (dn h5))
      · exact (fun h h5 => f9 (up h rfl) (dn h5))
      · exact (fun h => f10 (up h rfl))
      · exact (fun h => f11 (up h rfl))
      · exact (fun h => f12 (up h rfl))
      · exact (fun h => g0 (dn h))
      · exact (fun h => upl (g1 (up h rfl)))
      · exact (fun h i hi => upl (g2 (up h rfl) i hi))
    · unfold StepOk
      rintro d act x0 ⟨u23, u24, u25, u26, u27, u28, u29, u30, u31, u32, u33, u34, rfl, f0, f1, f2, f3, f4, f5, f6, f7, f8, f9, f10, f11, f12, g0, g1, g2⟩ hd hdep Kc hKc
      have hd4 : d 4 = true := hdep ⟨4, .data⟩ (by simp) rfl
      obtain rfl := f4 hd4
      have h12 : d 12 = false := by
        cases h : d 12 with
        | false => rfl
        | true => have := g2 h 5 (by omega); rw [hd] at this; cases this
      have B0 := g0 h12
      have hc := (RNB.ext HRW.out B0).c1
      have hl := (RNB.ext HRW.out B0).lt
      rw [if_pos (by rfl)]
      go_big_op
      refine hKc _ _ ⟨_, _, _, _, _, _, _, _, _, _, _, _, rfl, ?_, ?_, ?_, ?_, ?_, ?_, ?_, ?_, ?_, ?_, ?_, ?_, ?_, ?_, ?_, ?_⟩
      · exact (fun h => f0 (up h rfl))
      · exact (fun h h5 => f1 (up h rfl) (dn h5))
      · exact (fun h => f2 (up h rfl))
      · exact (fun h => f3 (up h rfl))
      · exact (fun h => f4 (up h rfl))
      · exact (fun _ => rfl)
      · exact (fun h h5 => f6 (up h rfl) (dn h5))
      · exact (fun h => f7 (up h rfl))
      · exact (fun h h5 => f8 (up h rfl) (dn h5))
      · exact (fun h h5 => f9 (up h rfl) (dn h5))
      · exact (fun h => f10 (up h rfl))
      · exact (fun h => f11 (up h rfl))
      · exact (fun h => f12 (up h rfl))
      · exact (fun h => g0 (dn h))
      · exact (fun h => upl (g1 (up h rfl)))
      · exact (fun h i hi => upl (g2 (up h rfl) i hi))
    · unfold StepOk
      rintro d act x0 ⟨u23, u24, u25, u26, u27, u28, u29, u30, u31, u32, u33, u34, rfl, f0, f1, f2, f3, f4, f5, f6, f7, f8, f9, f10, f11, f12, g0, g1, g2⟩ hd hdep Kc hKc
      have h12 : d 12 = false := by
        cases h : d 12 with
        | false => rfl
        | true => have := g2 h 6 (by omega); rw [hd] at this; cases this
      have B0 := g0 h12
      have h9 : d 9 = false := by
        cases h : d 9 with
        | false => rfl
        | true => have := g1 h; rw [hd] at this; cases this
      have hd1 : d 1 = true := hdep ⟨1, .data⟩ (by simp) rfl
      have hd5 : d 5 = true := hdep ⟨5, .data⟩ (by simp) rfl
      obtain ⟨b1, rfl, hb1, hge1⟩ := f1 hd1 hd
      have o0 := own_empty3 hb1 hge1
      obtain rfl := f5 hd5
      have hap := fun (ty : TypeId) => run_append_nilL x0 ty (some ⟨b1, 0, none⟩) 0 0 (Nat.le_refl _)
      rw [if_pos (by rfl)]
      go_big_op
      refine hKc _ _ ⟨_, _, _, _, _, _, _, _, _, _, _, _, rfl, ?_, ?_, ?_, ?_, ?_, ?_, ?_, ?_, ?_, ?_, ?_, ?_, ?_, ?_, ?_, ?_⟩
      · exact (fun h => f0 (up h rfl))
      · exact (fun h h5 => by simp at h5)
      · exact (fun h => f2 (up h rfl))
      · exact (fun h => f3 (up h rfl))
      · exact (fun h => f4 (up h rfl))
      · exact (fun h => f5 (up h rfl))
      · exact (fun _ => (fun h5 => by rw [HBL.out]; exact HN0.out ▸ o0))
      · exact (fun h => f7 (up h rfl))
      · exact (fun h h5 => f8 (up h rfl) (dn h5))
      · exact (fun h h5 => by have := up h rfl; rw [h9] at this; cases this)
      · exact (fun h => f10 (up h rfl))
      · exact (fun h => f11 (up h rfl))
      · exact (fun h => absurd (up h rfl) (by rw [h12]; simp))
      · exact (fun _ => B0)
      · exact (fun h => by simp)
      · exact (fun h i hi => upl (g2 (up h rfl) i hi))
    · unfold StepOk
      rintro d act x0 ⟨u23, u24, u25, u26, u27, u28, u29, u30, u31, u32, u33, u34, rfl, f0, f1, f2, f3, f4, f5, f6, f7, f8, f9, f10, f11, f12, g0, g1, g2⟩ hd hdep Kc hKc
      have h12 : d 12 = false := by
        cases h : d 12 with
        | false => rfl
        | true => have := g2 h 7 (by omega); rw [hd] at this; cases this
      have B0 := g0 h12
      have hk := blk_cell (blk_ext B0 HPW.out)
      have hkl := blk_lt (blk_ext B0 HPW.out)
      rw [if_pos (by rfl)]
      go_big_op
      refine hKc _ _ ⟨_, _, _, _, _, _, _, _, _, _, _, _, rfl, ?_, ?_, ?_, ?_, ?_, ?_, ?_, ?_, ?_, ?_, ?_, ?_, ?_, ?_, ?_, ?_⟩
      · exact (fun h => f0 (up h rfl))
      · exact (fun h h5 => f1 (up h rfl) (dn h5))
      · exact (fun h => f2 (up h rfl))
      · exact (fun h => f3 (up h rfl))
      · exact (fun h => f4 (up h rfl))
      · exact (fun h => f5 (up h rfl))
      · exact (fun h h5 => f6 (up h rfl) (dn h5))
      · exact (fun _ => rfl)
      · exact (fun h h5 => f8 (up h rfl) (dn h5))
      · exact (fun h h5 => f9 (up h rfl) (dn h5))
      · exact (fun h => f10 (up h rfl))
      · exact (fun h => f11 (up h rfl))
      · exact (fun h => f12 (up h rfl))
      · exact (fun h => g0 (dn h))
      · exact (fun h => upl (g1 (up h rfl)))
      · exact (fun h i hi => upl (g2 (up h rfl) i hi))
    · unfold StepOk
      rintro d act x0 ⟨u23, u24, u25, u26, u27, u28, u29, u30, u31, u32, u33, u34, rfl, f0, f1, f2, f3, f4, f5, f6, f7, f8, f9, f10, f11, f12, g0, g1, g2⟩ hd hdep Kc hKc
      have hd7 : d 7 = true := hdep ⟨7, .data⟩ (by simp) rfl
      obtain rfl := f7 hd7
      have h12 : d 12 = false := by
        cases h : d 12 with
        | false => rfl
        | true => have := g2 h 8 (by omega); rw [hd] at this; cases this
      have B0 := g0 h12
      rw [if_pos (by rfl)]
      go_big_op
      refine hKc _ _ ⟨_, _, _, _, _, _, _, _, _, _, _, _, rfl, ?_, ?_, ?_, ?_, ?_, ?_, ?_, ?_, ?_, ?_, ?_, ?_, ?_, ?_, ?_, ?_⟩
      · exact (fun h => f0 (up h rfl))
      · exact (fun h h5 => by obtain ⟨b1, e1, e2, e3⟩ := f1 (up h rfl) (dn h5); exact ⟨b1, e1, blk_alloc e2 _, e3⟩)
      · exact (fun h => f2 (up h rfl))
      · exact (fun h => f3 (up h rfl))
      · exact (fun h => f4 (up h rfl))
      · exact (fun h => f5 (up h rfl))
      · exact (fun h h5 => (f6 (up h rfl) (dn h5)).alloc _)
      · exact (fun h => f7 (up h rfl))
      · exact (fun _ => (fun h5 => ⟨_, rfl, blk_new _ _ _⟩))
      · exact (fun h h5 => by obtain ⟨a', c', e1, e2⟩ := f9 (up h rfl) (dn h5); exact ⟨a', c', e1, OwnR.ext e2 ((Below.refl _ _).alloc (Nat.le_refl _) _)⟩)
      · exact (fun h => f10 (up h rfl))
      · exact (fun h => f11 (up h rfl))
      · exact (fun h => absurd (up h rfl) (by rw [h12]; simp))
      · exact (fun _ => B0.alloc B0.size _)
      · exact (fun h => upl (g1 (up h rfl)))
      · exact (fun h i hi => upl (g2 (up h rfl) i hi))
    · unfold StepOk
      rintro d act x0 ⟨u23, u24, u25, u26, u27, u28, u29, u30, u31, u32, u33, u34, rfl, f0, f1, f2, f3, f4, f5, f6, f7, f8, f9, f10, f11, f12, g0, g1, g2⟩ hd hdep Kc hKc
      have h12 : d 12 = false := by
        cases h : d 12 with
        | false => rfl
        | true => have := g2 h 9 (by omega); rw [hd] at this; cases this
      have B0 := g0 h12
      have hd6 : d 6 = true := hdep ⟨6, .data⟩ (by simp) rfl
      have hd8 : d 8 = true := hdep ⟨8, .data⟩ (by simp) rfl
      have f6' := f6 hd6 hd
      obtain ⟨b4, rfl, hb4⟩ := f8 hd8 hd
      rw [if_pos (by rfl)]
      refine wp_append_own _ _ _ 44 rfl (W0.heap.size) 50 i0 (.agg #[.int .i64 0, .int .i64 0, .string ⟨#[]⟩]) 3 32 Try.underlying44 hi hz0 hz1 hz2 rfl (by decide) _ n (flat rlc bl) rfl f6' ⟨b4, 0, none⟩ 1 1 (rlc x) rfl ?c0 ?c1 ?c2 ?c3 ?c4 ?c5 ?_
      case c0 => rfl
      case c1 => intro j u hj; rw [add_offR, Nat.zero_add, blk_cell hb4]; simpa [rlc] using hj
      case c2 => exact rlc_one x
      case c3 => unfold maxLen; omega
      case c4 => omega
      case c5 => exact B0.size
      intro v' x1 hown' hgrow _
      have gB : Below W0.heap.size W0 x1 := B0.grown hgrow B0.size (fun q hq => own_ge f6' hq)
      have hoo : OwnRL W0.heap.size x1 v' (bl ++ [x]) := by
        unfold OwnRL OwnR
        rw [List.length_append, HL.out, flat_snoc]
        exact hown'
      obtain ⟨a', c', rfl, -, -, -⟩ := OwnR.form hoo
      rw [show (bl ++ [x]).length = n + 1 from by rw [List.length_append, HL.out]; rfl] at hoo ⊢
      refine hKc _ _ ⟨_, _, _, _, _, _, _, _, _, _, _, _, rfl, ?_, ?_, ?_, ?_, ?_, ?_, ?_, ?_, ?_, ?_, ?_, ?_, ?_, ?_, ?_, ?_⟩
      · exact (fun h => f0 (up h rfl))
      · exact (fun h h5 => by have := dn h5; rw [hd6] at this; cases this)
      · exact (fun h => f2 (up h rfl))
      · exact (fun h => f3 (up h rfl))
      · exact (fun h => f4 (up h rfl))
      · exact (fun h => f5 (up h rfl))
      · exact (fun h h5 => by simp at h5)
      · exact (fun h => f7 (up h rfl))
      · exact (fun h h5 => by simp at h5)
      · exact (fun _ => (fun h5 => ⟨_, _, rfl, hoo⟩))
      · exact (fun h => f10 (up h rfl))
      · exact (fun h => f11 (up h rfl))
      · exact (fun h => absurd (up h rfl) (by rw [h12]; simp))
      · exact (fun _ => gB)
      · exact (fun h => upl hd6)
      · exact (fun h i hi => upl (g2 (up h rfl) i hi))
    · unfold StepOk
      rintro d act x0 ⟨u23, u24, u25, u26, u27, u28, u29, u30, u31, u32, u33, u34, rfl, f0, f1, f2, f3, f4, f5, f6, f7, f8, f9, f10, f11, f12, g0, g1, g2⟩ hd hdep Kc hKc
      have hd0 : d 0 = true := hdep ⟨0, .data⟩ (by simp) rfl
      have hd0 : d 0 = true := hdep ⟨0, .phase⟩ (by simp) rfl
      obtain rfl := f0 hd0
      rw [if_pos (by rfl)]
      go_big_op
      refine hKc _ _ ⟨_, _, _, _, _, _, _, _, _, _, _, _, rfl, ?_, ?_, ?_, ?_, ?_, ?_, ?_, ?_, ?_, ?_, ?_, ?_, ?_, ?_, ?_, ?_⟩
      · exact (fun h => f0 (up h rfl))
      · exact (fun h h5 => f1 (up h rfl) (dn h5))
      · exact (fun h => f2 (up h rfl))
      · exact (fun h => f3 (up h rfl))
      · exact (fun h => f4 (up h rfl))
      · exact (fun h => f5 (up h rfl))
      · exact (fun h h5 => f6 (up h rfl) (dn h5))
      · exact (fun h => f7 (up h rfl))
      · exact (fun h h5 => f8 (up h rfl) (dn h5))
      · exact (fun h h5 => f9 (up h rfl) (dn h5))
      · exact (fun _ => rfl)
      · exact (fun h => f11 (up h rfl))
      · exact (fun h => f12 (up h rfl))
      · exact (fun h => g0 (dn h))
      · exact (fun h => upl (g1 (up h rfl)))
      · exact (fun h i hi => upl (g2 (up h rfl) i hi))
    · unfold StepOk
      rintro d act x0 ⟨u23, u24, u25, u26, u27, u28, u29, u30, u31, u32, u33, u34, rfl, f0, f1, f2, f3, f4, f5, f6, f7, f8, f9, f10, f11, f12, g0, g1, g2⟩ hd hdep Kc hKc
      have hd10 : d 10 = true := hdep ⟨10, .data⟩ (by simp) rfl
      obtain rfl := f10 hd10
      rw [if_pos (by rfl)]
      go_big_op
      refine hKc _ _ ⟨_, _, _, _, _, _, _, _, _, _, _, _, rfl, ?_, ?_, ?_, ?_, ?_, ?_, ?_, ?_, ?_, ?_, ?_, ?_, ?_, ?_, ?_, ?_⟩
      · exact (fun h => f0 (up h rfl))
      · exact (fun h h5 => f1 (up h rfl) (dn h5))
      · exact (fun h => f2 (up h rfl))
      · exact (fun h => f3 (up h rfl))
      · exact (fun h => f4 (up h rfl))
      · exact (fun h => f5 (up h rfl))
      · exact (fun h h5 => f6 (up h rfl) (dn h5))
      · exact (fun h => f7 (up h rfl))
      · exact (fun h h5 => f8 (up h rfl) (dn h5))
      · exact (fun h h5 => f9 (up h rfl) (dn h5))
      · exact (fun h => f10 (up h rfl))
      · exact (fun _ => rfl)
      · exact (fun h => f12 (up h rfl))
      · exact (fun h => g0 (dn h))
      · exact (fun h => upl (g1 (up h rfl)))
      · exact (fun h i hi => upl (g2 (up h rfl) i hi))
    · unfold StepOk
      rintro d act x0 ⟨u23, u24, u25, u26, u27, u28, u29, u30, u31, u32, u33, u34, rfl, f0, f1, f2, f3, f4, f5, f6, f7, f8, f9, f10, f11, f12, g0, g1, g2⟩ hd hdep Kc hKc
      have hd9 : d 9 = true := hdep ⟨9, .data⟩ (by simp) rfl
      have hd11 : d 11 = true := hdep ⟨11, .data⟩ (by simp) rfl
      have B0 := g0 hd
      have hd6 := g1 hd9
      obtain ⟨a', c', rfl, hoo⟩ := f9 hd9 hd
      obtain rfl := f11 hd11
      have hc := (RNB.ext HRW.out B0).c1
      have hl := (RNB.ext HRW.out B0).lt
      have hf := blk_free (RNB.blk (RNB.ext HRW.out B0))
      have hall : ∀ i : Nat, i < 10 → d i = true := by
        intro i hi
        have q0 : d 0 = true := hdep ⟨0, .phase⟩ (by simp) rfl
        have q1 : d 1 = true := hdep ⟨1, .phase⟩ (by simp) rfl
        have q2 : d 2 = true := hdep ⟨2, .phase⟩ (by simp) rfl
        have q3 : d 3 = true := hdep ⟨3, .phase⟩ (by simp) rfl
        have q4 : d 4 = true := hdep ⟨4, .phase⟩ (by simp) rfl
        have q5 : d 5 = true := hdep ⟨5, .phase⟩ (by simp) rfl
        have q6 : d 6 = true := hdep ⟨6, .phase⟩ (by simp) rfl
        have q7 : d 7 = true := hdep ⟨7, .phase⟩ (by simp) rfl
        have q8 : d 8 = true := hdep ⟨8, .phase⟩ (by simp) rfl
        have q9 : d 9 = true := hdep ⟨9, .phase⟩ (by simp) rfl
        have hh : i = 0 ∨ i = 1 ∨ i = 2 ∨ i = 3 ∨ i = 4 ∨ i = 5 ∨ i = 6 ∨ i = 7 ∨ i = 8 ∨ i = 9 := by omega
        rcases hh with rfl | rfl | rfl | rfl | rfl | rfl | rfl | rfl | rfl | rfl
        · exact q0
        · exact q1
        · exact q2
        · exact q3
        · exact q4
        · exact q5
        · exact q6
        · exact q7
        · exact q8
        · exact q9
      rw [if_pos (by rfl)]
      go_big_op
      refine hKc _ _ ⟨_, _, _, _, _, _, _, _, _, _, _, _, rfl, ?_, ?_, ?_, ?_, ?_, ?_, ?_, ?_, ?_, ?_, ?_, ?_, ?_, ?_, ?_, ?_⟩
      · exact (fun h => f0 (up h rfl))
      · exact (fun h h5 => by have := dn h5; rw [hd6] at this; cases this)
      · exact (fun h => f2 (up h rfl))
      · exact (fun h => f3 (up h rfl))
      · exact (fun h => f4 (up h rfl))
      · exact (fun h => f5 (up h rfl))
      · exact (fun h h5 => by have := dn h5; rw [hd9] at this; cases this)
      · exact (fun h => f7 (up h rfl))
      · exact (fun h h5 => by have := dn h5; rw [hd9] at this; cases this)
      · exact (fun h h5 => by simp at h5)
      · exact (fun h => f10 (up h rfl))
      · exact (fun h => f11 (up h rfl))
      · exact (fun _ => ⟨_, _, rfl, B0, hoo⟩)
      · exact (fun h => by simp at h)
      · exact (fun h => upl (g1 (up h rfl)))
      · exact (fun _ i hi => upl (hall i hi))
  · rintro d act x0 ⟨u23, u24, u25, u26, u27, u28, u29, u30, u31, u32, u33, u34, rfl, f0, f1, f2, f3, f4, f5, f6, f7, f8, f9, f10, f11, f12, g0, g1, g2⟩ hall
    obtain f12' := f12 (hall 12 (by decide))
    clear f0 f1 f2 f3 f4 f5 f6 f7 f8 f9 f10 f11 f12 hall
    obtain ⟨v, y, rfl, hby, hoo⟩ := f12'
    have HRES := Lib.hid (RNs.set (HRW.out.ext hby) HND.out.1 HND.out.2 (by rw [List.length_append, HL.out]; show n + 1 ≤ 64; omega) hoo)
    have HRIM := Lib.hid (show Rim rb w (y.setCell ⟨rb, 1, none⟩ v) from (Rim.of (ext_trans HBW.out hby)).trans (Rim.kept ((Kept.refl rb y).setCell 1 v)))
    clear hby hoo
    go_wp2
    go_ret
    exact ⟨rfl, HRES.out.of, HRIM.out⟩

end Go.Proofs.Ytkkmnodhmmdllaa
