/- The document's own shelf: Put of a new key, all ways. -/
import Derived.Test.YtloeabdohgdmkaaShfNBZ
import Derived.Test.YtloeabdohgdmkaaShfNCZ
namespace Go.Proofs.Ytloeabdohgdmkaa
open Go.RowKit
set_option linter.unusedVariables false
set_option linter.unusedSimpArgs false

theorem run_append_nilE (w : World) (ty : TypeId) (a : Option Addr) (n c : Nat) (h : n ≤ c) : (Builtin.append_ #[65, 65] ty #[.slice a n c, .slice none 0 0]).run Try.prog w = .ok (.slice a n c) w := by
  obtain ⟨i0, hi, hz0, hz1, hz2⟩ := info_parts' info_re
  cases a <;> simp [Builtin.append_, run_underlying Try.underlying65, sizeOf, typeInfo, hi, Builtin.lenOf, h, Builtin.firstCells, storeCells]
theorem wp_append_nilE {o : Oper} {a : Act} {w : World} {K : Act → World → Prop} {Q : Exit → Act → World → Prop} (s x : Operand) (ho : o.op = .call { callee := .builtin .append, args := #[s, x], argTypes := #[65, 65] }) (ad : Option Addr) (n c : Nat) (hs : a.eval s = .slice ad n c) (hx : a.eval x = .slice none 0 0) (hn : n ≤ c) (h : K (a.put o.dst (.slice ad n c)) w) : o.wp Try.prog a w K Q := by
  unfold Oper.wp execOp
  simp only [ho, resolve, invoke, builtin, Sem.run_bind, Sem.run_pure, Result.andThen_ok, List.map_toArray, List.map_cons, List.map_nil, hs, hx, run_append_nilE w o.type ad n c hn]
  exact h
set_option maxRecDepth 100000 in
set_option maxHeartbeats 4000000 in
theorem rshPutNewN (sb : Nat) (most : Int) (e : En) (w : World) (h1 : BoxR w sb most none 0 0) (hm : 0 < most) :
    Calls Try.prog 45 #[.pointer (some ⟨sb, 0, none⟩), .agg #[.string e.c.a, .string e.c.i, .int .i64 e.c.s, .int .i64 e.c.o, .int .i64 e.c.l, .int .i64 e.c.t, .int .i64 e.c.k, .int .i64 e.c.n, .bool e.c.g, .int .i64 e.seen]] w fun r w' => r = .returned (.int .i64 0) ∧ RShP w' sb most [e] ∧ Rim sb w w' := by
  have E0 : Below w.heap.size w (w.alloc (.cells #[.string e.c.a, .string e.c.i, .int .i64 e.c.s, .int .i64 e.c.o, .int .i64 e.c.l, .int .i64 e.c.t, .int .i64 e.c.k, .int .i64 e.c.n, .bool e.c.g, .int .i64 e.seen] 77)) := (Below.refl _ _).alloc (Nat.le_refl _) _
  have HP := Lib.hid (show (w.alloc (.cells #[.string e.c.a, .string e.c.i, .int .i64 e.c.s, .int .i64 e.c.o, .int .i64 e.c.l, .int .i64 e.c.t, .int .i64 e.c.k, .int .i64 e.c.n, .bool e.c.g, .int .i64 e.seen] 77)).heap[w.heap.size]? = some (.cells #[.string e.c.a, .string e.c.i, .int .i64 e.c.s, .int .i64 e.c.o, .int .i64 e.c.l, .int .i64 e.c.t, .int .i64 e.c.k, .int .i64 e.c.n, .bool e.c.g, .int .i64 e.seen] 77 (0, 0)) from blk_new _ _ _)
  have H1 := Lib.hid (show BoxR (w.alloc (.cells #[.string e.c.a, .string e.c.i, .int .i64 e.c.s, .int .i64 e.c.o, .int .i64 e.c.l, .int .i64 e.c.t, .int .i64 e.c.k, .int .i64 e.c.n, .bool e.c.g, .int .i64 e.seen] 77)) sb most none 0 0 from blk_ext E0 h1)
  have HB0 := Lib.hid E0
  have hsb := blk_lt h1
  have hm3 : ¬ most ≤ (0 : Int) := by omega
  have hm2 : decide (most ≤ (0 : Int)) = false := by simpa using hm3
  clear h1 E0
  go_enter Try.func45, Try.ntmps45
  go_upto_region 1 with (fail)
  obtain ⟨p, hp⟩ : ∃ p, w.heap.size = p := ⟨_, rfl⟩
  have HPS := Lib.hid hp
  rw [hp] at HP ⊢
  clear hp
  generalize (w.alloc (.cells #[.string e.c.a, .string e.c.i, .int .i64 e.c.s, .int .i64 e.c.o, .int .i64 e.c.l, .int .i64 e.c.t, .int .i64 e.c.k, .int .i64 e.c.n, .bool e.c.g, .int .i64 e.seen] 77)) = w0 at *
  have hk0 := blk_cell HP.out
  have hl0 := blk_lt HP.out
  go_wp2_with fail
  refine (rshFind sb most none 0 0 [] (e.c.a, e.c.i) _ H1.out (.inl rfl) List.Pairwise.nil rfl (by omega)).mono ?_
  rintro r w1 ⟨rfl, hb1⟩
  rw [show ((low (e.c.a, e.c.i) [] : Nat) : Int) = 0 from rfl, show isIn (e.c.a, e.c.i) [] = false from rfl]
  clear hk0 hl0
  have HP1 := Lib.hid (blk_ext hb1 HP.out)
  have H11 := Lib.hid (show BoxR w1 sb most none 0 0 from blk_ext hb1 H1.out)
  have HB1 := Lib.hid (ext_trans HB0.out hb1)
  have c0 := blk_cell H11.out 0
  have c1 := blk_cell H11.out 1
  simp only [List.getElem?_toArray, List.getElem?_cons_zero, List.getElem?_cons_succ] at c0 c1
  clear hb1 HP H1 HB0
  obtain ⟨i0, hi, hz0, hz1, hz2⟩ := info_parts' info_re
  go_wp2_with fail
  haveI hIq : Nonempty (Of w1) := of_some _
  have hF0 := of_cell c0
  have hF1 := of_cell c1
  first | (refine wp_region_stay w1 (by kernel_rfl) (by kernel_rfl) (by go_grown) ?_) | (refine wp_region_stay_seq w1 (by go_grown) ?_)
  repeat (go_big_quiet_step (fail))
  refine wpQuiet_nil ?_
  intro w2 hb2
  clear hIq hF0 hF1

  obtain ⟨W0, hW0⟩ : ∃ W0, w2.drew = W0 := ⟨_, rfl⟩
  have HRW := Lib.hid (show BoxR W0 sb most none 0 0 from by rw [← hW0]; exact blk_ext hb2 H11.out)
  have HPW := Lib.hid (show W0.heap[p]? = some (.cells #[.string e.c.a, .string e.c.i, .int .i64 e.c.s, .int .i64 e.c.o, .int .i64 e.c.l, .int .i64 e.c.t, .int .i64 e.c.k, .int .i64 e.c.n, .bool e.c.g, .int .i64 e.seen] 77 (0, 0)) from by rw [← hW0]; exact blk_ext hb2 HP1.out)
  have HBW := Lib.hid (show Below w.heap.size w W0 from by rw [← hW0]; exact (ext_trans HB1.out hb2).drew)
  have hsbW := blk_lt HRW.out
  clear hb2 c0 c1 HP1 H11 HB1
  go_wp2_with fail
  refine wp_region_inv_eq (J := fun A d act x0 => ∃ u42 u43 u44 u45 u46 u47 u48 u49 u50 u51 u52 u53 u54 u55 u56 u57 u58 u59 u60 u61 u62 : Value, act = (((((((((((((((((((((A.put (some 42) u42).put (some 43) u43).put (some 44) u44).put (some 45) u45).put (some 46) u46).put (some 47) u47).put (some 48) u48).put (some 49) u49).put (some 50) u50).put (some 51) u51).put (some 52) u52).put (some 53) u53).put (some 54) u54).put (some 55) u55).put (some 56) u56).put (some 57) u57).put (some 58) u58).put (some 59) u59).put (some 60) u60).put (some 61) u61).put (some 62) u62) ∧ (d 0 = true → u42 = .pointer (some ⟨sb, 0, none⟩)) ∧ (d 1 = true → (d 8 = false → ∃ b1 : Nat, u43 = .slice (some ⟨b1, 0, none⟩) 0 0 ∧ x0.heap[b1]? = some (.cells #[] 77 (0, 0)) ∧ W0.heap.size ≤ b1)) ∧ (d 2 = true → u44 = .pointer (some ⟨sb, 0, none⟩)) ∧ (d 3 = true → u45 = .pointer (some ⟨sb, 0, none⟩)) ∧ (d 4 = true → u46 = .pointer (some ⟨sb, 1, none⟩)) ∧ (d 5 = true → u47 = .slice none 0 0) ∧ (d 6 = true → u48 = .int .i64 0) ∧ (d 7 = true → u49 = .slice none 0 0) ∧ (d 8 = true → (d 11 = false → x0.ownsRow W0.heap.size 77 10 u50 0 (flat ec []))) ∧ (d 9 = true → u51 = .agg #[.string e.c.a, .string e.c.i, .int .i64 e.c.s, .int .i64 e.c.o, .int .i64 e.c.l, .int .i64 e.c.t, .int .i64 e.c.k, .int .i64 e.c.n, .bool e.c.g, .int .i64 e.seen]) ∧ (d 10 = true → (d 11 = false → ∃ b : Nat, u52 = .slice (some ⟨b, 0, none⟩) 1 1 ∧ x0.heap[b]? = some (.cells #[.string e.c.a, .string e.c.i, .int .i64 e.c.s, .int .i64 e.c.o, .int .i64 e.c.l, .int .i64 e.c.t, .int .i64 e.c.k, .int .i64 e.c.n, .bool e.c.g, .int .i64 e.seen] 77 (0, 0)))) ∧ (d 11 = true → (d 18 = false → x0.ownsRow W0.heap.size 77 10 u53 (0 + 1) (flat ec ([] ++ [e])))) ∧ (d 12 = true → u54 = .pointer (some ⟨sb, 0, none⟩)) ∧ (d 13 = true → u55 = .pointer (some ⟨sb, 0, none⟩)) ∧ (d 14 = true → u56 = .pointer (some ⟨sb, 1, none⟩)) ∧ (d 15 = true → u57 = .slice none 0 0) ∧ (d 16 = true → u58 = .int .i64 0) ∧ (d 17 = true → u59 = .slice none 0 0) ∧ (d 18 = true → (d 21 = false → ∃ (a' : Option Addr) (c' : Nat), u60 = .slice a' 1 c' ∧ OwnRE W0.heap.size x0 (.slice a' 1 c') [e])) ∧ (d 19 = true → u61 = .pointer (some ⟨sb, 0, none⟩)) ∧ (d 20 = true → u62 = .pointer (some ⟨sb, 1, none⟩)) ∧ (d 21 = true → (∃ (v : Value) (y : World), x0 = y.setCell ⟨sb, 1, none⟩ v ∧ Below W0.heap.size W0 y ∧ OwnRE W0.heap.size y v [e])) ∧ (d 21 = false → Below W0.heap.size W0 x0) ∧ (d 11 = true → d 8 = true) ∧ (d 18 = true → d 11 = true) ∧ (d 21 = true → ∀ i : Nat, i < 19 → d i = true)) (by simp only [Act.put, List.setIfInBounds_toArray, List.set_cons_succ, List.set_cons_zero]; rfl) (by kernel_rfl) (by kernel_rfl) ?_ ?_ ?_
  · refine ⟨_, _, _, _, _, _, _, _, _, _, _, _, _, _, _, _, _, _, _, _, _, rfl, ?_, ?_, ?_, ?_, ?_, ?_, ?_, ?_, ?_, ?_, ?_, ?_, ?_, ?_, ?_, ?_, ?_, ?_, ?_, ?_, ?_, ?_, ?_, ?_, ?_, ?_⟩
    · intro h; cases h
    · intro h; cases h
    · intro h; cases h
    · intro h; cases h
    · intro h; cases h
    · intro h; cases h
    · intro h; cases h
    · intro h; cases h
    · intro h; cases h
    · intro h; cases h
    · intro h; cases h
    · intro h; cases h
    · intro h; cases h
    · intro h; cases h
    · intro h; cases h
    · intro h; cases h
    · intro h; cases h
    · intro h; cases h
    · intro h; cases h
    · intro h; cases h
    · intro h; cases h
    · intro h; cases h
    · exact (fun _ => by rw [← hW0]; exact (Below.refl _ _))
    · exact (fun h => by cases h)
    · exact (fun h => by cases h)
    · exact (fun h => by cases h)
  · refine stepsOk_cons (k := 0) ?_ (stepsOk_cons (k := 1) ?_ (stepsOk_cons (k := 2) ?_ (stepsOk_cons (k := 3) ?_ (stepsOk_cons (k := 4) ?_ (stepsOk_cons (k := 5) ?_ (stepsOk_cons (k := 6) ?_ (stepsOk_cons (k := 7) ?_ (stepsOk_cons (k := 8) ?_ (stepsOk_cons (k := 9) ?_ (stepsOk_cons (k := 10) ?_ (stepsOk_cons (k := 11) ?_ (stepsOk_cons (k := 12) ?_ (stepsOk_cons (k := 13) ?_ (stepsOk_cons (k := 14) ?_ (stepsOk_cons (k := 15) ?_ (stepsOk_cons (k := 16) ?_ (stepsOk_cons (k := 17) ?_ (stepsOk_cons (k := 18) ?_ (stepsOk_cons (k := 19) ?_ (stepsOk_cons (k := 20) ?_ (stepsOk_cons (k := 21) ?_ stepsOk_nil)))))))))))))))))))))
    · unfold StepOk
      rintro d act x0 ⟨u42, u43, u44, u45, u46, u47, u48, u49, u50, u51, u52, u53, u54, u55, u56, u57, u58, u59, u60, u61, u62, rfl, f0, f1, f2, f3, f4, f5, f6, f7, f8, f9, f10, f11, f12, f13, f14, f15, f16, f17, f18, f19, f20, f21, g0, g1, g2, g3⟩ hd hdep Kc hKc
      rw [if_pos (by rfl)]
      go_big_op
      refine hKc _ _ ⟨_, _, _, _, _, _, _, _, _, _, _, _, _, _, _, _, _, _, _, _, _, rfl, ?_, ?_, ?_, ?_, ?_, ?_, ?_, ?_, ?_, ?_, ?_, ?_, ?_, ?_, ?_, ?_, ?_, ?_, ?_, ?_, ?_, ?_, ?_, ?_, ?_, ?_⟩
      · exact (fun _ => rfl)
      · exact (fun h h5 => f1 (up h rfl) (dn h5))
      · exact (fun h => f2 (up h rfl))
      · exact (fun h => f3 (up h rfl))
      · exact (fun h => f4 (up h rfl))
      · exact (fun h => f5 (up h rfl))
      · exact (fun h => f6 (up h rfl))
      · exact (fun h => f7 (up h rfl))
      · exact (fun h h5 => f8 (up h rfl) (dn h5))
      · exact (fun h => f9 (up h rfl))
      · exact (fun h h5 => f10 (up h rfl) (dn h5))
      · exact (fun h h5 => f11 (up h rfl) (dn h5))
      · exact (fun h => f12 (up h rfl))
      · exact (fun h => f13 (up h rfl))
      · exact (fun h => f14 (up h rfl))
      · exact (fun h => f15 (up h rfl))
      · exact (fun h => f16 (up h rfl))
      · exact (fun h => f17 (up h rfl))
      · exact (fun h h5 => f18 (up h rfl) (dn h5))
      · exact (fun h => f19 (up h rfl))
      · exact (fun h => f20 (up h rfl))
      · exact (fun h => f21 (up h rfl))
      · exact (fun h => g0 (dn h))
      · exact (fun h => upl (g1 (up h rfl)))
      · exact (fun h => upl (g2 (up h rfl)))
      · exact (fun h i hi => upl (g3 (up h rfl) i hi))
    · unfold StepOk
      rintro d act x0 ⟨u42, u43, u44, u45, u46, u47, u48, u49, u50, u51, u52, u53, u54, u55, u56, u57, u58, u59, u60, u61, u62, rfl, f0, f1, f2, f3, f4, f5, f6, f7, f8, f9, f10, f11, f12, f13, f14, f15, f16, f17, f18, f19, f20, f21, g0, g1, g2, g3⟩ hd hdep Kc hKc
      have h21 : d 21 = false := by
        cases h : d 21 with
        | false => rfl
        | true => have := g3 h 1 (by omega); rw [hd] at this; cases this
      have B0 := g0 h21
      rw [if_pos (by rfl)]
      go_big_op
      refine hKc _ _ ⟨_, _, _, _, _, _, _, _, _, _, _, _, _, _, _, _, _, _, _, _, _, rfl, ?_, ?_, ?_, ?_, ?_, ?_, ?_, ?_, ?_, ?_, ?_, ?_, ?_, ?_, ?_, ?_, ?_, ?_, ?_, ?_, ?_, ?_, ?_, ?_, ?_, ?_⟩
      · exact (fun h => f0 (up h rfl))
      · exact (fun _ => (fun h5 => ⟨_, rfl, blk_new _ _ _, B0.size⟩))
      · exact (fun h => f2 (up h rfl))
      · exact (fun h => f3 (up h rfl))
      · exact (fun h => f4 (up h rfl))
      · exact (fun h => f5 (up h rfl))
      · exact (fun h => f6 (up h rfl))
      · exact (fun h => f7 (up h rfl))
      · exact (fun h h5 => (f8 (up h rfl) (dn h5)).alloc _)
      · exact (fun h => f9 (up h rfl))
      · exact (fun h h5 => by obtain ⟨b, e1, e2⟩ := f10 (up h rfl) (dn h5); exact ⟨b, e1, blk_alloc e2 _⟩)
      · exact (fun h h5 => (f11 (up h rfl) (dn h5)).alloc _)
      · exact (fun h => f12 (up h rfl))
      · exact (fun h => f13 (up h rfl))
      · exact (fun h => f14 (up h rfl))
      · exact (fun h => f15 (up h rfl))
      · exact (fun h => f16 (up h rfl))
      · exact (fun h => f17 (up h rfl))
      · exact (fun h h5 => by obtain ⟨a', c', e1, e2⟩ := f18 (up h rfl) (dn h5); exact ⟨a', c', e1, OwnR.ext e2 ((Below.refl _ _).alloc (Nat.le_refl _) _)⟩)
      · exact (fun h => f19 (up h rfl))
      · exact (fun h => f20 (up h rfl))
      · exact (fun h => absurd (up h rfl) (by rw [h21]; simp))
      · exact (fun _ => B0.alloc B0.size _)
      · exact (fun h => upl (g1 (up h rfl)))
      · exact (fun h => upl (g2 (up h rfl)))
      · exact (fun h i hi => upl (g3 (up h rfl) i hi))
    · unfold StepOk
      rintro d act x0 ⟨u42, u43, u44, u45, u46, u47, u48, u49, u50, u51, u52, u53, u54, u55, u56, u57, u58, u59, u60, u61, u62, rfl, f0, f1, f2, f3, f4, f5, f6, f7, f8, f9, f10, f11, f12, f13, f14, f15, f16, f17, f18, f19, f20, f21, g0, g1, g2, g3⟩ hd hdep Kc hKc
      rw [if_pos (by rfl)]
      go_big_op
      refine hKc _ _ ⟨_, _, _, _, _, _, _, _, _, _, _, _, _, _, _, _, _, _, _, _, _, rfl, ?_, ?_, ?_, ?_, ?_, ?_, ?_, ?_, ?_, ?_, ?_, ?_, ?_, ?_, ?_, ?_, ?_, ?_, ?_, ?_, ?_, ?_, ?_, ?_, ?_, ?_⟩
      · exact (fun h => f0 (up h rfl))
      · exact (fun h h5 => f1 (up h rfl) (dn h5))
      · exact (fun _ => rfl)
      · exact (fun h => f3 (up h rfl))
      · exact (fun h => f4 (up h rfl))
      · exact (fun h => f5 (up h rfl))
      · exact (fun h => f6 (up h rfl))
      · exact (fun h => f7 (up h rfl))
      · exact (fun h h5 => f8 (up h rfl) (dn h5))
      · exact (fun h => f9 (up h rfl))
      · exact (fun h h5 => f10 (up h rfl) (dn h5))
      · exact (fun h h5 => f11 (up h rfl) (dn h5))
      · exact (fun h => f12 (up h rfl))
      · exact (fun h => f13 (up h rfl))
      · exact (fun h => f14 (up h rfl))
      · exact (fun h => f15 (up h rfl))
      · exact (fun h => f16 (up h rfl))
      · exact (fun h => f17 (up h rfl))
      · exact (fun h h5 => f18 (up h rfl) (dn h5))
      · exact (fun h => f19 (up h rfl))
      · exact (fun h => f20 (up h rfl))
      · exact (fun h => f21 (up h rfl))
      · exact (fun h => g0 (dn h))
      · exact (fun h => upl (g1 (up h rfl)))
      · exact (fun h => upl (g2 (up h rfl)))
      · exact (fun h i hi => upl (g3 (up h rfl) i hi))
    · unfold StepOk
      rintro d act x0 ⟨u42, u43, u44, u45, u46, u47, u48, u49, u50, u51, u52, u53, u54, u55, u56, u57, u58, u59, u60, u61, u62, rfl, f0, f1, f2, f3, f4, f5, f6, f7, f8, f9, f10, f11, f12, f13, f14, f15, f16, f17, f18, f19, f20, f21, g0, g1, g2, g3⟩ hd hdep Kc hKc
      have hd2 : d 2 = true := hdep ⟨2, .data⟩ (by simp) rfl
      obtain rfl := f2 hd2
      rw [if_pos (by rfl)]
      go_big_op
      refine hKc _ _ ⟨_, _, _, _, _, _, _, _, _, _, _, _, _, _, _, _, _, _, _, _, _, rfl, ?_, ?_, ?_, ?_, ?_, ?_, ?_, ?_, ?_, ?_, ?_, ?_, ?_, ?_, ?_, ?_, ?_, ?_, ?_, ?_, ?_, ?_, ?_, ?_, ?_, ?_⟩
      · exact (fun h => f0 (up h rfl))
      · exact (fun h h5 => f1 (up h rfl) (dn h5))
      · exact (fun h => f2 (up h rfl))
      · exact (fun _ => rfl)
      · exact (fun h => f4 (up h rfl))
      · exact (fun h => f5 (up h rfl))
      · exact (fun h => f6 (up h rfl))
      · exact (fun h => f7 (up h rfl))
      · exact (fun h h5 => f8 (up h rfl) (dn h5))
      · exact (fun h => f9 (up h rfl))
      · exact (fun h h5 => f10 (up h rfl) (dn h5))
      · exact (fun h h5 => f11 (up h rfl) (dn h5))
      · exact (fun h => f12 (up h rfl))
      · exact (fun h => f13 (up h rfl))
      · exact (fun h => f14 (up h rfl))
      · exact (fun h => f15 (up h rfl))
      · exact (fun h => f16 (up h rfl))
      · exact (fun h => f17 (up h rfl))
      · exact (fun h h5 => f18 (up h rfl) (dn h5))
      · exact (fun h => f19 (up h rfl))
      · exact (fun h => f20 (up h rfl))
      · exact (fun h => f21 (up h rfl))
      · exact (fun h => g0 (dn h))
      · exact (fun h => upl (g1 (up h rfl)))
      · exact (fun h => upl (g2 (up h rfl)))
      · exact (fun h i hi => upl (g3 (up h rfl) i hi))
    · unfold StepOk
      rintro d act x0 ⟨u42, u43, u44, u45, u46, u47, u48, u49, u50, u51, u52, u53, u54, u55, u56, u57, u58, u59, u60, u61, u62, rfl, f0, f1, f2, f3, f4, f5, f6, f7, f8, f9, f10, f11, f12, f13, f14, f15, f16, f17, f18, f19, f20, f21, g0, g1, g2, g3⟩ hd hdep Kc hKc
      have hd3 : d 3 = true := hdep ⟨3, .data⟩ (by simp) rfl
      obtain rfl := f3 hd3
      rw [if_pos (by rfl)]
      go_big_op
      refine hKc _ _ ⟨_, _, _, _, _, _, _, _, _, _, _, _, _, _, _, _, _, _, _, _, _, rfl, ?_, ?_, ?_, ?_, ?_, ?_, ?_, ?_, ?_, ?_, ?_, ?_, ?_, ?_, ?_, ?_, ?_, ?_, ?_, ?_, ?_, ?_, ?_, ?_, ?_, ?_⟩
      · exact (fun h => f0 (up h rfl))
      · exact (fun h h5 => f1 (up h rfl) (dn h5))
      · exact (fun h => f2 (up h rfl))
      · exact (fun h => f3 (up h rfl))
      · exact (fun _ => rfl)
      · exact (fun h => f5 (up h rfl))
      · exact (fun h => f6 (up h rfl))
      · exact (fun h => f7 (up h rfl))
      · exact (fun h h5 => f8 (up h rfl) (dn h5))
      · exact (fun h => f9 (up h rfl))
      · exact (fun h h5 => f10 (up h rfl) (dn h5))
      · exact (fun h h5 => f11 (up h rfl) (dn h5))
      · exact (fun h => f12 (up h rfl))
      · exact (fun h => f13 (up h rfl))
      · exact (fun h => f14 (up h rfl))
      · exact (fun h => f15 (up h rfl))
      · exact (fun h => f16 (up h rfl))
      · exact (fun h => f17 (up h rfl))
      · exact (fun h h5 => f18 (up h rfl) (dn h5))
      · exact (fun h => f19 (up h rfl))
      · exact (fun h => f20 (up h rfl))
      · exact (fun h => f21 (up h rfl))
      · exact (fun h => g0 (dn h))
      · exact (fun h => upl (g1 (up h rfl)))
      · exact (fun h => upl (g2 (up h rfl)))
      · exact (fun h i hi => upl (g3 (up h rfl) i hi))
    · unfold StepOk
      rintro d act x0 ⟨u42, u43, u44, u45, u46, u47, u48, u49, u50, u51, u52, u53, u54, u55, u56, u57, u58, u59, u60, u61, u62, rfl, f0, f1, f2, f3, f4, f5, f6, f7, f8, f9, f10, f11, f12, f13, f14, f15, f16, f17, f18, f19, f20, f21, g0, g1, g2, g3⟩ hd hdep Kc hKc
      have hd4 : d 4 = true := hdep ⟨4, .data⟩ (by simp) rfl
      obtain rfl := f4 hd4
      have h21 : d 21 = false := by
        cases h : d 21 with
        | false => rfl
        | true => have := g3 h 5 (by omega); rw [hd] at this; cases this
      have B0 := g0 h21
      have hc := blk_cell (blk_ext B0 HRW.out) 1
      simp only [List.getElem?_toArray, List.getElem?_cons_zero, List.getElem?_cons_succ] at hc
      rw [if_pos (by rfl)]
      go_big_op
      refine hKc _ _ ⟨_, _, _, _, _, _, _, _, _, _, _, _, _, _, _, _, _, _, _, _, _, rfl, ?_, ?_, ?_, ?_, ?_, ?_, ?_, ?_, ?_, ?_, ?_, ?_, ?_, ?_, ?_, ?_, ?_, ?_, ?_, ?_, ?_, ?_, ?_, ?_, ?_, ?_⟩
      · exact (fun h => f0 (up h rfl))
      · exact (fun h h5 => f1 (up h rfl) (dn h5))
      · exact (fun h => f2 (up h rfl))
      · exact (fun h => f3 (up h rfl))
      · exact (fun h => f4 (up h rfl))
      · exact (fun _ => rfl)
      · exact (fun h => f6 (up h rfl))
      · exact (fun h => f7 (up h rfl))
      · exact (fun h h5 => f8 (up h rfl) (dn h5))
      · exact (fun h => f9 (up h rfl))
      · exact (fun h h5 => f10 (up h rfl) (dn h5))
      · exact (fun h h5 => f11 (up h rfl) (dn h5))
      · exact (fun h => f12 (up h rfl))
      · exact (fun h => f13 (up h rfl))
      · exact (fun h => f14 (up h rfl))
      · exact (fun h => f15 (up h rfl))
      · exact (fun h => f16 (up h rfl))
      · exact (fun h => f17 (up h rfl))
      · exact (fun h h5 => f18 (up h rfl) (dn h5))
      · exact (fun h => f19 (up h rfl))
      · exact (fun h => f20 (up h rfl))
      · exact (fun h => f21 (up h rfl))
      · exact (fun h => g0 (dn h))
      · exact (fun h => upl (g1 (up h rfl)))
      · exact (fun h => upl (g2 (up h rfl)))
      · exact (fun h i hi => upl (g3 (up h rfl) i hi))
    · unfold StepOk
      rintro d act x0 ⟨u42, u43, u44, u45, u46, u47, u48, u49, u50, u51, u52, u53, u54, u55, u56, u57, u58, u59, u60, u61, u62, rfl, f0, f1, f2, f3, f4, f5, f6, f7, f8, f9, f10, f11, f12, f13, f14, f15, f16, f17, f18, f19, f20, f21, g0, g1, g2, g3⟩ hd hdep Kc hKc
      rw [if_pos (by rfl)]
      go_big_op
      refine hKc _ _ ⟨_, _, _, _, _, _, _, _, _, _, _, _, _, _, _, _, _, _, _, _, _, rfl, ?_, ?_, ?_, ?_, ?_, ?_, ?_, ?_, ?_, ?_, ?_, ?_, ?_, ?_, ?_, ?_, ?_, ?_, ?_, ?_, ?_, ?_, ?_, ?_, ?_, ?_⟩
      · exact (fun h => f0 (up h rfl))
      · exact (fun h h5 => f1 (up h rfl) (dn h5))
      · exact (fun h => f2 (up h rfl))
      · exact (fun h => f3 (up h rfl))
      · exact (fun h => f4 (up h rfl))
      · exact (fun h => f5 (up h rfl))
      · exact (fun _ => rfl)
      · exact (fun h => f7 (up h rfl))
      · exact (fun h h5 => f8 (up h rfl) (dn h5))
      · exact (fun h => f9 (up h rfl))
      · exact (fun h h5 => f10 (up h rfl) (dn h5))
      · exact (fun h h5 => f11 (up h rfl) (dn h5))
      · exact (fun h => f12 (up h rfl))
      · exact (fun h => f13 (up h rfl))
      · exact (fun h => f14 (up h rfl))
      · exact (fun h => f15 (up h rfl))
      · exact (fun h => f16 (up h rfl))
      · exact (fun h => f17 (up h rfl))
      · exact (fun h h5 => f18 (up h rfl) (dn h5))
      · exact (fun h => f19 (up h rfl))
      · exact (fun h => f20 (up h rfl))
      · exact (fun h => f21 (up h rfl))
      · exact (fun h => g0 (dn h))
      · exact (fun h => upl (g1 (up h rfl)))
      · exact (fun h => upl (g2 (up h rfl)))
      · exact (fun h i hi => upl (g3 (up h rfl) i hi))
    · unfold StepOk
      rintro d act x0 ⟨u42, u43, u44, u45, u46, u47, u48, u49, u50, u51, u52, u53, u54, u55, u56, u57, u58, u59, u60, u61, u62, rfl, f0, f1, f2, f3, f4, f5, f6, f7, f8, f9, f10, f11, f12, f13, f14, f15, f16, f17, f18, f19, f20, f21, g0, g1, g2, g3⟩ hd hdep Kc hKc
      have hd5 : d 5 = true := hdep ⟨5, .data⟩ (by simp) rfl
      have hd6 : d 6 = true := hdep ⟨6, .data⟩ (by simp) rfl
      obtain rfl := f5 hd5
      obtain rfl := f6 hd6
      rw [if_pos (by rfl)]
      go_big_op
      refine hKc _ _ ⟨_, _, _, _, _, _, _, _, _, _, _, _, _, _, _, _, _, _, _, _, _, rfl, ?_, ?_, ?_, ?_, ?_, ?_, ?_, ?_, ?_, ?_, ?_, ?_, ?_, ?_, ?_, ?_, ?_, ?_, ?_, ?_, ?_, ?_, ?_, ?_, ?_, ?_⟩
      · exact (fun h => f0 (up h rfl))
      · exact (fun h h5 => f1 (up h rfl) (dn h5))
      · exact (fun h => f2 (up h rfl))
      · exact (fun h => f3 (up h rfl))
      · exact (fun h => f4 (up h rfl))
      · exact (fun h => f5 (up h rfl))
      · exact (fun h => f6 (up h rfl))
      · exact (fun _ => rfl)
      · exact (fun h h5 => f8 (up h rfl) (dn h5))
      · exact (fun h => f9 (up h rfl))
      · exact (fun h h5 => f10 (up h rfl) (dn h5))
      · exact (fun h h5 => f11 (up h rfl) (dn h5))
      · exact (fun h => f12 (up h rfl))
      · exact (fun h => f13 (up h rfl))
      · exact (fun h => f14 (up h rfl))
      · exact (fun h => f15 (up h rfl))
      · exact (fun h => f16 (up h rfl))
      · exact (fun h => f17 (up h rfl))
      · exact (fun h h5 => f18 (up h rfl) (dn h5))
      · exact (fun h => f19 (up h rfl))
      · exact (fun h => f20 (up h rfl))
      · exact (fun h => f21 (up h rfl))
      · exact (fun h => g0 (dn h))
      · exact (fun h => upl (g1 (up h rfl)))
      · exact (fun h => upl (g2 (up h rfl)))
      · exact (fun h i hi => upl (g3 (up h rfl) i hi))
    · unfold StepOk
      rintro d act x0 ⟨u42, u43, u44, u45, u46, u47, u48, u49, u50, u51, u52, u53, u54, u55, u56, u57, u58, u59, u60, u61, u62, rfl, f0, f1, f2, f3, f4, f5, f6, f7, f8, f9, f10, f11, f12, f13, f14, f15, f16, f17, f18, f19, f20, f21, g0, g1, g2, g3⟩ hd hdep Kc hKc
      have h21 : d 21 = false := by
        cases h : d 21 with
        | false => rfl
        | true => have := g3 h 8 (by omega); rw [hd] at this; cases this
      have B0 := g0 h21
      have h11 : d 11 = false := by
        cases h : d 11 with
        | false => rfl
        | true => have := g1 h; rw [hd] at this; cases this
      have h18 : d 18 = false := by
        cases h : d 18 with
        | false => rfl
        | true => have := g2 h; rw [h11] at this; cases this
      have hd1 : d 1 = true := hdep ⟨1, .data⟩ (by simp) rfl
      have hd7 : d 7 = true := hdep ⟨7, .data⟩ (by simp) rfl
      obtain ⟨b1, rfl, hb1, hge1⟩ := f1 hd1 hd
      have o0 := own_empty10 hb1 hge1
      obtain rfl := f7 hd7
      rw [if_pos (by rfl)]
      refine wp_append_nilE _ _ rfl (some ⟨b1, 0, none⟩) 0 0 rfl rfl (Nat.le_refl _) ?_
      refine hKc _ _ ⟨_, _, _, _, _, _, _, _, _, _, _, _, _, _, _, _, _, _, _, _, _, rfl, ?_, ?_, ?_, ?_, ?_, ?_, ?_, ?_, ?_, ?_, ?_, ?_, ?_, ?_, ?_, ?_, ?_, ?_, ?_, ?_, ?_, ?_, ?_, ?_, ?_, ?_⟩
      · exact (fun h => f0 (up h rfl))
      · exact (fun h h5 => by simp at h5)
      · exact (fun h => f2 (up h rfl))
      · exact (fun h => f3 (up h rfl))
      · exact (fun h => f4 (up h rfl))
      · exact (fun h => f5 (up h rfl))
      · exact (fun h => f6 (up h rfl))
      · exact (fun h => f7 (up h rfl))
      · exact (fun _ => (fun h5 => o0))
      · exact (fun h => f9 (up h rfl))
      · exact (fun h h5 => f10 (up h rfl) (dn h5))
      · exact (fun h h5 => by have := up h rfl; rw [h11] at this; cases this)
      · exact (fun h => f12 (up h rfl))
      · exact (fun h => f13 (up h rfl))
      · exact (fun h => f14 (up h rfl))
      · exact (fun h => f15 (up h rfl))
      · exact (fun h => f16 (up h rfl))
      · exact (fun h => f17 (up h rfl))
      · exact (fun h h5 => by have := up h rfl; rw [h18] at this; cases this)
      · exact (fun h => f19 (up h rfl))
      · exact (fun h => f20 (up h rfl))
      · exact (fun h => absurd (up h rfl) (by rw [h21]; simp))
      · exact (fun _ => B0)
      · exact (fun h => by simp)
      · exact (fun h => upl (g2 (up h rfl)))
      · exact (fun h i hi => upl (g3 (up h rfl) i hi))
    · unfold StepOk
      rintro d act x0 ⟨u42, u43, u44, u45, u46, u47, u48, u49, u50, u51, u52, u53, u54, u55, u56, u57, u58, u59, u60, u61, u62, rfl, f0, f1, f2, f3, f4, f5, f6, f7, f8, f9, f10, f11, f12, f13, f14, f15, f16, f17, f18, f19, f20, f21, g0, g1, g2, g3⟩ hd hdep Kc hKc
      have h21 : d 21 = false := by
        cases h : d 21 with
        | false => rfl
        | true => have := g3 h 9 (by omega); rw [hd] at this; cases this
      have B0 := g0 h21
      have hk := blk_cell (blk_ext B0 HPW.out)
      rw [if_pos (by rfl)]
      go_big_op
      refine hKc _ _ ⟨_, _, _, _, _, _, _, _, _, _, _, _, _, _, _, _, _, _, _, _, _, rfl, ?_, ?_, ?_, ?_, ?_, ?_, ?_, ?_, ?_, ?_, ?_, ?_, ?_, ?_, ?_, ?_, ?_, ?_, ?_, ?_, ?_, ?_, ?_, ?_, ?_, ?_⟩
      · exact (fun h => f0 (up h rfl))
      · exact (fun h h5 => f1 (up h rfl) (dn h5))
      · exact (fun h => f2 (up h rfl))
      · exact (fun h => f3 (up h rfl))
      · exact (fun h => f4 (up h rfl))
      · exact (fun h => f5 (up h rfl))
      · exact (fun h => f6 (up h rfl))
      · exact (fun h => f7 (up h rfl))
      · exact (fun h h5 => f8 (up h rfl) (dn h5))
      · exact (fun _ => rfl)
      · exact (fun h h5 => f10 (up h rfl) (dn h5))
      · exact (fun h h5 => f11 (up h rfl) (dn h5))
      · exact (fun h => f12 (up h rfl))
      · exact (fun h => f13 (up h rfl))
      · exact (fun h => f14 (up h rfl))
      · exact (fun h => f15 (up h rfl))
      · exact (fun h => f16 (up h rfl))
      · exact (fun h => f17 (up h rfl))
      · exact (fun h h5 => f18 (up h rfl) (dn h5))
      · exact (fun h => f19 (up h rfl))
      · exact (fun h => f20 (up h rfl))
      · exact (fun h => f21 (up h rfl))
      · exact (fun h => g0 (dn h))
      · exact (fun h => upl (g1 (up h rfl)))
      · exact (fun h => upl (g2 (up h rfl)))
      · exact (fun h i hi => upl (g3 (up h rfl) i hi))
    · unfold StepOk
      rintro d act x0 ⟨u42, u43, u44, u45, u46, u47, u48, u49, u50, u51, u52, u53, u54, u55, u56, u57, u58, u59, u60, u61, u62, rfl, f0, f1, f2, f3, f4, f5, f6, f7, f8, f9, f10, f11, f12, f13, f14, f15, f16, f17, f18, f19, f20, f21, g0, g1, g2, g3⟩ hd hdep Kc hKc
      have hd9 : d 9 = true := hdep ⟨9, .data⟩ (by simp) rfl
      obtain rfl := f9 hd9
      have h21 : d 21 = false := by
        cases h : d 21 with
        | false => rfl
        | true => have := g3 h 10 (by omega); rw [hd] at this; cases this
      have B0 := g0 h21
      rw [if_pos (by rfl)]
      go_big_op
      refine hKc _ _ ⟨_, _, _, _, _, _, _, _, _, _, _, _, _, _, _, _, _, _, _, _, _, rfl, ?_, ?_, ?_, ?_, ?_, ?_, ?_, ?_, ?_, ?_, ?_, ?_, ?_, ?_, ?_, ?_, ?_, ?_, ?_, ?_, ?_, ?_, ?_, ?_, ?_, ?_⟩
      · exact (fun h => f0 (up h rfl))
      · exact (fun h h5 => by obtain ⟨b1, e1, e2, e3⟩ := f1 (up h rfl) (dn h5); exact ⟨b1, e1, blk_alloc e2 _, e3⟩)
      · exact (fun h => f2 (up h rfl))
      · exact (fun h => f3 (up h rfl))
      · exact (fun h => f4 (up h rfl))
      · exact (fun h => f5 (up h rfl))
      · exact (fun h => f6 (up h rfl))
      · exact (fun h => f7 (up h rfl))
      · exact (fun h h5 => (f8 (up h rfl) (dn h5)).alloc _)
      · exact (fun h => f9 (up h rfl))
      · exact (fun _ => (fun h5 => ⟨_, rfl, blk_new _ _ _⟩))
      · exact (fun h h5 => (f11 (up h rfl) (dn h5)).alloc _)
      · exact (fun h => f12 (up h rfl))
      · exact (fun h => f13 (up h rfl))
      · exact (fun h => f14 (up h rfl))
      · exact (fun h => f15 (up h rfl))
      · exact (fun h => f16 (up h rfl))
      · exact (fun h => f17 (up h rfl))
      · exact (fun h h5 => by obtain ⟨a', c', e1, e2⟩ := f18 (up h rfl) (dn h5); exact ⟨a', c', e1, OwnR.ext e2 ((Below.refl _ _).alloc (Nat.le_refl _) _)⟩)
      · exact (fun h => f19 (up h rfl))
      · exact (fun h => f20 (up h rfl))
      · exact (fun h => absurd (up h rfl) (by rw [h21]; simp))
      · exact (fun _ => B0.alloc B0.size _)
      · exact (fun h => upl (g1 (up h rfl)))
      · exact (fun h => upl (g2 (up h rfl)))
      · exact (fun h i hi => upl (g3 (up h rfl) i hi))
    · unfold StepOk
      rintro d act x0 ⟨u42, u43, u44, u45, u46, u47, u48, u49, u50, u51, u52, u53, u54, u55, u56, u57, u58, u59, u60, u61, u62, rfl, f0, f1, f2, f3, f4, f5, f6, f7, f8, f9, f10, f11, f12, f13, f14, f15, f16, f17, f18, f19, f20, f21, g0, g1, g2, g3⟩ hd hdep Kc hKc
      have h21 : d 21 = false := by
        cases h : d 21 with
        | false => rfl
        | true => have := g3 h 11 (by omega); rw [hd] at this; cases this
      have B0 := g0 h21
      have h18 : d 18 = false := by
        cases h : d 18 with
        | false => rfl
        | true => have := g2 h; rw [hd] at this; cases this
      have hd8 : d 8 = true := hdep ⟨8, .data⟩ (by simp) rfl
      have hd10 : d 10 = true := hdep ⟨10, .data⟩ (by simp) rfl
      have f8' := f8 hd8 hd
      obtain ⟨b4, rfl, hb4⟩ := f10 hd10 hd
      rw [if_pos (by rfl)]
      refine wp_append_own _ _ _ 65 rfl (W0.heap.size) 77 i0 En.zero.v 10 96 Try.underlying65 hi hz0 hz1 hz2 rfl (by decide) _ 0 (flat ec []) rfl f8' ⟨b4, 0, none⟩ 1 1 (ec e) rfl ?c0 ?c1 ?c2 ?c3 ?c4 ?c5 ?_
      case c0 => rfl
      case c1 => intro j u hj; rw [add_off, Nat.zero_add, blk_cell hb4]; simpa [ec] using hj
      case c2 => exact ec_one e
      case c3 => unfold maxLen; omega
      case c4 => omega
      case c5 => exact B0.size
      intro v' x1 hown' hgrow _
      have gB : Below W0.heap.size W0 x1 := B0.grown hgrow B0.size (fun q hq => own_ge f8' hq)
      refine hKc _ _ ⟨_, _, _, _, _, _, _, _, _, _, _, _, _, _, _, _, _, _, _, _, _, rfl, ?_, ?_, ?_, ?_, ?_, ?_, ?_, ?_, ?_, ?_, ?_, ?_, ?_, ?_, ?_, ?_, ?_, ?_, ?_, ?_, ?_, ?_, ?_, ?_, ?_, ?_⟩
      · exact (fun h => f0 (up h rfl))
      · exact (fun h h5 => by have := dn h5; rw [hd8] at this; cases this)
      · exact (fun h => f2 (up h rfl))
      · exact (fun h => f3 (up h rfl))
      · exact (fun h => f4 (up h rfl))
      · exact (fun h => f5 (up h rfl))
      · exact (fun h => f6 (up h rfl))
      · exact (fun h => f7 (up h rfl))
      · exact (fun h h5 => by simp at h5)
      · exact (fun h => f9 (up h rfl))
      · exact (fun h h5 => by simp at h5)
      · exact (fun _ => (fun h5 => by rw [flat_snoc]; exact hown'))
      · exact (fun h => f12 (up h rfl))
      · exact (fun h => f13 (up h rfl))
      · exact (fun h => f14 (up h rfl))
      · exact (fun h => f15 (up h rfl))
      · exact (fun h => f16 (up h rfl))
      · exact (fun h => f17 (up h rfl))
      · exact (fun h h5 => by have := up h rfl; rw [h18] at this; cases this)
      · exact (fun h => f19 (up h rfl))
      · exact (fun h => f20 (up h rfl))
      · exact (fun h => absurd (up h rfl) (by rw [h21]; simp))
      · exact (fun _ => gB)
      · exact (fun h => upl hd8)
      · exact (fun h => by simp)
      · exact (fun h i hi => upl (g3 (up h rfl) i hi))
    · unfold StepOk
      rintro d act x0 ⟨u42, u43, u44, u45, u46, u47, u48, u49, u50, u51, u52, u53, u54, u55, u56, u57, u58, u59, u60, u61, u62, rfl, f0, f1, f2, f3, f4, f5, f6, f7, f8, f9, f10, f11, f12, f13, f14, f15, f16, f17, f18, f19, f20, f21, g0, g1, g2, g3⟩ hd hdep Kc hKc
      rw [if_pos (by rfl)]
      go_big_op
      refine hKc _ _ ⟨_, _, _, _, _, _, _, _, _, _, _, _, _, _, _, _, _, _, _, _, _, rfl, ?_, ?_, ?_, ?_, ?_, ?_, ?_, ?_, ?_, ?_, ?_, ?_, ?_, ?_, ?_, ?_, ?_, ?_, ?_, ?_, ?_, ?_, ?_, ?_, ?_, ?_⟩
      · exact (fun h => f0 (up h rfl))
      · exact (fun h h5 => f1 (up h rfl) (dn h5))
      · exact (fun h => f2 (up h rfl))
      · exact (fun h => f3 (up h rfl))
      · exact (fun h => f4 (up h rfl))
      · exact (fun h => f5 (up h rfl))
      · exact (fun h => f6 (up h rfl))
      · exact (fun h => f7 (up h rfl))
      · exact (fun h h5 => f8 (up h rfl) (dn h5))
      · exact (fun h => f9 (up h rfl))
      · exact (fun h h5 => f10 (up h rfl) (dn h5))
      · exact (fun h h5 => f11 (up h rfl) (dn h5))
      · exact (fun _ => rfl)
      · exact (fun h => f13 (up h rfl))
      · exact (fun h => f14 (up h rfl))
      · exact (fun h => f15 (up h rfl))
      · exact (fun h => f16 (up h rfl))
      · exact (fun h => f17 (up h rfl))
      · exact (fun h h5 => f18 (up h rfl) (dn h5))
      · exact (fun h => f19 (up h rfl))
      · exact (fun h => f20 (up h rfl))
      · exact (fun h => f21 (up h rfl))
      · exact (fun h => g0 (dn h))
      · exact (fun h => upl (g1 (up h rfl)))
      · exact (fun h => upl (g2 (up h rfl)))
      · exact (fun h i hi => upl (g3 (up h rfl) i hi))
    · unfold StepOk
      rintro d act x0 ⟨u42, u43, u44, u45, u46, u47, u48, u49, u50, u51, u52, u53, u54, u55, u56, u57, u58, u59, u60, u61, u62, rfl, f0, f1, f2, f3, f4, f5, f6, f7, f8, f9, f10, f11, f12, f13, f14, f15, f16, f17, f18, f19, f20, f21, g0, g1, g2, g3⟩ hd hdep Kc hKc
      have hd12 : d 12 = true := hdep ⟨12, .data⟩ (by simp) rfl
      obtain rfl := f12 hd12
      rw [if_pos (by rfl)]
      go_big_op
      refine hKc _ _ ⟨_, _, _, _, _, _, _, _, _, _, _, _, _, _, _, _, _, _, _, _, _, rfl, ?_, ?_, ?_, ?_, ?_, ?_, ?_, ?_, ?_, ?_, ?_, ?_, ?_, ?_, ?_, ?_, ?_, ?_, ?_, ?_, ?_, ?_, ?_, ?_, ?_, ?_⟩
      · exact (fun h => f0 (up h rfl))
      · exact (fun h h5 => f1 (up h rfl) (dn h5))
      · exact (fun h => f2 (up h rfl))
      · exact (fun h => f3 (up h rfl))
      · exact (fun h => f4 (up h rfl))
      · exact (fun h => f5 (up h rfl))
      · exact (fun h => f6 (up h rfl))
      · exact (fun h => f7 (up h rfl))
      · exact (fun h h5 => f8 (up h rfl) (dn h5))
      · exact (fun h => f9 (up h rfl))
      · exact (fun h h5 => f10 (up h rfl) (dn h5))
      · exact (fun h h5 => f11 (up h rfl) (dn h5))
      · exact (fun h => f12 (up h rfl))
      · exact (fun _ => rfl)
      · exact (fun h => f14 (up h rfl))
      · exact (fun h => f15 (up h rfl))
      · exact (fun h => f16 (up h rfl))
      · exact (fun h => f17 (up h rfl))
      · exact (fun h h5 => f18 (up h rfl) (dn h5))
      · exact (fun h => f19 (up h rfl))
      · exact (fun h => f20 (up h rfl))
      · exact (fun h => f21 (up h rfl))
      · exact (fun h => g0 (dn h))
      · exact (fun h => upl (g1 (up h rfl)))
      · exact (fun h => upl (g2 (up h rfl)))
      · exact (fun h i hi => upl (g3 (up h rfl) i hi))
    · unfold StepOk
      rintro d act x0 ⟨u42, u43, u44, u45, u46, u47, u48, u49, u50, u51, u52, u53, u54, u55, u56, u57, u58, u59, u60, u61, u62, rfl, f0, f1, f2, f3, f4, f5, f6, f7, f8, f9, f10, f11, f12, f13, f14, f15, f16, f17, f18, f19, f20, f21, g0, g1, g2, g3⟩ hd hdep Kc hKc
      have hd13 : d 13 = true := hdep ⟨13, .data⟩ (by simp) rfl
      obtain rfl := f13 hd13
      rw [if_pos (by rfl)]
      go_big_op
      refine hKc _ _ ⟨_, _, _, _, _, _, _, _, _, _, _, _, _, _, _, _, _, _, _, _, _, rfl, ?_, ?_, ?_, ?_, ?_, ?_, ?_, ?_, ?_, ?_, ?_, ?_, ?_, ?_, ?_, ?_, ?_, ?_, ?_, ?_, ?_, ?_, ?_, ?_, ?_, ?_⟩
      · exact (fun h => f0 (up h rfl))
      · exact (fun h h5 => f1 (up h rfl) (dn h5))
      · exact (fun h => f2 (up h rfl))
      · exact (fun h => f3 (up h rfl))
      · exact (fun h => f4 (up h rfl))
      · exact (fun h => f5 (up h rfl))
      · exact (fun h => f6 (up h rfl))
      · exact (fun h => f7 (up h rfl))
      · exact (fun h h5 => f8 (up h rfl) (dn h5))
      · exact (fun h => f9 (up h rfl))
      · exact (fun h h5 => f10 (up h rfl) (dn h5))
      · exact (fun h h5 => f11 (up h rfl) (dn h5))
      · exact (fun h => f12 (up h rfl))
      · exact (fun h => f13 (up h rfl))
      · exact (fun _ => rfl)
      · exact (fun h => f15 (up h rfl))
      · exact (fun h => f16 (up h rfl))
      · exact (fun h => f17 (up h rfl))
      · exact (fun h h5 => f18 (up h rfl) (dn h5))
      · exact (fun h => f19 (up h rfl))
      · exact (fun h => f20 (up h rfl))
      · exact (fun h => f21 (up h rfl))
      · exact (fun h => g0 (dn h))
      · exact (fun h => upl (g1 (up h rfl)))
      · exact (fun h => upl (g2 (up h rfl)))
      · exact (fun h i hi => upl (g3 (up h rfl) i hi))
    · unfold StepOk
      rintro d act x0 ⟨u42, u43, u44, u45, u46, u47, u48, u49, u50, u51, u52, u53, u54, u55, u56, u57, u58, u59, u60, u61, u62, rfl, f0, f1, f2, f3, f4, f5, f6, f7, f8, f9, f10, f11, f12, f13, f14, f15, f16, f17, f18, f19, f20, f21, g0, g1, g2, g3⟩ hd hdep Kc hKc
      have hd14 : d 14 = true := hdep ⟨14, .data⟩ (by simp) rfl
      obtain rfl := f14 hd14
      have h21 : d 21 = false := by
        cases h : d 21 with
        | false => rfl
        | true => have := g3 h 15 (by omega); rw [hd] at this; cases this
      have B0 := g0 h21
      have hc := blk_cell (blk_ext B0 HRW.out) 1
      simp only [List.getElem?_toArray, List.getElem?_cons_zero, List.getElem?_cons_succ] at hc
      rw [if_pos (by rfl)]
      go_big_op
      refine hKc _ _ ⟨_, _, _, _, _, _, _, _, _, _, _, _, _, _, _, _, _, _, _, _, _, rfl, ?_, ?_, ?_, ?_, ?_, ?_, ?_, ?_, ?_, ?_, ?_, ?_, ?_, ?_, ?_, ?_, ?_, ?_, ?_, ?_, ?_, ?_, ?_, ?_, ?_, ?_⟩
      · exact (fun h => f0 (up h rfl))
      · exact (fun h h5 => f1 (up h rfl) (dn h5))
      · exact (fun h => f2 (up h rfl))
      · exact (fun h => f3 (up h rfl))
      · exact (fun h => f4 (up h rfl))
      · exact (fun h => f5 (up h rfl))
      · exact (fun h => f6 (up h rfl))
      · exact (fun h => f7 (up h rfl))
      · exact (fun h h5 => f8 (up h rfl) (dn h5))
      · exact (fun h => f9 (up h rfl))
      · exact (fun h h5 => f10 (up h rfl) (dn h5))
      · exact (fun h h5 => f11 (up h rfl) (dn h5))
      · exact (fun h => f12 (up h rfl))
      · exact (fun h => f13 (up h rfl))
      · exact (fun h => f14 (up h rfl))
      · exact (fun _ => rfl)
      · exact (fun h => f16 (up h rfl))
      · exact (fun h => f17 (up h rfl))
      · exact (fun h h5 => f18 (up h rfl) (dn h5))
      · exact (fun h => f19 (up h rfl))
      · exact (fun h => f20 (up h rfl))
      · exact (fun h => f21 (up h rfl))
      · exact (fun h => g0 (dn h))
      · exact (fun h => upl (g1 (up h rfl)))
      · exact (fun h => upl (g2 (up h rfl)))
      · exact (fun h i hi => upl (g3 (up h rfl) i hi))
    · unfold StepOk
      rintro d act x0 ⟨u42, u43, u44, u45, u46, u47, u48, u49, u50, u51, u52, u53, u54, u55, u56, u57, u58, u59, u60, u61, u62, rfl, f0, f1, f2, f3, f4, f5, f6, f7, f8, f9, f10, f11, f12, f13, f14, f15, f16, f17, f18, f19, f20, f21, g0, g1, g2, g3⟩ hd hdep Kc hKc
      rw [if_pos (by rfl)]
      go_big_op
      refine hKc _ _ ⟨_, _, _, _, _, _, _, _, _, _, _, _, _, _, _, _, _, _, _, _, _, rfl, ?_, ?_, ?_, ?_, ?_, ?_, ?_, ?_, ?_, ?_, ?_, ?_, ?_, ?_, ?_, ?_, ?_, ?_, ?_, ?_, ?_, ?_, ?_, ?_, ?_, ?_⟩
      · exact (fun h => f0 (up h rfl))
      · exact (fun h h5 => f1 (up h rfl) (dn h5))
      · exact (fun h => f2 (up h rfl))
      · exact (fun h => f3 (up h rfl))
      · exact (fun h => f4 (up h rfl))
      · exact (fun h => f5 (up h rfl))
      · exact (fun h => f6 (up h rfl))
      · exact (fun h => f7 (up h rfl))
      · exact (fun h h5 => f8 (up h rfl) (dn h5))
      · exact (fun h => f9 (up h rfl))
      · exact (fun h h5 => f10 (up h rfl) (dn h5))
      · exact (fun h h5 => f11 (up h rfl) (dn h5))
      · exact (fun h => f12 (up h rfl))
      · exact (fun h => f13 (up h rfl))
      · exact (fun h => f14 (up h rfl))
      · exact (fun h => f15 (up h rfl))
      · exact (fun _ => rfl)
      · exact (fun h => f17 (up h rfl))
      · exact (fun h h5 => f18 (up h rfl) (dn h5))
      · exact (fun h => f19 (up h rfl))
      · exact (fun h => f20 (up h rfl))
      · exact (fun h => f21 (up h rfl))
      · exact (fun h => g0 (dn h))
      · exact (fun h => upl (g1 (up h rfl)))
      · exact (fun h => upl (g2 (up h rfl)))
      · exact (fun h i hi => upl (g3 (up h rfl) i hi))
    · unfold StepOk
      rintro d act x0 ⟨u42, u43, u44, u45, u46, u47, u48, u49, u50, u51, u52, u53, u54, u55, u56, u57, u58, u59, u60, u61, u62, rfl, f0, f1, f2, f3, f4, f5, f6, f7, f8, f9, f10, f11, f12, f13, f14, f15, f16, f17, f18, f19, f20, f21, g0, g1, g2, g3⟩ hd hdep Kc hKc
      have hd15 : d 15 = true := hdep ⟨15, .data⟩ (by simp) rfl
      have hd16 : d 16 = true := hdep ⟨16, .data⟩ (by simp) rfl
      obtain rfl := f15 hd15
      obtain rfl := f16 hd16
      rw [if_pos (by rfl)]
      go_big_op
      refine hKc _ _ ⟨_, _, _, _, _, _, _, _, _, _, _, _, _, _, _, _, _, _, _, _, _, rfl, ?_, ?_, ?_, ?_, ?_, ?_, ?_, ?_, ?_, ?_, ?_, ?_, ?_, ?_, ?_, ?_, ?_, ?_, ?_, ?_, ?_, ?_, ?_, ?_, ?_, ?_⟩
      · exact (fun h => f0 (up h rfl))
      · exact (fun h h5 => f1 (up h rfl) (dn h5))
      · exact (fun h => f2 (up h rfl))
      · exact (fun h => f3 (up h rfl))
      · exact (fun h => f4 (up h rfl))
      · exact (fun h => f5 (up h rfl))
      · exact (fun h => f6 (up h rfl))
      · exact (fun h => f7 (up h rfl))
      · exact (fun h h5 => f8 (up h rfl) (dn h5))
      · exact (fun h => f9 (up h rfl))
      · exact (fun h h5 => f10 (up h rfl) (dn h5))
      · exact (fun h h5 => f11 (up h rfl) (dn h5))
      · exact (fun h => f12 (up h rfl))
      · exact (fun h => f13 (up h rfl))
      · exact (fun h => f14 (up h rfl))
      · exact (fun h => f15 (up h rfl))
      · exact (fun h => f16 (up h rfl))
      · exact (fun _ => rfl)
      · exact (fun h h5 => f18 (up h rfl) (dn h5))
      · exact (fun h => f19 (up h rfl))
      · exact (fun h => f20 (up h rfl))
      · exact (fun h => f21 (up h rfl))
      · exact (fun h => g0 (dn h))
      · exact (fun h => upl (g1 (up h rfl)))
      · exact (fun h => upl (g2 (up h rfl)))
      · exact (fun h i hi => upl (g3 (up h rfl) i hi))
    · unfold StepOk
      rintro d act x0 ⟨u42, u43, u44, u45, u46, u47, u48, u49, u50, u51, u52, u53, u54, u55, u56, u57, u58, u59, u60, u61, u62, rfl, f0, f1, f2, f3, f4, f5, f6, f7, f8, f9, f10, f11, f12, f13, f14, f15, f16, f17, f18, f19, f20, f21, g0, g1, g2, g3⟩ hd hdep Kc hKc
      have h21 : d 21 = false := by
        cases h : d 21 with
        | false => rfl
        | true => have := g3 h 18 (by omega); rw [hd] at this; cases this
      have B0 := g0 h21
      have hd11 : d 11 = true := hdep ⟨11, .data⟩ (by simp) rfl
      have hd17 : d 17 = true := hdep ⟨17, .data⟩ (by simp) rfl
      have hd8 := g1 hd11
      have f11' := f11 hd11 hd
      obtain rfl := f17 hd17
      rw [if_pos (by rfl)]
      have hoo : OwnRE W0.heap.size x0 u53 [e] := f11'
      obtain ⟨a7, c7, e7, h71, -, h7f⟩ := OwnR.form hoo
      subst e7
      refine wp_append_nilE _ _ rfl a7 1 c7 rfl rfl h71 ?_
      refine hKc _ _ ⟨_, _, _, _, _, _, _, _, _, _, _, _, _, _, _, _, _, _, _, _, _, rfl, ?_, ?_, ?_, ?_, ?_, ?_, ?_, ?_, ?_, ?_, ?_, ?_, ?_, ?_, ?_, ?_, ?_, ?_, ?_, ?_, ?_, ?_, ?_, ?_, ?_, ?_⟩
      · exact (fun h => f0 (up h rfl))
      · exact (fun h h5 => by have := dn h5; rw [hd8] at this; cases this)
      · exact (fun h => f2 (up h rfl))
      · exact (fun h => f3 (up h rfl))
      · exact (fun h => f4 (up h rfl))
      · exact (fun h => f5 (up h rfl))
      · exact (fun h => f6 (up h rfl))
      · exact (fun h => f7 (up h rfl))
      · exact (fun h h5 => by have := dn h5; rw [hd11] at this; cases this)
      · exact (fun h => f9 (up h rfl))
      · exact (fun h h5 => by have := dn h5; rw [hd11] at this; cases this)
      · exact (fun h h5 => by simp at h5)
      · exact (fun h => f12 (up h rfl))
      · exact (fun h => f13 (up h rfl))
      · exact (fun h => f14 (up h rfl))
      · exact (fun h => f15 (up h rfl))
      · exact (fun h => f16 (up h rfl))
      · exact (fun h => f17 (up h rfl))
      · exact (fun _ => (fun h5 => ⟨_, _, rfl, hoo⟩))
      · exact (fun h => f19 (up h rfl))
      · exact (fun h => f20 (up h rfl))
      · exact (fun h => absurd (up h rfl) (by rw [h21]; simp))
      · exact (fun _ => B0)
      · exact (fun h => upl (g1 (up h rfl)))
      · exact (fun h => upl hd11)
      · exact (fun h i hi => upl (g3 (up h rfl) i hi))
    · unfold StepOk
      rintro d act x0 ⟨u42, u43, u44, u45, u46, u47, u48, u49, u50, u51, u52, u53, u54, u55, u56, u57, u58, u59, u60, u61, u62, rfl, f0, f1, f2, f3, f4, f5, f6, f7, f8, f9, f10, f11, f12, f13, f14, f15, f16, f17, f18, f19, f20, f21, g0, g1, g2, g3⟩ hd hdep Kc hKc
      have hd0 : d 0 = true := hdep ⟨0, .data⟩ (by simp) rfl
      have hd0 : d 0 = true := hdep ⟨0, .phase⟩ (by simp) rfl
      obtain rfl := f0 hd0
      rw [if_pos (by rfl)]
      go_big_op
      refine hKc _ _ ⟨_, _, _, _, _, _, _, _, _, _, _, _, _, _, _, _, _, _, _, _, _, rfl, ?_, ?_, ?_, ?_, ?_, ?_, ?_, ?_, ?_, ?_, ?_, ?_, ?_, ?_, ?_, ?_, ?_, ?_, ?_, ?_, ?_, ?_, ?_, ?_, ?_, ?_⟩
      · exact (fun h => f0 (up h rfl))
      · exact (fun h h5 => f1 (up h rfl) (dn h5))
      · exact (fun h => f2 (up h rfl))
      · exact (fun h => f3 (up h rfl))
      · exact (fun h => f4 (up h rfl))
      · exact (fun h => f5 (up h rfl))
      · exact (fun h => f6 (up h rfl))
      · exact (fun h => f7 (up h rfl))
      · exact (fun h h5 => f8 (up h rfl) (dn h5))
      · exact (fun h => f9 (up h rfl))
      · exact (fun h h5 => f10 (up h rfl) (dn h5))
      · exact (fun h h5 => f11 (up h rfl) (dn h5))
      · exact (fun h => f12 (up h rfl))
      · exact (fun h => f13 (up h rfl))
      · exact (fun h => f14 (up h rfl))
      · exact (fun h => f15 (up h rfl))
      · exact (fun h => f16 (up h rfl))
      · exact (fun h => f17 (up h rfl))
      · exact (fun h h5 => f18 (up h rfl) (dn h5))
      · exact (fun _ => rfl)
      · exact (fun h => f20 (up h rfl))
      · exact (fun h => f21 (up h rfl))
      · exact (fun h => g0 (dn h))
      · exact (fun h => upl (g1 (up h rfl)))
      · exact (fun h => upl (g2 (up h rfl)))
      · exact (fun h i hi => upl (g3 (up h rfl) i hi))
    · unfold StepOk
      rintro d act x0 ⟨u42, u43, u44, u45, u46, u47, u48, u49, u50, u51, u52, u53, u54, u55, u56, u57, u58, u59, u60, u61, u62, rfl, f0, f1, f2, f3, f4, f5, f6, f7, f8, f9, f10, f11, f12, f13, f14, f15, f16, f17, f18, f19, f20, f21, g0, g1, g2, g3⟩ hd hdep Kc hKc
      have hd19 : d 19 = true := hdep ⟨19, .data⟩ (by simp) rfl
      obtain rfl := f19 hd19
      rw [if_pos (by rfl)]
      go_big_op
      refine hKc _ _ ⟨_, _, _, _, _, _, _, _, _, _, _, _, _, _, _, _, _, _, _, _, _, rfl, ?_, ?_, ?_, ?_, ?_, ?_, ?_, ?_, ?_, ?_, ?_, ?_, ?_, ?_, ?_, ?_, ?_, ?_, ?_, ?_, ?_, ?_, ?_, ?_, ?_, ?_⟩
      · exact (fun h => f0 (up h rfl))
      · exact (fun h h5 => f1 (up h rfl) (dn h5))
      · exact (fun h => f2 (up h rfl))
      · exact (fun h => f3 (up h rfl))
      · exact (fun h => f4 (up h rfl))
      · exact (fun h => f5 (up h rfl))
      · exact (fun h => f6 (up h rfl))
      · exact (fun h => f7 (up h rfl))
      · exact (fun h h5 => f8 (up h rfl) (dn h5))
      · exact (fun h => f9 (up h rfl))
      · exact (fun h h5 => f10 (up h rfl) (dn h5))
      · exact (fun h h5 => f11 (up h rfl) (dn h5))
      · exact (fun h => f12 (up h rfl))
      · exact (fun h => f13 (up h rfl))
      · exact (fun h => f14 (up h rfl))
      · exact (fun h => f15 (up h rfl))
      · exact (fun h => f16 (up h rfl))
      · exact (fun h => f17 (up h rfl))
      · exact (fun h h5 => f18 (up h rfl) (dn h5))
      · exact (fun h => f19 (up h rfl))
      · exact (fun _ => rfl)
      · exact (fun h => f21 (up h rfl))
      · exact (fun h => g0 (dn h))
      · exact (fun h => upl (g1 (up h rfl)))
      · exact (fun h => upl (g2 (up h rfl)))
      · exact (fun h i hi => upl (g3 (up h rfl) i hi))
    · unfold StepOk
      rintro d act x0 ⟨u42, u43, u44, u45, u46, u47, u48, u49, u50, u51, u52, u53, u54, u55, u56, u57, u58, u59, u60, u61, u62, rfl, f0, f1, f2, f3, f4, f5, f6, f7, f8, f9, f10, f11, f12, f13, f14, f15, f16, f17, f18, f19, f20, f21, g0, g1, g2, g3⟩ hd hdep Kc hKc
      have hd18 : d 18 = true := hdep ⟨18, .data⟩ (by simp) rfl
      have hd20 : d 20 = true := hdep ⟨20, .data⟩ (by simp) rfl
      have B0 := g0 hd
      have hd11 := g2 hd18
      have hd8 := g1 hd11
      obtain ⟨a', c', rfl, hoo⟩ := f18 hd18 hd
      obtain rfl := f20 hd20
      have hk := blk_cell (blk_ext B0 HRW.out)
      have hf := blk_free (blk_ext B0 HRW.out)
      have hl := blk_lt (blk_ext B0 HRW.out)
      have hall : ∀ i : Nat, i < 19 → d i = true := by
        intro i hi
        have q0 : d 0 = true := hdep ⟨0, .phase⟩ (by simp) rfl
        have q1 : d 1 = true := hdep ⟨1, .phase⟩ (by simp) rfl
        have q2 : d 2 = true := hdep ⟨2, .phase⟩ (by simp) rfl
        have q3 : d 3 = true := hdep ⟨3, .phase⟩ (by simp) rfl
        have q4 : d 4 = true := hdep ⟨4, .phase⟩ (by simp) rfl
        have q5 : d 5 = true := hdep ⟨5, .phase⟩ (by simp) rfl
        have q6 : d 6 = true := hdep ⟨6, .phase⟩ (by simp) rfl
        have q7 : d 7 = true := hdep ⟨7, .phase⟩ (by simp) rfl
        have q8 : d 8 = true := hdep ⟨8, .phase⟩ (by simp) rfl
        have q9 : d 9 = true := hdep ⟨9, .phase⟩ (by simp) rfl
        have q10 : d 10 = true := hdep ⟨10, .phase⟩ (by simp) rfl
        have q11 : d 11 = true := hdep ⟨11, .phase⟩ (by simp) rfl
        have q12 : d 12 = true := hdep ⟨12, .phase⟩ (by simp) rfl
        have q13 : d 13 = true := hdep ⟨13, .phase⟩ (by simp) rfl
        have q14 : d 14 = true := hdep ⟨14, .phase⟩ (by simp) rfl
        have q15 : d 15 = true := hdep ⟨15, .phase⟩ (by simp) rfl
        have q16 : d 16 = true := hdep ⟨16, .phase⟩ (by simp) rfl
        have q17 : d 17 = true := hdep ⟨17, .phase⟩ (by simp) rfl
        have q18 : d 18 = true := hdep ⟨18, .phase⟩ (by simp) rfl
        have hh : i = 0 ∨ i = 1 ∨ i = 2 ∨ i = 3 ∨ i = 4 ∨ i = 5 ∨ i = 6 ∨ i = 7 ∨ i = 8 ∨ i = 9 ∨ i = 10 ∨ i = 11 ∨ i = 12 ∨ i = 13 ∨ i = 14 ∨ i = 15 ∨ i = 16 ∨ i = 17 ∨ i = 18 := by omega
        rcases hh with rfl | rfl | rfl | rfl | rfl | rfl | rfl | rfl | rfl | rfl | rfl | rfl | rfl | rfl | rfl | rfl | rfl | rfl | rfl
        · exact q0
        · exact q1
        · exact q2
        · exact q3
        · exact q4
        · exact q5
        · exact q6
        · exact q7
        · exact q8
        · exact q9
        · exact q10
        · exact q11
        · exact q12
        · exact q13
        · exact q14
        · exact q15
        · exact q16
        · exact q17
        · exact q18
      rw [if_pos (by rfl)]
      go_big_op
      refine hKc _ _ ⟨_, _, _, _, _, _, _, _, _, _, _, _, _, _, _, _, _, _, _, _, _, rfl, ?_, ?_, ?_, ?_, ?_, ?_, ?_, ?_, ?_, ?_, ?_, ?_, ?_, ?_, ?_, ?_, ?_, ?_, ?_, ?_, ?_, ?_, ?_, ?_, ?_, ?_⟩
      · exact (fun h => f0 (up h rfl))
      · exact (fun h h5 => by have := dn h5; rw [hd8] at this; cases this)
      · exact (fun h => f2 (up h rfl))
      · exact (fun h => f3 (up h rfl))
      · exact (fun h => f4 (up h rfl))
      · exact (fun h => f5 (up h rfl))
      · exact (fun h => f6 (up h rfl))
      · exact (fun h => f7 (up h rfl))
      · exact (fun h h5 => by have := dn h5; rw [hd11] at this; cases this)
      · exact (fun h => f9 (up h rfl))
      · exact (fun h h5 => by have := dn h5; rw [hd11] at this; cases this)
      · exact (fun h h5 => by have := dn h5; rw [hd18] at this; cases this)
      · exact (fun h => f12 (up h rfl))
      · exact (fun h => f13 (up h rfl))
      · exact (fun h => f14 (up h rfl))
      · exact (fun h => f15 (up h rfl))
      · exact (fun h => f16 (up h rfl))
      · exact (fun h => f17 (up h rfl))
      · exact (fun h h5 => by simp at h5)
      · exact (fun h => f19 (up h rfl))
      · exact (fun h => f20 (up h rfl))
      · exact (fun _ => ⟨_, _, rfl, B0, hoo⟩)
      · exact (fun h => by simp at h)
      · exact (fun h => upl (g1 (up h rfl)))
      · exact (fun h => upl (g2 (up h rfl)))
      · exact (fun _ i hi => upl (hall i hi))
  · rintro d act x0 ⟨u42, u43, u44, u45, u46, u47, u48, u49, u50, u51, u52, u53, u54, u55, u56, u57, u58, u59, u60, u61, u62, rfl, f0, f1, f2, f3, f4, f5, f6, f7, f8, f9, f10, f11, f12, f13, f14, f15, f16, f17, f18, f19, f20, f21, g0, g1, g2, g3⟩ hall
    obtain f21' := f21 (hall 21 (by decide))
    clear f0 f1 f2 f3 f4 f5 f6 f7 f8 f9 f10 f11 f12 f13 f14 f15 f16 f17 f18 f19 f20 f21 hall
    obtain ⟨v, y, rfl, hby, hoo⟩ := f21'
    have HRES := Lib.hid (rshp_set (show BoxR y sb most none 0 0 from blk_ext hby HRW.out) hoo)
    have HRIM := Lib.hid (show Rim sb w (y.setCell ⟨sb, 1, none⟩ v) from (Rim.of (ext_trans HBW.out hby)).trans (Rim.kept ((Kept.refl sb y).setCell 1 v)))
    clear hby hoo
    go_wp2
    go_ret
    exact ⟨rfl, HRES.out, HRIM.out⟩

set_option maxRecDepth 100000 in
set_option maxHeartbeats 1000000 in
theorem rshPutNew (sb : Nat) (most : Int) (es : List En) (e : En) (w : World) (h : RShP w sb most es) (hs : Asc es) (hn : es.length ≤ 900) (hin : isIn (enK e) es = false) (hm : (es.length : Int) < most) :
    Calls Try.prog 45 #[.pointer (some ⟨sb, 0, none⟩), .agg #[.string e.c.a, .string e.c.i, .int .i64 e.c.s, .int .i64 e.c.o, .int .i64 e.c.l, .int .i64 e.c.t, .int .i64 e.c.k, .int .i64 e.c.n, .bool e.c.g, .int .i64 e.seen]] w fun r w' => r = .returned (.int .i64 0) ∧ RShP w' sb most (insAt es (low (enK e) es) e) ∧ Rim sb w w' := by
  obtain ⟨a, c, h1, h2, h3, h4, h5⟩ := h
  rcases h5 with ⟨rfl, rfl⟩ | ⟨b, o, rfl⟩
  · obtain rfl : es = [] := List.eq_nil_of_length_eq_zero (by omega)
    exact rshPutNewN sb most e w h1 (by simpa using hm)
  · by_cases hc : c = low (enK e) es
    · exact rshPutNewC sb most b o c es e w ⟨h1, h2, h3, h4⟩ hs hn hin hm hc
    · exact rshPutNewB sb most b o c es e w ⟨h1, h2, h3, h4⟩ hs hn hin hm hc
end Go.Proofs.Ytloeabdohgdmkaa
