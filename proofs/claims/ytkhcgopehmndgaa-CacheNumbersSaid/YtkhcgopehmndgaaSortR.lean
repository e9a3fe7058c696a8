/- Cards by key: the document's own order and sort. -/
import Derived.Test.YtkhcgopehmndgaaBs
import Derived.Test.YtkhcgopehmndgaaBd
import Derived.Test.YtkhcgopehmndgaaBa
namespace Go.Proofs.Ytkhcgopehmndgaa
open Go.RowKit
set_option linter.unusedVariables false
set_option linter.unusedSimpArgs false

theorem bytesLess_cmp : ∀ a b : List UInt8, Op.bytesLess a b = decide (Lib.compareBytes a b < 0)
  | [], [] => rfl
  | [], _ :: _ => rfl
  | _ :: _, [] => rfl
  | a :: p, b :: q => by
    unfold Op.bytesLess Lib.compareBytes
    by_cases h1 : a < b
    · simp [h1]
    · by_cases h2 : b < a
      · have h3 : ¬ a = b := fun e => by subst e; exact h1 h2
        simp [h1, h2, h3]
      · have h3 : a = b := UInt8.le_antisymm (UInt8.not_lt.1 h2) (UInt8.not_lt.1 h1)
        subst h3
        simp [h1, bytesLess_cmp p q]
theorem bl_kc (a b : ByteArray) : Op.bytesLess a.toList b.toList = decide (Lib.compareBytes a.data.toList b.data.toList < 0) := by
  rw [ByteArray.toList_eq, ByteArray.toList_eq]; exact bytesLess_cmp _ _
theorem own_empty {w : World} {b base : Nat} (h : w.heap[b]? = some (.cells #[] 49 (0, 0))) (hb : base ≤ b) : w.ownsRow base 49 9 (.slice (some ⟨b, 0, none⟩) 0 0) 0 (flat cc []) :=
  ⟨rfl, .inr ⟨b, 0, #[], rfl, hb, h, Nat.le_refl _, by simp [maxLen], rfl, rfl⟩⟩
theorem wp_append_nil9 {o : Oper} {a : Act} {w : World} {K : Act → World → Prop} {Q : Exit → Act → World → Prop} (s x : Operand) (ho : o.op = .call { callee := .builtin .append, args := #[s, x], argTypes := #[33, 33] }) (ad : Option Addr) (n c : Nat) (hs : a.eval s = .slice ad n c) (hx : a.eval x = .slice none 0 0) (hn : n ≤ c) (h : K (a.put o.dst (.slice ad n c)) w) : o.wp Try.prog a w K Q := by
  unfold Oper.wp execOp
  simp only [ho, resolve, invoke, builtin, Sem.run_bind, Sem.run_pure, Result.andThen_ok, List.map_toArray, List.map_cons, List.map_nil, hs, hx, run_append_nil w o.type ad n c hn]
  exact h
theorem blk_ne9 {w : World} {b b1 : Nat} {x : Cd} (h : w.heap[b]? = some (.cells #[.string x.a, .string x.i, .int .i64 x.s, .int .i64 x.o, .int .i64 x.l, .int .i64 x.t, .int .i64 x.k, .int .i64 x.n, .bool x.g] 49 (0, 0))) (h1 : w.heap[b1]? = some (.cells #[] 49 (0, 0))) : b ≠ b1 := by
  rintro rfl
  rw [h] at h1
  simp at h1

set_option maxRecDepth 100000 in
set_option maxHeartbeats 1000000 in
theorem refBefore (a i b j : ByteArray) (w : World) :
    Calls Try.prog 77 #[.agg #[.string a, .string i], .agg #[.string b, .string j]] w fun e w' => e = .returned (.bool (decide (kc a i b j < 0))) ∧ Below w.heap.size w w' := by
  have D : Below w.heap.size w ((w.alloc (.cells #[.string a, .string i] 31)).alloc (.cells #[.string b, .string j] 31)) := ((Below.refl _ _).alloc (Nat.le_refl _) _).alloc (by simp) _
  by_cases h : a = b
  · have e : kc a i b j = Lib.compareBytes i.data.toList j.data.toList := if_pos h
    rw [e, ← bl_kc]
    subst h
    clear e
    go_enter Try.func77, Try.ntmps77
    go_wp2
    go_ret
    exact ⟨rfl, D⟩
  · have e : kc a i b j = Lib.compareBytes a.data.toList b.data.toList := if_neg h
    rw [e, ← bl_kc]
    have h3 : ¬ a.toList = b.toList := fun e => h (str_inj e)
    have h4 : (a.toList == b.toList) = false := by simpa using h3
    have h5 : (@BEq.beq _ instBEqOfDecidableEq a.toList b.toList) = false := by simpa using h3
    clear e h
    go_enter Try.func77, Try.ntmps77
    go_wp2
    go_ret
    exact ⟨rfl, D⟩

set_option maxRecDepth 100000 in
set_option maxHeartbeats 4000000 in
theorem refSort (a : Option Addr) (n c : Nat) (ls : List Cd) (w : World) (h : CAt w a ls) (hl : ls.length = n) (hn : n ≤ 1000) (hnc : n ≤ c) :
    Calls Try.prog 53 #[.slice a n c] w fun e w' => ∃ v', e = .returned v' ∧ OwnC w.heap.size w' v' (srt klt ls) ∧ Below w.heap.size w w' := by
  obtain ⟨i0, hi, hz0, hz1, hz2⟩ := info_parts' info_card
  have HA := Lib.hid h
  have HN := Lib.hid hl
  clear h hl
  go_enter Try.func53, Try.ntmps53
  go_wp2_with fail
  go_loopw [3, 9] (fun o j wr => ∃ J : Nat, J ≤ n ∧ j = .int .i64 (J : Int) ∧ OwnC w.heap.size wr o (srt klt (ls.take J)) ∧ Below w.heap.size w wr) (fun o j _ => n - (intOf j).toNat)
  case atStart => exact ⟨0, by omega, rfl, OwnR.nil _ _, Below.refl _ _⟩
  case round =>
    obtain ⟨w2, rfl⟩ : ∃ y : World, y = wr := ⟨_, rfl⟩
    obtain ⟨J, hJ, rfl, ho2, hb2⟩ := hrel
    by_cases hlt : J < n
    · obtain ⟨x, hx⟩ : ∃ x, ls[J]? = some x := ⟨_, List.getElem?_eq_getElem (by have := HN.out; omega)⟩
      obtain ⟨S, hS⟩ : ∃ S, srt klt (ls.take J) = S := ⟨_, rfl⟩
      have HS1 := Lib.hid (show srt klt (ls.take (J + 1)) = insR klt x S from by
        rw [List.take_add_one, hx]
        show srt klt (ls.take J ++ [x]) = _
        rw [srt_snoc, hS])
      rw [hS] at ho2
      obtain ⟨m, hm⟩ : ∃ m, S.length = m := ⟨_, rfl⟩
      have hmJ : m ≤ 1000 := by rw [← hm, ← hS, srt_len, List.length_take]; omega
      obtain ⟨b, o, rfl⟩ : ∃ b o, a = some ⟨b, o, none⟩ := by
        rcases HA.out with h | ⟨b, o, e, _⟩
        · rw [h] at hx; simp at hx
        · exact ⟨b, o, e⟩
      obtain ⟨x0, x1, x2, x3, x4, x5, x6, x7, x8⟩ := (HA.out.ext hb2).at hx
      have D0 : Below w2.heap.size w2 (w2.alloc (.cells #[.string x.a, .string x.i, .int .i64 x.s, .int .i64 x.o, .int .i64 x.l, .int .i64 x.t, .int .i64 x.k, .int .i64 x.n, .bool x.g] 49)) := (Below.refl _ _).alloc (Nat.le_refl _) _
      have HX := Lib.hid (blk_new w2 #[.string x.a, .string x.i, .int .i64 x.s, .int .i64 x.o, .int .i64 x.l, .int .i64 x.t, .int .i64 x.k, .int .i64 x.n, .bool x.g] 49)
      have HO3 := Lib.hid (ho2.ext D0)
      have HB3 := Lib.hid (ext_trans hb2 D0)
      have HM := Lib.hid hm
      obtain ⟨ga, gc, hgv, hgc, hgm, hgat, -, hgf⟩ := ho2.read
      have HGC := Lib.hid (hgat.ext D0)
      rw [hm] at hgc hgv
      subst hgv
      unfold maxLen at hgm
      clear ho2 hb2 hx hS hm D0 hgat
      go_upto_region 5 with (fail)
      obtain ⟨r, hr⟩ : ∃ r, w2.heap.size = r := ⟨_, rfl⟩
      rw [hr] at HX ⊢
      clear hr
      generalize (w2.alloc (.cells #[.string x.a, .string x.i, .int .i64 x.s, .int .i64 x.o, .int .i64 x.l, .int .i64 x.t, .int .i64 x.k, .int .i64 x.n, .bool x.g] 49)) = w3 at *
      clear x0 x1 x2 x3 x4 x5 x6 x7 x8
      go_wp2_with fail
      go_loopw [6] (fun k wr => ∃ K : Nat, K ≤ m ∧ k = .int .i64 (K : Int) ∧ insR klt x S = insR klt x (S.take K) ++ S.drop K ∧ Below w3.heap.size w3 wr) (fun k _ => (intOf k).toNat)
      case atStart => exact ⟨m, by omega, rfl, by rw [List.take_of_length_le (by have := HM.out; omega), List.drop_of_length_le (by have := HM.out; omega), List.append_nil], Below.refl _ _⟩
      case round =>
        obtain ⟨w4, rfl⟩ : ∃ y : World, y = wr := ⟨_, rfl⟩
        obtain ⟨K, hK, rfl, hins, hb4⟩ := hrel
        have HINS := Lib.hid hins
        have HB4 := Lib.hid hb4
        clear hins hb4
        by_cases hK0 : K = 0
        · have hd : decide ((0 : Int) < (K : Int)) = false := by simp; omega
          have hd0 : decide (0 < K) = false := by simp; omega
          have HST := Lib.hid (show srt klt (ls.take (J + 1)) = S.take K ++ [x] ++ S.drop K from by rw [HS1.out, HINS.out, hK0]; simp [insR_nil])
          have HK0 := Lib.hid hK0
          clear hK0 HINS HS1
          go_wp2_with fail
          haveI hIq : Nonempty (Of w4) := of_some _
          first | (refine wp_region_stay w4 (by kernel_rfl) (by kernel_rfl) (by go_grown) ?_) | (refine wp_region_stay_seq w4 (by go_grown) ?_)
          repeat (go_big_quiet_step (fail))
          refine wpQuiet_nil ?_
          intro w5 hb5
          clear hIq
          
          have HRB := Lib.hid (blk_ext (ext_trans HB4.out hb5) HX.out)
          have HCS := Lib.hid (HGC.out.ext (ext_trans HB4.out hb5))
          have HBW := Lib.hid (ext_trans HB3.out (ext_trans HB4.out hb5))
          have HTL := Lib.hid (show (S.take K).length = K by rw [List.length_take]; have := HM.out; omega)
          have HDL := Lib.hid (show (S.drop K).length = m - K by rw [List.length_drop]; have := HM.out; omega)
          clear hb5 HB3 HX HO3 HGC HB4
          
          go_wp2_with fail
          rcases hgf with ⟨rfl, rfl, hSn⟩ | ⟨g, rfl⟩
          · obtain rfl : m = 0 := by omega
            obtain rfl : K = 0 := by omega
            subst hSn
            refine wp_region_inv_eq (J := fun A d act x0 => ∃ u30 u31 u32 u33 u34 u35 u36 u37 u38 u39 u40 u41 u3 : Value, act = (((((((((((((A.put (some 30) u30).put (some 31) u31).put (some 32) u32).put (some 33) u33).put (some 34) u34).put (some 35) u35).put (some 36) u36).put (some 37) u37).put (some 38) u38).put (some 39) u39).put (some 40) u40).put (some 41) u41).put (some 3) u3) ∧ (d 0 = true → (d 4 = false → ∃ b1 : Nat, u30 = .slice (some ⟨b1, 0, none⟩) 0 0 ∧ x0.heap[b1]? = some (.cells #[] 49 (0, 0)) ∧ w5.heap.size ≤ b1)) ∧ (d 1 = true → u31 = .slice none 0 0) ∧ (d 2 = true → u32 = .int .i64 ((0 : Nat) : Int)) ∧ (d 3 = true → u33 = .slice none 0 0) ∧ (d 4 = true → (d 7 = false → x0.ownsRow w5.heap.size 49 9 u34 0 (flat cc (([] : List Cd).take 0)))) ∧ (d 5 = true → u35 = .agg #[.string x.a, .string x.i, .int .i64 x.s, .int .i64 x.o, .int .i64 x.l, .int .i64 x.t, .int .i64 x.k, .int .i64 x.n, .bool x.g]) ∧ (d 6 = true → (d 7 = false → ∃ b : Nat, u36 = .slice (some ⟨b, 0, none⟩) 1 1 ∧ x0.heap[b]? = some (.cells #[.string x.a, .string x.i, .int .i64 x.s, .int .i64 x.o, .int .i64 x.l, .int .i64 x.t, .int .i64 x.k, .int .i64 x.n, .bool x.g] 49 (0, 0)))) ∧ (d 7 = true → (d 11 = false → x0.ownsRow w5.heap.size 49 9 u37 (0 + 1) (flat cc (([] : List Cd).take 0 ++ [x])))) ∧ (d 8 = true → u38 = .slice none 0 0) ∧ (d 9 = true → u39 = .int .i64 ((0 : Nat) : Int)) ∧ (d 10 = true → u40 = .slice none 0 0) ∧ (d 11 = true → x0.ownsRow w5.heap.size 49 9 u41 (0 + 1 + (0 - 0)) (flat cc (([] : List Cd).take 0 ++ [x] ++ ([] : List Cd).drop 0))) ∧ (d 12 = true → u3 = u41) ∧ Below w5.heap.size w5 x0 ∧ (d 7 = true → d 4 = true) ∧ (d 11 = true → d 7 = true) ∧ (d 12 = true → d 1 = true ∧ d 8 = true ∧ d 11 = true) ∧ (d 12 = false → u3 = .slice none 0 0)) (by simp only [Act.put, List.setIfInBounds_toArray, List.set_cons_succ, List.set_cons_zero]; rfl) (by kernel_rfl) (by kernel_rfl) ?_ ?_ ?_
            · refine ⟨_, _, _, _, _, _, _, _, _, _, _, _, _, rfl, ?_, ?_, ?_, ?_, ?_, ?_, ?_, ?_, ?_, ?_, ?_, ?_, ?_, ?_, ?_, ?_, ?_, ?_⟩
              · intro h; cases h
              · intro h; cases h
              · intro h; cases h
              · intro h; cases h
              · intro h; cases h
              · intro h; cases h
              · intro h; cases h
              · intro h; cases h
              · intro h; cases h
              · intro h; cases h
              · intro h; cases h
              · intro h; cases h
              · intro h; cases h
              · exact (Below.refl _ _).drew
              · exact (fun h => by cases h)
              · exact (fun h => by cases h)
              · exact (fun h => by cases h)
              · exact (fun _ => rfl)
            · refine stepsOk_cons (k := 0) ?_ (stepsOk_cons (k := 1) ?_ (stepsOk_cons (k := 2) ?_ (stepsOk_cons (k := 3) ?_ (stepsOk_cons (k := 4) ?_ (stepsOk_cons (k := 5) ?_ (stepsOk_cons (k := 6) ?_ (stepsOk_cons (k := 7) ?_ (stepsOk_cons (k := 8) ?_ (stepsOk_cons (k := 9) ?_ (stepsOk_cons (k := 10) ?_ (stepsOk_cons (k := 11) ?_ (stepsOk_cons (k := 12) ?_ stepsOk_nil))))))))))))
              · unfold StepOk
                rintro d act x0 ⟨u30, u31, u32, u33, u34, u35, u36, u37, u38, u39, u40, u41, u3, rfl, f0, f1, f2, f3, f4, f5, f6, f7, f8, f9, f10, f11, f12, g0, g1, g2, g3, g4⟩ hd hdep Kc hKc
                rw [if_pos (by rfl)]
                go_big_op
                refine hKc _ _ ⟨_, _, _, _, _, _, _, _, _, _, _, _, _, rfl, ?_, ?_, ?_, ?_, ?_, ?_, ?_, ?_, ?_, ?_, ?_, ?_, ?_, ?_, ?_, ?_, ?_, ?_⟩
                · exact (fun _ => (fun h5 => ⟨_, rfl, blk_new _ _ _, g0.size⟩))
                · exact (fun h => f1 (up h rfl))
                · exact (fun h => f2 (up h rfl))
                · exact (fun h => f3 (up h rfl))
                · exact (fun h h5 => (f4 (up h rfl) (dn h5)).alloc _)
                · exact (fun h => f5 (up h rfl))
                · exact (fun h h5 => by obtain ⟨b, e1, e2⟩ := f6 (up h rfl) (dn h5); exact ⟨b, e1, blk_alloc e2 _⟩)
                · exact (fun h h5 => (f7 (up h rfl) (dn h5)).alloc _)
                · exact (fun h => f8 (up h rfl))
                · exact (fun h => f9 (up h rfl))
                · exact (fun h => f10 (up h rfl))
                · exact (fun h => (f11 (up h rfl)).alloc _)
                · exact (fun h => f12 (up h rfl))
                · exact (g0.alloc g0.size _)
                · exact (fun h => upl (g1 (up h rfl)))
                · exact (fun h => upl (g2 (up h rfl)))
                · exact (fun h => ⟨upl (g3 (up h rfl)).1, upl (g3 (up h rfl)).2.1, upl (g3 (up h rfl)).2.2⟩)
                · exact (fun h => g4 (dn h))
              · unfold StepOk
                rintro d act x0 ⟨u30, u31, u32, u33, u34, u35, u36, u37, u38, u39, u40, u41, u3, rfl, f0, f1, f2, f3, f4, f5, f6, f7, f8, f9, f10, f11, f12, g0, g1, g2, g3, g4⟩ hd hdep Kc hKc
                have h12 : d 12 = false := by
                  cases h : d 12 with
                  | false => rfl
                  | true => have := (g3 h).1; rw [hd] at this; cases this
                obtain rfl := g4 h12
                rw [if_pos (by rfl)]
                go_big_op
                refine hKc _ _ ⟨_, _, _, _, _, _, _, _, _, _, _, _, _, rfl, ?_, ?_, ?_, ?_, ?_, ?_, ?_, ?_, ?_, ?_, ?_, ?_, ?_, ?_, ?_, ?_, ?_, ?_⟩
                · exact (fun h h5 => f0 (up h rfl) (dn h5))
                · exact (fun _ => rfl)
                · exact (fun h => f2 (up h rfl))
                · exact (fun h => f3 (up h rfl))
                · exact (fun h h5 => f4 (up h rfl) (dn h5))
                · exact (fun h => f5 (up h rfl))
                · exact (fun h h5 => f6 (up h rfl) (dn h5))
                · exact (fun h h5 => f7 (up h rfl) (dn h5))
                · exact (fun h => f8 (up h rfl))
                · exact (fun h => f9 (up h rfl))
                · exact (fun h => f10 (up h rfl))
                · exact (fun h => f11 (up h rfl))
                · exact (fun h => f12 (up h rfl))
                · exact g0
                · exact (fun h => upl (g1 (up h rfl)))
                · exact (fun h => upl (g2 (up h rfl)))
                · exact (fun h => ⟨upl (g3 (up h rfl)).1, upl (g3 (up h rfl)).2.1, upl (g3 (up h rfl)).2.2⟩)
                · exact (fun h => g4 (dn h))
              · unfold StepOk
                rintro d act x0 ⟨u30, u31, u32, u33, u34, u35, u36, u37, u38, u39, u40, u41, u3, rfl, f0, f1, f2, f3, f4, f5, f6, f7, f8, f9, f10, f11, f12, g0, g1, g2, g3, g4⟩ hd hdep Kc hKc
                rw [if_pos (by rfl)]
                go_big_op
                refine hKc _ _ ⟨_, _, _, _, _, _, _, _, _, _, _, _, _, rfl, ?_, ?_, ?_, ?_, ?_, ?_, ?_, ?_, ?_, ?_, ?_, ?_, ?_, ?_, ?_, ?_, ?_, ?_⟩
                · exact (fun h h5 => f0 (up h rfl) (dn h5))
                · exact (fun h => f1 (up h rfl))
                · exact (fun _ => rfl)
                · exact (fun h => f3 (up h rfl))
                · exact (fun h h5 => f4 (up h rfl) (dn h5))
                · exact (fun h => f5 (up h rfl))
                · exact (fun h h5 => f6 (up h rfl) (dn h5))
                · exact (fun h h5 => f7 (up h rfl) (dn h5))
                · exact (fun h => f8 (up h rfl))
                · exact (fun h => f9 (up h rfl))
                · exact (fun h => f10 (up h rfl))
                · exact (fun h => f11 (up h rfl))
                · exact (fun h => f12 (up h rfl))
                · exact g0
                · exact (fun h => upl (g1 (up h rfl)))
                · exact (fun h => upl (g2 (up h rfl)))
                · exact (fun h => ⟨upl (g3 (up h rfl)).1, upl (g3 (up h rfl)).2.1, upl (g3 (up h rfl)).2.2⟩)
                · exact (fun h => g4 (dn h))
              · unfold StepOk
                rintro d act x0 ⟨u30, u31, u32, u33, u34, u35, u36, u37, u38, u39, u40, u41, u3, rfl, f0, f1, f2, f3, f4, f5, f6, f7, f8, f9, f10, f11, f12, g0, g1, g2, g3, g4⟩ hd hdep Kc hKc
                have hd1 : d 1 = true := hdep ⟨1, .data⟩ (by simp) rfl
                have hd2 : d 2 = true := hdep ⟨2, .data⟩ (by simp) rfl
                obtain rfl := f1 hd1
                obtain rfl := f2 hd2
                rw [if_pos (by rfl)]
                go_big_op
                refine hKc _ _ ⟨_, _, _, _, _, _, _, _, _, _, _, _, _, rfl, ?_, ?_, ?_, ?_, ?_, ?_, ?_, ?_, ?_, ?_, ?_, ?_, ?_, ?_, ?_, ?_, ?_, ?_⟩
                · exact (fun h h5 => f0 (up h rfl) (dn h5))
                · exact (fun h => f1 (up h rfl))
                · exact (fun h => f2 (up h rfl))
                · exact (fun _ => rfl)
                · exact (fun h h5 => f4 (up h rfl) (dn h5))
                · exact (fun h => f5 (up h rfl))
                · exact (fun h h5 => f6 (up h rfl) (dn h5))
                · exact (fun h h5 => f7 (up h rfl) (dn h5))
                · exact (fun h => f8 (up h rfl))
                · exact (fun h => f9 (up h rfl))
                · exact (fun h => f10 (up h rfl))
                · exact (fun h => f11 (up h rfl))
                · exact (fun h => f12 (up h rfl))
                · exact g0
                · exact (fun h => upl (g1 (up h rfl)))
                · exact (fun h => upl (g2 (up h rfl)))
                · exact (fun h => ⟨upl (g3 (up h rfl)).1, upl (g3 (up h rfl)).2.1, upl (g3 (up h rfl)).2.2⟩)
                · exact (fun h => g4 (dn h))
              · unfold StepOk
                rintro d act x0 ⟨u30, u31, u32, u33, u34, u35, u36, u37, u38, u39, u40, u41, u3, rfl, f0, f1, f2, f3, f4, f5, f6, f7, f8, f9, f10, f11, f12, g0, g1, g2, g3, g4⟩ hd hdep Kc hKc
                have hd0 : d 0 = true := hdep ⟨0, .data⟩ (by simp) rfl
                have hd3 : d 3 = true := hdep ⟨3, .data⟩ (by simp) rfl
                have h7 : d 7 = false := by
                  cases h : d 7 with
                  | false => rfl
                  | true => have := g1 h; rw [hd] at this; cases this
                have h11 : d 11 = false := by
                  cases h : d 11 with
                  | false => rfl
                  | true => have := g2 h; rw [h7] at this; cases this
                obtain ⟨b1, rfl, hb1, hge1⟩ := f0 hd0 hd
                have f0o := own_empty hb1 hge1
                obtain rfl := f3 hd3
                rw [if_pos (by rfl)]
                have hap := fun (ty : TypeId) => run_append_nil x0 ty (some ⟨b1, 0, none⟩) 0 0 (Nat.le_refl _)
                go_big_op
                refine hKc _ _ ⟨_, _, _, _, _, _, _, _, _, _, _, _, _, rfl, ?_, ?_, ?_, ?_, ?_, ?_, ?_, ?_, ?_, ?_, ?_, ?_, ?_, ?_, ?_, ?_, ?_, ?_⟩
                · exact (fun h h5 => by simp at h5)
                · exact (fun h => f1 (up h rfl))
                · exact (fun h => f2 (up h rfl))
                · exact (fun h => f3 (up h rfl))
                · exact (fun _ => (fun h5 => f0o))
                · exact (fun h => f5 (up h rfl))
                · exact (fun h h5 => f6 (up h rfl) (dn h5))
                · exact (fun h h5 => f7 (up h rfl) (dn h5))
                · exact (fun h => f8 (up h rfl))
                · exact (fun h => f9 (up h rfl))
                · exact (fun h => f10 (up h rfl))
                · exact (fun h => f11 (up h rfl))
                · exact (fun h => f12 (up h rfl))
                · exact g0
                · exact (fun h => by simp)
                · exact (fun h => upl (g2 (up h rfl)))
                · exact (fun h => ⟨upl (g3 (up h rfl)).1, upl (g3 (up h rfl)).2.1, upl (g3 (up h rfl)).2.2⟩)
                · exact (fun h => g4 (dn h))
              · unfold StepOk
                rintro d act x0 ⟨u30, u31, u32, u33, u34, u35, u36, u37, u38, u39, u40, u41, u3, rfl, f0, f1, f2, f3, f4, f5, f6, f7, f8, f9, f10, f11, f12, g0, g1, g2, g3, g4⟩ hd hdep Kc hKc
                have hx5 := blk_cell (blk_ext g0 HRB.out)
                have hl5 := blk_lt (blk_ext g0 HRB.out)
                rw [if_pos (by rfl)]
                go_big_op
                refine hKc _ _ ⟨_, _, _, _, _, _, _, _, _, _, _, _, _, rfl, ?_, ?_, ?_, ?_, ?_, ?_, ?_, ?_, ?_, ?_, ?_, ?_, ?_, ?_, ?_, ?_, ?_, ?_⟩
                · exact (fun h h5 => f0 (up h rfl) (dn h5))
                · exact (fun h => f1 (up h rfl))
                · exact (fun h => f2 (up h rfl))
                · exact (fun h => f3 (up h rfl))
                · exact (fun h h5 => f4 (up h rfl) (dn h5))
                · exact (fun _ => rfl)
                · exact (fun h h5 => f6 (up h rfl) (dn h5))
                · exact (fun h h5 => f7 (up h rfl) (dn h5))
                · exact (fun h => f8 (up h rfl))
                · exact (fun h => f9 (up h rfl))
                · exact (fun h => f10 (up h rfl))
                · exact (fun h => f11 (up h rfl))
                · exact (fun h => f12 (up h rfl))
                · exact g0
                · exact (fun h => upl (g1 (up h rfl)))
                · exact (fun h => upl (g2 (up h rfl)))
                · exact (fun h => ⟨upl (g3 (up h rfl)).1, upl (g3 (up h rfl)).2.1, upl (g3 (up h rfl)).2.2⟩)
                · exact (fun h => g4 (dn h))
              · unfold StepOk
                rintro d act x0 ⟨u30, u31, u32, u33, u34, u35, u36, u37, u38, u39, u40, u41, u3, rfl, f0, f1, f2, f3, f4, f5, f6, f7, f8, f9, f10, f11, f12, g0, g1, g2, g3, g4⟩ hd hdep Kc hKc
                have hd5 : d 5 = true := hdep ⟨5, .data⟩ (by simp) rfl
                obtain rfl := f5 hd5
                rw [if_pos (by rfl)]
                go_big_op
                refine hKc _ _ ⟨_, _, _, _, _, _, _, _, _, _, _, _, _, rfl, ?_, ?_, ?_, ?_, ?_, ?_, ?_, ?_, ?_, ?_, ?_, ?_, ?_, ?_, ?_, ?_, ?_, ?_⟩
                · exact (fun h h5 => by obtain ⟨b1, e1, e2, e3⟩ := f0 (up h rfl) (dn h5); exact ⟨b1, e1, blk_alloc e2 _, e3⟩)
                · exact (fun h => f1 (up h rfl))
                · exact (fun h => f2 (up h rfl))
                · exact (fun h => f3 (up h rfl))
                · exact (fun h h5 => (f4 (up h rfl) (dn h5)).alloc _)
                · exact (fun h => f5 (up h rfl))
                · exact (fun _ => (fun h5 => ⟨_, rfl, blk_new _ _ _⟩))
                · exact (fun h h5 => (f7 (up h rfl) (dn h5)).alloc _)
                · exact (fun h => f8 (up h rfl))
                · exact (fun h => f9 (up h rfl))
                · exact (fun h => f10 (up h rfl))
                · exact (fun h => (f11 (up h rfl)).alloc _)
                · exact (fun h => f12 (up h rfl))
                · exact (g0.alloc g0.size _)
                · exact (fun h => upl (g1 (up h rfl)))
                · exact (fun h => upl (g2 (up h rfl)))
                · exact (fun h => ⟨upl (g3 (up h rfl)).1, upl (g3 (up h rfl)).2.1, upl (g3 (up h rfl)).2.2⟩)
                · exact (fun h => g4 (dn h))
              · unfold StepOk
                rintro d act x0 ⟨u30, u31, u32, u33, u34, u35, u36, u37, u38, u39, u40, u41, u3, rfl, f0, f1, f2, f3, f4, f5, f6, f7, f8, f9, f10, f11, f12, g0, g1, g2, g3, g4⟩ hd hdep Kc hKc
                have hd4 : d 4 = true := hdep ⟨4, .data⟩ (by simp) rfl
                have hd6 : d 6 = true := hdep ⟨6, .data⟩ (by simp) rfl
                have h11 : d 11 = false := by
                  cases h : d 11 with
                  | false => rfl
                  | true => have := g2 h; rw [hd] at this; cases this
                have f4' := f4 hd4 hd
                obtain ⟨b4, rfl, hb4⟩ := f6 hd6 hd
                rw [if_pos (by rfl)]
                refine wp_append_own _ _ _ 33 rfl (w5.heap.size) 49 i0 Cd.zero.v 9 88 Try.underlying33 hi hz0 hz1 hz2 rfl (by decide) _ 0 (flat cc (([] : List Cd).take 0)) rfl f4' ⟨b4, 0, none⟩ 1 1 (cc x) rfl ?c0 ?c1 ?c2 ?c3 ?c4 ?c5 ?_
                case c0 => rfl
                case c1 => intro j u hj; rw [add_off, Nat.zero_add, blk_cell hb4]; simpa [cc] using hj
                case c2 => exact cc_one x
                case c3 => unfold maxLen; omega
                case c4 => omega
                case c5 => exact g0.size
                intro v' x1 hown' hgrow _
                have gB : Below w5.heap.size w5 x1 := g0.grown hgrow g0.size (fun q hq => own_ge f4' hq)
                refine hKc _ _ ⟨_, _, _, _, _, _, _, _, _, _, _, _, _, rfl, ?_, ?_, ?_, ?_, ?_, ?_, ?_, ?_, ?_, ?_, ?_, ?_, ?_, ?_, ?_, ?_, ?_, ?_⟩
                · exact (fun h h5 => by have := dn h5; rw [hd4] at this; cases this)
                · exact (fun h => f1 (up h rfl))
                · exact (fun h => f2 (up h rfl))
                · exact (fun h => f3 (up h rfl))
                · exact (fun h h5 => by simp at h5)
                · exact (fun h => f5 (up h rfl))
                · exact (fun h h5 => by simp at h5)
                · exact (fun _ => (fun h5 => by rw [flat_snoc]; exact hown'))
                · exact (fun h => f8 (up h rfl))
                · exact (fun h => f9 (up h rfl))
                · exact (fun h => f10 (up h rfl))
                · exact (fun h => by have := up h rfl; rw [h11] at this; cases this)
                · exact (fun h => f12 (up h rfl))
                · exact gB
                · exact (fun h => upl hd4)
                · exact (fun h => upl (g2 (up h rfl)))
                · exact (fun h => ⟨upl (g3 (up h rfl)).1, upl (g3 (up h rfl)).2.1, upl (g3 (up h rfl)).2.2⟩)
                · exact (fun h => g4 (dn h))
              · unfold StepOk
                rintro d act x0 ⟨u30, u31, u32, u33, u34, u35, u36, u37, u38, u39, u40, u41, u3, rfl, f0, f1, f2, f3, f4, f5, f6, f7, f8, f9, f10, f11, f12, g0, g1, g2, g3, g4⟩ hd hdep Kc hKc
                have h12 : d 12 = false := by
                  cases h : d 12 with
                  | false => rfl
                  | true => have := (g3 h).2.1; rw [hd] at this; cases this
                obtain rfl := g4 h12
                rw [if_pos (by rfl)]
                go_big_op
                refine hKc _ _ ⟨_, _, _, _, _, _, _, _, _, _, _, _, _, rfl, ?_, ?_, ?_, ?_, ?_, ?_, ?_, ?_, ?_, ?_, ?_, ?_, ?_, ?_, ?_, ?_, ?_, ?_⟩
                · exact (fun h h5 => f0 (up h rfl) (dn h5))
                · exact (fun h => f1 (up h rfl))
                · exact (fun h => f2 (up h rfl))
                · exact (fun h => f3 (up h rfl))
                · exact (fun h h5 => f4 (up h rfl) (dn h5))
                · exact (fun h => f5 (up h rfl))
                · exact (fun h h5 => f6 (up h rfl) (dn h5))
                · exact (fun h h5 => f7 (up h rfl) (dn h5))
                · exact (fun _ => rfl)
                · exact (fun h => f9 (up h rfl))
                · exact (fun h => f10 (up h rfl))
                · exact (fun h => f11 (up h rfl))
                · exact (fun h => f12 (up h rfl))
                · exact g0
                · exact (fun h => upl (g1 (up h rfl)))
                · exact (fun h => upl (g2 (up h rfl)))
                · exact (fun h => ⟨upl (g3 (up h rfl)).1, upl (g3 (up h rfl)).2.1, upl (g3 (up h rfl)).2.2⟩)
                · exact (fun h => g4 (dn h))
              · unfold StepOk
                rintro d act x0 ⟨u30, u31, u32, u33, u34, u35, u36, u37, u38, u39, u40, u41, u3, rfl, f0, f1, f2, f3, f4, f5, f6, f7, f8, f9, f10, f11, f12, g0, g1, g2, g3, g4⟩ hd hdep Kc hKc
                rw [if_pos (by rfl)]
                go_big_op
                refine hKc _ _ ⟨_, _, _, _, _, _, _, _, _, _, _, _, _, rfl, ?_, ?_, ?_, ?_, ?_, ?_, ?_, ?_, ?_, ?_, ?_, ?_, ?_, ?_, ?_, ?_, ?_, ?_⟩
                · exact (fun h h5 => f0 (up h rfl) (dn h5))
                · exact (fun h => f1 (up h rfl))
                · exact (fun h => f2 (up h rfl))
                · exact (fun h => f3 (up h rfl))
                · exact (fun h h5 => f4 (up h rfl) (dn h5))
                · exact (fun h => f5 (up h rfl))
                · exact (fun h h5 => f6 (up h rfl) (dn h5))
                · exact (fun h h5 => f7 (up h rfl) (dn h5))
                · exact (fun h => f8 (up h rfl))
                · exact (fun _ => rfl)
                · exact (fun h => f10 (up h rfl))
                · exact (fun h => f11 (up h rfl))
                · exact (fun h => f12 (up h rfl))
                · exact g0
                · exact (fun h => upl (g1 (up h rfl)))
                · exact (fun h => upl (g2 (up h rfl)))
                · exact (fun h => ⟨upl (g3 (up h rfl)).1, upl (g3 (up h rfl)).2.1, upl (g3 (up h rfl)).2.2⟩)
                · exact (fun h => g4 (dn h))
              · unfold StepOk
                rintro d act x0 ⟨u30, u31, u32, u33, u34, u35, u36, u37, u38, u39, u40, u41, u3, rfl, f0, f1, f2, f3, f4, f5, f6, f7, f8, f9, f10, f11, f12, g0, g1, g2, g3, g4⟩ hd hdep Kc hKc
                have hd8 : d 8 = true := hdep ⟨8, .data⟩ (by simp) rfl
                have hd9 : d 9 = true := hdep ⟨9, .data⟩ (by simp) rfl
                obtain rfl := f8 hd8
                obtain rfl := f9 hd9
                rw [if_pos (by rfl)]
                go_big_op
                refine hKc _ _ ⟨_, _, _, _, _, _, _, _, _, _, _, _, _, rfl, ?_, ?_, ?_, ?_, ?_, ?_, ?_, ?_, ?_, ?_, ?_, ?_, ?_, ?_, ?_, ?_, ?_, ?_⟩
                · exact (fun h h5 => f0 (up h rfl) (dn h5))
                · exact (fun h => f1 (up h rfl))
                · exact (fun h => f2 (up h rfl))
                · exact (fun h => f3 (up h rfl))
                · exact (fun h h5 => f4 (up h rfl) (dn h5))
                · exact (fun h => f5 (up h rfl))
                · exact (fun h h5 => f6 (up h rfl) (dn h5))
                · exact (fun h h5 => f7 (up h rfl) (dn h5))
                · exact (fun h => f8 (up h rfl))
                · exact (fun h => f9 (up h rfl))
                · exact (fun _ => rfl)
                · exact (fun h => f11 (up h rfl))
                · exact (fun h => f12 (up h rfl))
                · exact g0
                · exact (fun h => upl (g1 (up h rfl)))
                · exact (fun h => upl (g2 (up h rfl)))
                · exact (fun h => ⟨upl (g3 (up h rfl)).1, upl (g3 (up h rfl)).2.1, upl (g3 (up h rfl)).2.2⟩)
                · exact (fun h => g4 (dn h))
              · unfold StepOk
                rintro d act x0 ⟨u30, u31, u32, u33, u34, u35, u36, u37, u38, u39, u40, u41, u3, rfl, f0, f1, f2, f3, f4, f5, f6, f7, f8, f9, f10, f11, f12, g0, g1, g2, g3, g4⟩ hd hdep Kc hKc
                have hd7 : d 7 = true := hdep ⟨7, .data⟩ (by simp) rfl
                have hd10 : d 10 = true := hdep ⟨10, .data⟩ (by simp) rfl
                have hd4 := g1 hd7
                have f7' := f7 hd7 hd
                obtain rfl := f10 hd10
                rw [if_pos (by rfl)]
                obtain ⟨a7, c7, e7, h71, -, h7f⟩ := OwnR.form (ls := [x]) (show OwnC w5.heap.size x0 u37 [x] from f7')
                subst e7
                obtain ⟨g7, rfl⟩ : ∃ g7, a7 = some ⟨g7, 0, none⟩ := by
                  rcases h7f with ⟨_, _, e⟩ | ⟨g7, e, _⟩
                  · cases e
                  · exact ⟨g7, e⟩
                refine wp_append_nil9 _ _ rfl (some ⟨g7, 0, none⟩) 1 c7 rfl rfl h71 ?_
                refine hKc _ _ ⟨_, _, _, _, _, _, _, _, _, _, _, _, _, rfl, ?_, ?_, ?_, ?_, ?_, ?_, ?_, ?_, ?_, ?_, ?_, ?_, ?_, ?_, ?_, ?_, ?_, ?_⟩
                · exact (fun h h5 => by have := dn h5; rw [hd4] at this; cases this)
                · exact (fun h => f1 (up h rfl))
                · exact (fun h => f2 (up h rfl))
                · exact (fun h => f3 (up h rfl))
                · exact (fun h h5 => by have := dn h5; rw [hd7] at this; cases this)
                · exact (fun h => f5 (up h rfl))
                · exact (fun h h5 => by have := dn h5; rw [hd7] at this; cases this)
                · exact (fun h h5 => by simp at h5)
                · exact (fun h => f8 (up h rfl))
                · exact (fun h => f9 (up h rfl))
                · exact (fun h => f10 (up h rfl))
                · exact (fun _ => (by simpa using f7'))
                · exact (fun h => by have := (g3 (up h rfl)).2.2; rw [hd] at this; cases this)
                · exact g0
                · exact (fun h => upl (g1 (up h rfl)))
                · exact (fun h => upl hd7)
                · exact (fun h => ⟨upl (g3 (up h rfl)).1, upl (g3 (up h rfl)).2.1, upl (g3 (up h rfl)).2.2⟩)
                · exact (fun h => g4 (dn h))
              · unfold StepOk
                rintro d act x0 ⟨u30, u31, u32, u33, u34, u35, u36, u37, u38, u39, u40, u41, u3, rfl, f0, f1, f2, f3, f4, f5, f6, f7, f8, f9, f10, f11, f12, g0, g1, g2, g3, g4⟩ hd hdep Kc hKc
                have hd1 : d 1 = true := hdep ⟨1, .phase⟩ (by simp) rfl
                have hd8 : d 8 = true := hdep ⟨8, .phase⟩ (by simp) rfl
                have hd11 : d 11 = true := hdep ⟨11, .data⟩ (by simp) rfl
                rw [if_pos (by rfl)]
                go_big_op
                refine hKc _ _ ⟨_, _, _, _, _, _, _, _, _, _, _, _, _, rfl, ?_, ?_, ?_, ?_, ?_, ?_, ?_, ?_, ?_, ?_, ?_, ?_, ?_, ?_, ?_, ?_, ?_, ?_⟩
                · exact (fun h h5 => f0 (up h rfl) (dn h5))
                · exact (fun h => f1 (up h rfl))
                · exact (fun h => f2 (up h rfl))
                · exact (fun h => f3 (up h rfl))
                · exact (fun h h5 => f4 (up h rfl) (dn h5))
                · exact (fun h => f5 (up h rfl))
                · exact (fun h h5 => f6 (up h rfl) (dn h5))
                · exact (fun h h5 => f7 (up h rfl) (dn h5))
                · exact (fun h => f8 (up h rfl))
                · exact (fun h => f9 (up h rfl))
                · exact (fun h => f10 (up h rfl))
                · exact (fun h => f11 (up h rfl))
                · exact (fun _ => rfl)
                · exact g0
                · exact (fun h => upl (g1 (up h rfl)))
                · exact (fun h => upl (g2 (up h rfl)))
                · exact (fun h => ⟨upl hd1, upl hd8, upl hd11⟩)
                · exact (fun h => by simp at h)
            · rintro d act x0 ⟨u30, u31, u32, u33, u34, u35, u36, u37, u38, u39, u40, u41, u3, rfl, f0, f1, f2, f3, f4, f5, f6, f7, f8, f9, f10, f11, f12, g0, g1, g2, g3, g4⟩ hall
            
              have f11' := f11 (hall 11 (by decide))
              have f12' := f12 (hall 12 (by decide))
              subst f12'
              have HN7 := Lib.hid f11'
              have HG0 := Lib.hid g0
              clear f0 f1 f2 f3 f4 f5 f6 f7 f8 f9 f10 f11 f12 g0 g1 g2 g3 g4 hall f11'
              go_wp2
              go_roundw
              case rel => exact ⟨J + 1, by omega, by go_num, by rw [HST.out]; unfold OwnC OwnR; have h9 := ownsRow_base HN7.out HBW.out.size; simpa using h9, ext_trans HBW.out HG0.out⟩
              case measure => simp [intOf]; omega
          · rcases Classical.propComplete (gc = K) with hce | hce
            · refine wp_region_inv_eq (J := fun A d act x0 => ∃ u30 u31 u32 u33 u34 u35 u36 u37 u38 u39 u40 u41 u3 : Value, act = (((((((((((((A.put (some 30) u30).put (some 31) u31).put (some 32) u32).put (some 33) u33).put (some 34) u34).put (some 35) u35).put (some 36) u36).put (some 37) u37).put (some 38) u38).put (some 39) u39).put (some 40) u40).put (some 41) u41).put (some 3) u3) ∧ (d 0 = true → (d 4 = false → ∃ b1 : Nat, u30 = .slice (some ⟨b1, 0, none⟩) 0 0 ∧ x0.heap[b1]? = some (.cells #[] 49 (0, 0)) ∧ w5.heap.size ≤ b1)) ∧ (d 1 = true → u31 = .slice (some ⟨g, 0, none⟩) m gc) ∧ (d 2 = true → u32 = .int .i64 ((K : Nat) : Int)) ∧ (d 3 = true → u33 = .slice (some ⟨g, 0, none⟩) K gc) ∧ (d 4 = true → (d 7 = false → x0.ownsRow w5.heap.size 49 9 u34 K (flat cc (S.take K)))) ∧ (d 5 = true → u35 = .agg #[.string x.a, .string x.i, .int .i64 x.s, .int .i64 x.o, .int .i64 x.l, .int .i64 x.t, .int .i64 x.k, .int .i64 x.n, .bool x.g]) ∧ (d 6 = true → (d 7 = false → ∃ b : Nat, u36 = .slice (some ⟨b, 0, none⟩) 1 1 ∧ x0.heap[b]? = some (.cells #[.string x.a, .string x.i, .int .i64 x.s, .int .i64 x.o, .int .i64 x.l, .int .i64 x.t, .int .i64 x.k, .int .i64 x.n, .bool x.g] 49 (0, 0)))) ∧ (d 7 = true → (d 11 = false → x0.ownsRow w5.heap.size 49 9 u37 (K + 1) (flat cc (S.take K ++ [x])))) ∧ (d 8 = true → u38 = .slice (some ⟨g, 0, none⟩) m gc) ∧ (d 9 = true → u39 = .int .i64 ((K : Nat) : Int)) ∧ (d 10 = true → u40 = .slice (some ⟨g, 0, none⟩) (m - K) (gc - K)) ∧ (d 11 = true → x0.ownsRow w5.heap.size 49 9 u41 (K + 1 + (m - K)) (flat cc (S.take K ++ [x] ++ S.drop K))) ∧ (d 12 = true → u3 = u41) ∧ Below w5.heap.size w5 x0 ∧ (d 7 = true → d 4 = true) ∧ (d 11 = true → d 7 = true) ∧ (d 12 = true → d 1 = true ∧ d 8 = true ∧ d 11 = true) ∧ (d 12 = false → u3 = .slice (some ⟨g, 0, none⟩) m gc)) (by simp only [Act.put, List.setIfInBounds_toArray, List.set_cons_succ, List.set_cons_zero]; rfl) (by kernel_rfl) (by kernel_rfl) ?_ ?_ ?_
              · refine ⟨_, _, _, _, _, _, _, _, _, _, _, _, _, rfl, ?_, ?_, ?_, ?_, ?_, ?_, ?_, ?_, ?_, ?_, ?_, ?_, ?_, ?_, ?_, ?_, ?_, ?_⟩
                · intro h; cases h
                · intro h; cases h
                · intro h; cases h
                · intro h; cases h
                · intro h; cases h
                · intro h; cases h
                · intro h; cases h
                · intro h; cases h
                · intro h; cases h
                · intro h; cases h
                · intro h; cases h
                · intro h; cases h
                · intro h; cases h
                · exact (Below.refl _ _).drew
                · exact (fun h => by cases h)
                · exact (fun h => by cases h)
                · exact (fun h => by cases h)
                · exact (fun _ => rfl)
              · refine stepsOk_cons (k := 0) ?_ (stepsOk_cons (k := 1) ?_ (stepsOk_cons (k := 2) ?_ (stepsOk_cons (k := 3) ?_ (stepsOk_cons (k := 4) ?_ (stepsOk_cons (k := 5) ?_ (stepsOk_cons (k := 6) ?_ (stepsOk_cons (k := 7) ?_ (stepsOk_cons (k := 8) ?_ (stepsOk_cons (k := 9) ?_ (stepsOk_cons (k := 10) ?_ (stepsOk_cons (k := 11) ?_ (stepsOk_cons (k := 12) ?_ stepsOk_nil))))))))))))
                · unfold StepOk
                  rintro d act x0 ⟨u30, u31, u32, u33, u34, u35, u36, u37, u38, u39, u40, u41, u3, rfl, f0, f1, f2, f3, f4, f5, f6, f7, f8, f9, f10, f11, f12, g0, g1, g2, g3, g4⟩ hd hdep Kc hKc
                  rw [if_pos (by rfl)]
                  go_big_op
                  refine hKc _ _ ⟨_, _, _, _, _, _, _, _, _, _, _, _, _, rfl, ?_, ?_, ?_, ?_, ?_, ?_, ?_, ?_, ?_, ?_, ?_, ?_, ?_, ?_, ?_, ?_, ?_, ?_⟩
                  · exact (fun _ => (fun h5 => ⟨_, rfl, blk_new _ _ _, g0.size⟩))
                  · exact (fun h => f1 (up h rfl))
                  · exact (fun h => f2 (up h rfl))
                  · exact (fun h => f3 (up h rfl))
                  · exact (fun h h5 => (f4 (up h rfl) (dn h5)).alloc _)
                  · exact (fun h => f5 (up h rfl))
                  · exact (fun h h5 => by obtain ⟨b, e1, e2⟩ := f6 (up h rfl) (dn h5); exact ⟨b, e1, blk_alloc e2 _⟩)
                  · exact (fun h h5 => (f7 (up h rfl) (dn h5)).alloc _)
                  · exact (fun h => f8 (up h rfl))
                  · exact (fun h => f9 (up h rfl))
                  · exact (fun h => f10 (up h rfl))
                  · exact (fun h => (f11 (up h rfl)).alloc _)
                  · exact (fun h => f12 (up h rfl))
                  · exact (g0.alloc g0.size _)
                  · exact (fun h => upl (g1 (up h rfl)))
                  · exact (fun h => upl (g2 (up h rfl)))
                  · exact (fun h => ⟨upl (g3 (up h rfl)).1, upl (g3 (up h rfl)).2.1, upl (g3 (up h rfl)).2.2⟩)
                  · exact (fun h => g4 (dn h))
                · unfold StepOk
                  rintro d act x0 ⟨u30, u31, u32, u33, u34, u35, u36, u37, u38, u39, u40, u41, u3, rfl, f0, f1, f2, f3, f4, f5, f6, f7, f8, f9, f10, f11, f12, g0, g1, g2, g3, g4⟩ hd hdep Kc hKc
                  have h12 : d 12 = false := by
                    cases h : d 12 with
                    | false => rfl
                    | true => have := (g3 h).1; rw [hd] at this; cases this
                  obtain rfl := g4 h12
                  rw [if_pos (by rfl)]
                  go_big_op
                  refine hKc _ _ ⟨_, _, _, _, _, _, _, _, _, _, _, _, _, rfl, ?_, ?_, ?_, ?_, ?_, ?_, ?_, ?_, ?_, ?_, ?_, ?_, ?_, ?_, ?_, ?_, ?_, ?_⟩
                  · exact (fun h h5 => f0 (up h rfl) (dn h5))
                  · exact (fun _ => rfl)
                  · exact (fun h => f2 (up h rfl))
                  · exact (fun h => f3 (up h rfl))
                  · exact (fun h h5 => f4 (up h rfl) (dn h5))
                  · exact (fun h => f5 (up h rfl))
                  · exact (fun h h5 => f6 (up h rfl) (dn h5))
                  · exact (fun h h5 => f7 (up h rfl) (dn h5))
                  · exact (fun h => f8 (up h rfl))
                  · exact (fun h => f9 (up h rfl))
                  · exact (fun h => f10 (up h rfl))
                  · exact (fun h => f11 (up h rfl))
                  · exact (fun h => f12 (up h rfl))
                  · exact g0
                  · exact (fun h => upl (g1 (up h rfl)))
                  · exact (fun h => upl (g2 (up h rfl)))
                  · exact (fun h => ⟨upl (g3 (up h rfl)).1, upl (g3 (up h rfl)).2.1, upl (g3 (up h rfl)).2.2⟩)
                  · exact (fun h => g4 (dn h))
                · unfold StepOk
                  rintro d act x0 ⟨u30, u31, u32, u33, u34, u35, u36, u37, u38, u39, u40, u41, u3, rfl, f0, f1, f2, f3, f4, f5, f6, f7, f8, f9, f10, f11, f12, g0, g1, g2, g3, g4⟩ hd hdep Kc hKc
                  rw [if_pos (by rfl)]
                  go_big_op
                  refine hKc _ _ ⟨_, _, _, _, _, _, _, _, _, _, _, _, _, rfl, ?_, ?_, ?_, ?_, ?_, ?_, ?_, ?_, ?_, ?_, ?_, ?_, ?_, ?_, ?_, ?_, ?_, ?_⟩
                  · exact (fun h h5 => f0 (up h rfl) (dn h5))
                  · exact (fun h => f1 (up h rfl))
                  · exact (fun _ => rfl)
                  · exact (fun h => f3 (up h rfl))
                  · exact (fun h h5 => f4 (up h rfl) (dn h5))
                  · exact (fun h => f5 (up h rfl))
                  · exact (fun h h5 => f6 (up h rfl) (dn h5))
                  · exact (fun h h5 => f7 (up h rfl) (dn h5))
                  · exact (fun h => f8 (up h rfl))
                  · exact (fun h => f9 (up h rfl))
                  · exact (fun h => f10 (up h rfl))
                  · exact (fun h => f11 (up h rfl))
                  · exact (fun h => f12 (up h rfl))
                  · exact g0
                  · exact (fun h => upl (g1 (up h rfl)))
                  · exact (fun h => upl (g2 (up h rfl)))
                  · exact (fun h => ⟨upl (g3 (up h rfl)).1, upl (g3 (up h rfl)).2.1, upl (g3 (up h rfl)).2.2⟩)
                  · exact (fun h => g4 (dn h))
                · unfold StepOk
                  rintro d act x0 ⟨u30, u31, u32, u33, u34, u35, u36, u37, u38, u39, u40, u41, u3, rfl, f0, f1, f2, f3, f4, f5, f6, f7, f8, f9, f10, f11, f12, g0, g1, g2, g3, g4⟩ hd hdep Kc hKc
                  have hd1 : d 1 = true := hdep ⟨1, .data⟩ (by simp) rfl
                  have hd2 : d 2 = true := hdep ⟨2, .data⟩ (by simp) rfl
                  obtain rfl := f1 hd1
                  obtain rfl := f2 hd2
                  rw [if_pos (by rfl)]
                  go_big_op
                  refine hKc _ _ ⟨_, _, _, _, _, _, _, _, _, _, _, _, _, rfl, ?_, ?_, ?_, ?_, ?_, ?_, ?_, ?_, ?_, ?_, ?_, ?_, ?_, ?_, ?_, ?_, ?_, ?_⟩
                  · exact (fun h h5 => f0 (up h rfl) (dn h5))
                  · exact (fun h => f1 (up h rfl))
                  · exact (fun h => f2 (up h rfl))
                  · exact (fun _ => rfl)
                  · exact (fun h h5 => f4 (up h rfl) (dn h5))
                  · exact (fun h => f5 (up h rfl))
                  · exact (fun h h5 => f6 (up h rfl) (dn h5))
                  · exact (fun h h5 => f7 (up h rfl) (dn h5))
                  · exact (fun h => f8 (up h rfl))
                  · exact (fun h => f9 (up h rfl))
                  · exact (fun h => f10 (up h rfl))
                  · exact (fun h => f11 (up h rfl))
                  · exact (fun h => f12 (up h rfl))
                  · exact g0
                  · exact (fun h => upl (g1 (up h rfl)))
                  · exact (fun h => upl (g2 (up h rfl)))
                  · exact (fun h => ⟨upl (g3 (up h rfl)).1, upl (g3 (up h rfl)).2.1, upl (g3 (up h rfl)).2.2⟩)
                  · exact (fun h => g4 (dn h))
                · unfold StepOk
                  rintro d act x0 ⟨u30, u31, u32, u33, u34, u35, u36, u37, u38, u39, u40, u41, u3, rfl, f0, f1, f2, f3, f4, f5, f6, f7, f8, f9, f10, f11, f12, g0, g1, g2, g3, g4⟩ hd hdep Kc hKc
                  have hd0 : d 0 = true := hdep ⟨0, .data⟩ (by simp) rfl
                  have hd3 : d 3 = true := hdep ⟨3, .data⟩ (by simp) rfl
                  have h7 : d 7 = false := by
                    cases h : d 7 with
                    | false => rfl
                    | true => have := g1 h; rw [hd] at this; cases this
                  have h11 : d 11 = false := by
                    cases h : d 11 with
                    | false => rfl
                    | true => have := g2 h; rw [h7] at this; cases this
                  obtain ⟨b1, rfl, hb1, hge1⟩ := f0 hd0 hd
                  have f0o := own_empty hb1 hge1
                  obtain rfl := f3 hd3
                  rw [if_pos (by rfl)]
                  refine wp_append_own _ _ _ 33 rfl (w5.heap.size) 49 i0 Cd.zero.v 9 88 Try.underlying33 hi hz0 hz1 hz2 rfl (by decide) _ 0 (flat cc []) rfl f0o ⟨g, 0, none⟩ K gc (flat cc (S.take K)) rfl ?c0 ?c1 ?c2 ?c3 ?c4 ?c5 ?_
                  case c0 => rw [flat_len cc_len, HTL.out]
                  case c1 => intro j u hj; rw [add_off]; exact cat_cells ((HCS.out.ext g0).take K) j u hj
                  case c2 => exact flat_one cc_one _
                  case c3 => unfold maxLen; omega
                  case c4 => omega
                  case c5 => exact g0.size
                  intro v' x1 hown' hgrow _
                  have gB : Below w5.heap.size w5 x1 := g0.grown hgrow g0.size (fun q hq => own_ge f0o hq)
                  refine hKc _ _ ⟨_, _, _, _, _, _, _, _, _, _, _, _, _, rfl, ?_, ?_, ?_, ?_, ?_, ?_, ?_, ?_, ?_, ?_, ?_, ?_, ?_, ?_, ?_, ?_, ?_, ?_⟩
                  · exact (fun h h5 => by simp at h5)
                  · exact (fun h => f1 (up h rfl))
                  · exact (fun h => f2 (up h rfl))
                  · exact (fun h => f3 (up h rfl))
                  · exact (fun _ => (fun h5 => by simpa [flat_nil] using hown'))
                  · exact (fun h => f5 (up h rfl))
                  · exact (fun h h5 => by obtain ⟨b, e1, e2⟩ := f6 (up h rfl) (dn h5); exact ⟨b, e1, (hgrow.block b (blk_lt e2) (by show some b ≠ some b1; simpa using blk_ne9 e2 hb1)).trans e2⟩)
                  · exact (fun h h5 => by have := up h rfl; rw [h7] at this; cases this)
                  · exact (fun h => f8 (up h rfl))
                  · exact (fun h => f9 (up h rfl))
                  · exact (fun h => f10 (up h rfl))
                  · exact (fun h => by have := up h rfl; rw [h11] at this; cases this)
                  · exact (fun h => f12 (up h rfl))
                  · exact gB
                  · exact (fun h => by simp)
                  · exact (fun h => upl (g2 (up h rfl)))
                  · exact (fun h => ⟨upl (g3 (up h rfl)).1, upl (g3 (up h rfl)).2.1, upl (g3 (up h rfl)).2.2⟩)
                  · exact (fun h => g4 (dn h))
                · unfold StepOk
                  rintro d act x0 ⟨u30, u31, u32, u33, u34, u35, u36, u37, u38, u39, u40, u41, u3, rfl, f0, f1, f2, f3, f4, f5, f6, f7, f8, f9, f10, f11, f12, g0, g1, g2, g3, g4⟩ hd hdep Kc hKc
                  have hx5 := blk_cell (blk_ext g0 HRB.out)
                  have hl5 := blk_lt (blk_ext g0 HRB.out)
                  rw [if_pos (by rfl)]
                  go_big_op
                  refine hKc _ _ ⟨_, _, _, _, _, _, _, _, _, _, _, _, _, rfl, ?_, ?_, ?_, ?_, ?_, ?_, ?_, ?_, ?_, ?_, ?_, ?_, ?_, ?_, ?_, ?_, ?_, ?_⟩
                  · exact (fun h h5 => f0 (up h rfl) (dn h5))
                  · exact (fun h => f1 (up h rfl))
                  · exact (fun h => f2 (up h rfl))
                  · exact (fun h => f3 (up h rfl))
                  · exact (fun h h5 => f4 (up h rfl) (dn h5))
                  · exact (fun _ => rfl)
                  · exact (fun h h5 => f6 (up h rfl) (dn h5))
                  · exact (fun h h5 => f7 (up h rfl) (dn h5))
                  · exact (fun h => f8 (up h rfl))
                  · exact (fun h => f9 (up h rfl))
                  · exact (fun h => f10 (up h rfl))
                  · exact (fun h => f11 (up h rfl))
                  · exact (fun h => f12 (up h rfl))
                  · exact g0
                  · exact (fun h => upl (g1 (up h rfl)))
                  · exact (fun h => upl (g2 (up h rfl)))
                  · exact (fun h => ⟨upl (g3 (up h rfl)).1, upl (g3 (up h rfl)).2.1, upl (g3 (up h rfl)).2.2⟩)
                  · exact (fun h => g4 (dn h))
                · unfold StepOk
                  rintro d act x0 ⟨u30, u31, u32, u33, u34, u35, u36, u37, u38, u39, u40, u41, u3, rfl, f0, f1, f2, f3, f4, f5, f6, f7, f8, f9, f10, f11, f12, g0, g1, g2, g3, g4⟩ hd hdep Kc hKc
                  have hd5 : d 5 = true := hdep ⟨5, .data⟩ (by simp) rfl
                  obtain rfl := f5 hd5
                  rw [if_pos (by rfl)]
                  go_big_op
                  refine hKc _ _ ⟨_, _, _, _, _, _, _, _, _, _, _, _, _, rfl, ?_, ?_, ?_, ?_, ?_, ?_, ?_, ?_, ?_, ?_, ?_, ?_, ?_, ?_, ?_, ?_, ?_, ?_⟩
                  · exact (fun h h5 => by obtain ⟨b1, e1, e2, e3⟩ := f0 (up h rfl) (dn h5); exact ⟨b1, e1, blk_alloc e2 _, e3⟩)
                  · exact (fun h => f1 (up h rfl))
                  · exact (fun h => f2 (up h rfl))
                  · exact (fun h => f3 (up h rfl))
                  · exact (fun h h5 => (f4 (up h rfl) (dn h5)).alloc _)
                  · exact (fun h => f5 (up h rfl))
                  · exact (fun _ => (fun h5 => ⟨_, rfl, blk_new _ _ _⟩))
                  · exact (fun h h5 => (f7 (up h rfl) (dn h5)).alloc _)
                  · exact (fun h => f8 (up h rfl))
                  · exact (fun h => f9 (up h rfl))
                  · exact (fun h => f10 (up h rfl))
                  · exact (fun h => (f11 (up h rfl)).alloc _)
                  · exact (fun h => f12 (up h rfl))
                  · exact (g0.alloc g0.size _)
                  · exact (fun h => upl (g1 (up h rfl)))
                  · exact (fun h => upl (g2 (up h rfl)))
                  · exact (fun h => ⟨upl (g3 (up h rfl)).1, upl (g3 (up h rfl)).2.1, upl (g3 (up h rfl)).2.2⟩)
                  · exact (fun h => g4 (dn h))
                · unfold StepOk
                  rintro d act x0 ⟨u30, u31, u32, u33, u34, u35, u36, u37, u38, u39, u40, u41, u3, rfl, f0, f1, f2, f3, f4, f5, f6, f7, f8, f9, f10, f11, f12, g0, g1, g2, g3, g4⟩ hd hdep Kc hKc
                  have hd4 : d 4 = true := hdep ⟨4, .data⟩ (by simp) rfl
                  have hd6 : d 6 = true := hdep ⟨6, .data⟩ (by simp) rfl
                  have h11 : d 11 = false := by
                    cases h : d 11 with
                    | false => rfl
                    | true => have := g2 h; rw [hd] at this; cases this
                  have f4' := f4 hd4 hd
                  obtain ⟨b4, rfl, hb4⟩ := f6 hd6 hd
                  rw [if_pos (by rfl)]
                  refine wp_append_own _ _ _ 33 rfl (w5.heap.size) 49 i0 Cd.zero.v 9 88 Try.underlying33 hi hz0 hz1 hz2 rfl (by decide) _ K (flat cc (S.take K)) rfl f4' ⟨b4, 0, none⟩ 1 1 (cc x) rfl ?c0 ?c1 ?c2 ?c3 ?c4 ?c5 ?_
                  case c0 => rfl
                  case c1 => intro j u hj; rw [add_off, Nat.zero_add, blk_cell hb4]; simpa [cc] using hj
                  case c2 => exact cc_one x
                  case c3 => unfold maxLen; omega
                  case c4 => omega
                  case c5 => exact g0.size
                  intro v' x1 hown' hgrow _
                  have gB : Below w5.heap.size w5 x1 := g0.grown hgrow g0.size (fun q hq => own_ge f4' hq)
                  refine hKc _ _ ⟨_, _, _, _, _, _, _, _, _, _, _, _, _, rfl, ?_, ?_, ?_, ?_, ?_, ?_, ?_, ?_, ?_, ?_, ?_, ?_, ?_, ?_, ?_, ?_, ?_, ?_⟩
                  · exact (fun h h5 => by have := dn h5; rw [hd4] at this; cases this)
                  · exact (fun h => f1 (up h rfl))
                  · exact (fun h => f2 (up h rfl))
                  · exact (fun h => f3 (up h rfl))
                  · exact (fun h h5 => by simp at h5)
                  · exact (fun h => f5 (up h rfl))
                  · exact (fun h h5 => by simp at h5)
                  · exact (fun _ => (fun h5 => by rw [flat_snoc]; exact hown'))
                  · exact (fun h => f8 (up h rfl))
                  · exact (fun h => f9 (up h rfl))
                  · exact (fun h => f10 (up h rfl))
                  · exact (fun h => by have := up h rfl; rw [h11] at this; cases this)
                  · exact (fun h => f12 (up h rfl))
                  · exact gB
                  · exact (fun h => upl hd4)
                  · exact (fun h => upl (g2 (up h rfl)))
                  · exact (fun h => ⟨upl (g3 (up h rfl)).1, upl (g3 (up h rfl)).2.1, upl (g3 (up h rfl)).2.2⟩)
                  · exact (fun h => g4 (dn h))
                · unfold StepOk
                  rintro d act x0 ⟨u30, u31, u32, u33, u34, u35, u36, u37, u38, u39, u40, u41, u3, rfl, f0, f1, f2, f3, f4, f5, f6, f7, f8, f9, f10, f11, f12, g0, g1, g2, g3, g4⟩ hd hdep Kc hKc
                  have h12 : d 12 = false := by
                    cases h : d 12 with
                    | false => rfl
                    | true => have := (g3 h).2.1; rw [hd] at this; cases this
                  obtain rfl := g4 h12
                  rw [if_pos (by rfl)]
                  go_big_op
                  refine hKc _ _ ⟨_, _, _, _, _, _, _, _, _, _, _, _, _, rfl, ?_, ?_, ?_, ?_, ?_, ?_, ?_, ?_, ?_, ?_, ?_, ?_, ?_, ?_, ?_, ?_, ?_, ?_⟩
                  · exact (fun h h5 => f0 (up h rfl) (dn h5))
                  · exact (fun h => f1 (up h rfl))
                  · exact (fun h => f2 (up h rfl))
                  · exact (fun h => f3 (up h rfl))
                  · exact (fun h h5 => f4 (up h rfl) (dn h5))
                  · exact (fun h => f5 (up h rfl))
                  · exact (fun h h5 => f6 (up h rfl) (dn h5))
                  · exact (fun h h5 => f7 (up h rfl) (dn h5))
                  · exact (fun _ => rfl)
                  · exact (fun h => f9 (up h rfl))
                  · exact (fun h => f10 (up h rfl))
                  · exact (fun h => f11 (up h rfl))
                  · exact (fun h => f12 (up h rfl))
                  · exact g0
                  · exact (fun h => upl (g1 (up h rfl)))
                  · exact (fun h => upl (g2 (up h rfl)))
                  · exact (fun h => ⟨upl (g3 (up h rfl)).1, upl (g3 (up h rfl)).2.1, upl (g3 (up h rfl)).2.2⟩)
                  · exact (fun h => g4 (dn h))
                · unfold StepOk
                  rintro d act x0 ⟨u30, u31, u32, u33, u34, u35, u36, u37, u38, u39, u40, u41, u3, rfl, f0, f1, f2, f3, f4, f5, f6, f7, f8, f9, f10, f11, f12, g0, g1, g2, g3, g4⟩ hd hdep Kc hKc
                  rw [if_pos (by rfl)]
                  go_big_op
                  refine hKc _ _ ⟨_, _, _, _, _, _, _, _, _, _, _, _, _, rfl, ?_, ?_, ?_, ?_, ?_, ?_, ?_, ?_, ?_, ?_, ?_, ?_, ?_, ?_, ?_, ?_, ?_, ?_⟩
                  · exact (fun h h5 => f0 (up h rfl) (dn h5))
                  · exact (fun h => f1 (up h rfl))
                  · exact (fun h => f2 (up h rfl))
                  · exact (fun h => f3 (up h rfl))
                  · exact (fun h h5 => f4 (up h rfl) (dn h5))
                  · exact (fun h => f5 (up h rfl))
                  · exact (fun h h5 => f6 (up h rfl) (dn h5))
                  · exact (fun h h5 => f7 (up h rfl) (dn h5))
                  · exact (fun h => f8 (up h rfl))
                  · exact (fun _ => rfl)
                  · exact (fun h => f10 (up h rfl))
                  · exact (fun h => f11 (up h rfl))
                  · exact (fun h => f12 (up h rfl))
                  · exact g0
                  · exact (fun h => upl (g1 (up h rfl)))
                  · exact (fun h => upl (g2 (up h rfl)))
                  · exact (fun h => ⟨upl (g3 (up h rfl)).1, upl (g3 (up h rfl)).2.1, upl (g3 (up h rfl)).2.2⟩)
                  · exact (fun h => g4 (dn h))
                · unfold StepOk
                  rintro d act x0 ⟨u30, u31, u32, u33, u34, u35, u36, u37, u38, u39, u40, u41, u3, rfl, f0, f1, f2, f3, f4, f5, f6, f7, f8, f9, f10, f11, f12, g0, g1, g2, g3, g4⟩ hd hdep Kc hKc
                  have hd8 : d 8 = true := hdep ⟨8, .data⟩ (by simp) rfl
                  have hd9 : d 9 = true := hdep ⟨9, .data⟩ (by simp) rfl
                  obtain rfl := f8 hd8
                  obtain rfl := f9 hd9
                  rw [if_pos (by rfl)]
                  go_big_op
                  refine hKc _ _ ⟨_, _, _, _, _, _, _, _, _, _, _, _, _, rfl, ?_, ?_, ?_, ?_, ?_, ?_, ?_, ?_, ?_, ?_, ?_, ?_, ?_, ?_, ?_, ?_, ?_, ?_⟩
                  · exact (fun h h5 => f0 (up h rfl) (dn h5))
                  · exact (fun h => f1 (up h rfl))
                  · exact (fun h => f2 (up h rfl))
                  · exact (fun h => f3 (up h rfl))
                  · exact (fun h h5 => f4 (up h rfl) (dn h5))
                  · exact (fun h => f5 (up h rfl))
                  · exact (fun h h5 => f6 (up h rfl) (dn h5))
                  · exact (fun h h5 => f7 (up h rfl) (dn h5))
                  · exact (fun h => f8 (up h rfl))
                  · exact (fun h => f9 (up h rfl))
                  · exact (fun _ => rfl)
                  · exact (fun h => f11 (up h rfl))
                  · exact (fun h => f12 (up h rfl))
                  · exact g0
                  · exact (fun h => upl (g1 (up h rfl)))
                  · exact (fun h => upl (g2 (up h rfl)))
                  · exact (fun h => ⟨upl (g3 (up h rfl)).1, upl (g3 (up h rfl)).2.1, upl (g3 (up h rfl)).2.2⟩)
                  · exact (fun h => g4 (dn h))
                · unfold StepOk
                  rintro d act x0 ⟨u30, u31, u32, u33, u34, u35, u36, u37, u38, u39, u40, u41, u3, rfl, f0, f1, f2, f3, f4, f5, f6, f7, f8, f9, f10, f11, f12, g0, g1, g2, g3, g4⟩ hd hdep Kc hKc
                  have hd7 : d 7 = true := hdep ⟨7, .data⟩ (by simp) rfl
                  have hd10 : d 10 = true := hdep ⟨10, .data⟩ (by simp) rfl
                  have hd4 := g1 hd7
                  have f7' := f7 hd7 hd
                  obtain rfl := f10 hd10
                  rw [if_pos (by rfl)]
                  refine wp_append_own _ _ _ 33 rfl (w5.heap.size) 49 i0 Cd.zero.v 9 88 Try.underlying33 hi hz0 hz1 hz2 rfl (by decide) _ (K + 1) (flat cc (S.take K ++ [x])) rfl f7' ⟨g, 0, none⟩ (m - K) (gc - K) (flat cc (S.drop K)) rfl ?c0 ?c1 ?c2 ?c3 ?c4 ?c5 ?_
                  case c0 => rw [flat_len cc_len, HDL.out]
                  case c1 => intro j u hj; rw [List.eq_nil_of_length_eq_zero (show (S.drop K).length = 0 from by rw [HDL.out]; have := of_eq_true hce; omega)] at hj; simp [flat] at hj
                  case c2 => exact flat_one cc_one _
                  case c3 => unfold maxLen; omega
                  case c4 => omega
                  case c5 => exact g0.size
                  intro v' x1 hown' hgrow _
                  have gB : Below w5.heap.size w5 x1 := g0.grown hgrow g0.size (fun q hq => own_ge f7' hq)
                  refine hKc _ _ ⟨_, _, _, _, _, _, _, _, _, _, _, _, _, rfl, ?_, ?_, ?_, ?_, ?_, ?_, ?_, ?_, ?_, ?_, ?_, ?_, ?_, ?_, ?_, ?_, ?_, ?_⟩
                  · exact (fun h h5 => by have := dn h5; rw [hd4] at this; cases this)
                  · exact (fun h => f1 (up h rfl))
                  · exact (fun h => f2 (up h rfl))
                  · exact (fun h => f3 (up h rfl))
                  · exact (fun h h5 => by have := dn h5; rw [hd7] at this; cases this)
                  · exact (fun h => f5 (up h rfl))
                  · exact (fun h h5 => by have := dn h5; rw [hd7] at this; cases this)
                  · exact (fun h h5 => by simp at h5)
                  · exact (fun h => f8 (up h rfl))
                  · exact (fun h => f9 (up h rfl))
                  · exact (fun h => f10 (up h rfl))
                  · exact (fun _ => (by rw [flat_app]; exact hown'))
                  · exact (fun h => by have := (g3 (up h rfl)).2.2; rw [hd] at this; cases this)
                  · exact gB
                  · exact (fun h => upl (g1 (up h rfl)))
                  · exact (fun h => upl hd7)
                  · exact (fun h => ⟨upl (g3 (up h rfl)).1, upl (g3 (up h rfl)).2.1, upl (g3 (up h rfl)).2.2⟩)
                  · exact (fun h => g4 (dn h))
                · unfold StepOk
                  rintro d act x0 ⟨u30, u31, u32, u33, u34, u35, u36, u37, u38, u39, u40, u41, u3, rfl, f0, f1, f2, f3, f4, f5, f6, f7, f8, f9, f10, f11, f12, g0, g1, g2, g3, g4⟩ hd hdep Kc hKc
                  have hd1 : d 1 = true := hdep ⟨1, .phase⟩ (by simp) rfl
                  have hd8 : d 8 = true := hdep ⟨8, .phase⟩ (by simp) rfl
                  have hd11 : d 11 = true := hdep ⟨11, .data⟩ (by simp) rfl
                  rw [if_pos (by rfl)]
                  go_big_op
                  refine hKc _ _ ⟨_, _, _, _, _, _, _, _, _, _, _, _, _, rfl, ?_, ?_, ?_, ?_, ?_, ?_, ?_, ?_, ?_, ?_, ?_, ?_, ?_, ?_, ?_, ?_, ?_, ?_⟩
                  · exact (fun h h5 => f0 (up h rfl) (dn h5))
                  · exact (fun h => f1 (up h rfl))
                  · exact (fun h => f2 (up h rfl))
                  · exact (fun h => f3 (up h rfl))
                  · exact (fun h h5 => f4 (up h rfl) (dn h5))
                  · exact (fun h => f5 (up h rfl))
                  · exact (fun h h5 => f6 (up h rfl) (dn h5))
                  · exact (fun h h5 => f7 (up h rfl) (dn h5))
                  · exact (fun h => f8 (up h rfl))
                  · exact (fun h => f9 (up h rfl))
                  · exact (fun h => f10 (up h rfl))
                  · exact (fun h => f11 (up h rfl))
                  · exact (fun _ => rfl)
                  · exact g0
                  · exact (fun h => upl (g1 (up h rfl)))
                  · exact (fun h => upl (g2 (up h rfl)))
                  · exact (fun h => ⟨upl hd1, upl hd8, upl hd11⟩)
                  · exact (fun h => by simp at h)
              · rintro d act x0 ⟨u30, u31, u32, u33, u34, u35, u36, u37, u38, u39, u40, u41, u3, rfl, f0, f1, f2, f3, f4, f5, f6, f7, f8, f9, f10, f11, f12, g0, g1, g2, g3, g4⟩ hall
              
                have f11' := f11 (hall 11 (by decide))
                have f12' := f12 (hall 12 (by decide))
                subst f12'
                have HN7 := Lib.hid f11'
                have HG0 := Lib.hid g0
                clear f0 f1 f2 f3 f4 f5 f6 f7 f8 f9 f10 f11 f12 g0 g1 g2 g3 g4 hall f11'
                go_wp2
                go_roundw
                case rel => exact ⟨J + 1, by omega, by go_num, by rw [HST.out]; unfold OwnC OwnR; have h9 := ownsRow_base HN7.out HBW.out.size; rw [List.length_append, List.length_append, HTL.out, HDL.out]; exact h9, ext_trans HBW.out HG0.out⟩
                case measure => simp [intOf]; omega
            · refine wp_region_inv_eq (J := fun A d act x0 => ∃ u30 u31 u32 u33 u34 u35 u36 u37 u38 u39 u40 u41 u3 : Value, act = (((((((((((((A.put (some 30) u30).put (some 31) u31).put (some 32) u32).put (some 33) u33).put (some 34) u34).put (some 35) u35).put (some 36) u36).put (some 37) u37).put (some 38) u38).put (some 39) u39).put (some 40) u40).put (some 41) u41).put (some 3) u3) ∧ (d 0 = true → (d 4 = false → ∃ b1 : Nat, u30 = .slice (some ⟨b1, 0, none⟩) 0 0 ∧ x0.heap[b1]? = some (.cells #[] 49 (0, 0)) ∧ w5.heap.size ≤ b1)) ∧ (d 1 = true → u31 = .slice (some ⟨g, 0, none⟩) m gc) ∧ (d 2 = true → u32 = .int .i64 ((K : Nat) : Int)) ∧ (d 3 = true → u33 = .slice (some ⟨g, 0, none⟩) K gc) ∧ (d 4 = true → (d 7 = false → x0.ownsRow w5.heap.size 49 9 u34 K (flat cc (S.take K)))) ∧ (d 5 = true → u35 = .agg #[.string x.a, .string x.i, .int .i64 x.s, .int .i64 x.o, .int .i64 x.l, .int .i64 x.t, .int .i64 x.k, .int .i64 x.n, .bool x.g]) ∧ (d 6 = true → (d 7 = false → ∃ b : Nat, u36 = .slice (some ⟨b, 0, none⟩) 1 1 ∧ x0.heap[b]? = some (.cells #[.string x.a, .string x.i, .int .i64 x.s, .int .i64 x.o, .int .i64 x.l, .int .i64 x.t, .int .i64 x.k, .int .i64 x.n, .bool x.g] 49 (0, 0)))) ∧ (d 7 = true → (d 11 = false → x0.ownsRow w5.heap.size 49 9 u37 (K + 1) (flat cc (S.take K ++ [x])))) ∧ (d 8 = true → u38 = .slice (some ⟨g, 0, none⟩) m gc) ∧ (d 9 = true → u39 = .int .i64 ((K : Nat) : Int)) ∧ (d 10 = true → u40 = .slice (some ⟨g, K * 9, none⟩) (m - K) (gc - K)) ∧ (d 11 = true → x0.ownsRow w5.heap.size 49 9 u41 (K + 1 + (m - K)) (flat cc (S.take K ++ [x] ++ S.drop K))) ∧ (d 12 = true → u3 = u41) ∧ Below w5.heap.size w5 x0 ∧ (d 7 = true → d 4 = true) ∧ (d 11 = true → d 7 = true) ∧ (d 12 = true → d 1 = true ∧ d 8 = true ∧ d 11 = true) ∧ (d 12 = false → u3 = .slice (some ⟨g, 0, none⟩) m gc)) (by simp only [Act.put, List.setIfInBounds_toArray, List.set_cons_succ, List.set_cons_zero]; rfl) (by kernel_rfl) (by kernel_rfl) ?_ ?_ ?_
              · refine ⟨_, _, _, _, _, _, _, _, _, _, _, _, _, rfl, ?_, ?_, ?_, ?_, ?_, ?_, ?_, ?_, ?_, ?_, ?_, ?_, ?_, ?_, ?_, ?_, ?_, ?_⟩
                · intro h; cases h
                · intro h; cases h
                · intro h; cases h
                · intro h; cases h
                · intro h; cases h
                · intro h; cases h
                · intro h; cases h
                · intro h; cases h
                · intro h; cases h
                · intro h; cases h
                · intro h; cases h
                · intro h; cases h
                · intro h; cases h
                · exact (Below.refl _ _).drew
                · exact (fun h => by cases h)
                · exact (fun h => by cases h)
                · exact (fun h => by cases h)
                · exact (fun _ => rfl)
              · refine stepsOk_cons (k := 0) ?_ (stepsOk_cons (k := 1) ?_ (stepsOk_cons (k := 2) ?_ (stepsOk_cons (k := 3) ?_ (stepsOk_cons (k := 4) ?_ (stepsOk_cons (k := 5) ?_ (stepsOk_cons (k := 6) ?_ (stepsOk_cons (k := 7) ?_ (stepsOk_cons (k := 8) ?_ (stepsOk_cons (k := 9) ?_ (stepsOk_cons (k := 10) ?_ (stepsOk_cons (k := 11) ?_ (stepsOk_cons (k := 12) ?_ stepsOk_nil))))))))))))
                · unfold StepOk
                  rintro d act x0 ⟨u30, u31, u32, u33, u34, u35, u36, u37, u38, u39, u40, u41, u3, rfl, f0, f1, f2, f3, f4, f5, f6, f7, f8, f9, f10, f11, f12, g0, g1, g2, g3, g4⟩ hd hdep Kc hKc
                  rw [if_pos (by rfl)]
                  go_big_op
                  refine hKc _ _ ⟨_, _, _, _, _, _, _, _, _, _, _, _, _, rfl, ?_, ?_, ?_, ?_, ?_, ?_, ?_, ?_, ?_, ?_, ?_, ?_, ?_, ?_, ?_, ?_, ?_, ?_⟩
                  · exact (fun _ => (fun h5 => ⟨_, rfl, blk_new _ _ _, g0.size⟩))
                  · exact (fun h => f1 (up h rfl))
                  · exact (fun h => f2 (up h rfl))
                  · exact (fun h => f3 (up h rfl))
                  · exact (fun h h5 => (f4 (up h rfl) (dn h5)).alloc _)
                  · exact (fun h => f5 (up h rfl))
                  · exact (fun h h5 => by obtain ⟨b, e1, e2⟩ := f6 (up h rfl) (dn h5); exact ⟨b, e1, blk_alloc e2 _⟩)
                  · exact (fun h h5 => (f7 (up h rfl) (dn h5)).alloc _)
                  · exact (fun h => f8 (up h rfl))
                  · exact (fun h => f9 (up h rfl))
                  · exact (fun h => f10 (up h rfl))
                  · exact (fun h => (f11 (up h rfl)).alloc _)
                  · exact (fun h => f12 (up h rfl))
                  · exact (g0.alloc g0.size _)
                  · exact (fun h => upl (g1 (up h rfl)))
                  · exact (fun h => upl (g2 (up h rfl)))
                  · exact (fun h => ⟨upl (g3 (up h rfl)).1, upl (g3 (up h rfl)).2.1, upl (g3 (up h rfl)).2.2⟩)
                  · exact (fun h => g4 (dn h))
                · unfold StepOk
                  rintro d act x0 ⟨u30, u31, u32, u33, u34, u35, u36, u37, u38, u39, u40, u41, u3, rfl, f0, f1, f2, f3, f4, f5, f6, f7, f8, f9, f10, f11, f12, g0, g1, g2, g3, g4⟩ hd hdep Kc hKc
                  have h12 : d 12 = false := by
                    cases h : d 12 with
                    | false => rfl
                    | true => have := (g3 h).1; rw [hd] at this; cases this
                  obtain rfl := g4 h12
                  rw [if_pos (by rfl)]
                  go_big_op
                  refine hKc _ _ ⟨_, _, _, _, _, _, _, _, _, _, _, _, _, rfl, ?_, ?_, ?_, ?_, ?_, ?_, ?_, ?_, ?_, ?_, ?_, ?_, ?_, ?_, ?_, ?_, ?_, ?_⟩
                  · exact (fun h h5 => f0 (up h rfl) (dn h5))
                  · exact (fun _ => rfl)
                  · exact (fun h => f2 (up h rfl))
                  · exact (fun h => f3 (up h rfl))
                  · exact (fun h h5 => f4 (up h rfl) (dn h5))
                  · exact (fun h => f5 (up h rfl))
                  · exact (fun h h5 => f6 (up h rfl) (dn h5))
                  · exact (fun h h5 => f7 (up h rfl) (dn h5))
                  · exact (fun h => f8 (up h rfl))
                  · exact (fun h => f9 (up h rfl))
                  · exact (fun h => f10 (up h rfl))
                  · exact (fun h => f11 (up h rfl))
                  · exact (fun h => f12 (up h rfl))
                  · exact g0
                  · exact (fun h => upl (g1 (up h rfl)))
                  · exact (fun h => upl (g2 (up h rfl)))
                  · exact (fun h => ⟨upl (g3 (up h rfl)).1, upl (g3 (up h rfl)).2.1, upl (g3 (up h rfl)).2.2⟩)
                  · exact (fun h => g4 (dn h))
                · unfold StepOk
                  rintro d act x0 ⟨u30, u31, u32, u33, u34, u35, u36, u37, u38, u39, u40, u41, u3, rfl, f0, f1, f2, f3, f4, f5, f6, f7, f8, f9, f10, f11, f12, g0, g1, g2, g3, g4⟩ hd hdep Kc hKc
                  rw [if_pos (by rfl)]
                  go_big_op
                  refine hKc _ _ ⟨_, _, _, _, _, _, _, _, _, _, _, _, _, rfl, ?_, ?_, ?_, ?_, ?_, ?_, ?_, ?_, ?_, ?_, ?_, ?_, ?_, ?_, ?_, ?_, ?_, ?_⟩
                  · exact (fun h h5 => f0 (up h rfl) (dn h5))
                  · exact (fun h => f1 (up h rfl))
                  · exact (fun _ => rfl)
                  · exact (fun h => f3 (up h rfl))
                  · exact (fun h h5 => f4 (up h rfl) (dn h5))
                  · exact (fun h => f5 (up h rfl))
                  · exact (fun h h5 => f6 (up h rfl) (dn h5))
                  · exact (fun h h5 => f7 (up h rfl) (dn h5))
                  · exact (fun h => f8 (up h rfl))
                  · exact (fun h => f9 (up h rfl))
                  · exact (fun h => f10 (up h rfl))
                  · exact (fun h => f11 (up h rfl))
                  · exact (fun h => f12 (up h rfl))
                  · exact g0
                  · exact (fun h => upl (g1 (up h rfl)))
                  · exact (fun h => upl (g2 (up h rfl)))
                  · exact (fun h => ⟨upl (g3 (up h rfl)).1, upl (g3 (up h rfl)).2.1, upl (g3 (up h rfl)).2.2⟩)
                  · exact (fun h => g4 (dn h))
                · unfold StepOk
                  rintro d act x0 ⟨u30, u31, u32, u33, u34, u35, u36, u37, u38, u39, u40, u41, u3, rfl, f0, f1, f2, f3, f4, f5, f6, f7, f8, f9, f10, f11, f12, g0, g1, g2, g3, g4⟩ hd hdep Kc hKc
                  have hd1 : d 1 = true := hdep ⟨1, .data⟩ (by simp) rfl
                  have hd2 : d 2 = true := hdep ⟨2, .data⟩ (by simp) rfl
                  obtain rfl := f1 hd1
                  obtain rfl := f2 hd2
                  rw [if_pos (by rfl)]
                  go_big_op
                  refine hKc _ _ ⟨_, _, _, _, _, _, _, _, _, _, _, _, _, rfl, ?_, ?_, ?_, ?_, ?_, ?_, ?_, ?_, ?_, ?_, ?_, ?_, ?_, ?_, ?_, ?_, ?_, ?_⟩
                  · exact (fun h h5 => f0 (up h rfl) (dn h5))
                  · exact (fun h => f1 (up h rfl))
                  · exact (fun h => f2 (up h rfl))
                  · exact (fun _ => rfl)
                  · exact (fun h h5 => f4 (up h rfl) (dn h5))
                  · exact (fun h => f5 (up h rfl))
                  · exact (fun h h5 => f6 (up h rfl) (dn h5))
                  · exact (fun h h5 => f7 (up h rfl) (dn h5))
                  · exact (fun h => f8 (up h rfl))
                  · exact (fun h => f9 (up h rfl))
                  · exact (fun h => f10 (up h rfl))
                  · exact (fun h => f11 (up h rfl))
                  · exact (fun h => f12 (up h rfl))
                  · exact g0
                  · exact (fun h => upl (g1 (up h rfl)))
                  · exact (fun h => upl (g2 (up h rfl)))
                  · exact (fun h => ⟨upl (g3 (up h rfl)).1, upl (g3 (up h rfl)).2.1, upl (g3 (up h rfl)).2.2⟩)
                  · exact (fun h => g4 (dn h))
                · unfold StepOk
                  rintro d act x0 ⟨u30, u31, u32, u33, u34, u35, u36, u37, u38, u39, u40, u41, u3, rfl, f0, f1, f2, f3, f4, f5, f6, f7, f8, f9, f10, f11, f12, g0, g1, g2, g3, g4⟩ hd hdep Kc hKc
                  have hd0 : d 0 = true := hdep ⟨0, .data⟩ (by simp) rfl
                  have hd3 : d 3 = true := hdep ⟨3, .data⟩ (by simp) rfl
                  have h7 : d 7 = false := by
                    cases h : d 7 with
                    | false => rfl
                    | true => have := g1 h; rw [hd] at this; cases this
                  have h11 : d 11 = false := by
                    cases h : d 11 with
                    | false => rfl
                    | true => have := g2 h; rw [h7] at this; cases this
                  obtain ⟨b1, rfl, hb1, hge1⟩ := f0 hd0 hd
                  have f0o := own_empty hb1 hge1
                  obtain rfl := f3 hd3
                  rw [if_pos (by rfl)]
                  refine wp_append_own _ _ _ 33 rfl (w5.heap.size) 49 i0 Cd.zero.v 9 88 Try.underlying33 hi hz0 hz1 hz2 rfl (by decide) _ 0 (flat cc []) rfl f0o ⟨g, 0, none⟩ K gc (flat cc (S.take K)) rfl ?c0 ?c1 ?c2 ?c3 ?c4 ?c5 ?_
                  case c0 => rw [flat_len cc_len, HTL.out]
                  case c1 => intro j u hj; rw [add_off]; exact cat_cells ((HCS.out.ext g0).take K) j u hj
                  case c2 => exact flat_one cc_one _
                  case c3 => unfold maxLen; omega
                  case c4 => omega
                  case c5 => exact g0.size
                  intro v' x1 hown' hgrow _
                  have gB : Below w5.heap.size w5 x1 := g0.grown hgrow g0.size (fun q hq => own_ge f0o hq)
                  refine hKc _ _ ⟨_, _, _, _, _, _, _, _, _, _, _, _, _, rfl, ?_, ?_, ?_, ?_, ?_, ?_, ?_, ?_, ?_, ?_, ?_, ?_, ?_, ?_, ?_, ?_, ?_, ?_⟩
                  · exact (fun h h5 => by simp at h5)
                  · exact (fun h => f1 (up h rfl))
                  · exact (fun h => f2 (up h rfl))
                  · exact (fun h => f3 (up h rfl))
                  · exact (fun _ => (fun h5 => by simpa [flat_nil] using hown'))
                  · exact (fun h => f5 (up h rfl))
                  · exact (fun h h5 => by obtain ⟨b, e1, e2⟩ := f6 (up h rfl) (dn h5); exact ⟨b, e1, (hgrow.block b (blk_lt e2) (by show some b ≠ some b1; simpa using blk_ne9 e2 hb1)).trans e2⟩)
                  · exact (fun h h5 => by have := up h rfl; rw [h7] at this; cases this)
                  · exact (fun h => f8 (up h rfl))
                  · exact (fun h => f9 (up h rfl))
                  · exact (fun h => f10 (up h rfl))
                  · exact (fun h => by have := up h rfl; rw [h11] at this; cases this)
                  · exact (fun h => f12 (up h rfl))
                  · exact gB
                  · exact (fun h => by simp)
                  · exact (fun h => upl (g2 (up h rfl)))
                  · exact (fun h => ⟨upl (g3 (up h rfl)).1, upl (g3 (up h rfl)).2.1, upl (g3 (up h rfl)).2.2⟩)
                  · exact (fun h => g4 (dn h))
                · unfold StepOk
                  rintro d act x0 ⟨u30, u31, u32, u33, u34, u35, u36, u37, u38, u39, u40, u41, u3, rfl, f0, f1, f2, f3, f4, f5, f6, f7, f8, f9, f10, f11, f12, g0, g1, g2, g3, g4⟩ hd hdep Kc hKc
                  have hx5 := blk_cell (blk_ext g0 HRB.out)
                  have hl5 := blk_lt (blk_ext g0 HRB.out)
                  rw [if_pos (by rfl)]
                  go_big_op
                  refine hKc _ _ ⟨_, _, _, _, _, _, _, _, _, _, _, _, _, rfl, ?_, ?_, ?_, ?_, ?_, ?_, ?_, ?_, ?_, ?_, ?_, ?_, ?_, ?_, ?_, ?_, ?_, ?_⟩
                  · exact (fun h h5 => f0 (up h rfl) (dn h5))
                  · exact (fun h => f1 (up h rfl))
                  · exact (fun h => f2 (up h rfl))
                  · exact (fun h => f3 (up h rfl))
                  · exact (fun h h5 => f4 (up h rfl) (dn h5))
                  · exact (fun _ => rfl)
                  · exact (fun h h5 => f6 (up h rfl) (dn h5))
                  · exact (fun h h5 => f7 (up h rfl) (dn h5))
                  · exact (fun h => f8 (up h rfl))
                  · exact (fun h => f9 (up h rfl))
                  · exact (fun h => f10 (up h rfl))
                  · exact (fun h => f11 (up h rfl))
                  · exact (fun h => f12 (up h rfl))
                  · exact g0
                  · exact (fun h => upl (g1 (up h rfl)))
                  · exact (fun h => upl (g2 (up h rfl)))
                  · exact (fun h => ⟨upl (g3 (up h rfl)).1, upl (g3 (up h rfl)).2.1, upl (g3 (up h rfl)).2.2⟩)
                  · exact (fun h => g4 (dn h))
                · unfold StepOk
                  rintro d act x0 ⟨u30, u31, u32, u33, u34, u35, u36, u37, u38, u39, u40, u41, u3, rfl, f0, f1, f2, f3, f4, f5, f6, f7, f8, f9, f10, f11, f12, g0, g1, g2, g3, g4⟩ hd hdep Kc hKc
                  have hd5 : d 5 = true := hdep ⟨5, .data⟩ (by simp) rfl
                  obtain rfl := f5 hd5
                  rw [if_pos (by rfl)]
                  go_big_op
                  refine hKc _ _ ⟨_, _, _, _, _, _, _, _, _, _, _, _, _, rfl, ?_, ?_, ?_, ?_, ?_, ?_, ?_, ?_, ?_, ?_, ?_, ?_, ?_, ?_, ?_, ?_, ?_, ?_⟩
                  · exact (fun h h5 => by obtain ⟨b1, e1, e2, e3⟩ := f0 (up h rfl) (dn h5); exact ⟨b1, e1, blk_alloc e2 _, e3⟩)
                  · exact (fun h => f1 (up h rfl))
                  · exact (fun h => f2 (up h rfl))
                  · exact (fun h => f3 (up h rfl))
                  · exact (fun h h5 => (f4 (up h rfl) (dn h5)).alloc _)
                  · exact (fun h => f5 (up h rfl))
                  · exact (fun _ => (fun h5 => ⟨_, rfl, blk_new _ _ _⟩))
                  · exact (fun h h5 => (f7 (up h rfl) (dn h5)).alloc _)
                  · exact (fun h => f8 (up h rfl))
                  · exact (fun h => f9 (up h rfl))
                  · exact (fun h => f10 (up h rfl))
                  · exact (fun h => (f11 (up h rfl)).alloc _)
                  · exact (fun h => f12 (up h rfl))
                  · exact (g0.alloc g0.size _)
                  · exact (fun h => upl (g1 (up h rfl)))
                  · exact (fun h => upl (g2 (up h rfl)))
                  · exact (fun h => ⟨upl (g3 (up h rfl)).1, upl (g3 (up h rfl)).2.1, upl (g3 (up h rfl)).2.2⟩)
                  · exact (fun h => g4 (dn h))
                · unfold StepOk
                  rintro d act x0 ⟨u30, u31, u32, u33, u34, u35, u36, u37, u38, u39, u40, u41, u3, rfl, f0, f1, f2, f3, f4, f5, f6, f7, f8, f9, f10, f11, f12, g0, g1, g2, g3, g4⟩ hd hdep Kc hKc
                  have hd4 : d 4 = true := hdep ⟨4, .data⟩ (by simp) rfl
                  have hd6 : d 6 = true := hdep ⟨6, .data⟩ (by simp) rfl
                  have h11 : d 11 = false := by
                    cases h : d 11 with
                    | false => rfl
                    | true => have := g2 h; rw [hd] at this; cases this
                  have f4' := f4 hd4 hd
                  obtain ⟨b4, rfl, hb4⟩ := f6 hd6 hd
                  rw [if_pos (by rfl)]
                  refine wp_append_own _ _ _ 33 rfl (w5.heap.size) 49 i0 Cd.zero.v 9 88 Try.underlying33 hi hz0 hz1 hz2 rfl (by decide) _ K (flat cc (S.take K)) rfl f4' ⟨b4, 0, none⟩ 1 1 (cc x) rfl ?c0 ?c1 ?c2 ?c3 ?c4 ?c5 ?_
                  case c0 => rfl
                  case c1 => intro j u hj; rw [add_off, Nat.zero_add, blk_cell hb4]; simpa [cc] using hj
                  case c2 => exact cc_one x
                  case c3 => unfold maxLen; omega
                  case c4 => omega
                  case c5 => exact g0.size
                  intro v' x1 hown' hgrow _
                  have gB : Below w5.heap.size w5 x1 := g0.grown hgrow g0.size (fun q hq => own_ge f4' hq)
                  refine hKc _ _ ⟨_, _, _, _, _, _, _, _, _, _, _, _, _, rfl, ?_, ?_, ?_, ?_, ?_, ?_, ?_, ?_, ?_, ?_, ?_, ?_, ?_, ?_, ?_, ?_, ?_, ?_⟩
                  · exact (fun h h5 => by have := dn h5; rw [hd4] at this; cases this)
                  · exact (fun h => f1 (up h rfl))
                  · exact (fun h => f2 (up h rfl))
                  · exact (fun h => f3 (up h rfl))
                  · exact (fun h h5 => by simp at h5)
                  · exact (fun h => f5 (up h rfl))
                  · exact (fun h h5 => by simp at h5)
                  · exact (fun _ => (fun h5 => by rw [flat_snoc]; exact hown'))
                  · exact (fun h => f8 (up h rfl))
                  · exact (fun h => f9 (up h rfl))
                  · exact (fun h => f10 (up h rfl))
                  · exact (fun h => by have := up h rfl; rw [h11] at this; cases this)
                  · exact (fun h => f12 (up h rfl))
                  · exact gB
                  · exact (fun h => upl hd4)
                  · exact (fun h => upl (g2 (up h rfl)))
                  · exact (fun h => ⟨upl (g3 (up h rfl)).1, upl (g3 (up h rfl)).2.1, upl (g3 (up h rfl)).2.2⟩)
                  · exact (fun h => g4 (dn h))
                · unfold StepOk
                  rintro d act x0 ⟨u30, u31, u32, u33, u34, u35, u36, u37, u38, u39, u40, u41, u3, rfl, f0, f1, f2, f3, f4, f5, f6, f7, f8, f9, f10, f11, f12, g0, g1, g2, g3, g4⟩ hd hdep Kc hKc
                  have h12 : d 12 = false := by
                    cases h : d 12 with
                    | false => rfl
                    | true => have := (g3 h).2.1; rw [hd] at this; cases this
                  obtain rfl := g4 h12
                  rw [if_pos (by rfl)]
                  go_big_op
                  refine hKc _ _ ⟨_, _, _, _, _, _, _, _, _, _, _, _, _, rfl, ?_, ?_, ?_, ?_, ?_, ?_, ?_, ?_, ?_, ?_, ?_, ?_, ?_, ?_, ?_, ?_, ?_, ?_⟩
                  · exact (fun h h5 => f0 (up h rfl) (dn h5))
                  · exact (fun h => f1 (up h rfl))
                  · exact (fun h => f2 (up h rfl))
                  · exact (fun h => f3 (up h rfl))
                  · exact (fun h h5 => f4 (up h rfl) (dn h5))
                  · exact (fun h => f5 (up h rfl))
                  · exact (fun h h5 => f6 (up h rfl) (dn h5))
                  · exact (fun h h5 => f7 (up h rfl) (dn h5))
                  · exact (fun _ => rfl)
                  · exact (fun h => f9 (up h rfl))
                  · exact (fun h => f10 (up h rfl))
                  · exact (fun h => f11 (up h rfl))
                  · exact (fun h => f12 (up h rfl))
                  · exact g0
                  · exact (fun h => upl (g1 (up h rfl)))
                  · exact (fun h => upl (g2 (up h rfl)))
                  · exact (fun h => ⟨upl (g3 (up h rfl)).1, upl (g3 (up h rfl)).2.1, upl (g3 (up h rfl)).2.2⟩)
                  · exact (fun h => g4 (dn h))
                · unfold StepOk
                  rintro d act x0 ⟨u30, u31, u32, u33, u34, u35, u36, u37, u38, u39, u40, u41, u3, rfl, f0, f1, f2, f3, f4, f5, f6, f7, f8, f9, f10, f11, f12, g0, g1, g2, g3, g4⟩ hd hdep Kc hKc
                  rw [if_pos (by rfl)]
                  go_big_op
                  refine hKc _ _ ⟨_, _, _, _, _, _, _, _, _, _, _, _, _, rfl, ?_, ?_, ?_, ?_, ?_, ?_, ?_, ?_, ?_, ?_, ?_, ?_, ?_, ?_, ?_, ?_, ?_, ?_⟩
                  · exact (fun h h5 => f0 (up h rfl) (dn h5))
                  · exact (fun h => f1 (up h rfl))
                  · exact (fun h => f2 (up h rfl))
                  · exact (fun h => f3 (up h rfl))
                  · exact (fun h h5 => f4 (up h rfl) (dn h5))
                  · exact (fun h => f5 (up h rfl))
                  · exact (fun h h5 => f6 (up h rfl) (dn h5))
                  · exact (fun h h5 => f7 (up h rfl) (dn h5))
                  · exact (fun h => f8 (up h rfl))
                  · exact (fun _ => rfl)
                  · exact (fun h => f10 (up h rfl))
                  · exact (fun h => f11 (up h rfl))
                  · exact (fun h => f12 (up h rfl))
                  · exact g0
                  · exact (fun h => upl (g1 (up h rfl)))
                  · exact (fun h => upl (g2 (up h rfl)))
                  · exact (fun h => ⟨upl (g3 (up h rfl)).1, upl (g3 (up h rfl)).2.1, upl (g3 (up h rfl)).2.2⟩)
                  · exact (fun h => g4 (dn h))
                · unfold StepOk
                  rintro d act x0 ⟨u30, u31, u32, u33, u34, u35, u36, u37, u38, u39, u40, u41, u3, rfl, f0, f1, f2, f3, f4, f5, f6, f7, f8, f9, f10, f11, f12, g0, g1, g2, g3, g4⟩ hd hdep Kc hKc
                  have hd8 : d 8 = true := hdep ⟨8, .data⟩ (by simp) rfl
                  have hd9 : d 9 = true := hdep ⟨9, .data⟩ (by simp) rfl
                  obtain rfl := f8 hd8
                  obtain rfl := f9 hd9
                  rw [if_pos (by rfl)]
                  go_big_op
                  refine hKc _ _ ⟨_, _, _, _, _, _, _, _, _, _, _, _, _, rfl, ?_, ?_, ?_, ?_, ?_, ?_, ?_, ?_, ?_, ?_, ?_, ?_, ?_, ?_, ?_, ?_, ?_, ?_⟩
                  · exact (fun h h5 => f0 (up h rfl) (dn h5))
                  · exact (fun h => f1 (up h rfl))
                  · exact (fun h => f2 (up h rfl))
                  · exact (fun h => f3 (up h rfl))
                  · exact (fun h h5 => f4 (up h rfl) (dn h5))
                  · exact (fun h => f5 (up h rfl))
                  · exact (fun h h5 => f6 (up h rfl) (dn h5))
                  · exact (fun h h5 => f7 (up h rfl) (dn h5))
                  · exact (fun h => f8 (up h rfl))
                  · exact (fun h => f9 (up h rfl))
                  · exact (fun _ => rfl)
                  · exact (fun h => f11 (up h rfl))
                  · exact (fun h => f12 (up h rfl))
                  · exact g0
                  · exact (fun h => upl (g1 (up h rfl)))
                  · exact (fun h => upl (g2 (up h rfl)))
                  · exact (fun h => ⟨upl (g3 (up h rfl)).1, upl (g3 (up h rfl)).2.1, upl (g3 (up h rfl)).2.2⟩)
                  · exact (fun h => g4 (dn h))
                · unfold StepOk
                  rintro d act x0 ⟨u30, u31, u32, u33, u34, u35, u36, u37, u38, u39, u40, u41, u3, rfl, f0, f1, f2, f3, f4, f5, f6, f7, f8, f9, f10, f11, f12, g0, g1, g2, g3, g4⟩ hd hdep Kc hKc
                  have hd7 : d 7 = true := hdep ⟨7, .data⟩ (by simp) rfl
                  have hd10 : d 10 = true := hdep ⟨10, .data⟩ (by simp) rfl
                  have hd4 := g1 hd7
                  have f7' := f7 hd7 hd
                  obtain rfl := f10 hd10
                  rw [if_pos (by rfl)]
                  refine wp_append_own _ _ _ 33 rfl (w5.heap.size) 49 i0 Cd.zero.v 9 88 Try.underlying33 hi hz0 hz1 hz2 rfl (by decide) _ (K + 1) (flat cc (S.take K ++ [x])) rfl f7' ⟨g, K * 9, none⟩ (m - K) (gc - K) (flat cc (S.drop K)) rfl ?c0 ?c1 ?c2 ?c3 ?c4 ?c5 ?_
                  case c0 => rw [flat_len cc_len, HDL.out]
                  case c1 => intro j u hj; rw [add_off]; have h9 := ((HCS.out.ext g0).drop K); rw [Nat.zero_add] at h9; exact cat_cells h9 j u hj
                  case c2 => exact flat_one cc_one _
                  case c3 => unfold maxLen; omega
                  case c4 => omega
                  case c5 => exact g0.size
                  intro v' x1 hown' hgrow _
                  have gB : Below w5.heap.size w5 x1 := g0.grown hgrow g0.size (fun q hq => own_ge f7' hq)
                  refine hKc _ _ ⟨_, _, _, _, _, _, _, _, _, _, _, _, _, rfl, ?_, ?_, ?_, ?_, ?_, ?_, ?_, ?_, ?_, ?_, ?_, ?_, ?_, ?_, ?_, ?_, ?_, ?_⟩
                  · exact (fun h h5 => by have := dn h5; rw [hd4] at this; cases this)
                  · exact (fun h => f1 (up h rfl))
                  · exact (fun h => f2 (up h rfl))
                  · exact (fun h => f3 (up h rfl))
                  · exact (fun h h5 => by have := dn h5; rw [hd7] at this; cases this)
                  · exact (fun h => f5 (up h rfl))
                  · exact (fun h h5 => by have := dn h5; rw [hd7] at this; cases this)
                  · exact (fun h h5 => by simp at h5)
                  · exact (fun h => f8 (up h rfl))
                  · exact (fun h => f9 (up h rfl))
                  · exact (fun h => f10 (up h rfl))
                  · exact (fun _ => (by rw [flat_app]; exact hown'))
                  · exact (fun h => by have := (g3 (up h rfl)).2.2; rw [hd] at this; cases this)
                  · exact gB
                  · exact (fun h => upl (g1 (up h rfl)))
                  · exact (fun h => upl hd7)
                  · exact (fun h => ⟨upl (g3 (up h rfl)).1, upl (g3 (up h rfl)).2.1, upl (g3 (up h rfl)).2.2⟩)
                  · exact (fun h => g4 (dn h))
                · unfold StepOk
                  rintro d act x0 ⟨u30, u31, u32, u33, u34, u35, u36, u37, u38, u39, u40, u41, u3, rfl, f0, f1, f2, f3, f4, f5, f6, f7, f8, f9, f10, f11, f12, g0, g1, g2, g3, g4⟩ hd hdep Kc hKc
                  have hd1 : d 1 = true := hdep ⟨1, .phase⟩ (by simp) rfl
                  have hd8 : d 8 = true := hdep ⟨8, .phase⟩ (by simp) rfl
                  have hd11 : d 11 = true := hdep ⟨11, .data⟩ (by simp) rfl
                  rw [if_pos (by rfl)]
                  go_big_op
                  refine hKc _ _ ⟨_, _, _, _, _, _, _, _, _, _, _, _, _, rfl, ?_, ?_, ?_, ?_, ?_, ?_, ?_, ?_, ?_, ?_, ?_, ?_, ?_, ?_, ?_, ?_, ?_, ?_⟩
                  · exact (fun h h5 => f0 (up h rfl) (dn h5))
                  · exact (fun h => f1 (up h rfl))
                  · exact (fun h => f2 (up h rfl))
                  · exact (fun h => f3 (up h rfl))
                  · exact (fun h h5 => f4 (up h rfl) (dn h5))
                  · exact (fun h => f5 (up h rfl))
                  · exact (fun h h5 => f6 (up h rfl) (dn h5))
                  · exact (fun h h5 => f7 (up h rfl) (dn h5))
                  · exact (fun h => f8 (up h rfl))
                  · exact (fun h => f9 (up h rfl))
                  · exact (fun h => f10 (up h rfl))
                  · exact (fun h => f11 (up h rfl))
                  · exact (fun _ => rfl)
                  · exact g0
                  · exact (fun h => upl (g1 (up h rfl)))
                  · exact (fun h => upl (g2 (up h rfl)))
                  · exact (fun h => ⟨upl hd1, upl hd8, upl hd11⟩)
                  · exact (fun h => by simp at h)
              · rintro d act x0 ⟨u30, u31, u32, u33, u34, u35, u36, u37, u38, u39, u40, u41, u3, rfl, f0, f1, f2, f3, f4, f5, f6, f7, f8, f9, f10, f11, f12, g0, g1, g2, g3, g4⟩ hall
              
                have f11' := f11 (hall 11 (by decide))
                have f12' := f12 (hall 12 (by decide))
                subst f12'
                have HN7 := Lib.hid f11'
                have HG0 := Lib.hid g0
                clear f0 f1 f2 f3 f4 f5 f6 f7 f8 f9 f10 f11 f12 g0 g1 g2 g3 g4 hall f11'
                go_wp2
                go_roundw
                case rel => exact ⟨J + 1, by omega, by go_num, by rw [HST.out]; unfold OwnC OwnR; have h9 := ownsRow_base HN7.out HBW.out.size; rw [List.length_append, List.length_append, HTL.out, HDL.out]; exact h9, ext_trans HBW.out HG0.out⟩
                case measure => simp [intOf]; omega
        · obtain ⟨P, rfl⟩ : ∃ P, K = P + 1 := ⟨K - 1, by omega⟩
          obtain ⟨y, hy⟩ : ∃ y, S[P]? = some y := ⟨_, List.getElem?_eq_getElem (by have := HM.out; omega)⟩
          obtain ⟨g, rfl⟩ : ∃ g, ga = some ⟨g, 0, none⟩ := by
            rcases hgf with ⟨_, _, e⟩ | ⟨g, e⟩
            · rw [e] at hy; simp at hy
            · exact ⟨g, e⟩
          have HTK := Lib.hid (show S.take (P + 1) = S.take P ++ [y] from by rw [List.take_add_one, hy]; rfl)
          have HDP := Lib.hid (show S.drop P = y :: S.drop (P + 1) from drop_at hy)
          obtain ⟨k2, k3, -⟩ := (HGC.out.ext HB4.out).at hy
          have hrb := blk_ext HB4.out HX.out
          have k0 : w4.cell? ⟨r, 0, none⟩ = some (.string x.a) := by rw [blk_cell hrb]; rfl
          have k1 : w4.cell? ⟨r, 1, none⟩ = some (.string x.i) := by rw [blk_cell hrb]; rfl
          have hd : decide ((0 : Int) < (P : Int) + 1) = true := decide_eq_true (by omega)
          rw [Nat.zero_add] at k2 k3
          have hPm : (P : Int) < (m : Int) := by omega
          clear hy hrb hgf
          by_cases hlt2 : klt x y = true
          · have HKL := Lib.hid (show decide (kc x.a x.i y.a y.i < 0) = true from hlt2)
            have HI2 := Lib.hid (show insR klt x S = insR klt x (S.take P) ++ S.drop P from by rw [HINS.out, HTK.out, insR_lt klt x y _ hlt2, HDP.out, List.append_assoc]; try rfl)
            clear hlt2
            go_wp2_with fail
            haveI hIq : Nonempty (Of w4) := of_some _
            have hFa := of_cell k0
            have hFb := of_cell k1
            have hFc := of_cell k2
            have hFd := of_cell k3
            first | (refine wp_region_stay w4 (by kernel_rfl) (by kernel_rfl) (by go_grown) ?_) | (refine wp_region_stay_seq w4 (by go_grown) ?_)
            repeat (go_big_quiet_step ((go_at_call 77; refine stay_bool (u := true) (refBefore x.a x.i y.a y.i _) ?_; (exact HKL.out))))
            refine wpQuiet_nil ?_
            intro w5 hb5
            clear hIq hFa hFb hFc hFd k0 k1 k2 k3
            
            have HB5 := Lib.hid (ext_trans HB4.out hb5)
            clear hb5
            go_wp2
            go_roundw
            case rel => exact ⟨P, by omega, by go_num, HI2.out, HB5.out⟩
            case measure => simp [intOf]
          · have hf : klt x y = false := by simpa using hlt2
            have HKL := Lib.hid (show decide (kc x.a x.i y.a y.i < 0) = false from hf)
            have HST0 := Lib.hid (show srt klt (ls.take (J + 1)) = S.take (P + 1) ++ [x] ++ S.drop (P + 1) from by rw [HS1.out, HINS.out, HTK.out, insR_ge klt x y _ hf])
            clear hlt2 hf
            go_wp2_with fail
            haveI hIq : Nonempty (Of w4) := of_some _
            have hFa := of_cell k0
            have hFb := of_cell k1
            have hFc := of_cell k2
            have hFd := of_cell k3
            first | (refine wp_region_stay w4 (by kernel_rfl) (by kernel_rfl) (by go_grown) ?_) | (refine wp_region_stay_seq w4 (by go_grown) ?_)
            repeat (go_big_quiet_step ((go_at_call 77; refine stay_bool (u := false) (refBefore x.a x.i y.a y.i _) ?_; (exact HKL.out))))
            refine wpQuiet_nil ?_
            intro w5 hb5
            clear hIq hFa hFb hFc hFd k0 k1 k2 k3
            
            clear HINS HS1 HTK HDP hPm hd
            generalize P + 1 = K at hK HST0 ⊢
            have HST := HST0
            clear HST0
            have HRB := Lib.hid (blk_ext (ext_trans HB4.out hb5) HX.out)
            have HCS := Lib.hid (HGC.out.ext (ext_trans HB4.out hb5))
            have HBW := Lib.hid (ext_trans HB3.out (ext_trans HB4.out hb5))
            have HTL := Lib.hid (show (S.take K).length = K by rw [List.length_take]; have := HM.out; omega)
            have HDL := Lib.hid (show (S.drop K).length = m - K by rw [List.length_drop]; have := HM.out; omega)
            clear hb5 HB3 HX HO3 HGC HB4
            
            go_wp2_with fail
            rcases Classical.propComplete (gc = K) with hce | hce
            · refine wp_region_inv_eq (J := fun A d act x0 => ∃ u30 u31 u32 u33 u34 u35 u36 u37 u38 u39 u40 u41 u3 : Value, act = (((((((((((((A.put (some 30) u30).put (some 31) u31).put (some 32) u32).put (some 33) u33).put (some 34) u34).put (some 35) u35).put (some 36) u36).put (some 37) u37).put (some 38) u38).put (some 39) u39).put (some 40) u40).put (some 41) u41).put (some 3) u3) ∧ (d 0 = true → (d 4 = false → ∃ b1 : Nat, u30 = .slice (some ⟨b1, 0, none⟩) 0 0 ∧ x0.heap[b1]? = some (.cells #[] 49 (0, 0)) ∧ w5.heap.size ≤ b1)) ∧ (d 1 = true → u31 = .slice (some ⟨g, 0, none⟩) m gc) ∧ (d 2 = true → u32 = .int .i64 ((K : Nat) : Int)) ∧ (d 3 = true → u33 = .slice (some ⟨g, 0, none⟩) K gc) ∧ (d 4 = true → (d 7 = false → x0.ownsRow w5.heap.size 49 9 u34 K (flat cc (S.take K)))) ∧ (d 5 = true → u35 = .agg #[.string x.a, .string x.i, .int .i64 x.s, .int .i64 x.o, .int .i64 x.l, .int .i64 x.t, .int .i64 x.k, .int .i64 x.n, .bool x.g]) ∧ (d 6 = true → (d 7 = false → ∃ b : Nat, u36 = .slice (some ⟨b, 0, none⟩) 1 1 ∧ x0.heap[b]? = some (.cells #[.string x.a, .string x.i, .int .i64 x.s, .int .i64 x.o, .int .i64 x.l, .int .i64 x.t, .int .i64 x.k, .int .i64 x.n, .bool x.g] 49 (0, 0)))) ∧ (d 7 = true → (d 11 = false → x0.ownsRow w5.heap.size 49 9 u37 (K + 1) (flat cc (S.take K ++ [x])))) ∧ (d 8 = true → u38 = .slice (some ⟨g, 0, none⟩) m gc) ∧ (d 9 = true → u39 = .int .i64 ((K : Nat) : Int)) ∧ (d 10 = true → u40 = .slice (some ⟨g, 0, none⟩) (m - K) (gc - K)) ∧ (d 11 = true → x0.ownsRow w5.heap.size 49 9 u41 (K + 1 + (m - K)) (flat cc (S.take K ++ [x] ++ S.drop K))) ∧ (d 12 = true → u3 = u41) ∧ Below w5.heap.size w5 x0 ∧ (d 7 = true → d 4 = true) ∧ (d 11 = true → d 7 = true) ∧ (d 12 = true → d 1 = true ∧ d 8 = true ∧ d 11 = true) ∧ (d 12 = false → u3 = .slice (some ⟨g, 0, none⟩) m gc)) (by simp only [Act.put, List.setIfInBounds_toArray, List.set_cons_succ, List.set_cons_zero]; rfl) (by kernel_rfl) (by kernel_rfl) ?_ ?_ ?_
              · refine ⟨_, _, _, _, _, _, _, _, _, _, _, _, _, rfl, ?_, ?_, ?_, ?_, ?_, ?_, ?_, ?_, ?_, ?_, ?_, ?_, ?_, ?_, ?_, ?_, ?_, ?_⟩
                · intro h; cases h
                · intro h; cases h
                · intro h; cases h
                · intro h; cases h
                · intro h; cases h
                · intro h; cases h
                · intro h; cases h
                · intro h; cases h
                · intro h; cases h
                · intro h; cases h
                · intro h; cases h
                · intro h; cases h
                · intro h; cases h
                · exact (Below.refl _ _).drew
                · exact (fun h => by cases h)
                · exact (fun h => by cases h)
                · exact (fun h => by cases h)
                · exact (fun _ => rfl)
              · refine stepsOk_cons (k := 0) ?_ (stepsOk_cons (k := 1) ?_ (stepsOk_cons (k := 2) ?_ (stepsOk_cons (k := 3) ?_ (stepsOk_cons (k := 4) ?_ (stepsOk_cons (k := 5) ?_ (stepsOk_cons (k := 6) ?_ (stepsOk_cons (k := 7) ?_ (stepsOk_cons (k := 8) ?_ (stepsOk_cons (k := 9) ?_ (stepsOk_cons (k := 10) ?_ (stepsOk_cons (k := 11) ?_ (stepsOk_cons (k := 12) ?_ stepsOk_nil))))))))))))
                · unfold StepOk
                  rintro d act x0 ⟨u30, u31, u32, u33, u34, u35, u36, u37, u38, u39, u40, u41, u3, rfl, f0, f1, f2, f3, f4, f5, f6, f7, f8, f9, f10, f11, f12, g0, g1, g2, g3, g4⟩ hd hdep Kc hKc
                  rw [if_pos (by rfl)]
                  go_big_op
                  refine hKc _ _ ⟨_, _, _, _, _, _, _, _, _, _, _, _, _, rfl, ?_, ?_, ?_, ?_, ?_, ?_, ?_, ?_, ?_, ?_, ?_, ?_, ?_, ?_, ?_, ?_, ?_, ?_⟩
                  · exact (fun _ => (fun h5 => ⟨_, rfl, blk_new _ _ _, g0.size⟩))
                  · exact (fun h => f1 (up h rfl))
                  · exact (fun h => f2 (up h rfl))
                  · exact (fun h => f3 (up h rfl))
                  · exact (fun h h5 => (f4 (up h rfl) (dn h5)).alloc _)
                  · exact (fun h => f5 (up h rfl))
                  · exact (fun h h5 => by obtain ⟨b, e1, e2⟩ := f6 (up h rfl) (dn h5); exact ⟨b, e1, blk_alloc e2 _⟩)
                  · exact (fun h h5 => (f7 (up h rfl) (dn h5)).alloc _)
                  · exact (fun h => f8 (up h rfl))
                  · exact (fun h => f9 (up h rfl))
                  · exact (fun h => f10 (up h rfl))
                  · exact (fun h => (f11 (up h rfl)).alloc _)
                  · exact (fun h => f12 (up h rfl))
                  · exact (g0.alloc g0.size _)
                  · exact (fun h => upl (g1 (up h rfl)))
                  · exact (fun h => upl (g2 (up h rfl)))
                  · exact (fun h => ⟨upl (g3 (up h rfl)).1, upl (g3 (up h rfl)).2.1, upl (g3 (up h rfl)).2.2⟩)
                  · exact (fun h => g4 (dn h))
                · unfold StepOk
                  rintro d act x0 ⟨u30, u31, u32, u33, u34, u35, u36, u37, u38, u39, u40, u41, u3, rfl, f0, f1, f2, f3, f4, f5, f6, f7, f8, f9, f10, f11, f12, g0, g1, g2, g3, g4⟩ hd hdep Kc hKc
                  have h12 : d 12 = false := by
                    cases h : d 12 with
                    | false => rfl
                    | true => have := (g3 h).1; rw [hd] at this; cases this
                  obtain rfl := g4 h12
                  rw [if_pos (by rfl)]
                  go_big_op
                  refine hKc _ _ ⟨_, _, _, _, _, _, _, _, _, _, _, _, _, rfl, ?_, ?_, ?_, ?_, ?_, ?_, ?_, ?_, ?_, ?_, ?_, ?_, ?_, ?_, ?_, ?_, ?_, ?_⟩
                  · exact (fun h h5 => f0 (up h rfl) (dn h5))
                  · exact (fun _ => rfl)
                  · exact (fun h => f2 (up h rfl))
                  · exact (fun h => f3 (up h rfl))
                  · exact (fun h h5 => f4 (up h rfl) (dn h5))
                  · exact (fun h => f5 (up h rfl))
                  · exact (fun h h5 => f6 (up h rfl) (dn h5))
                  · exact (fun h h5 => f7 (up h rfl) (dn h5))
                  · exact (fun h => f8 (up h rfl))
                  · exact (fun h => f9 (up h rfl))
                  · exact (fun h => f10 (up h rfl))
                  · exact (fun h => f11 (up h rfl))
                  · exact (fun h => f12 (up h rfl))
                  · exact g0
                  · exact (fun h => upl (g1 (up h rfl)))
                  · exact (fun h => upl (g2 (up h rfl)))
                  · exact (fun h => ⟨upl (g3 (up h rfl)).1, upl (g3 (up h rfl)).2.1, upl (g3 (up h rfl)).2.2⟩)
                  · exact (fun h => g4 (dn h))
                · unfold StepOk
                  rintro d act x0 ⟨u30, u31, u32, u33, u34, u35, u36, u37, u38, u39, u40, u41, u3, rfl, f0, f1, f2, f3, f4, f5, f6, f7, f8, f9, f10, f11, f12, g0, g1, g2, g3, g4⟩ hd hdep Kc hKc
                  rw [if_pos (by rfl)]
                  go_big_op
                  refine hKc _ _ ⟨_, _, _, _, _, _, _, _, _, _, _, _, _, rfl, ?_, ?_, ?_, ?_, ?_, ?_, ?_, ?_, ?_, ?_, ?_, ?_, ?_, ?_, ?_, ?_, ?_, ?_⟩
                  · exact (fun h h5 => f0 (up h rfl) (dn h5))
                  · exact (fun h => f1 (up h rfl))
                  · exact (fun _ => rfl)
                  · exact (fun h => f3 (up h rfl))
                  · exact (fun h h5 => f4 (up h rfl) (dn h5))
                  · exact (fun h => f5 (up h rfl))
                  · exact (fun h h5 => f6 (up h rfl) (dn h5))
                  · exact (fun h h5 => f7 (up h rfl) (dn h5))
                  · exact (fun h => f8 (up h rfl))
                  · exact (fun h => f9 (up h rfl))
                  · exact (fun h => f10 (up h rfl))
                  · exact (fun h => f11 (up h rfl))
                  · exact (fun h => f12 (up h rfl))
                  · exact g0
                  · exact (fun h => upl (g1 (up h rfl)))
                  · exact (fun h => upl (g2 (up h rfl)))
                  · exact (fun h => ⟨upl (g3 (up h rfl)).1, upl (g3 (up h rfl)).2.1, upl (g3 (up h rfl)).2.2⟩)
                  · exact (fun h => g4 (dn h))
                · unfold StepOk
                  rintro d act x0 ⟨u30, u31, u32, u33, u34, u35, u36, u37, u38, u39, u40, u41, u3, rfl, f0, f1, f2, f3, f4, f5, f6, f7, f8, f9, f10, f11, f12, g0, g1, g2, g3, g4⟩ hd hdep Kc hKc
                  have hd1 : d 1 = true := hdep ⟨1, .data⟩ (by simp) rfl
                  have hd2 : d 2 = true := hdep ⟨2, .data⟩ (by simp) rfl
                  obtain rfl := f1 hd1
                  obtain rfl := f2 hd2
                  rw [if_pos (by rfl)]
                  go_big_op
                  refine hKc _ _ ⟨_, _, _, _, _, _, _, _, _, _, _, _, _, rfl, ?_, ?_, ?_, ?_, ?_, ?_, ?_, ?_, ?_, ?_, ?_, ?_, ?_, ?_, ?_, ?_, ?_, ?_⟩
                  · exact (fun h h5 => f0 (up h rfl) (dn h5))
                  · exact (fun h => f1 (up h rfl))
                  · exact (fun h => f2 (up h rfl))
                  · exact (fun _ => rfl)
                  · exact (fun h h5 => f4 (up h rfl) (dn h5))
                  · exact (fun h => f5 (up h rfl))
                  · exact (fun h h5 => f6 (up h rfl) (dn h5))
                  · exact (fun h h5 => f7 (up h rfl) (dn h5))
                  · exact (fun h => f8 (up h rfl))
                  · exact (fun h => f9 (up h rfl))
                  · exact (fun h => f10 (up h rfl))
                  · exact (fun h => f11 (up h rfl))
                  · exact (fun h => f12 (up h rfl))
                  · exact g0
                  · exact (fun h => upl (g1 (up h rfl)))
                  · exact (fun h => upl (g2 (up h rfl)))
                  · exact (fun h => ⟨upl (g3 (up h rfl)).1, upl (g3 (up h rfl)).2.1, upl (g3 (up h rfl)).2.2⟩)
                  · exact (fun h => g4 (dn h))
                · unfold StepOk
                  rintro d act x0 ⟨u30, u31, u32, u33, u34, u35, u36, u37, u38, u39, u40, u41, u3, rfl, f0, f1, f2, f3, f4, f5, f6, f7, f8, f9, f10, f11, f12, g0, g1, g2, g3, g4⟩ hd hdep Kc hKc
                  have hd0 : d 0 = true := hdep ⟨0, .data⟩ (by simp) rfl
                  have hd3 : d 3 = true := hdep ⟨3, .data⟩ (by simp) rfl
                  have h7 : d 7 = false := by
                    cases h : d 7 with
                    | false => rfl
                    | true => have := g1 h; rw [hd] at this; cases this
                  have h11 : d 11 = false := by
                    cases h : d 11 with
                    | false => rfl
                    | true => have := g2 h; rw [h7] at this; cases this
                  obtain ⟨b1, rfl, hb1, hge1⟩ := f0 hd0 hd
                  have f0o := own_empty hb1 hge1
                  obtain rfl := f3 hd3
                  rw [if_pos (by rfl)]
                  refine wp_append_own _ _ _ 33 rfl (w5.heap.size) 49 i0 Cd.zero.v 9 88 Try.underlying33 hi hz0 hz1 hz2 rfl (by decide) _ 0 (flat cc []) rfl f0o ⟨g, 0, none⟩ K gc (flat cc (S.take K)) rfl ?c0 ?c1 ?c2 ?c3 ?c4 ?c5 ?_
                  case c0 => rw [flat_len cc_len, HTL.out]
                  case c1 => intro j u hj; rw [add_off]; exact cat_cells ((HCS.out.ext g0).take K) j u hj
                  case c2 => exact flat_one cc_one _
                  case c3 => unfold maxLen; omega
                  case c4 => omega
                  case c5 => exact g0.size
                  intro v' x1 hown' hgrow _
                  have gB : Below w5.heap.size w5 x1 := g0.grown hgrow g0.size (fun q hq => own_ge f0o hq)
                  refine hKc _ _ ⟨_, _, _, _, _, _, _, _, _, _, _, _, _, rfl, ?_, ?_, ?_, ?_, ?_, ?_, ?_, ?_, ?_, ?_, ?_, ?_, ?_, ?_, ?_, ?_, ?_, ?_⟩
                  · exact (fun h h5 => by simp at h5)
                  · exact (fun h => f1 (up h rfl))
                  · exact (fun h => f2 (up h rfl))
                  · exact (fun h => f3 (up h rfl))
                  · exact (fun _ => (fun h5 => by simpa [flat_nil] using hown'))
                  · exact (fun h => f5 (up h rfl))
                  · exact (fun h h5 => by obtain ⟨b, e1, e2⟩ := f6 (up h rfl) (dn h5); exact ⟨b, e1, (hgrow.block b (blk_lt e2) (by show some b ≠ some b1; simpa using blk_ne9 e2 hb1)).trans e2⟩)
                  · exact (fun h h5 => by have := up h rfl; rw [h7] at this; cases this)
                  · exact (fun h => f8 (up h rfl))
                  · exact (fun h => f9 (up h rfl))
                  · exact (fun h => f10 (up h rfl))
                  · exact (fun h => by have := up h rfl; rw [h11] at this; cases this)
                  · exact (fun h => f12 (up h rfl))
                  · exact gB
                  · exact (fun h => by simp)
                  · exact (fun h => upl (g2 (up h rfl)))
                  · exact (fun h => ⟨upl (g3 (up h rfl)).1, upl (g3 (up h rfl)).2.1, upl (g3 (up h rfl)).2.2⟩)
                  · exact (fun h => g4 (dn h))
                · unfold StepOk
                  rintro d act x0 ⟨u30, u31, u32, u33, u34, u35, u36, u37, u38, u39, u40, u41, u3, rfl, f0, f1, f2, f3, f4, f5, f6, f7, f8, f9, f10, f11, f12, g0, g1, g2, g3, g4⟩ hd hdep Kc hKc
                  have hx5 := blk_cell (blk_ext g0 HRB.out)
                  have hl5 := blk_lt (blk_ext g0 HRB.out)
                  rw [if_pos (by rfl)]
                  go_big_op
                  refine hKc _ _ ⟨_, _, _, _, _, _, _, _, _, _, _, _, _, rfl, ?_, ?_, ?_, ?_, ?_, ?_, ?_, ?_, ?_, ?_, ?_, ?_, ?_, ?_, ?_, ?_, ?_, ?_⟩
                  · exact (fun h h5 => f0 (up h rfl) (dn h5))
                  · exact (fun h => f1 (up h rfl))
                  · exact (fun h => f2 (up h rfl))
                  · exact (fun h => f3 (up h rfl))
                  · exact (fun h h5 => f4 (up h rfl) (dn h5))
                  · exact (fun _ => rfl)
                  · exact (fun h h5 => f6 (up h rfl) (dn h5))
                  · exact (fun h h5 => f7 (up h rfl) (dn h5))
                  · exact (fun h => f8 (up h rfl))
                  · exact (fun h => f9 (up h rfl))
                  · exact (fun h => f10 (up h rfl))
                  · exact (fun h => f11 (up h rfl))
                  · exact (fun h => f12 (up h rfl))
                  · exact g0
                  · exact (fun h => upl (g1 (up h rfl)))
                  · exact (fun h => upl (g2 (up h rfl)))
                  · exact (fun h => ⟨upl (g3 (up h rfl)).1, upl (g3 (up h rfl)).2.1, upl (g3 (up h rfl)).2.2⟩)
                  · exact (fun h => g4 (dn h))
                · unfold StepOk
                  rintro d act x0 ⟨u30, u31, u32, u33, u34, u35, u36, u37, u38, u39, u40, u41, u3, rfl, f0, f1, f2, f3, f4, f5, f6, f7, f8, f9, f10, f11, f12, g0, g1, g2, g3, g4⟩ hd hdep Kc hKc
                  have hd5 : d 5 = true := hdep ⟨5, .data⟩ (by simp) rfl
                  obtain rfl := f5 hd5
                  rw [if_pos (by rfl)]
                  go_big_op
                  refine hKc _ _ ⟨_, _, _, _, _, _, _, _, _, _, _, _, _, rfl, ?_, ?_, ?_, ?_, ?_, ?_, ?_, ?_, ?_, ?_, ?_, ?_, ?_, ?_, ?_, ?_, ?_, ?_⟩
                  · exact (fun h h5 => by obtain ⟨b1, e1, e2, e3⟩ := f0 (up h rfl) (dn h5); exact ⟨b1, e1, blk_alloc e2 _, e3⟩)
                  · exact (fun h => f1 (up h rfl))
                  · exact (fun h => f2 (up h rfl))
                  · exact (fun h => f3 (up h rfl))
                  · exact (fun h h5 => (f4 (up h rfl) (dn h5)).alloc _)
                  · exact (fun h => f5 (up h rfl))
                  · exact (fun _ => (fun h5 => ⟨_, rfl, blk_new _ _ _⟩))
                  · exact (fun h h5 => (f7 (up h rfl) (dn h5)).alloc _)
                  · exact (fun h => f8 (up h rfl))
                  · exact (fun h => f9 (up h rfl))
                  · exact (fun h => f10 (up h rfl))
                  · exact (fun h => (f11 (up h rfl)).alloc _)
                  · exact (fun h => f12 (up h rfl))
                  · exact (g0.alloc g0.size _)
                  · exact (fun h => upl (g1 (up h rfl)))
                  · exact (fun h => upl (g2 (up h rfl)))
                  · exact (fun h => ⟨upl (g3 (up h rfl)).1, upl (g3 (up h rfl)).2.1, upl (g3 (up h rfl)).2.2⟩)
                  · exact (fun h => g4 (dn h))
                · unfold StepOk
                  rintro d act x0 ⟨u30, u31, u32, u33, u34, u35, u36, u37, u38, u39, u40, u41, u3, rfl, f0, f1, f2, f3, f4, f5, f6, f7, f8, f9, f10, f11, f12, g0, g1, g2, g3, g4⟩ hd hdep Kc hKc
                  have hd4 : d 4 = true := hdep ⟨4, .data⟩ (by simp) rfl
                  have hd6 : d 6 = true := hdep ⟨6, .data⟩ (by simp) rfl
                  have h11 : d 11 = false := by
                    cases h : d 11 with
                    | false => rfl
                    | true => have := g2 h; rw [hd] at this; cases this
                  have f4' := f4 hd4 hd
                  obtain ⟨b4, rfl, hb4⟩ := f6 hd6 hd
                  rw [if_pos (by rfl)]
                  refine wp_append_own _ _ _ 33 rfl (w5.heap.size) 49 i0 Cd.zero.v 9 88 Try.underlying33 hi hz0 hz1 hz2 rfl (by decide) _ K (flat cc (S.take K)) rfl f4' ⟨b4, 0, none⟩ 1 1 (cc x) rfl ?c0 ?c1 ?c2 ?c3 ?c4 ?c5 ?_
                  case c0 => rfl
                  case c1 => intro j u hj; rw [add_off, Nat.zero_add, blk_cell hb4]; simpa [cc] using hj
                  case c2 => exact cc_one x
                  case c3 => unfold maxLen; omega
                  case c4 => omega
                  case c5 => exact g0.size
                  intro v' x1 hown' hgrow _
                  have gB : Below w5.heap.size w5 x1 := g0.grown hgrow g0.size (fun q hq => own_ge f4' hq)
                  refine hKc _ _ ⟨_, _, _, _, _, _, _, _, _, _, _, _, _, rfl, ?_, ?_, ?_, ?_, ?_, ?_, ?_, ?_, ?_, ?_, ?_, ?_, ?_, ?_, ?_, ?_, ?_, ?_⟩
                  · exact (fun h h5 => by have := dn h5; rw [hd4] at this; cases this)
                  · exact (fun h => f1 (up h rfl))
                  · exact (fun h => f2 (up h rfl))
                  · exact (fun h => f3 (up h rfl))
                  · exact (fun h h5 => by simp at h5)
                  · exact (fun h => f5 (up h rfl))
                  · exact (fun h h5 => by simp at h5)
                  · exact (fun _ => (fun h5 => by rw [flat_snoc]; exact hown'))
                  · exact (fun h => f8 (up h rfl))
                  · exact (fun h => f9 (up h rfl))
                  · exact (fun h => f10 (up h rfl))
                  · exact (fun h => by have := up h rfl; rw [h11] at this; cases this)
                  · exact (fun h => f12 (up h rfl))
                  · exact gB
                  · exact (fun h => upl hd4)
                  · exact (fun h => upl (g2 (up h rfl)))
                  · exact (fun h => ⟨upl (g3 (up h rfl)).1, upl (g3 (up h rfl)).2.1, upl (g3 (up h rfl)).2.2⟩)
                  · exact (fun h => g4 (dn h))
                · unfold StepOk
                  rintro d act x0 ⟨u30, u31, u32, u33, u34, u35, u36, u37, u38, u39, u40, u41, u3, rfl, f0, f1, f2, f3, f4, f5, f6, f7, f8, f9, f10, f11, f12, g0, g1, g2, g3, g4⟩ hd hdep Kc hKc
                  have h12 : d 12 = false := by
                    cases h : d 12 with
                    | false => rfl
                    | true => have := (g3 h).2.1; rw [hd] at this; cases this
                  obtain rfl := g4 h12
                  rw [if_pos (by rfl)]
                  go_big_op
                  refine hKc _ _ ⟨_, _, _, _, _, _, _, _, _, _, _, _, _, rfl, ?_, ?_, ?_, ?_, ?_, ?_, ?_, ?_, ?_, ?_, ?_, ?_, ?_, ?_, ?_, ?_, ?_, ?_⟩
                  · exact (fun h h5 => f0 (up h rfl) (dn h5))
                  · exact (fun h => f1 (up h rfl))
                  · exact (fun h => f2 (up h rfl))
                  · exact (fun h => f3 (up h rfl))
                  · exact (fun h h5 => f4 (up h rfl) (dn h5))
                  · exact (fun h => f5 (up h rfl))
                  · exact (fun h h5 => f6 (up h rfl) (dn h5))
                  · exact (fun h h5 => f7 (up h rfl) (dn h5))
                  · exact (fun _ => rfl)
                  · exact (fun h => f9 (up h rfl))
                  · exact (fun h => f10 (up h rfl))
                  · exact (fun h => f11 (up h rfl))
                  · exact (fun h => f12 (up h rfl))
                  · exact g0
                  · exact (fun h => upl (g1 (up h rfl)))
                  · exact (fun h => upl (g2 (up h rfl)))
                  · exact (fun h => ⟨upl (g3 (up h rfl)).1, upl (g3 (up h rfl)).2.1, upl (g3 (up h rfl)).2.2⟩)
                  · exact (fun h => g4 (dn h))
                · unfold StepOk
                  rintro d act x0 ⟨u30, u31, u32, u33, u34, u35, u36, u37, u38, u39, u40, u41, u3, rfl, f0, f1, f2, f3, f4, f5, f6, f7, f8, f9, f10, f11, f12, g0, g1, g2, g3, g4⟩ hd hdep Kc hKc
                  rw [if_pos (by rfl)]
                  go_big_op
                  refine hKc _ _ ⟨_, _, _, _, _, _, _, _, _, _, _, _, _, rfl, ?_, ?_, ?_, ?_, ?_, ?_, ?_, ?_, ?_, ?_, ?_, ?_, ?_, ?_, ?_, ?_, ?_, ?_⟩
                  · exact (fun h h5 => f0 (up h rfl) (dn h5))
                  · exact (fun h => f1 (up h rfl))
                  · exact (fun h => f2 (up h rfl))
                  · exact (fun h => f3 (up h rfl))
                  · exact (fun h h5 => f4 (up h rfl) (dn h5))
                  · exact (fun h => f5 (up h rfl))
                  · exact (fun h h5 => f6 (up h rfl) (dn h5))
                  · exact (fun h h5 => f7 (up h rfl) (dn h5))
                  · exact (fun h => f8 (up h rfl))
                  · exact (fun _ => rfl)
                  · exact (fun h => f10 (up h rfl))
                  · exact (fun h => f11 (up h rfl))
                  · exact (fun h => f12 (up h rfl))
                  · exact g0
                  · exact (fun h => upl (g1 (up h rfl)))
                  · exact (fun h => upl (g2 (up h rfl)))
                  · exact (fun h => ⟨upl (g3 (up h rfl)).1, upl (g3 (up h rfl)).2.1, upl (g3 (up h rfl)).2.2⟩)
                  · exact (fun h => g4 (dn h))
                · unfold StepOk
                  rintro d act x0 ⟨u30, u31, u32, u33, u34, u35, u36, u37, u38, u39, u40, u41, u3, rfl, f0, f1, f2, f3, f4, f5, f6, f7, f8, f9, f10, f11, f12, g0, g1, g2, g3, g4⟩ hd hdep Kc hKc
                  have hd8 : d 8 = true := hdep ⟨8, .data⟩ (by simp) rfl
                  have hd9 : d 9 = true := hdep ⟨9, .data⟩ (by simp) rfl
                  obtain rfl := f8 hd8
                  obtain rfl := f9 hd9
                  rw [if_pos (by rfl)]
                  go_big_op
                  refine hKc _ _ ⟨_, _, _, _, _, _, _, _, _, _, _, _, _, rfl, ?_, ?_, ?_, ?_, ?_, ?_, ?_, ?_, ?_, ?_, ?_, ?_, ?_, ?_, ?_, ?_, ?_, ?_⟩
                  · exact (fun h h5 => f0 (up h rfl) (dn h5))
                  · exact (fun h => f1 (up h rfl))
                  · exact (fun h => f2 (up h rfl))
                  · exact (fun h => f3 (up h rfl))
                  · exact (fun h h5 => f4 (up h rfl) (dn h5))
                  · exact (fun h => f5 (up h rfl))
                  · exact (fun h h5 => f6 (up h rfl) (dn h5))
                  · exact (fun h h5 => f7 (up h rfl) (dn h5))
                  · exact (fun h => f8 (up h rfl))
                  · exact (fun h => f9 (up h rfl))
                  · exact (fun _ => rfl)
                  · exact (fun h => f11 (up h rfl))
                  · exact (fun h => f12 (up h rfl))
                  · exact g0
                  · exact (fun h => upl (g1 (up h rfl)))
                  · exact (fun h => upl (g2 (up h rfl)))
                  · exact (fun h => ⟨upl (g3 (up h rfl)).1, upl (g3 (up h rfl)).2.1, upl (g3 (up h rfl)).2.2⟩)
                  · exact (fun h => g4 (dn h))
                · unfold StepOk
                  rintro d act x0 ⟨u30, u31, u32, u33, u34, u35, u36, u37, u38, u39, u40, u41, u3, rfl, f0, f1, f2, f3, f4, f5, f6, f7, f8, f9, f10, f11, f12, g0, g1, g2, g3, g4⟩ hd hdep Kc hKc
                  have hd7 : d 7 = true := hdep ⟨7, .data⟩ (by simp) rfl
                  have hd10 : d 10 = true := hdep ⟨10, .data⟩ (by simp) rfl
                  have hd4 := g1 hd7
                  have f7' := f7 hd7 hd
                  obtain rfl := f10 hd10
                  rw [if_pos (by rfl)]
                  refine wp_append_own _ _ _ 33 rfl (w5.heap.size) 49 i0 Cd.zero.v 9 88 Try.underlying33 hi hz0 hz1 hz2 rfl (by decide) _ (K + 1) (flat cc (S.take K ++ [x])) rfl f7' ⟨g, 0, none⟩ (m - K) (gc - K) (flat cc (S.drop K)) rfl ?c0 ?c1 ?c2 ?c3 ?c4 ?c5 ?_
                  case c0 => rw [flat_len cc_len, HDL.out]
                  case c1 => intro j u hj; rw [List.eq_nil_of_length_eq_zero (show (S.drop K).length = 0 from by rw [HDL.out]; have := of_eq_true hce; omega)] at hj; simp [flat] at hj
                  case c2 => exact flat_one cc_one _
                  case c3 => unfold maxLen; omega
                  case c4 => omega
                  case c5 => exact g0.size
                  intro v' x1 hown' hgrow _
                  have gB : Below w5.heap.size w5 x1 := g0.grown hgrow g0.size (fun q hq => own_ge f7' hq)
                  refine hKc _ _ ⟨_, _, _, _, _, _, _, _, _, _, _, _, _, rfl, ?_, ?_, ?_, ?_, ?_, ?_, ?_, ?_, ?_, ?_, ?_, ?_, ?_, ?_, ?_, ?_, ?_, ?_⟩
                  · exact (fun h h5 => by have := dn h5; rw [hd4] at this; cases this)
                  · exact (fun h => f1 (up h rfl))
                  · exact (fun h => f2 (up h rfl))
                  · exact (fun h => f3 (up h rfl))
                  · exact (fun h h5 => by have := dn h5; rw [hd7] at this; cases this)
                  · exact (fun h => f5 (up h rfl))
                  · exact (fun h h5 => by have := dn h5; rw [hd7] at this; cases this)
                  · exact (fun h h5 => by simp at h5)
                  · exact (fun h => f8 (up h rfl))
                  · exact (fun h => f9 (up h rfl))
                  · exact (fun h => f10 (up h rfl))
                  · exact (fun _ => (by rw [flat_app]; exact hown'))
                  · exact (fun h => by have := (g3 (up h rfl)).2.2; rw [hd] at this; cases this)
                  · exact gB
                  · exact (fun h => upl (g1 (up h rfl)))
                  · exact (fun h => upl hd7)
                  · exact (fun h => ⟨upl (g3 (up h rfl)).1, upl (g3 (up h rfl)).2.1, upl (g3 (up h rfl)).2.2⟩)
                  · exact (fun h => g4 (dn h))
                · unfold StepOk
                  rintro d act x0 ⟨u30, u31, u32, u33, u34, u35, u36, u37, u38, u39, u40, u41, u3, rfl, f0, f1, f2, f3, f4, f5, f6, f7, f8, f9, f10, f11, f12, g0, g1, g2, g3, g4⟩ hd hdep Kc hKc
                  have hd1 : d 1 = true := hdep ⟨1, .phase⟩ (by simp) rfl
                  have hd8 : d 8 = true := hdep ⟨8, .phase⟩ (by simp) rfl
                  have hd11 : d 11 = true := hdep ⟨11, .data⟩ (by simp) rfl
                  rw [if_pos (by rfl)]
                  go_big_op
                  refine hKc _ _ ⟨_, _, _, _, _, _, _, _, _, _, _, _, _, rfl, ?_, ?_, ?_, ?_, ?_, ?_, ?_, ?_, ?_, ?_, ?_, ?_, ?_, ?_, ?_, ?_, ?_, ?_⟩
                  · exact (fun h h5 => f0 (up h rfl) (dn h5))
                  · exact (fun h => f1 (up h rfl))
                  · exact (fun h => f2 (up h rfl))
                  · exact (fun h => f3 (up h rfl))
                  · exact (fun h h5 => f4 (up h rfl) (dn h5))
                  · exact (fun h => f5 (up h rfl))
                  · exact (fun h h5 => f6 (up h rfl) (dn h5))
                  · exact (fun h h5 => f7 (up h rfl) (dn h5))
                  · exact (fun h => f8 (up h rfl))
                  · exact (fun h => f9 (up h rfl))
                  · exact (fun h => f10 (up h rfl))
                  · exact (fun h => f11 (up h rfl))
                  · exact (fun _ => rfl)
                  · exact g0
                  · exact (fun h => upl (g1 (up h rfl)))
                  · exact (fun h => upl (g2 (up h rfl)))
                  · exact (fun h => ⟨upl hd1, upl hd8, upl hd11⟩)
                  · exact (fun h => by simp at h)
              · rintro d act x0 ⟨u30, u31, u32, u33, u34, u35, u36, u37, u38, u39, u40, u41, u3, rfl, f0, f1, f2, f3, f4, f5, f6, f7, f8, f9, f10, f11, f12, g0, g1, g2, g3, g4⟩ hall
              
                have f11' := f11 (hall 11 (by decide))
                have f12' := f12 (hall 12 (by decide))
                subst f12'
                have HN7 := Lib.hid f11'
                have HG0 := Lib.hid g0
                clear f0 f1 f2 f3 f4 f5 f6 f7 f8 f9 f10 f11 f12 g0 g1 g2 g3 g4 hall f11'
                go_wp2
                go_roundw
                case rel => exact ⟨J + 1, by omega, by go_num, by rw [HST.out]; unfold OwnC OwnR; have h9 := ownsRow_base HN7.out HBW.out.size; rw [List.length_append, List.length_append, HTL.out, HDL.out]; exact h9, ext_trans HBW.out HG0.out⟩
                case measure => simp [intOf]; omega
            · refine wp_region_inv_eq (J := fun A d act x0 => ∃ u30 u31 u32 u33 u34 u35 u36 u37 u38 u39 u40 u41 u3 : Value, act = (((((((((((((A.put (some 30) u30).put (some 31) u31).put (some 32) u32).put (some 33) u33).put (some 34) u34).put (some 35) u35).put (some 36) u36).put (some 37) u37).put (some 38) u38).put (some 39) u39).put (some 40) u40).put (some 41) u41).put (some 3) u3) ∧ (d 0 = true → (d 4 = false → ∃ b1 : Nat, u30 = .slice (some ⟨b1, 0, none⟩) 0 0 ∧ x0.heap[b1]? = some (.cells #[] 49 (0, 0)) ∧ w5.heap.size ≤ b1)) ∧ (d 1 = true → u31 = .slice (some ⟨g, 0, none⟩) m gc) ∧ (d 2 = true → u32 = .int .i64 ((K : Nat) : Int)) ∧ (d 3 = true → u33 = .slice (some ⟨g, 0, none⟩) K gc) ∧ (d 4 = true → (d 7 = false → x0.ownsRow w5.heap.size 49 9 u34 K (flat cc (S.take K)))) ∧ (d 5 = true → u35 = .agg #[.string x.a, .string x.i, .int .i64 x.s, .int .i64 x.o, .int .i64 x.l, .int .i64 x.t, .int .i64 x.k, .int .i64 x.n, .bool x.g]) ∧ (d 6 = true → (d 7 = false → ∃ b : Nat, u36 = .slice (some ⟨b, 0, none⟩) 1 1 ∧ x0.heap[b]? = some (.cells #[.string x.a, .string x.i, .int .i64 x.s, .int .i64 x.o, .int .i64 x.l, .int .i64 x.t, .int .i64 x.k, .int .i64 x.n, .bool x.g] 49 (0, 0)))) ∧ (d 7 = true → (d 11 = false → x0.ownsRow w5.heap.size 49 9 u37 (K + 1) (flat cc (S.take K ++ [x])))) ∧ (d 8 = true → u38 = .slice (some ⟨g, 0, none⟩) m gc) ∧ (d 9 = true → u39 = .int .i64 ((K : Nat) : Int)) ∧ (d 10 = true → u40 = .slice (some ⟨g, K * 9, none⟩) (m - K) (gc - K)) ∧ (d 11 = true → x0.ownsRow w5.heap.size 49 9 u41 (K + 1 + (m - K)) (flat cc (S.take K ++ [x] ++ S.drop K))) ∧ (d 12 = true → u3 = u41) ∧ Below w5.heap.size w5 x0 ∧ (d 7 = true → d 4 = true) ∧ (d 11 = true → d 7 = true) ∧ (d 12 = true → d 1 = true ∧ d 8 = true ∧ d 11 = true) ∧ (d 12 = false → u3 = .slice (some ⟨g, 0, none⟩) m gc)) (by simp only [Act.put, List.setIfInBounds_toArray, List.set_cons_succ, List.set_cons_zero]; rfl) (by kernel_rfl) (by kernel_rfl) ?_ ?_ ?_
              · refine ⟨_, _, _, _, _, _, _, _, _, _, _, _, _, rfl, ?_, ?_, ?_, ?_, ?_, ?_, ?_, ?_, ?_, ?_, ?_, ?_, ?_, ?_, ?_, ?_, ?_, ?_⟩
                · intro h; cases h
                · intro h; cases h
                · intro h; cases h
                · intro h; cases h
                · intro h; cases h
                · intro h; cases h
                · intro h; cases h
                · intro h; cases h
                · intro h; cases h
                · intro h; cases h
                · intro h; cases h
                · intro h; cases h
                · intro h; cases h
                · exact (Below.refl _ _).drew
                · exact (fun h => by cases h)
                · exact (fun h => by cases h)
                · exact (fun h => by cases h)
                · exact (fun _ => rfl)
              · refine stepsOk_cons (k := 0) ?_ (stepsOk_cons (k := 1) ?_ (stepsOk_cons (k := 2) ?_ (stepsOk_cons (k := 3) ?_ (stepsOk_cons (k := 4) ?_ (stepsOk_cons (k := 5) ?_ (stepsOk_cons (k := 6) ?_ (stepsOk_cons (k := 7) ?_ (stepsOk_cons (k := 8) ?_ (stepsOk_cons (k := 9) ?_ (stepsOk_cons (k := 10) ?_ (stepsOk_cons (k := 11) ?_ (stepsOk_cons (k := 12) ?_ stepsOk_nil))))))))))))
                · unfold StepOk
                  rintro d act x0 ⟨u30, u31, u32, u33, u34, u35, u36, u37, u38, u39, u40, u41, u3, rfl, f0, f1, f2, f3, f4, f5, f6, f7, f8, f9, f10, f11, f12, g0, g1, g2, g3, g4⟩ hd hdep Kc hKc
                  rw [if_pos (by rfl)]
                  go_big_op
                  refine hKc _ _ ⟨_, _, _, _, _, _, _, _, _, _, _, _, _, rfl, ?_, ?_, ?_, ?_, ?_, ?_, ?_, ?_, ?_, ?_, ?_, ?_, ?_, ?_, ?_, ?_, ?_, ?_⟩
                  · exact (fun _ => (fun h5 => ⟨_, rfl, blk_new _ _ _, g0.size⟩))
                  · exact (fun h => f1 (up h rfl))
                  · exact (fun h => f2 (up h rfl))
                  · exact (fun h => f3 (up h rfl))
                  · exact (fun h h5 => (f4 (up h rfl) (dn h5)).alloc _)
                  · exact (fun h => f5 (up h rfl))
                  · exact (fun h h5 => by obtain ⟨b, e1, e2⟩ := f6 (up h rfl) (dn h5); exact ⟨b, e1, blk_alloc e2 _⟩)
                  · exact (fun h h5 => (f7 (up h rfl) (dn h5)).alloc _)
                  · exact (fun h => f8 (up h rfl))
                  · exact (fun h => f9 (up h rfl))
                  · exact (fun h => f10 (up h rfl))
                  · exact (fun h => (f11 (up h rfl)).alloc _)
                  · exact (fun h => f12 (up h rfl))
                  · exact (g0.alloc g0.size _)
                  · exact (fun h => upl (g1 (up h rfl)))
                  · exact (fun h => upl (g2 (up h rfl)))
                  · exact (fun h => ⟨upl (g3 (up h rfl)).1, upl (g3 (up h rfl)).2.1, upl (g3 (up h rfl)).2.2⟩)
                  · exact (fun h => g4 (dn h))
                · unfold StepOk
                  rintro d act x0 ⟨u30, u31, u32, u33, u34, u35, u36, u37, u38, u39, u40, u41, u3, rfl, f0, f1, f2, f3, f4, f5, f6, f7, f8, f9, f10, f11, f12, g0, g1, g2, g3, g4⟩ hd hdep Kc hKc
                  have h12 : d 12 = false := by
                    cases h : d 12 with
                    | false => rfl
                    | true => have := (g3 h).1; rw [hd] at this; cases this
                  obtain rfl := g4 h12
                  rw [if_pos (by rfl)]
                  go_big_op
                  refine hKc _ _ ⟨_, _, _, _, _, _, _, _, _, _, _, _, _, rfl, ?_, ?_, ?_, ?_, ?_, ?_, ?_, ?_, ?_, ?_, ?_, ?_, ?_, ?_, ?_, ?_, ?_, ?_⟩
                  · exact (fun h h5 => f0 (up h rfl) (dn h5))
                  · exact (fun _ => rfl)
                  · exact (fun h => f2 (up h rfl))
                  · exact (fun h => f3 (up h rfl))
                  · exact (fun h h5 => f4 (up h rfl) (dn h5))
                  · exact (fun h => f5 (up h rfl))
                  · exact (fun h h5 => f6 (up h rfl) (dn h5))
                  · exact (fun h h5 => f7 (up h rfl) (dn h5))
                  · exact (fun h => f8 (up h rfl))
                  · exact (fun h => f9 (up h rfl))
                  · exact (fun h => f10 (up h rfl))
                  · exact (fun h => f11 (up h rfl))
                  · exact (fun h => f12 (up h rfl))
                  · exact g0
                  · exact (fun h => upl (g1 (up h rfl)))
                  · exact (fun h => upl (g2 (up h rfl)))
                  · exact (fun h => ⟨upl (g3 (up h rfl)).1, upl (g3 (up h rfl)).2.1, upl (g3 (up h rfl)).2.2⟩)
                  · exact (fun h => g4 (dn h))
                · unfold StepOk
                  rintro d act x0 ⟨u30, u31, u32, u33, u34, u35, u36, u37, u38, u39, u40, u41, u3, rfl, f0, f1, f2, f3, f4, f5, f6, f7, f8, f9, f10, f11, f12, g0, g1, g2, g3, g4⟩ hd hdep Kc hKc
                  rw [if_pos (by rfl)]
                  go_big_op
                  refine hKc _ _ ⟨_, _, _, _, _, _, _, _, _, _, _, _, _, rfl, ?_, ?_, ?_, ?_, ?_, ?_, ?_, ?_, ?_, ?_, ?_, ?_, ?_, ?_, ?_, ?_, ?_, ?_⟩
                  · exact (fun h h5 => f0 (up h rfl) (dn h5))
                  · exact (fun h => f1 (up h rfl))
                  · exact (fun _ => rfl)
                  · exact (fun h => f3 (up h rfl))
                  · exact (fun h h5 => f4 (up h rfl) (dn h5))
                  · exact (fun h => f5 (up h rfl))
                  · exact (fun h h5 => f6 (up h rfl) (dn h5))
                  · exact (fun h h5 => f7 (up h rfl) (dn h5))
                  · exact (fun h => f8 (up h rfl))
                  · exact (fun h => f9 (up h rfl))
                  · exact (fun h => f10 (up h rfl))
                  · exact (fun h => f11 (up h rfl))
                  · exact (fun h => f12 (up h rfl))
                  · exact g0
                  · exact (fun h => upl (g1 (up h rfl)))
                  · exact (fun h => upl (g2 (up h rfl)))
                  · exact (fun h => ⟨upl (g3 (up h rfl)).1, upl (g3 (up h rfl)).2.1, upl (g3 (up h rfl)).2.2⟩)
                  · exact (fun h => g4 (dn h))
                · unfold StepOk
                  rintro d act x0 ⟨u30, u31, u32, u33, u34, u35, u36, u37, u38, u39, u40, u41, u3, rfl, f0, f1, f2, f3, f4, f5, f6, f7, f8, f9, f10, f11, f12, g0, g1, g2, g3, g4⟩ hd hdep Kc hKc
                  have hd1 : d 1 = true := hdep ⟨1, .data⟩ (by simp) rfl
                  have hd2 : d 2 = true := hdep ⟨2, .data⟩ (by simp) rfl
                  obtain rfl := f1 hd1
                  obtain rfl := f2 hd2
                  rw [if_pos (by rfl)]
                  go_big_op
                  refine hKc _ _ ⟨_, _, _, _, _, _, _, _, _, _, _, _, _, rfl, ?_, ?_, ?_, ?_, ?_, ?_, ?_, ?_, ?_, ?_, ?_, ?_, ?_, ?_, ?_, ?_, ?_, ?_⟩
                  · exact (fun h h5 => f0 (up h rfl) (dn h5))
                  · exact (fun h => f1 (up h rfl))
                  · exact (fun h => f2 (up h rfl))
                  · exact (fun _ => rfl)
                  · exact (fun h h5 => f4 (up h rfl) (dn h5))
                  · exact (fun h => f5 (up h rfl))
                  · exact (fun h h5 => f6 (up h rfl) (dn h5))
                  · exact (fun h h5 => f7 (up h rfl) (dn h5))
                  · exact (fun h => f8 (up h rfl))
                  · exact (fun h => f9 (up h rfl))
                  · exact (fun h => f10 (up h rfl))
                  · exact (fun h => f11 (up h rfl))
                  · exact (fun h => f12 (up h rfl))
                  · exact g0
                  · exact (fun h => upl (g1 (up h rfl)))
                  · exact (fun h => upl (g2 (up h rfl)))
                  · exact (fun h => ⟨upl (g3 (up h rfl)).1, upl (g3 (up h rfl)).2.1, upl (g3 (up h rfl)).2.2⟩)
                  · exact (fun h => g4 (dn h))
                · unfold StepOk
                  rintro d act x0 ⟨u30, u31, u32, u33, u34, u35, u36, u37, u38, u39, u40, u41, u3, rfl, f0, f1, f2, f3, f4, f5, f6, f7, f8, f9, f10, f11, f12, g0, g1, g2, g3, g4⟩ hd hdep Kc hKc
                  have hd0 : d 0 = true := hdep ⟨0, .data⟩ (by simp) rfl
                  have hd3 : d 3 = true := hdep ⟨3, .data⟩ (by simp) rfl
                  have h7 : d 7 = false := by
                    cases h : d 7 with
                    | false => rfl
                    | true => have := g1 h; rw [hd] at this; cases this
                  have h11 : d 11 = false := by
                    cases h : d 11 with
                    | false => rfl
                    | true => have := g2 h; rw [h7] at this; cases this
                  obtain ⟨b1, rfl, hb1, hge1⟩ := f0 hd0 hd
                  have f0o := own_empty hb1 hge1
                  obtain rfl := f3 hd3
                  rw [if_pos (by rfl)]
                  refine wp_append_own _ _ _ 33 rfl (w5.heap.size) 49 i0 Cd.zero.v 9 88 Try.underlying33 hi hz0 hz1 hz2 rfl (by decide) _ 0 (flat cc []) rfl f0o ⟨g, 0, none⟩ K gc (flat cc (S.take K)) rfl ?c0 ?c1 ?c2 ?c3 ?c4 ?c5 ?_
                  case c0 => rw [flat_len cc_len, HTL.out]
                  case c1 => intro j u hj; rw [add_off]; exact cat_cells ((HCS.out.ext g0).take K) j u hj
                  case c2 => exact flat_one cc_one _
                  case c3 => unfold maxLen; omega
                  case c4 => omega
                  case c5 => exact g0.size
                  intro v' x1 hown' hgrow _
                  have gB : Below w5.heap.size w5 x1 := g0.grown hgrow g0.size (fun q hq => own_ge f0o hq)
                  refine hKc _ _ ⟨_, _, _, _, _, _, _, _, _, _, _, _, _, rfl, ?_, ?_, ?_, ?_, ?_, ?_, ?_, ?_, ?_, ?_, ?_, ?_, ?_, ?_, ?_, ?_, ?_, ?_⟩
                  · exact (fun h h5 => by simp at h5)
                  · exact (fun h => f1 (up h rfl))
                  · exact (fun h => f2 (up h rfl))
                  · exact (fun h => f3 (up h rfl))
                  · exact (fun _ => (fun h5 => by simpa [flat_nil] using hown'))
                  · exact (fun h => f5 (up h rfl))
                  · exact (fun h h5 => by obtain ⟨b, e1, e2⟩ := f6 (up h rfl) (dn h5); exact ⟨b, e1, (hgrow.block b (blk_lt e2) (by show some b ≠ some b1; simpa using blk_ne9 e2 hb1)).trans e2⟩)
                  · exact (fun h h5 => by have := up h rfl; rw [h7] at this; cases this)
                  · exact (fun h => f8 (up h rfl))
                  · exact (fun h => f9 (up h rfl))
                  · exact (fun h => f10 (up h rfl))
                  · exact (fun h => by have := up h rfl; rw [h11] at this; cases this)
                  · exact (fun h => f12 (up h rfl))
                  · exact gB
                  · exact (fun h => by simp)
                  · exact (fun h => upl (g2 (up h rfl)))
                  · exact (fun h => ⟨upl (g3 (up h rfl)).1, upl (g3 (up h rfl)).2.1, upl (g3 (up h rfl)).2.2⟩)
                  · exact (fun h => g4 (dn h))
                · unfold StepOk
                  rintro d act x0 ⟨u30, u31, u32, u33, u34, u35, u36, u37, u38, u39, u40, u41, u3, rfl, f0, f1, f2, f3, f4, f5, f6, f7, f8, f9, f10, f11, f12, g0, g1, g2, g3, g4⟩ hd hdep Kc hKc
                  have hx5 := blk_cell (blk_ext g0 HRB.out)
                  have hl5 := blk_lt (blk_ext g0 HRB.out)
                  rw [if_pos (by rfl)]
                  go_big_op
                  refine hKc _ _ ⟨_, _, _, _, _, _, _, _, _, _, _, _, _, rfl, ?_, ?_, ?_, ?_, ?_, ?_, ?_, ?_, ?_, ?_, ?_, ?_, ?_, ?_, ?_, ?_, ?_, ?_⟩
                  · exact (fun h h5 => f0 (up h rfl) (dn h5))
                  · exact (fun h => f1 (up h rfl))
                  · exact (fun h => f2 (up h rfl))
                  · exact (fun h => f3 (up h rfl))
                  · exact (fun h h5 => f4 (up h rfl) (dn h5))
                  · exact (fun _ => rfl)
                  · exact (fun h h5 => f6 (up h rfl) (dn h5))
                  · exact (fun h h5 => f7 (up h rfl) (dn h5))
                  · exact (fun h => f8 (up h rfl))
                  · exact (fun h => f9 (up h rfl))
                  · exact (fun h => f10 (up h rfl))
                  · exact (fun h => f11 (up h rfl))
                  · exact (fun h => f12 (up h rfl))
                  · exact g0
                  · exact (fun h => upl (g1 (up h rfl)))
                  · exact (fun h => upl (g2 (up h rfl)))
                  · exact (fun h => ⟨upl (g3 (up h rfl)).1, upl (g3 (up h rfl)).2.1, upl (g3 (up h rfl)).2.2⟩)
                  · exact (fun h => g4 (dn h))
                · unfold StepOk
                  rintro d act x0 ⟨u30, u31, u32, u33, u34, u35, u36, u37, u38, u39, u40, u41, u3, rfl, f0, f1, f2, f3, f4, f5, f6, f7, f8, f9, f10, f11, f12, g0, g1, g2, g3, g4⟩ hd hdep Kc hKc
                  have hd5 : d 5 = true := hdep ⟨5, .data⟩ (by simp) rfl
                  obtain rfl := f5 hd5
                  rw [if_pos (by rfl)]
                  go_big_op
                  refine hKc _ _ ⟨_, _, _, _, _, _, _, _, _, _, _, _, _, rfl, ?_, ?_, ?_, ?_, ?_, ?_, ?_, ?_, ?_, ?_, ?_, ?_, ?_, ?_, ?_, ?_, ?_, ?_⟩
                  · exact (fun h h5 => by obtain ⟨b1, e1, e2, e3⟩ := f0 (up h rfl) (dn h5); exact ⟨b1, e1, blk_alloc e2 _, e3⟩)
                  · exact (fun h => f1 (up h rfl))
                  · exact (fun h => f2 (up h rfl))
                  · exact (fun h => f3 (up h rfl))
                  · exact (fun h h5 => (f4 (up h rfl) (dn h5)).alloc _)
                  · exact (fun h => f5 (up h rfl))
                  · exact (fun _ => (fun h5 => ⟨_, rfl, blk_new _ _ _⟩))
                  · exact (fun h h5 => (f7 (up h rfl) (dn h5)).alloc _)
                  · exact (fun h => f8 (up h rfl))
                  · exact (fun h => f9 (up h rfl))
                  · exact (fun h => f10 (up h rfl))
                  · exact (fun h => (f11 (up h rfl)).alloc _)
                  · exact (fun h => f12 (up h rfl))
                  · exact (g0.alloc g0.size _)
                  · exact (fun h => upl (g1 (up h rfl)))
                  · exact (fun h => upl (g2 (up h rfl)))
                  · exact (fun h => ⟨upl (g3 (up h rfl)).1, upl (g3 (up h rfl)).2.1, upl (g3 (up h rfl)).2.2⟩)
                  · exact (fun h => g4 (dn h))
                · unfold StepOk
                  rintro d act x0 ⟨u30, u31, u32, u33, u34, u35, u36, u37, u38, u39, u40, u41, u3, rfl, f0, f1, f2, f3, f4, f5, f6, f7, f8, f9, f10, f11, f12, g0, g1, g2, g3, g4⟩ hd hdep Kc hKc
                  have hd4 : d 4 = true := hdep ⟨4, .data⟩ (by simp) rfl
                  have hd6 : d 6 = true := hdep ⟨6, .data⟩ (by simp) rfl
                  have h11 : d 11 = false := by
                    cases h : d 11 with
                    | false => rfl
                    | true => have := g2 h; rw [hd] at this; cases this
                  have f4' := f4 hd4 hd
                  obtain ⟨b4, rfl, hb4⟩ := f6 hd6 hd
                  rw [if_pos (by rfl)]
                  refine wp_append_own _ _ _ 33 rfl (w5.heap.size) 49 i0 Cd.zero.v 9 88 Try.underlying33 hi hz0 hz1 hz2 rfl (by decide) _ K (flat cc (S.take K)) rfl f4' ⟨b4, 0, none⟩ 1 1 (cc x) rfl ?c0 ?c1 ?c2 ?c3 ?c4 ?c5 ?_
                  case c0 => rfl
                  case c1 => intro j u hj; rw [add_off, Nat.zero_add, blk_cell hb4]; simpa [cc] using hj
                  case c2 => exact cc_one x
                  case c3 => unfold maxLen; omega
                  case c4 => omega
                  case c5 => exact g0.size
                  intro v' x1 hown' hgrow _
                  have gB : Below w5.heap.size w5 x1 := g0.grown hgrow g0.size (fun q hq => own_ge f4' hq)
                  refine hKc _ _ ⟨_, _, _, _, _, _, _, _, _, _, _, _, _, rfl, ?_, ?_, ?_, ?_, ?_, ?_, ?_, ?_, ?_, ?_, ?_, ?_, ?_, ?_, ?_, ?_, ?_, ?_⟩
                  · exact (fun h h5 => by have := dn h5; rw [hd4] at this; cases this)
                  · exact (fun h => f1 (up h rfl))
                  · exact (fun h => f2 (up h rfl))
                  · exact (fun h => f3 (up h rfl))
                  · exact (fun h h5 => by simp at h5)
                  · exact (fun h => f5 (up h rfl))
                  · exact (fun h h5 => by simp at h5)
                  · exact (fun _ => (fun h5 => by rw [flat_snoc]; exact hown'))
                  · exact (fun h => f8 (up h rfl))
                  · exact (fun h => f9 (up h rfl))
                  · exact (fun h => f10 (up h rfl))
                  · exact (fun h => by have := up h rfl; rw [h11] at this; cases this)
                  · exact (fun h => f12 (up h rfl))
                  · exact gB
                  · exact (fun h => upl hd4)
                  · exact (fun h => upl (g2 (up h rfl)))
                  · exact (fun h => ⟨upl (g3 (up h rfl)).1, upl (g3 (up h rfl)).2.1, upl (g3 (up h rfl)).2.2⟩)
                  · exact (fun h => g4 (dn h))
                · unfold StepOk
                  rintro d act x0 ⟨u30, u31, u32, u33, u34, u35, u36, u37, u38, u39, u40, u41, u3, rfl, f0, f1, f2, f3, f4, f5, f6, f7, f8, f9, f10, f11, f12, g0, g1, g2, g3, g4⟩ hd hdep Kc hKc
                  have h12 : d 12 = false := by
                    cases h : d 12 with
                    | false => rfl
                    | true => have := (g3 h).2.1; rw [hd] at this; cases this
                  obtain rfl := g4 h12
                  rw [if_pos (by rfl)]
                  go_big_op
                  refine hKc _ _ ⟨_, _, _, _, _, _, _, _, _, _, _, _, _, rfl, ?_, ?_, ?_, ?_, ?_, ?_, ?_, ?_, ?_, ?_, ?_, ?_, ?_, ?_, ?_, ?_, ?_, ?_⟩
                  · exact (fun h h5 => f0 (up h rfl) (dn h5))
                  · exact (fun h => f1 (up h rfl))
                  · exact (fun h => f2 (up h rfl))
                  · exact (fun h => f3 (up h rfl))
                  · exact (fun h h5 => f4 (up h rfl) (dn h5))
                  · exact (fun h => f5 (up h rfl))
                  · exact (fun h h5 => f6 (up h rfl) (dn h5))
                  · exact (fun h h5 => f7 (up h rfl) (dn h5))
                  · exact (fun _ => rfl)
                  · exact (fun h => f9 (up h rfl))
                  · exact (fun h => f10 (up h rfl))
                  · exact (fun h => f11 (up h rfl))
                  · exact (fun h => f12 (up h rfl))
                  · exact g0
                  · exact (fun h => upl (g1 (up h rfl)))
                  · exact (fun h => upl (g2 (up h rfl)))
                  · exact (fun h => ⟨upl (g3 (up h rfl)).1, upl (g3 (up h rfl)).2.1, upl (g3 (up h rfl)).2.2⟩)
                  · exact (fun h => g4 (dn h))
                · unfold StepOk
                  rintro d act x0 ⟨u30, u31, u32, u33, u34, u35, u36, u37, u38, u39, u40, u41, u3, rfl, f0, f1, f2, f3, f4, f5, f6, f7, f8, f9, f10, f11, f12, g0, g1, g2, g3, g4⟩ hd hdep Kc hKc
                  rw [if_pos (by rfl)]
                  go_big_op
                  refine hKc _ _ ⟨_, _, _, _, _, _, _, _, _, _, _, _, _, rfl, ?_, ?_, ?_, ?_, ?_, ?_, ?_, ?_, ?_, ?_, ?_, ?_, ?_, ?_, ?_, ?_, ?_, ?_⟩
                  · exact (fun h h5 => f0 (up h rfl) (dn h5))
                  · exact (fun h => f1 (up h rfl))
                  · exact (fun h => f2 (up h rfl))
                  · exact (fun h => f3 (up h rfl))
                  · exact (fun h h5 => f4 (up h rfl) (dn h5))
                  · exact (fun h => f5 (up h rfl))
                  · exact (fun h h5 => f6 (up h rfl) (dn h5))
                  · exact (fun h h5 => f7 (up h rfl) (dn h5))
                  · exact (fun h => f8 (up h rfl))
                  · exact (fun _ => rfl)
                  · exact (fun h => f10 (up h rfl))
                  · exact (fun h => f11 (up h rfl))
                  · exact (fun h => f12 (up h rfl))
                  · exact g0
                  · exact (fun h => upl (g1 (up h rfl)))
                  · exact (fun h => upl (g2 (up h rfl)))
                  · exact (fun h => ⟨upl (g3 (up h rfl)).1, upl (g3 (up h rfl)).2.1, upl (g3 (up h rfl)).2.2⟩)
                  · exact (fun h => g4 (dn h))
                · unfold StepOk
                  rintro d act x0 ⟨u30, u31, u32, u33, u34, u35, u36, u37, u38, u39, u40, u41, u3, rfl, f0, f1, f2, f3, f4, f5, f6, f7, f8, f9, f10, f11, f12, g0, g1, g2, g3, g4⟩ hd hdep Kc hKc
                  have hd8 : d 8 = true := hdep ⟨8, .data⟩ (by simp) rfl
                  have hd9 : d 9 = true := hdep ⟨9, .data⟩ (by simp) rfl
                  obtain rfl := f8 hd8
                  obtain rfl := f9 hd9
                  rw [if_pos (by rfl)]
                  go_big_op
                  refine hKc _ _ ⟨_, _, _, _, _, _, _, _, _, _, _, _, _, rfl, ?_, ?_, ?_, ?_, ?_, ?_, ?_, ?_, ?_, ?_, ?_, ?_, ?_, ?_, ?_, ?_, ?_, ?_⟩
                  · exact (fun h h5 => f0 (up h rfl) (dn h5))
                  · exact (fun h => f1 (up h rfl))
                  · exact (fun h => f2 (up h rfl))
                  · exact (fun h => f3 (up h rfl))
                  · exact (fun h h5 => f4 (up h rfl) (dn h5))
                  · exact (fun h => f5 (up h rfl))
                  · exact (fun h h5 => f6 (up h rfl) (dn h5))
                  · exact (fun h h5 => f7 (up h rfl) (dn h5))
                  · exact (fun h => f8 (up h rfl))
                  · exact (fun h => f9 (up h rfl))
                  · exact (fun _ => rfl)
                  · exact (fun h => f11 (up h rfl))
                  · exact (fun h => f12 (up h rfl))
                  · exact g0
                  · exact (fun h => upl (g1 (up h rfl)))
                  · exact (fun h => upl (g2 (up h rfl)))
                  · exact (fun h => ⟨upl (g3 (up h rfl)).1, upl (g3 (up h rfl)).2.1, upl (g3 (up h rfl)).2.2⟩)
                  · exact (fun h => g4 (dn h))
                · unfold StepOk
                  rintro d act x0 ⟨u30, u31, u32, u33, u34, u35, u36, u37, u38, u39, u40, u41, u3, rfl, f0, f1, f2, f3, f4, f5, f6, f7, f8, f9, f10, f11, f12, g0, g1, g2, g3, g4⟩ hd hdep Kc hKc
                  have hd7 : d 7 = true := hdep ⟨7, .data⟩ (by simp) rfl
                  have hd10 : d 10 = true := hdep ⟨10, .data⟩ (by simp) rfl
                  have hd4 := g1 hd7
                  have f7' := f7 hd7 hd
                  obtain rfl := f10 hd10
                  rw [if_pos (by rfl)]
                  refine wp_append_own _ _ _ 33 rfl (w5.heap.size) 49 i0 Cd.zero.v 9 88 Try.underlying33 hi hz0 hz1 hz2 rfl (by decide) _ (K + 1) (flat cc (S.take K ++ [x])) rfl f7' ⟨g, K * 9, none⟩ (m - K) (gc - K) (flat cc (S.drop K)) rfl ?c0 ?c1 ?c2 ?c3 ?c4 ?c5 ?_
                  case c0 => rw [flat_len cc_len, HDL.out]
                  case c1 => intro j u hj; rw [add_off]; have h9 := ((HCS.out.ext g0).drop K); rw [Nat.zero_add] at h9; exact cat_cells h9 j u hj
                  case c2 => exact flat_one cc_one _
                  case c3 => unfold maxLen; omega
                  case c4 => omega
                  case c5 => exact g0.size
                  intro v' x1 hown' hgrow _
                  have gB : Below w5.heap.size w5 x1 := g0.grown hgrow g0.size (fun q hq => own_ge f7' hq)
                  refine hKc _ _ ⟨_, _, _, _, _, _, _, _, _, _, _, _, _, rfl, ?_, ?_, ?_, ?_, ?_, ?_, ?_, ?_, ?_, ?_, ?_, ?_, ?_, ?_, ?_, ?_, ?_, ?_⟩
                  · exact (fun h h5 => by have := dn h5; rw [hd4] at this; cases this)
                  · exact (fun h => f1 (up h rfl))
                  · exact (fun h => f2 (up h rfl))
                  · exact (fun h => f3 (up h rfl))
                  · exact (fun h h5 => by have := dn h5; rw [hd7] at this; cases this)
                  · exact (fun h => f5 (up h rfl))
                  · exact (fun h h5 => by have := dn h5; rw [hd7] at this; cases this)
                  · exact (fun h h5 => by simp at h5)
                  · exact (fun h => f8 (up h rfl))
                  · exact (fun h => f9 (up h rfl))
                  · exact (fun h => f10 (up h rfl))
                  · exact (fun _ => (by rw [flat_app]; exact hown'))
                  · exact (fun h => by have := (g3 (up h rfl)).2.2; rw [hd] at this; cases this)
                  · exact gB
                  · exact (fun h => upl (g1 (up h rfl)))
                  · exact (fun h => upl hd7)
                  · exact (fun h => ⟨upl (g3 (up h rfl)).1, upl (g3 (up h rfl)).2.1, upl (g3 (up h rfl)).2.2⟩)
                  · exact (fun h => g4 (dn h))
                · unfold StepOk
                  rintro d act x0 ⟨u30, u31, u32, u33, u34, u35, u36, u37, u38, u39, u40, u41, u3, rfl, f0, f1, f2, f3, f4, f5, f6, f7, f8, f9, f10, f11, f12, g0, g1, g2, g3, g4⟩ hd hdep Kc hKc
                  have hd1 : d 1 = true := hdep ⟨1, .phase⟩ (by simp) rfl
                  have hd8 : d 8 = true := hdep ⟨8, .phase⟩ (by simp) rfl
                  have hd11 : d 11 = true := hdep ⟨11, .data⟩ (by simp) rfl
                  rw [if_pos (by rfl)]
                  go_big_op
                  refine hKc _ _ ⟨_, _, _, _, _, _, _, _, _, _, _, _, _, rfl, ?_, ?_, ?_, ?_, ?_, ?_, ?_, ?_, ?_, ?_, ?_, ?_, ?_, ?_, ?_, ?_, ?_, ?_⟩
                  · exact (fun h h5 => f0 (up h rfl) (dn h5))
                  · exact (fun h => f1 (up h rfl))
                  · exact (fun h => f2 (up h rfl))
                  · exact (fun h => f3 (up h rfl))
                  · exact (fun h h5 => f4 (up h rfl) (dn h5))
                  · exact (fun h => f5 (up h rfl))
                  · exact (fun h h5 => f6 (up h rfl) (dn h5))
                  · exact (fun h h5 => f7 (up h rfl) (dn h5))
                  · exact (fun h => f8 (up h rfl))
                  · exact (fun h => f9 (up h rfl))
                  · exact (fun h => f10 (up h rfl))
                  · exact (fun h => f11 (up h rfl))
                  · exact (fun _ => rfl)
                  · exact g0
                  · exact (fun h => upl (g1 (up h rfl)))
                  · exact (fun h => upl (g2 (up h rfl)))
                  · exact (fun h => ⟨upl hd1, upl hd8, upl hd11⟩)
                  · exact (fun h => by simp at h)
              · rintro d act x0 ⟨u30, u31, u32, u33, u34, u35, u36, u37, u38, u39, u40, u41, u3, rfl, f0, f1, f2, f3, f4, f5, f6, f7, f8, f9, f10, f11, f12, g0, g1, g2, g3, g4⟩ hall
              
                have f11' := f11 (hall 11 (by decide))
                have f12' := f12 (hall 12 (by decide))
                subst f12'
                have HN7 := Lib.hid f11'
                have HG0 := Lib.hid g0
                clear f0 f1 f2 f3 f4 f5 f6 f7 f8 f9 f10 f11 f12 g0 g1 g2 g3 g4 hall f11'
                go_wp2
                go_roundw
                case rel => exact ⟨J + 1, by omega, by go_num, by rw [HST.out]; unfold OwnC OwnR; have h9 := ownsRow_base HN7.out HBW.out.size; rw [List.length_append, List.length_append, HTL.out, HDL.out]; exact h9, ext_trans HBW.out HG0.out⟩
                case measure => simp [intOf]; omega
    · obtain rfl : J = n := by omega
      have HF := Lib.hid (show ls.take J = ls from List.take_of_length_le (by have := HN.out; omega))
      go_wp2
      go_ret
      exact ⟨_, rfl, by rw [HF.out] at ho2; exact ho2, hb2⟩

end Go.Proofs.Ytkhcgopehmndgaa
