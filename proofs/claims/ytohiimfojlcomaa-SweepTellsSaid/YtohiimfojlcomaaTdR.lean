/- The document's own sweep: who is put out. -/
import Derived.Test.YtohiimfojlcomaaTdE
import Derived.Test.YtohiimfojlcomaaInv
namespace Go.Proofs.Ytohiimfojlcomaa
open Go.RowKit
set_option linter.unusedVariables false
set_option linter.unusedSimpArgs false

def lats (l : List En) (now m : Int) : List En := l.filter (fun e => decide (m < late e now))
theorem lats_len (l : List En) (now m : Int) : (lats l now m).length ≤ l.length := List.length_filter_le _ _
theorem lats_yes {l : List En} {now m : Int} {x : En} (h : m < late x now) : lats (l ++ [x]) now m = lats l now m ++ [x] := by unfold lats; simp [h]
theorem lats_no {l : List En} {now m : Int} {x : En} (h : ¬ m < late x now) : lats (l ++ [x]) now m = lats l now m := by unfold lats; simp [h]
theorem insV_map {α β : Type} (f : α → β) (lt : β → β → Bool) (c : α) (l : List α) : (insV (fun x y => lt (f x) (f y)) c l).map f = insV lt (f c) (l.map f) := by
  induction l with
  | nil => rfl
  | cons x xs ih => unfold insV; simp only [List.map_cons]; split <;> simp [ih]
theorem insR_map {α β : Type} (f : α → β) (lt : β → β → Bool) (c : α) (l : List α) : (insR (fun x y => lt (f x) (f y)) c l).map f = insR lt (f c) (l.map f) := by
  unfold insR
  rw [List.map_reverse, insV_map, List.map_reverse]
theorem srt_map {α β : Type} (f : α → β) (lt : β → β → Bool) (l : List α) : (srt (fun x y => lt (f x) (f y)) l).map f = srt lt (l.map f) := by
  have key : ∀ (l out : List α), (l.foldl (fun out c => insR (fun x y => lt (f x) (f y)) c out) out).map f = (l.map f).foldl (fun out c => insR lt c out) (out.map f) := by
    intro l
    induction l with
    | nil => intro out; rfl
    | cons x xs ih => intro out; simp only [List.foldl_cons, List.map_cons]; rw [ih, insR_map]
  exact key l []
theorem pick_ref (l : List En) (now m : Int) : ((srt (elt now) (lats l now m)).take (mostN (lives l))).map (fun e => (e.c.a, e.c.i)) = pickL l now m := by
  have h := srt_map (td now) tlt (lats l now m)
  have h2 : (lats l now m).map (td now) = tars l now m := rfl
  rw [h2] at h
  unfold pickL
  rw [← h, ← List.map_take, List.map_map]
  rfl
theorem run_append_nilR (w : World) (ty : TypeId) (a : Option Addr) (n c : Nat) (h : n ≤ c) : (Builtin.append_ #[53, 53] ty #[.slice a n c, .slice none 0 0]).run Try.prog w = .ok (.slice a n c) w := by
  obtain ⟨i0, hi, hz0, hz1, hz2⟩ := info_parts' info_r9
  cases a <;> simp [Builtin.append_, run_underlying Try.underlying53, sizeOf, typeInfo, hi, Builtin.lenOf, h, Builtin.firstCells, storeCells]
theorem own_emptyR {w : World} {b base : Nat} (h : w.heap[b]? = some (.cells #[] 65 (0, 0))) (hb : base ≤ b) : w.ownsRow base 65 10 (.slice (some ⟨b, 0, none⟩) 0 0) 0 (flat ec []) :=
  ⟨rfl, .inr ⟨b, 0, #[], rfl, hb, h, Nat.le_refl _, by simp [maxLen], rfl, rfl⟩⟩
theorem wp_append_nilR {o : Oper} {a : Act} {w : World} {K : Act → World → Prop} {Q : Exit → Act → World → Prop} (s x : Operand) (ho : o.op = .call { callee := .builtin .append, args := #[s, x], argTypes := #[53, 53] }) (ad : Option Addr) (n c : Nat) (hs : a.eval s = .slice ad n c) (hx : a.eval x = .slice none 0 0) (hn : n ≤ c) (h : K (a.put o.dst (.slice ad n c)) w) : o.wp Try.prog a w K Q := by
  unfold Oper.wp execOp
  simp only [ho, resolve, invoke, builtin, Sem.run_bind, Sem.run_pure, Result.andThen_ok, List.map_toArray, List.map_cons, List.map_nil, hs, hx, run_append_nilR w o.type ad n c hn]
  exact h
theorem blk_neR {w : World} {b b1 : Nat} {x : En} (h : w.heap[b]? = some (.cells #[.string x.c.a, .string x.c.i, .int .i64 x.c.s, .int .i64 x.c.o, .int .i64 x.c.l, .int .i64 x.c.t, .int .i64 x.c.k, .int .i64 x.c.n, .bool x.c.g, .int .i64 x.seen] 65 (0, 0))) (h1 : w.heap[b1]? = some (.cells #[] 65 (0, 0))) : b ≠ b1 := by
  rintro rfl
  rw [h] at h1
  simp at h1

set_option maxRecDepth 100000 in
set_option maxHeartbeats 4000000 in
theorem refPick0 (a : Option Addr) (n c : Nat) (l : List En) (now lt : Int) (w : World) (h : RE9 w a l) (hl : l.length = n) (hn : n ≤ 1000) (hnc : n ≤ c) (h0 : 0 ≤ lt) :
    Calls Try.prog 20 #[.slice a n c, .int .i64 now, .int .i64 lt] w fun e w' => ∃ v', e = .returned v' ∧ OwnK w.heap.size w' v' (pickL l now lt) ∧ Below w.heap.size w w' := by
  obtain ⟨i0, hi, hz0, hz1, hz2⟩ := info_parts' info_r9
  obtain ⟨j0, gi, gz0, gz1, gz2⟩ := info_parts' info_ky
  have HA := Lib.hid h
  have HN := Lib.hid hl
  clear h hl
  go_enter Try.func20, Try.ntmps20
  go_wp2_with fail
  go_loopw [7, 17] (fun g j wr => ∃ J : Nat, J ≤ n ∧ j = .int .i64 (J : Int) ∧ OwnR9 w.heap.size wr g (srt (elt now) (lats (l.take J) now lt)) ∧ Below w.heap.size w wr) (fun g j _ => n - (intOf j).toNat)
  case atStart => exact ⟨0, by omega, rfl, OwnR.nil _ _, Below.refl _ _⟩
  case round =>
    obtain ⟨w2, rfl⟩ : ∃ y : World, y = wr := ⟨_, rfl⟩
    obtain ⟨J, hJ, rfl, ho2, hb2⟩ := hrel
    by_cases hlt : J < n
    · obtain ⟨S, hS⟩ : ∃ S, srt (elt now) (lats (l.take J) now lt) = S := ⟨_, rfl⟩
      rw [hS] at ho2
      obtain ⟨m, hm⟩ : ∃ m, S.length = m := ⟨_, rfl⟩
      have hmJ : m ≤ 1000 := by rw [← hm, ← hS, srt_len]; have := lats_len (l.take J) now lt; rw [List.length_take] at this; omega
      obtain ⟨ga, gc, hgv, hgc, hgm, hgat, -, hgf⟩ := ho2.read ec_len
      rw [hm] at hgc hgv
      subst hgv
      unfold maxLen at hgm
      have HM := Lib.hid hm
      have HS := Lib.hid hS
      clear hm hS
      obtain ⟨x, hx⟩ : ∃ x, l[J]? = some x := ⟨_, List.getElem?_eq_getElem (by have := HN.out; omega)⟩
      have HST := Lib.hid (take_snoc hx)
      obtain ⟨tb, tof, rfl⟩ : ∃ b o, a = some ⟨b, o, none⟩ := by
        rcases HA.out with h | ⟨b, o, e, _⟩
        · rw [h] at hx; simp at hx
        · exact ⟨b, o, e⟩
      obtain ⟨x0, x1, x2, x3, x4, x5, x6, x7, x8, x9⟩ := RE9.at (HA.out.ext hb2) hx
      have D0 : Below w2.heap.size w2 (w2.alloc (.cells #[.string x.c.a, .string x.c.i, .int .i64 x.c.s, .int .i64 x.c.o, .int .i64 x.c.l, .int .i64 x.c.t, .int .i64 x.c.k, .int .i64 x.c.n, .bool x.c.g, .int .i64 x.seen] 65)) := (Below.refl _ _).alloc (Nat.le_refl _) _
      have HX := Lib.hid (blk_new w2 #[.string x.c.a, .string x.c.i, .int .i64 x.c.s, .int .i64 x.c.o, .int .i64 x.c.l, .int .i64 x.c.t, .int .i64 x.c.k, .int .i64 x.c.n, .bool x.c.g, .int .i64 x.seen] 65)
      have HB3 := Lib.hid (ext_trans hb2 D0)
      have HO3 := Lib.hid (ho2.ext D0)
      have HGC := Lib.hid (hgat.ext D0)
      clear ho2 hgat
      clear hb2 hx D0
      go_upto_region 6 with (fail)
      obtain ⟨r, hr⟩ : ∃ r, w2.heap.size = r := ⟨_, rfl⟩
      rw [hr] at HX ⊢
      clear hr
      generalize (w2.alloc (.cells #[.string x.c.a, .string x.c.i, .int .i64 x.c.s, .int .i64 x.c.o, .int .i64 x.c.l, .int .i64 x.c.t, .int .i64 x.c.k, .int .i64 x.c.n, .bool x.c.g, .int .i64 x.seen] 65)) = w3 at *
      clear x0 x1 x2 x3 x4 x5 x6 x7 x8 x9
      have hk3 := blk_cell HX.out
      have HRX0 := Lib.hid (show True from trivial)
      go_wp2_with fail
      refine (refLate x now _).mono ?_
      rintro e w9 ⟨rfl, hb9⟩
      have HX9 := Lib.hid (blk_ext hb9 HX.out)
      have HO9 := Lib.hid (HO3.out.ext hb9)
      have HGC9 := Lib.hid (HGC.out.ext hb9)
      have HB9 := Lib.hid (ext_trans HB3.out hb9)
      clear hb9 HX HO3 HGC HB3 hk3 HRX0
      have HX := HX9
      have HO3 := HO9
      have HGC := HGC9
      have HB3 := HB9
      clear HX9 HO9 HGC9 HB9
      clear w3
      obtain ⟨w3, hw3⟩ : ∃ z, z = w9 := ⟨_, rfl⟩
      subst hw3
      obtain ⟨Lx, hL⟩ : ∃ q, late x now = q := ⟨_, rfl⟩
      rw [hL]
      by_cases h4 : lt < Lx
      · have HLS := Lib.hid (show lats (l.take (J + 1)) now lt = lats (l.take J) now lt ++ [x] from by rw [HST.out]; exact lats_yes (by rw [hL]; exact h4))
        have HS1 := Lib.hid (show srt (elt now) (lats (l.take (J + 1)) now lt) = insR (elt now) x S from by rw [HLS.out, srt_snoc, HS.out])
        clear HST HS
        go_wp2_with fail
        go_loopw [10] (fun k wr => ∃ K : Nat, K ≤ m ∧ k = .int .i64 (K : Int) ∧ insR (elt now) x S = insR (elt now) x (S.take K) ++ S.drop K ∧ Below w3.heap.size w3 wr) (fun k _ => (intOf k).toNat)
        case atStart => exact ⟨m, by omega, rfl, by rw [List.take_of_length_le (by have := HM.out; omega), List.drop_of_length_le (by have := HM.out; omega), List.append_nil], Below.refl _ _⟩
        case round =>
          obtain ⟨w4, rfl⟩ : ∃ y : World, y = wr := ⟨_, rfl⟩
          obtain ⟨K, hK, rfl, hins, hb4⟩ := hrel
          have HINS := Lib.hid hins
          have HB4 := Lib.hid hb4
          clear hins hb4
          by_cases hK0 : K = 0
          · have hd : decide ((0 : Int) < (K : Int)) = false := by simp; omega
            have hd0 : decide (0 < K) = false := by simp; omega
            have HST := Lib.hid (show srt (elt now) (lats (l.take (J + 1)) now lt) = S.take K ++ [x] ++ S.drop K from by rw [HS1.out, HINS.out, hK0]; simp [insR_nil])
            have HK0 := Lib.hid hK0
            clear hK0 HINS HS1
            go_wp2_with fail
            haveI hIq : Nonempty (Of w4) := of_some _
            first | (refine wp_region_stay w4 (by kernel_rfl) (by kernel_rfl) (by go_grown) ?_) | (refine wp_region_stay_seq w4 (by go_grown) ?_)
            repeat (go_big_quiet_step (fail))
            refine wpQuiet_nil ?_
            intro w5 hb5
            clear hIq
            
            have HRB := Lib.hid (blk_ext (ext_trans HB4.out hb5) HX.out)
            have HCS := Lib.hid (HGC.out.ext (ext_trans HB4.out hb5))
            have HBW := Lib.hid (ext_trans HB3.out (ext_trans HB4.out hb5))
            have HTL := Lib.hid (show (S.take K).length = K by rw [List.length_take]; have := HM.out; omega)
            have HDL := Lib.hid (show (S.drop K).length = m - K by rw [List.length_drop]; have := HM.out; omega)
            clear hb5 HB3 HX HO3 HGC HB4
            
            go_wp2_with fail
            rcases hgf with ⟨rfl, rfl, hSn⟩ | ⟨g, rfl⟩
            · obtain rfl : m = 0 := by omega
              obtain rfl : K = 0 := by omega
              subst hSn
              refine wp_region_inv_eq (J := fun A d act x0 => ∃ u42 u43 u44 u45 u46 u47 u48 u49 u50 u51 u52 u53 u7 : Value, act = (((((((((((((A.put (some 42) u42).put (some 43) u43).put (some 44) u44).put (some 45) u45).put (some 46) u46).put (some 47) u47).put (some 48) u48).put (some 49) u49).put (some 50) u50).put (some 51) u51).put (some 52) u52).put (some 53) u53).put (some 7) u7) ∧ (d 0 = true → (d 4 = false → ∃ b1 : Nat, u42 = .slice (some ⟨b1, 0, none⟩) 0 0 ∧ x0.heap[b1]? = some (.cells #[] 65 (0, 0)) ∧ w5.heap.size ≤ b1)) ∧ (d 1 = true → u43 = .slice none 0 0) ∧ (d 2 = true → u44 = .int .i64 ((0 : Nat) : Int)) ∧ (d 3 = true → u45 = .slice none 0 0) ∧ (d 4 = true → (d 7 = false → x0.ownsRow w5.heap.size 65 10 u46 0 (flat ec (([] : List En).take 0)))) ∧ (d 5 = true → u47 = .agg #[.string x.c.a, .string x.c.i, .int .i64 x.c.s, .int .i64 x.c.o, .int .i64 x.c.l, .int .i64 x.c.t, .int .i64 x.c.k, .int .i64 x.c.n, .bool x.c.g, .int .i64 x.seen]) ∧ (d 6 = true → (d 7 = false → ∃ b : Nat, u48 = .slice (some ⟨b, 0, none⟩) 1 1 ∧ x0.heap[b]? = some (.cells #[.string x.c.a, .string x.c.i, .int .i64 x.c.s, .int .i64 x.c.o, .int .i64 x.c.l, .int .i64 x.c.t, .int .i64 x.c.k, .int .i64 x.c.n, .bool x.c.g, .int .i64 x.seen] 65 (0, 0)))) ∧ (d 7 = true → (d 11 = false → x0.ownsRow w5.heap.size 65 10 u49 (0 + 1) (flat ec (([] : List En).take 0 ++ [x])))) ∧ (d 8 = true → u50 = .slice none 0 0) ∧ (d 9 = true → u51 = .int .i64 ((0 : Nat) : Int)) ∧ (d 10 = true → u52 = .slice none 0 0) ∧ (d 11 = true → x0.ownsRow w5.heap.size 65 10 u53 (0 + 1 + (0 - 0)) (flat ec (([] : List En).take 0 ++ [x] ++ ([] : List En).drop 0))) ∧ (d 12 = true → u7 = u53) ∧ Below w5.heap.size w5 x0 ∧ (d 7 = true → d 4 = true) ∧ (d 11 = true → d 7 = true) ∧ (d 12 = true → d 1 = true ∧ d 8 = true ∧ d 11 = true) ∧ (d 12 = false → u7 = .slice none 0 0)) (by simp only [Act.put, List.setIfInBounds_toArray, List.set_cons_succ, List.set_cons_zero]; rfl) (by kernel_rfl) (by kernel_rfl) ?_ ?_ ?_
              · refine ⟨_, _, _, _, _, _, _, _, _, _, _, _, _, rfl, ?_, ?_, ?_, ?_, ?_, ?_, ?_, ?_, ?_, ?_, ?_, ?_, ?_, ?_, ?_, ?_, ?_, ?_⟩
                · intro h; cases h
                · intro h; cases h
                · intro h; cases h
                · intro h; cases h
                · intro h; cases h
                · intro h; cases h
                · intro h; cases h
                · intro h; cases h
                · intro h; cases h
                · intro h; cases h
                · intro h; cases h
                · intro h; cases h
                · intro h; cases h
                · exact (Below.refl _ _).drew
                · exact (fun h => by cases h)
                · exact (fun h => by cases h)
                · exact (fun h => by cases h)
                · exact (fun _ => rfl)
              · refine stepsOk_cons (k := 0) ?_ (stepsOk_cons (k := 1) ?_ (stepsOk_cons (k := 2) ?_ (stepsOk_cons (k := 3) ?_ (stepsOk_cons (k := 4) ?_ (stepsOk_cons (k := 5) ?_ (stepsOk_cons (k := 6) ?_ (stepsOk_cons (k := 7) ?_ (stepsOk_cons (k := 8) ?_ (stepsOk_cons (k := 9) ?_ (stepsOk_cons (k := 10) ?_ (stepsOk_cons (k := 11) ?_ (stepsOk_cons (k := 12) ?_ stepsOk_nil))))))))))))
                · unfold StepOk
                  rintro d act x0 ⟨u42, u43, u44, u45, u46, u47, u48, u49, u50, u51, u52, u53, u7, rfl, f0, f1, f2, f3, f4, f5, f6, f7, f8, f9, f10, f11, f12, g0, g1, g2, g3, g4⟩ hd hdep Kc hKc
                  rw [if_pos (by rfl)]
                  go_big_op
                  refine hKc _ _ ⟨_, _, _, _, _, _, _, _, _, _, _, _, _, rfl, ?_, ?_, ?_, ?_, ?_, ?_, ?_, ?_, ?_, ?_, ?_, ?_, ?_, ?_, ?_, ?_, ?_, ?_⟩
                  · exact (fun _ => (fun h5 => ⟨_, rfl, blk_new _ _ _, g0.size⟩))
                  · exact (fun h => f1 (up h rfl))
                  · exact (fun h => f2 (up h rfl))
                  · exact (fun h => f3 (up h rfl))
                  · exact (fun h h5 => (f4 (up h rfl) (dn h5)).alloc _)
                  · exact (fun h => f5 (up h rfl))
                  · exact (fun h h5 => by obtain ⟨b, e1, e2⟩ := f6 (up h rfl) (dn h5); exact ⟨b, e1, blk_alloc e2 _⟩)
                  · exact (fun h h5 => (f7 (up h rfl) (dn h5)).alloc _)
                  · exact (fun h => f8 (up h rfl))
                  · exact (fun h => f9 (up h rfl))
                  · exact (fun h => f10 (up h rfl))
                  · exact (fun h => (f11 (up h rfl)).alloc _)
                  · exact (fun h => f12 (up h rfl))
                  · exact (g0.alloc g0.size _)
                  · exact (fun h => upl (g1 (up h rfl)))
                  · exact (fun h => upl (g2 (up h rfl)))
                  · exact (fun h => ⟨upl (g3 (up h rfl)).1, upl (g3 (up h rfl)).2.1, upl (g3 (up h rfl)).2.2⟩)
                  · exact (fun h => g4 (dn h))
                · unfold StepOk
                  rintro d act x0 ⟨u42, u43, u44, u45, u46, u47, u48, u49, u50, u51, u52, u53, u7, rfl, f0, f1, f2, f3, f4, f5, f6, f7, f8, f9, f10, f11, f12, g0, g1, g2, g3, g4⟩ hd hdep Kc hKc
                  have h12 : d 12 = false := by
                    cases h : d 12 with
                    | false => rfl
                    | true => have := (g3 h).1; rw [hd] at this; cases this
                  obtain rfl := g4 h12
                  rw [if_pos (by rfl)]
                  go_big_op
                  refine hKc _ _ ⟨_, _, _, _, _, _, _, _, _, _, _, _, _, rfl, ?_, ?_, ?_, ?_, ?_, ?_, ?_, ?_, ?_, ?_, ?_, ?_, ?_, ?_, ?_, ?_, ?_, ?_⟩
                  · exact (fun h h5 => f0 (up h rfl) (dn h5))
                  · exact (fun _ => rfl)
                  · exact (fun h => f2 (up h rfl))
                  · exact (fun h => f3 (up h rfl))
                  · exact (fun h h5 => f4 (up h rfl) (dn h5))
                  · exact (fun h => f5 (up h rfl))
                  · exact (fun h h5 => f6 (up h rfl) (dn h5))
                  · exact (fun h h5 => f7 (up h rfl) (dn h5))
                  · exact (fun h => f8 (up h rfl))
                  · exact (fun h => f9 (up h rfl))
                  · exact (fun h => f10 (up h rfl))
                  · exact (fun h => f11 (up h rfl))
                  · exact (fun h => f12 (up h rfl))
                  · exact g0
                  · exact (fun h => upl (g1 (up h rfl)))
                  · exact (fun h => upl (g2 (up h rfl)))
                  · exact (fun h => ⟨upl (g3 (up h rfl)).1, upl (g3 (up h rfl)).2.1, upl (g3 (up h rfl)).2.2⟩)
                  · exact (fun h => g4 (dn h))
                · unfold StepOk
                  rintro d act x0 ⟨u42, u43, u44, u45, u46, u47, u48, u49, u50, u51, u52, u53, u7, rfl, f0, f1, f2, f3, f4, f5, f6, f7, f8, f9, f10, f11, f12, g0, g1, g2, g3, g4⟩ hd hdep Kc hKc
                  rw [if_pos (by rfl)]
                  go_big_op
                  refine hKc _ _ ⟨_, _, _, _, _, _, _, _, _, _, _, _, _, rfl, ?_, ?_, ?_, ?_, ?_, ?_, ?_, ?_, ?_, ?_, ?_, ?_, ?_, ?_, ?_, ?_, ?_, ?_⟩
                  · exact (fun h h5 => f0 (up h rfl) (dn h5))
                  · exact (fun h => f1 (up h rfl))
                  · exact (fun _ => rfl)
                  · exact (fun h => f3 (up h rfl))
                  · exact (fun h h5 => f4 (up h rfl) (dn h5))
                  · exact (fun h => f5 (up h rfl))
                  · exact (fun h h5 => f6 (up h rfl) (dn h5))
                  · exact (fun h h5 => f7 (up h rfl) (dn h5))
                  · exact (fun h => f8 (up h rfl))
                  · exact (fun h => f9 (up h rfl))
                  · exact (fun h => f10 (up h rfl))
                  · exact (fun h => f11 (up h rfl))
                  · exact (fun h => f12 (up h rfl))
                  · exact g0
                  · exact (fun h => upl (g1 (up h rfl)))
                  · exact (fun h => upl (g2 (up h rfl)))
                  · exact (fun h => ⟨upl (g3 (up h rfl)).1, upl (g3 (up h rfl)).2.1, upl (g3 (up h rfl)).2.2⟩)
                  · exact (fun h => g4 (dn h))
                · unfold StepOk
                  rintro d act x0 ⟨u42, u43, u44, u45, u46, u47, u48, u49, u50, u51, u52, u53, u7, rfl, f0, f1, f2, f3, f4, f5, f6, f7, f8, f9, f10, f11, f12, g0, g1, g2, g3, g4⟩ hd hdep Kc hKc
                  have hd1 : d 1 = true := hdep ⟨1, .data⟩ (by simp) rfl
                  have hd2 : d 2 = true := hdep ⟨2, .data⟩ (by simp) rfl
                  obtain rfl := f1 hd1
                  obtain rfl := f2 hd2
                  rw [if_pos (by rfl)]
                  go_big_op
                  refine hKc _ _ ⟨_, _, _, _, _, _, _, _, _, _, _, _, _, rfl, ?_, ?_, ?_, ?_, ?_, ?_, ?_, ?_, ?_, ?_, ?_, ?_, ?_, ?_, ?_, ?_, ?_, ?_⟩
                  · exact (fun h h5 => f0 (up h rfl) (dn h5))
                  · exact (fun h => f1 (up h rfl))
                  · exact (fun h => f2 (up h rfl))
                  · exact (fun _ => rfl)
                  · exact (fun h h5 => f4 (up h rfl) (dn h5))
                  · exact (fun h => f5 (up h rfl))
                  · exact (fun h h5 => f6 (up h rfl) (dn h5))
                  · exact (fun h h5 => f7 (up h rfl) (dn h5))
                  · exact (fun h => f8 (up h rfl))
                  · exact (fun h => f9 (up h rfl))
                  · exact (fun h => f10 (up h rfl))
                  · exact (fun h => f11 (up h rfl))
                  · exact (fun h => f12 (up h rfl))
                  · exact g0
                  · exact (fun h => upl (g1 (up h rfl)))
                  · exact (fun h => upl (g2 (up h rfl)))
                  · exact (fun h => ⟨upl (g3 (up h rfl)).1, upl (g3 (up h rfl)).2.1, upl (g3 (up h rfl)).2.2⟩)
                  · exact (fun h => g4 (dn h))
                · unfold StepOk
                  rintro d act x0 ⟨u42, u43, u44, u45, u46, u47, u48, u49, u50, u51, u52, u53, u7, rfl, f0, f1, f2, f3, f4, f5, f6, f7, f8, f9, f10, f11, f12, g0, g1, g2, g3, g4⟩ hd hdep Kc hKc
                  have hd0 : d 0 = true := hdep ⟨0, .data⟩ (by simp) rfl
                  have hd3 : d 3 = true := hdep ⟨3, .data⟩ (by simp) rfl
                  have h7 : d 7 = false := by
                    cases h : d 7 with
                    | false => rfl
                    | true => have := g1 h; rw [hd] at this; cases this
                  have h11 : d 11 = false := by
                    cases h : d 11 with
                    | false => rfl
                    | true => have := g2 h; rw [h7] at this; cases this
                  obtain ⟨b1, rfl, hb1, hge1⟩ := f0 hd0 hd
                  have f0o := own_emptyR hb1 hge1
                  obtain rfl := f3 hd3
                  rw [if_pos (by rfl)]
                  have hap := fun (ty : TypeId) => run_append_nilR x0 ty (some ⟨b1, 0, none⟩) 0 0 (Nat.le_refl _)
                  go_big_op
                  refine hKc _ _ ⟨_, _, _, _, _, _, _, _, _, _, _, _, _, rfl, ?_, ?_, ?_, ?_, ?_, ?_, ?_, ?_, ?_, ?_, ?_, ?_, ?_, ?_, ?_, ?_, ?_, ?_⟩
                  · exact (fun h h5 => by simp at h5)
                  · exact (fun h => f1 (up h rfl))
                  · exact (fun h => f2 (up h rfl))
                  · exact (fun h => f3 (up h rfl))
                  · exact (fun _ => (fun h5 => f0o))
                  · exact (fun h => f5 (up h rfl))
                  · exact (fun h h5 => f6 (up h rfl) (dn h5))
                  · exact (fun h h5 => f7 (up h rfl) (dn h5))
                  · exact (fun h => f8 (up h rfl))
                  · exact (fun h => f9 (up h rfl))
                  · exact (fun h => f10 (up h rfl))
                  · exact (fun h => f11 (up h rfl))
                  · exact (fun h => f12 (up h rfl))
                  · exact g0
                  · exact (fun h => by simp)
                  · exact (fun h => upl (g2 (up h rfl)))
                  · exact (fun h => ⟨upl (g3 (up h rfl)).1, upl (g3 (up h rfl)).2.1, upl (g3 (up h rfl)).2.2⟩)
                  · exact (fun h => g4 (dn h))
                · unfold StepOk
                  rintro d act x0 ⟨u42, u43, u44, u45, u46, u47, u48, u49, u50, u51, u52, u53, u7, rfl, f0, f1, f2, f3, f4, f5, f6, f7, f8, f9, f10, f11, f12, g0, g1, g2, g3, g4⟩ hd hdep Kc hKc
                  have hx5 := blk_cell (blk_ext g0 HRB.out)
                  have hl5 := blk_lt (blk_ext g0 HRB.out)
                  rw [if_pos (by rfl)]
                  go_big_op
                  refine hKc _ _ ⟨_, _, _, _, _, _, _, _, _, _, _, _, _, rfl, ?_, ?_, ?_, ?_, ?_, ?_, ?_, ?_, ?_, ?_, ?_, ?_, ?_, ?_, ?_, ?_, ?_, ?_⟩
                  · exact (fun h h5 => f0 (up h rfl) (dn h5))
                  · exact (fun h => f1 (up h rfl))
                  · exact (fun h => f2 (up h rfl))
                  · exact (fun h => f3 (up h rfl))
                  · exact (fun h h5 => f4 (up h rfl) (dn h5))
                  · exact (fun _ => rfl)
                  · exact (fun h h5 => f6 (up h rfl) (dn h5))
                  · exact (fun h h5 => f7 (up h rfl) (dn h5))
                  · exact (fun h => f8 (up h rfl))
                  · exact (fun h => f9 (up h rfl))
                  · exact (fun h => f10 (up h rfl))
                  · exact (fun h => f11 (up h rfl))
                  · exact (fun h => f12 (up h rfl))
                  · exact g0
                  · exact (fun h => upl (g1 (up h rfl)))
                  · exact (fun h => upl (g2 (up h rfl)))
                  · exact (fun h => ⟨upl (g3 (up h rfl)).1, upl (g3 (up h rfl)).2.1, upl (g3 (up h rfl)).2.2⟩)
                  · exact (fun h => g4 (dn h))
                · unfold StepOk
                  rintro d act x0 ⟨u42, u43, u44, u45, u46, u47, u48, u49, u50, u51, u52, u53, u7, rfl, f0, f1, f2, f3, f4, f5, f6, f7, f8, f9, f10, f11, f12, g0, g1, g2, g3, g4⟩ hd hdep Kc hKc
                  have hd5 : d 5 = true := hdep ⟨5, .data⟩ (by simp) rfl
                  obtain rfl := f5 hd5
                  rw [if_pos (by rfl)]
                  go_big_op
                  refine hKc _ _ ⟨_, _, _, _, _, _, _, _, _, _, _, _, _, rfl, ?_, ?_, ?_, ?_, ?_, ?_, ?_, ?_, ?_, ?_, ?_, ?_, ?_, ?_, ?_, ?_, ?_, ?_⟩
                  · exact (fun h h5 => by obtain ⟨b1, e1, e2, e3⟩ := f0 (up h rfl) (dn h5); exact ⟨b1, e1, blk_alloc e2 _, e3⟩)
                  · exact (fun h => f1 (up h rfl))
                  · exact (fun h => f2 (up h rfl))
                  · exact (fun h => f3 (up h rfl))
                  · exact (fun h h5 => (f4 (up h rfl) (dn h5)).alloc _)
                  · exact (fun h => f5 (up h rfl))
                  · exact (fun _ => (fun h5 => ⟨_, rfl, blk_new _ _ _⟩))
                  · exact (fun h h5 => (f7 (up h rfl) (dn h5)).alloc _)
                  · exact (fun h => f8 (up h rfl))
                  · exact (fun h => f9 (up h rfl))
                  · exact (fun h => f10 (up h rfl))
                  · exact (fun h => (f11 (up h rfl)).alloc _)
                  · exact (fun h => f12 (up h rfl))
                  · exact (g0.alloc g0.size _)
                  · exact (fun h => upl (g1 (up h rfl)))
                  · exact (fun h => upl (g2 (up h rfl)))
                  · exact (fun h => ⟨upl (g3 (up h rfl)).1, upl (g3 (up h rfl)).2.1, upl (g3 (up h rfl)).2.2⟩)
                  · exact (fun h => g4 (dn h))
                · unfold StepOk
                  rintro d act x0 ⟨u42, u43, u44, u45, u46, u47, u48, u49, u50, u51, u52, u53, u7, rfl, f0, f1, f2, f3, f4, f5, f6, f7, f8, f9, f10, f11, f12, g0, g1, g2, g3, g4⟩ hd hdep Kc hKc
                  have hd4 : d 4 = true := hdep ⟨4, .data⟩ (by simp) rfl
                  have hd6 : d 6 = true := hdep ⟨6, .data⟩ (by simp) rfl
                  have h11 : d 11 = false := by
                    cases h : d 11 with
                    | false => rfl
                    | true => have := g2 h; rw [hd] at this; cases this
                  have f4' := f4 hd4 hd
                  obtain ⟨b4, rfl, hb4⟩ := f6 hd6 hd
                  rw [if_pos (by rfl)]
                  refine wp_append_own _ _ _ 53 rfl (w5.heap.size) 65 i0 En.zero.v 10 96 Try.underlying53 hi hz0 hz1 hz2 rfl (by decide) _ 0 (flat ec (([] : List En).take 0)) rfl f4' ⟨b4, 0, none⟩ 1 1 (ec x) rfl ?c0 ?c1 ?c2 ?c3 ?c4 ?c5 ?_
                  case c0 => rfl
                  case c1 => intro j u hj; rw [add_off, Nat.zero_add, blk_cell hb4]; simpa [ec] using hj
                  case c2 => exact ec_one x
                  case c3 => unfold maxLen; omega
                  case c4 => omega
                  case c5 => exact g0.size
                  intro v' x1 hown' hgrow _
                  have gB : Below w5.heap.size w5 x1 := g0.grown hgrow g0.size (fun q hq => own_ge f4' hq)
                  refine hKc _ _ ⟨_, _, _, _, _, _, _, _, _, _, _, _, _, rfl, ?_, ?_, ?_, ?_, ?_, ?_, ?_, ?_, ?_, ?_, ?_, ?_, ?_, ?_, ?_, ?_, ?_, ?_⟩
                  · exact (fun h h5 => by have := dn h5; rw [hd4] at this; cases this)
                  · exact (fun h => f1 (up h rfl))
                  · exact (fun h => f2 (up h rfl))
                  · exact (fun h => f3 (up h rfl))
                  · exact (fun h h5 => by simp at h5)
                  · exact (fun h => f5 (up h rfl))
                  · exact (fun h h5 => by simp at h5)
                  · exact (fun _ => (fun h5 => by rw [flat_snoc]; exact hown'))
                  · exact (fun h => f8 (up h rfl))
                  · exact (fun h => f9 (up h rfl))
                  · exact (fun h => f10 (up h rfl))
                  · exact (fun h => by have := up h rfl; rw [h11] at this; cases this)
                  · exact (fun h => f12 (up h rfl))
                  · exact gB
                  · exact (fun h => upl hd4)
                  · exact (fun h => upl (g2 (up h rfl)))
                  · exact (fun h => ⟨upl (g3 (up h rfl)).1, upl (g3 (up h rfl)).2.1, upl (g3 (up h rfl)).2.2⟩)
                  · exact (fun h => g4 (dn h))
                · unfold StepOk
                  rintro d act x0 ⟨u42, u43, u44, u45, u46, u47, u48, u49, u50, u51, u52, u53, u7, rfl, f0, f1, f2, f3, f4, f5, f6, f7, f8, f9, f10, f11, f12, g0, g1, g2, g3, g4⟩ hd hdep Kc hKc
                  have h12 : d 12 = false := by
                    cases h : d 12 with
                    | false => rfl
                    | true => have := (g3 h).2.1; rw [hd] at this; cases this
                  obtain rfl := g4 h12
                  rw [if_pos (by rfl)]
                  go_big_op
                  refine hKc _ _ ⟨_, _, _, _, _, _, _, _, _, _, _, _, _, rfl, ?_, ?_, ?_, ?_, ?_, ?_, ?_, ?_, ?_, ?_, ?_, ?_, ?_, ?_, ?_, ?_, ?_, ?_⟩
                  · exact (fun h h5 => f0 (up h rfl) (dn h5))
                  · exact (fun h => f1 (up h rfl))
                  · exact (fun h => f2 (up h rfl))
                  · exact (fun h => f3 (up h rfl))
                  · exact (fun h h5 => f4 (up h rfl) (dn h5))
                  · exact (fun h => f5 (up h rfl))
                  · exact (fun h h5 => f6 (up h rfl) (dn h5))
                  · exact (fun h h5 => f7 (up h rfl) (dn h5))
                  · exact (fun _ => rfl)
                  · exact (fun h => f9 (up h rfl))
                  · exact (fun h => f10 (up h rfl))
                  · exact (fun h => f11 (up h rfl))
                  · exact (fun h => f12 (up h rfl))
                  · exact g0
                  · exact (fun h => upl (g1 (up h rfl)))
                  · exact (fun h => upl (g2 (up h rfl)))
                  · exact (fun h => ⟨upl (g3 (up h rfl)).1, upl (g3 (up h rfl)).2.1, upl (g3 (up h rfl)).2.2⟩)
                  · exact (fun h => g4 (dn h))
                · unfold StepOk
                  rintro d act x0 ⟨u42, u43, u44, u45, u46, u47, u48, u49, u50, u51, u52, u53, u7, rfl, f0, f1, f2, f3, f4, f5, f6, f7, f8, f9, f10, f11, f12, g0, g1, g2, g3, g4⟩ hd hdep Kc hKc
                  rw [if_pos (by rfl)]
                  go_big_op
                  refine hKc _ _ ⟨_, _, _, _, _, _, _, _, _, _, _, _, _, rfl, ?_, ?_, ?_, ?_, ?_, ?_, ?_, ?_, ?_, ?_, ?_, ?_, ?_, ?_, ?_, ?_, ?_, ?_⟩
                  · exact (fun h h5 => f0 (up h rfl) (dn h5))
                  · exact (fun h => f1 (up h rfl))
                  · exact (fun h => f2 (up h rfl))
                  · exact (fun h => f3 (up h rfl))
                  · exact (fun h h5 => f4 (up h rfl) (dn h5))
                  · exact (fun h => f5 (up h rfl))
                  · exact (fun h h5 => f6 (up h rfl) (dn h5))
                  · exact (fun h h5 => f7 (up h rfl) (dn h5))
                  · exact (fun h => f8 (up h rfl))
                  · exact (fun _ => rfl)
                  · exact (fun h => f10 (up h rfl))
                  · exact (fun h => f11 (up h rfl))
                  · exact (fun h => f12 (up h rfl))
                  · exact g0
                  · exact (fun h => upl (g1 (up h rfl)))
                  · exact (fun h => upl (g2 (up h rfl)))
                  · exact (fun h => ⟨upl (g3 (up h rfl)).1, upl (g3 (up h rfl)).2.1, upl (g3 (up h rfl)).2.2⟩)
                  · exact (fun h => g4 (dn h))
                · unfold StepOk
                  rintro d act x0 ⟨u42, u43, u44, u45, u46, u47, u48, u49, u50, u51, u52, u53, u7, rfl, f0, f1, f2, f3, f4, f5, f6, f7, f8, f9, f10, f11, f12, g0, g1, g2, g3, g4⟩ hd hdep Kc hKc
                  have hd8 : d 8 = true := hdep ⟨8, .data⟩ (by simp) rfl
                  have hd9 : d 9 = true := hdep ⟨9, .data⟩ (by simp) rfl
                  obtain rfl := f8 hd8
                  obtain rfl := f9 hd9
                  rw [if_pos (by rfl)]
                  go_big_op
                  refine hKc _ _ ⟨_, _, _, _, _, _, _, _, _, _, _, _, _, rfl, ?_, ?_, ?_, ?_, ?_, ?_, ?_, ?_, ?_, ?_, ?_, ?_, ?_, ?_, ?_, ?_, ?_, ?_⟩
                  · exact (fun h h5 => f0 (up h rfl) (dn h5))
                  · exact (fun h => f1 (up h rfl))
                  · exact (fun h => f2 (up h rfl))
                  · exact (fun h => f3 (up h rfl))
                  · exact (fun h h5 => f4 (up h rfl) (dn h5))
                  · exact (fun h => f5 (up h rfl))
                  · exact (fun h h5 => f6 (up h rfl) (dn h5))
                  · exact (fun h h5 => f7 (up h rfl) (dn h5))
                  · exact (fun h => f8 (up h rfl))
                  · exact (fun h => f9 (up h rfl))
                  · exact (fun _ => rfl)
                  · exact (fun h => f11 (up h rfl))
                  · exact (fun h => f12 (up h rfl))
                  · exact g0
                  · exact (fun h => upl (g1 (up h rfl)))
                  · exact (fun h => upl (g2 (up h rfl)))
                  · exact (fun h => ⟨upl (g3 (up h rfl)).1, upl (g3 (up h rfl)).2.1, upl (g3 (up h rfl)).2.2⟩)
                  · exact (fun h => g4 (dn h))
                · unfold StepOk
                  rintro d act x0 ⟨u42, u43, u44, u45, u46, u47, u48, u49, u50, u51, u52, u53, u7, rfl, f0, f1, f2, f3, f4, f5, f6, f7, f8, f9, f10, f11, f12, g0, g1, g2, g3, g4⟩ hd hdep Kc hKc
                  have hd7 : d 7 = true := hdep ⟨7, .data⟩ (by simp) rfl
                  have hd10 : d 10 = true := hdep ⟨10, .data⟩ (by simp) rfl
                  have hd4 := g1 hd7
                  have f7' := f7 hd7 hd
                  obtain rfl := f10 hd10
                  rw [if_pos (by rfl)]
                  obtain ⟨a7, c7, e7, h71, -, h7f⟩ := OwnR.form (ls := [x]) (show OwnR9 w5.heap.size x0 u49 [x] from f7')
                  subst e7
                  obtain ⟨g7, rfl⟩ : ∃ g7, a7 = some ⟨g7, 0, none⟩ := by
                    rcases h7f with ⟨_, _, e⟩ | ⟨g7, e, _⟩
                    · cases e
                    · exact ⟨g7, e⟩
                  refine wp_append_nilR _ _ rfl (some ⟨g7, 0, none⟩) 1 c7 rfl rfl h71 ?_
                  refine hKc _ _ ⟨_, _, _, _, _, _, _, _, _, _, _, _, _, rfl, ?_, ?_, ?_, ?_, ?_, ?_, ?_, ?_, ?_, ?_, ?_, ?_, ?_, ?_, ?_, ?_, ?_, ?_⟩
                  · exact (fun h h5 => by have := dn h5; rw [hd4] at this; cases this)
                  · exact (fun h => f1 (up h rfl))
                  · exact (fun h => f2 (up h rfl))
                  · exact (fun h => f3 (up h rfl))
                  · exact (fun h h5 => by have := dn h5; rw [hd7] at this; cases this)
                  · exact (fun h => f5 (up h rfl))
                  · exact (fun h h5 => by have := dn h5; rw [hd7] at this; cases this)
                  · exact (fun h h5 => by simp at h5)
                  · exact (fun h => f8 (up h rfl))
                  · exact (fun h => f9 (up h rfl))
                  · exact (fun h => f10 (up h rfl))
                  · exact (fun _ => (by simpa using f7'))
                  · exact (fun h => by have := (g3 (up h rfl)).2.2; rw [hd] at this; cases this)
                  · exact g0
                  · exact (fun h => upl (g1 (up h rfl)))
                  · exact (fun h => upl hd7)
                  · exact (fun h => ⟨upl (g3 (up h rfl)).1, upl (g3 (up h rfl)).2.1, upl (g3 (up h rfl)).2.2⟩)
                  · exact (fun h => g4 (dn h))
                · unfold StepOk
                  rintro d act x0 ⟨u42, u43, u44, u45, u46, u47, u48, u49, u50, u51, u52, u53, u7, rfl, f0, f1, f2, f3, f4, f5, f6, f7, f8, f9, f10, f11, f12, g0, g1, g2, g3, g4⟩ hd hdep Kc hKc
                  have hd1 : d 1 = true := hdep ⟨1, .phase⟩ (by simp) rfl
                  have hd8 : d 8 = true := hdep ⟨8, .phase⟩ (by simp) rfl
                  have hd11 : d 11 = true := hdep ⟨11, .data⟩ (by simp) rfl
                  rw [if_pos (by rfl)]
                  go_big_op
                  refine hKc _ _ ⟨_, _, _, _, _, _, _, _, _, _, _, _, _, rfl, ?_, ?_, ?_, ?_, ?_, ?_, ?_, ?_, ?_, ?_, ?_, ?_, ?_, ?_, ?_, ?_, ?_, ?_⟩
                  · exact (fun h h5 => f0 (up h rfl) (dn h5))
                  · exact (fun h => f1 (up h rfl))
                  · exact (fun h => f2 (up h rfl))
                  · exact (fun h => f3 (up h rfl))
                  · exact (fun h h5 => f4 (up h rfl) (dn h5))
                  · exact (fun h => f5 (up h rfl))
                  · exact (fun h h5 => f6 (up h rfl) (dn h5))
                  · exact (fun h h5 => f7 (up h rfl) (dn h5))
                  · exact (fun h => f8 (up h rfl))
                  · exact (fun h => f9 (up h rfl))
                  · exact (fun h => f10 (up h rfl))
                  · exact (fun h => f11 (up h rfl))
                  · exact (fun _ => rfl)
                  · exact g0
                  · exact (fun h => upl (g1 (up h rfl)))
                  · exact (fun h => upl (g2 (up h rfl)))
                  · exact (fun h => ⟨upl hd1, upl hd8, upl hd11⟩)
                  · exact (fun h => by simp at h)
              · rintro d act x0 ⟨u42, u43, u44, u45, u46, u47, u48, u49, u50, u51, u52, u53, u7, rfl, f0, f1, f2, f3, f4, f5, f6, f7, f8, f9, f10, f11, f12, g0, g1, g2, g3, g4⟩ hall
              
                have f11' := f11 (hall 11 (by decide))
                have f12' := f12 (hall 12 (by decide))
                subst f12'
                have HN7 := Lib.hid f11'
                have HG0 := Lib.hid g0
                clear f0 f1 f2 f3 f4 f5 f6 f7 f8 f9 f10 f11 f12 g0 g1 g2 g3 g4 hall f11'
                go_wp2
                go_roundw
                case rel => exact ⟨J + 1, by omega, by go_num, by rw [HST.out]; unfold OwnR9 OwnR; have h9 := ownsRow_base HN7.out HBW.out.size; simpa using h9, ext_trans HBW.out HG0.out⟩
                case measure => simp [intOf]; omega
            · rcases Classical.propComplete (gc = K) with hce | hce
              · refine wp_region_inv_eq (J := fun A d act x0 => ∃ u42 u43 u44 u45 u46 u47 u48 u49 u50 u51 u52 u53 u7 : Value, act = (((((((((((((A.put (some 42) u42).put (some 43) u43).put (some 44) u44).put (some 45) u45).put (some 46) u46).put (some 47) u47).put (some 48) u48).put (some 49) u49).put (some 50) u50).put (some 51) u51).put (some 52) u52).put (some 53) u53).put (some 7) u7) ∧ (d 0 = true → (d 4 = false → ∃ b1 : Nat, u42 = .slice (some ⟨b1, 0, none⟩) 0 0 ∧ x0.heap[b1]? = some (.cells #[] 65 (0, 0)) ∧ w5.heap.size ≤ b1)) ∧ (d 1 = true → u43 = .slice (some ⟨g, 0, none⟩) m gc) ∧ (d 2 = true → u44 = .int .i64 ((K : Nat) : Int)) ∧ (d 3 = true → u45 = .slice (some ⟨g, 0, none⟩) K gc) ∧ (d 4 = true → (d 7 = false → x0.ownsRow w5.heap.size 65 10 u46 K (flat ec (S.take K)))) ∧ (d 5 = true → u47 = .agg #[.string x.c.a, .string x.c.i, .int .i64 x.c.s, .int .i64 x.c.o, .int .i64 x.c.l, .int .i64 x.c.t, .int .i64 x.c.k, .int .i64 x.c.n, .bool x.c.g, .int .i64 x.seen]) ∧ (d 6 = true → (d 7 = false → ∃ b : Nat, u48 = .slice (some ⟨b, 0, none⟩) 1 1 ∧ x0.heap[b]? = some (.cells #[.string x.c.a, .string x.c.i, .int .i64 x.c.s, .int .i64 x.c.o, .int .i64 x.c.l, .int .i64 x.c.t, .int .i64 x.c.k, .int .i64 x.c.n, .bool x.c.g, .int .i64 x.seen] 65 (0, 0)))) ∧ (d 7 = true → (d 11 = false → x0.ownsRow w5.heap.size 65 10 u49 (K + 1) (flat ec (S.take K ++ [x])))) ∧ (d 8 = true → u50 = .slice (some ⟨g, 0, none⟩) m gc) ∧ (d 9 = true → u51 = .int .i64 ((K : Nat) : Int)) ∧ (d 10 = true → u52 = .slice (some ⟨g, 0, none⟩) (m - K) (gc - K)) ∧ (d 11 = true → x0.ownsRow w5.heap.size 65 10 u53 (K + 1 + (m - K)) (flat ec (S.take K ++ [x] ++ S.drop K))) ∧ (d 12 = true → u7 = u53) ∧ Below w5.heap.size w5 x0 ∧ (d 7 = true → d 4 = true) ∧ (d 11 = true → d 7 = true) ∧ (d 12 = true → d 1 = true ∧ d 8 = true ∧ d 11 = true) ∧ (d 12 = false → u7 = .slice (some ⟨g, 0, none⟩) m gc)) (by simp only [Act.put, List.setIfInBounds_toArray, List.set_cons_succ, List.set_cons_zero]; rfl) (by kernel_rfl) (by kernel_rfl) ?_ ?_ ?_
                · refine ⟨_, _, _, _, _, _, _, _, _, _, _, _, _, rfl, ?_, ?_, ?_, ?_, ?_, ?_, ?_, ?_, ?_, ?_, ?_, ?_, ?_, ?_, ?_, ?_, ?_, ?_⟩
                  · intro h; cases h
                  · intro h; cases h
                  · intro h; cases h
                  · intro h; cases h
                  · intro h; cases h
                  · intro h; cases h
                  · intro h; cases h
                  · intro h; cases h
                  · intro h; cases h
                  · intro h; cases h
                  · intro h; cases h
                  · intro h; cases h
                  · intro h; cases h
                  · exact (Below.refl _ _).drew
                  · exact (fun h => by cases h)
                  · exact (fun h => by cases h)
                  · exact (fun h => by cases h)
                  · exact (fun _ => rfl)
                · refine stepsOk_cons (k := 0) ?_ (stepsOk_cons (k := 1) ?_ (stepsOk_cons (k := 2) ?_ (stepsOk_cons (k := 3) ?_ (stepsOk_cons (k := 4) ?_ (stepsOk_cons (k := 5) ?_ (stepsOk_cons (k := 6) ?_ (stepsOk_cons (k := 7) ?_ (stepsOk_cons (k := 8) ?_ (stepsOk_cons (k := 9) ?_ (stepsOk_cons (k := 10) ?_ (stepsOk_cons (k := 11) ?_ (stepsOk_cons (k := 12) ?_ stepsOk_nil))))))))))))
                  · unfold StepOk
                    rintro d act x0 ⟨u42, u43, u44, u45, u46, u47, u48, u49, u50, u51, u52, u53, u7, rfl, f0, f1, f2, f3, f4, f5, f6, f7, f8, f9, f10, f11, f12, g0, g1, g2, g3, g4⟩ hd hdep Kc hKc
                    rw [if_pos (by rfl)]
                    go_big_op
                    refine hKc _ _ ⟨_, _, _, _, _, _, _, _, _, _, _, _, _, rfl, ?_, ?_, ?_, ?_, ?_, ?_, ?_, ?_, ?_, ?_, ?_, ?_, ?_, ?_, ?_, ?_, ?_, ?_⟩
                    · exact (fun _ => (fun h5 => ⟨_, rfl, blk_new _ _ _, g0.size⟩))
                    · exact (fun h => f1 (up h rfl))
                    · exact (fun h => f2 (up h rfl))
                    · exact (fun h => f3 (up h rfl))
                    · exact (fun h h5 => (f4 (up h rfl) (dn h5)).alloc _)
                    · exact (fun h => f5 (up h rfl))
                    · exact (fun h h5 => by obtain ⟨b, e1, e2⟩ := f6 (up h rfl) (dn h5); exact ⟨b, e1, blk_alloc e2 _⟩)
                    · exact (fun h h5 => (f7 (up h rfl) (dn h5)).alloc _)
                    · exact (fun h => f8 (up h rfl))
                    · exact (fun h => f9 (up h rfl))
                    · exact (fun h => f10 (up h rfl))
                    · exact (fun h => (f11 (up h rfl)).alloc _)
                    · exact (fun h => f12 (up h rfl))
                    · exact (g0.alloc g0.size _)
                    · exact (fun h => upl (g1 (up h rfl)))
                    · exact (fun h => upl (g2 (up h rfl)))
                    · exact (fun h => ⟨upl (g3 (up h rfl)).1, upl (g3 (up h rfl)).2.1, upl (g3 (up h rfl)).2.2⟩)
                    · exact (fun h => g4 (dn h))
                  · unfold StepOk
                    rintro d act x0 ⟨u42, u43, u44, u45, u46, u47, u48, u49, u50, u51, u52, u53, u7, rfl, f0, f1, f2, f3, f4, f5, f6, f7, f8, f9, f10, f11, f12, g0, g1, g2, g3, g4⟩ hd hdep Kc hKc
                    have h12 : d 12 = false := by
                      cases h : d 12 with
                      | false => rfl
                      | true => have := (g3 h).1; rw [hd] at this; cases this
                    obtain rfl := g4 h12
                    rw [if_pos (by rfl)]
                    go_big_op
                    refine hKc _ _ ⟨_, _, _, _, _, _, _, _, _, _, _, _, _, rfl, ?_, ?_, ?_, ?_, ?_, ?_, ?_, ?_, ?_, ?_, ?_, ?_, ?_, ?_, ?_, ?_, ?_, ?_⟩
                    · exact (fun h h5 => f0 (up h rfl) (dn h5))
                    · exact (fun _ => rfl)
                    · exact (fun h => f2 (up h rfl))
                    · exact (fun h => f3 (up h rfl))
                    · exact (fun h h5 => f4 (up h rfl) (dn h5))
                    · exact (fun h => f5 (up h rfl))
                    · exact (fun h h5 => f6 (up h rfl) (dn h5))
                    · exact (fun h h5 => f7 (up h rfl) (dn h5))
                    · exact (fun h => f8 (up h rfl))
                    · exact (fun h => f9 (up h rfl))
                    · exact (fun h => f10 (up h rfl))
                    · exact (fun h => f11 (up h rfl))
                    · exact (fun h => f12 (up h rfl))
                    · exact g0
                    · exact (fun h => upl (g1 (up h rfl)))
                    · exact (fun h => upl (g2 (up h rfl)))
                    · exact (fun h => ⟨upl (g3 (up h rfl)).1, upl (g3 (up h rfl)).2.1, upl (g3 (up h rfl)).2.2⟩)
                    · exact (fun h => g4 (dn h))
                  · unfold StepOk
                    rintro d act x0 ⟨u42, u43, u44, u45, u46, u47, u48, u49, u50, u51, u52, u53, u7, rfl, f0, f1, f2, f3, f4, f5, f6, f7, f8, f9, f10, f11, f12, g0, g1, g2, g3, g4⟩ hd hdep Kc hKc
                    rw [if_pos (by rfl)]
                    go_big_op
                    refine hKc _ _ ⟨_, _, _, _, _, _, _, _, _, _, _, _, _, rfl, ?_, ?_, ?_, ?_, ?_, ?_, ?_, ?_, ?_, ?_, ?_, ?_, ?_, ?_, ?_, ?_, ?_, ?_⟩
                    · exact (fun h h5 => f0 (up h rfl) (dn h5))
                    · exact (fun h => f1 (up h rfl))
                    · exact (fun _ => rfl)
                    · exact (fun h => f3 (up h rfl))
                    · exact (fun h h5 => f4 (up h rfl) (dn h5))
                    · exact (fun h => f5 (up h rfl))
                    · exact (fun h h5 => f6 (up h rfl) (dn h5))
                    · exact (fun h h5 => f7 (up h rfl) (dn h5))
                    · exact (fun h => f8 (up h rfl))
                    · exact (fun h => f9 (up h rfl))
                    · exact (fun h => f10 (up h rfl))
                    · exact (fun h => f11 (up h rfl))
                    · exact (fun h => f12 (up h rfl))
                    · exact g0
                    · exact (fun h => upl (g1 (up h rfl)))
                    · exact (fun h => upl (g2 (up h rfl)))
                    · exact (fun h => ⟨upl (g3 (up h rfl)).1, upl (g3 (up h rfl)).2.1, upl (g3 (up h rfl)).2.2⟩)
                    · exact (fun h => g4 (dn h))
                  · unfold StepOk
                    rintro d act x0 ⟨u42, u43, u44, u45, u46, u47, u48, u49, u50, u51, u52, u53, u7, rfl, f0, f1, f2, f3, f4, f5, f6, f7, f8, f9, f10, f11, f12, g0, g1, g2, g3, g4⟩ hd hdep Kc hKc
                    have hd1 : d 1 = true := hdep ⟨1, .data⟩ (by simp) rfl
                    have hd2 : d 2 = true := hdep ⟨2, .data⟩ (by simp) rfl
                    obtain rfl := f1 hd1
                    obtain rfl := f2 hd2
                    rw [if_pos (by rfl)]
                    go_big_op
                    refine hKc _ _ ⟨_, _, _, _, _, _, _, _, _, _, _, _, _, rfl, ?_, ?_, ?_, ?_, ?_, ?_, ?_, ?_, ?_, ?_, ?_, ?_, ?_, ?_, ?_, ?_, ?_, ?_⟩
                    · exact (fun h h5 => f0 (up h rfl) (dn h5))
                    · exact (fun h => f1 (up h rfl))
                    · exact (fun h => f2 (up h rfl))
                    · exact (fun _ => rfl)
                    · exact (fun h h5 => f4 (up h rfl) (dn h5))
                    · exact (fun h => f5 (up h rfl))
                    · exact (fun h h5 => f6 (up h rfl) (dn h5))
                    · exact (fun h h5 => f7 (up h rfl) (dn h5))
                    · exact (fun h => f8 (up h rfl))
                    · exact (fun h => f9 (up h rfl))
                    · exact (fun h => f10 (up h rfl))
                    · exact (fun h => f11 (up h rfl))
                    · exact (fun h => f12 (up h rfl))
                    · exact g0
                    · exact (fun h => upl (g1 (up h rfl)))
                    · exact (fun h => upl (g2 (up h rfl)))
                    · exact (fun h => ⟨upl (g3 (up h rfl)).1, upl (g3 (up h rfl)).2.1, upl (g3 (up h rfl)).2.2⟩)
                    · exact (fun h => g4 (dn h))
                  · unfold StepOk
                    rintro d act x0 ⟨u42, u43, u44, u45, u46, u47, u48, u49, u50, u51, u52, u53, u7, rfl, f0, f1, f2, f3, f4, f5, f6, f7, f8, f9, f10, f11, f12, g0, g1, g2, g3, g4⟩ hd hdep Kc hKc
                    have hd0 : d 0 = true := hdep ⟨0, .data⟩ (by simp) rfl
                    have hd3 : d 3 = true := hdep ⟨3, .data⟩ (by simp) rfl
                    have h7 : d 7 = false := by
                      cases h : d 7 with
                      | false => rfl
                      | true => have := g1 h; rw [hd] at this; cases this
                    have h11 : d 11 = false := by
                      cases h : d 11 with
                      | false => rfl
                      | true => have := g2 h; rw [h7] at this; cases this
                    obtain ⟨b1, rfl, hb1, hge1⟩ := f0 hd0 hd
                    have f0o := own_emptyR hb1 hge1
                    obtain rfl := f3 hd3
                    rw [if_pos (by rfl)]
                    refine wp_append_own _ _ _ 53 rfl (w5.heap.size) 65 i0 En.zero.v 10 96 Try.underlying53 hi hz0 hz1 hz2 rfl (by decide) _ 0 (flat ec []) rfl f0o ⟨g, 0, none⟩ K gc (flat ec (S.take K)) rfl ?c0 ?c1 ?c2 ?c3 ?c4 ?c5 ?_
                    case c0 => rw [flat_len ec_len, HTL.out]
                    case c1 => intro j u hj; rw [add_off]; exact RE9.cells (SAt.take ec_len K (HCS.out.ext g0)) j u hj
                    case c2 => exact flat_one ec_one _
                    case c3 => unfold maxLen; omega
                    case c4 => omega
                    case c5 => exact g0.size
                    intro v' x1 hown' hgrow _
                    have gB : Below w5.heap.size w5 x1 := g0.grown hgrow g0.size (fun q hq => own_ge f0o hq)
                    refine hKc _ _ ⟨_, _, _, _, _, _, _, _, _, _, _, _, _, rfl, ?_, ?_, ?_, ?_, ?_, ?_, ?_, ?_, ?_, ?_, ?_, ?_, ?_, ?_, ?_, ?_, ?_, ?_⟩
                    · exact (fun h h5 => by simp at h5)
                    · exact (fun h => f1 (up h rfl))
                    · exact (fun h => f2 (up h rfl))
                    · exact (fun h => f3 (up h rfl))
                    · exact (fun _ => (fun h5 => by simpa [flat_nil] using hown'))
                    · exact (fun h => f5 (up h rfl))
                    · exact (fun h h5 => by obtain ⟨b, e1, e2⟩ := f6 (up h rfl) (dn h5); exact ⟨b, e1, (hgrow.block b (blk_lt e2) (by show some b ≠ some b1; simpa using blk_neR e2 hb1)).trans e2⟩)
                    · exact (fun h h5 => by have := up h rfl; rw [h7] at this; cases this)
                    · exact (fun h => f8 (up h rfl))
                    · exact (fun h => f9 (up h rfl))
                    · exact (fun h => f10 (up h rfl))
                    · exact (fun h => by have := up h rfl; rw [h11] at this; cases this)
                    · exact (fun h => f12 (up h rfl))
                    · exact gB
                    · exact (fun h => by simp)
                    · exact (fun h => upl (g2 (up h rfl)))
                    · exact (fun h => ⟨upl (g3 (up h rfl)).1, upl (g3 (up h rfl)).2.1, upl (g3 (up h rfl)).2.2⟩)
                    · exact (fun h => g4 (dn h))
                  · unfold StepOk
                    rintro d act x0 ⟨u42, u43, u44, u45, u46, u47, u48, u49, u50, u51, u52, u53, u7, rfl, f0, f1, f2, f3, f4, f5, f6, f7, f8, f9, f10, f11, f12, g0, g1, g2, g3, g4⟩ hd hdep Kc hKc
                    have hx5 := blk_cell (blk_ext g0 HRB.out)
                    have hl5 := blk_lt (blk_ext g0 HRB.out)
                    rw [if_pos (by rfl)]
                    go_big_op
                    refine hKc _ _ ⟨_, _, _, _, _, _, _, _, _, _, _, _, _, rfl, ?_, ?_, ?_, ?_, ?_, ?_, ?_, ?_, ?_, ?_, ?_, ?_, ?_, ?_, ?_, ?_, ?_, ?_⟩
                    · exact (fun h h5 => f0 (up h rfl) (dn h5))
                    · exact (fun h => f1 (up h rfl))
                    · exact (fun h => f2 (up h rfl))
                    · exact (fun h => f3 (up h rfl))
                    · exact (fun h h5 => f4 (up h rfl) (dn h5))
                    · exact (fun _ => rfl)
                    · exact (fun h h5 => f6 (up h rfl) (dn h5))
                    · exact (fun h h5 => f7 (up h rfl) (dn h5))
                    · exact (fun h => f8 (up h rfl))
                    · exact (fun h => f9 (up h rfl))
                    · exact (fun h => f10 (up h rfl))
                    · exact (fun h => f11 (up h rfl))
                    · exact (fun h => f12 (up h rfl))
                    · exact g0
                    · exact (fun h => upl (g1 (up h rfl)))
                    · exact (fun h => upl (g2 (up h rfl)))
                    · exact (fun h => ⟨upl (g3 (up h rfl)).1, upl (g3 (up h rfl)).2.1, upl (g3 (up h rfl)).2.2⟩)
                    · exact (fun h => g4 (dn h))
                  · unfold StepOk
                    rintro d act x0 ⟨u42, u43, u44, u45, u46, u47, u48, u49, u50, u51, u52, u53, u7, rfl, f0, f1, f2, f3, f4, f5, f6, f7, f8, f9, f10, f11, f12, g0, g1, g2, g3, g4⟩ hd hdep Kc hKc
                    have hd5 : d 5 = true := hdep ⟨5, .data⟩ (by simp) rfl
                    obtain rfl := f5 hd5
                    rw [if_pos (by rfl)]
                    go_big_op
                    refine hKc _ _ ⟨_, _, _, _, _, _, _, _, _, _, _, _, _, rfl, ?_, ?_, ?_, ?_, ?_, ?_, ?_, ?_, ?_, ?_, ?_, ?_, ?_, ?_, ?_, ?_, ?_, ?_⟩
                    · exact (fun h h5 => by obtain ⟨b1, e1, e2, e3⟩ := f0 (up h rfl) (dn h5); exact ⟨b1, e1, blk_alloc e2 _, e3⟩)
                    · exact (fun h => f1 (up h rfl))
                    · exact (fun h => f2 (up h rfl))
                    · exact (fun h => f3 (up h rfl))
                    · exact (fun h h5 => (f4 (up h rfl) (dn h5)).alloc _)
                    · exact (fun h => f5 (up h rfl))
                    · exact (fun _ => (fun h5 => ⟨_, rfl, blk_new _ _ _⟩))
                    · exact (fun h h5 => (f7 (up h rfl) (dn h5)).alloc _)
                    · exact (fun h => f8 (up h rfl))
                    · exact (fun h => f9 (up h rfl))
                    · exact (fun h => f10 (up h rfl))
                    · exact (fun h => (f11 (up h rfl)).alloc _)
                    · exact (fun h => f12 (up h rfl))
                    · exact (g0.alloc g0.size _)
                    · exact (fun h => upl (g1 (up h rfl)))
                    · exact (fun h => upl (g2 (up h rfl)))
                    · exact (fun h => ⟨upl (g3 (up h rfl)).1, upl (g3 (up h rfl)).2.1, upl (g3 (up h rfl)).2.2⟩)
                    · exact (fun h => g4 (dn h))
                  · unfold StepOk
                    rintro d act x0 ⟨u42, u43, u44, u45, u46, u47, u48, u49, u50, u51, u52, u53, u7, rfl, f0, f1, f2, f3, f4, f5, f6, f7, f8, f9, f10, f11, f12, g0, g1, g2, g3, g4⟩ hd hdep Kc hKc
                    have hd4 : d 4 = true := hdep ⟨4, .data⟩ (by simp) rfl
                    have hd6 : d 6 = true := hdep ⟨6, .data⟩ (by simp) rfl
                    have h11 : d 11 = false := by
                      cases h : d 11 with
                      | false => rfl
                      | true => have := g2 h; rw [hd] at this; cases this
                    have f4' := f4 hd4 hd
                    obtain ⟨b4, rfl, hb4⟩ := f6 hd6 hd
                    rw [if_pos (by rfl)]
                    refine wp_append_own _ _ _ 53 rfl (w5.heap.size) 65 i0 En.zero.v 10 96 Try.underlying53 hi hz0 hz1 hz2 rfl (by decide) _ K (flat ec (S.take K)) rfl f4' ⟨b4, 0, none⟩ 1 1 (ec x) rfl ?c0 ?c1 ?c2 ?c3 ?c4 ?c5 ?_
                    case c0 => rfl
                    case c1 => intro j u hj; rw [add_off, Nat.zero_add, blk_cell hb4]; simpa [ec] using hj
                    case c2 => exact ec_one x
                    case c3 => unfold maxLen; omega
                    case c4 => omega
                    case c5 => exact g0.size
                    intro v' x1 hown' hgrow _
                    have gB : Below w5.heap.size w5 x1 := g0.grown hgrow g0.size (fun q hq => own_ge f4' hq)
                    refine hKc _ _ ⟨_, _, _, _, _, _, _, _, _, _, _, _, _, rfl, ?_, ?_, ?_, ?_, ?_, ?_, ?_, ?_, ?_, ?_, ?_, ?_, ?_, ?_, ?_, ?_, ?_, ?_⟩
                    · exact (fun h h5 => by have := dn h5; rw [hd4] at this; cases this)
                    · exact (fun h => f1 (up h rfl))
                    · exact (fun h => f2 (up h rfl))
                    · exact (fun h => f3 (up h rfl))
                    · exact (fun h h5 => by simp at h5)
                    · exact (fun h => f5 (up h rfl))
                    · exact (fun h h5 => by simp at h5)
                    · exact (fun _ => (fun h5 => by rw [flat_snoc]; exact hown'))
                    · exact (fun h => f8 (up h rfl))
                    · exact (fun h => f9 (up h rfl))
                    · exact (fun h => f10 (up h rfl))
                    · exact (fun h => by have := up h rfl; rw [h11] at this; cases this)
                    · exact (fun h => f12 (up h rfl))
                    · exact gB
                    · exact (fun h => upl hd4)
                    · exact (fun h => upl (g2 (up h rfl)))
                    · exact (fun h => ⟨upl (g3 (up h rfl)).1, upl (g3 (up h rfl)).2.1, upl (g3 (up h rfl)).2.2⟩)
                    · exact (fun h => g4 (dn h))
                  · unfold StepOk
                    rintro d act x0 ⟨u42, u43, u44, u45, u46, u47, u48, u49, u50, u51, u52, u53, u7, rfl, f0, f1, f2, f3, f4, f5, f6, f7, f8, f9, f10, f11, f12, g0, g1, g2, g3, g4⟩ hd hdep Kc hKc
                    have h12 : d 12 = false := by
                      cases h : d 12 with
                      | false => rfl
                      | true => have := (g3 h).2.1; rw [hd] at this; cases this
                    obtain rfl := g4 h12
                    rw [if_pos (by rfl)]
                    go_big_op
                    refine hKc _ _ ⟨_, _, _, _, _, _, _, _, _, _, _, _, _, rfl, ?_, ?_, ?_, ?_, ?_, ?_, ?_, ?_, ?_, ?_, ?_, ?_, ?_, ?_, ?_, ?_, ?_, ?_⟩
                    · exact (fun h h5 => f0 (up h rfl) (dn h5))
                    · exact (fun h => f1 (up h rfl))
                    · exact (fun h => f2 (up h rfl))
                    · exact (fun h => f3 (up h rfl))
                    · exact (fun h h5 => f4 (up h rfl) (dn h5))
                    · exact (fun h => f5 (up h rfl))
                    · exact (fun h h5 => f6 (up h rfl) (dn h5))
                    · exact (fun h h5 => f7 (up h rfl) (dn h5))
                    · exact (fun _ => rfl)
                    · exact (fun h => f9 (up h rfl))
                    · exact (fun h => f10 (up h rfl))
                    · exact (fun h => f11 (up h rfl))
                    · exact (fun h => f12 (up h rfl))
                    · exact g0
                    · exact (fun h => upl (g1 (up h rfl)))
                    · exact (fun h => upl (g2 (up h rfl)))
                    · exact (fun h => ⟨upl (g3 (up h rfl)).1, upl (g3 (up h rfl)).2.1, upl (g3 (up h rfl)).2.2⟩)
                    · exact (fun h => g4 (dn h))
                  · unfold StepOk
                    rintro d act x0 ⟨u42, u43, u44, u45, u46, u47, u48, u49, u50, u51, u52, u53, u7, rfl, f0, f1, f2, f3, f4, f5, f6, f7, f8, f9, f10, f11, f12, g0, g1, g2, g3, g4⟩ hd hdep Kc hKc
                    rw [if_pos (by rfl)]
                    go_big_op
                    refine hKc _ _ ⟨_, _, _, _, _, _, _, _, _, _, _, _, _, rfl, ?_, ?_, ?_, ?_, ?_, ?_, ?_, ?_, ?_, ?_, ?_, ?_, ?_, ?_, ?_, ?_, ?_, ?_⟩
                    · exact (fun h h5 => f0 (up h rfl) (dn h5))
                    · exact (fun h => f1 (up h rfl))
                    · exact (fun h => f2 (up h rfl))
                    · exact (fun h => f3 (up h rfl))
                    · exact (fun h h5 => f4 (up h rfl) (dn h5))
                    · exact (fun h => f5 (up h rfl))
                    · exact (fun h h5 => f6 (up h rfl) (dn h5))
                    · exact (fun h h5 => f7 (up h rfl) (dn h5))
                    · exact (fun h => f8 (up h rfl))
                    · exact (fun _ => rfl)
                    · exact (fun h => f10 (up h rfl))
                    · exact (fun h => f11 (up h rfl))
                    · exact (fun h => f12 (up h rfl))
                    · exact g0
                    · exact (fun h => upl (g1 (up h rfl)))
                    · exact (fun h => upl (g2 (up h rfl)))
                    · exact (fun h => ⟨upl (g3 (up h rfl)).1, upl (g3 (up h rfl)).2.1, upl (g3 (up h rfl)).2.2⟩)
                    · exact (fun h => g4 (dn h))
                  · unfold StepOk
                    rintro d act x0 ⟨u42, u43, u44, u45, u46, u47, u48, u49, u50, u51, u52, u53, u7, rfl, f0, f1, f2, f3, f4, f5, f6, f7, f8, f9, f10, f11, f12, g0, g1, g2, g3, g4⟩ hd hdep Kc hKc
                    have hd8 : d 8 = true := hdep ⟨8, .data⟩ (by simp) rfl
                    have hd9 : d 9 = true := hdep ⟨9, .data⟩ (by simp) rfl
                    obtain rfl := f8 hd8
                    obtain rfl := f9 hd9
                    rw [if_pos (by rfl)]
                    go_big_op
                    refine hKc _ _ ⟨_, _, _, _, _, _, _, _, _, _, _, _, _, rfl, ?_, ?_, ?_, ?_, ?_, ?_, ?_, ?_, ?_, ?_, ?_, ?_, ?_, ?_, ?_, ?_, ?_, ?_⟩
                    · exact (fun h h5 => f0 (up h rfl) (dn h5))
                    · exact (fun h => f1 (up h rfl))
                    · exact (fun h => f2 (up h rfl))
                    · exact (fun h => f3 (up h rfl))
                    · exact (fun h h5 => f4 (up h rfl) (dn h5))
                    · exact (fun h => f5 (up h rfl))
                    · exact (fun h h5 => f6 (up h rfl) (dn h5))
                    · exact (fun h h5 => f7 (up h rfl) (dn h5))
                    · exact (fun h => f8 (up h rfl))
                    · exact (fun h => f9 (up h rfl))
                    · exact (fun _ => rfl)
                    · exact (fun h => f11 (up h rfl))
                    · exact (fun h => f12 (up h rfl))
                    · exact g0
                    · exact (fun h => upl (g1 (up h rfl)))
                    · exact (fun h => upl (g2 (up h rfl)))
                    · exact (fun h => ⟨upl (g3 (up h rfl)).1, upl (g3 (up h rfl)).2.1, upl (g3 (up h rfl)).2.2⟩)
                    · exact (fun h => g4 (dn h))
                  · unfold StepOk
                    rintro d act x0 ⟨u42, u43, u44, u45, u46, u47, u48, u49, u50, u51, u52, u53, u7, rfl, f0, f1, f2, f3, f4, f5, f6, f7, f8, f9, f10, f11, f12, g0, g1, g2, g3, g4⟩ hd hdep Kc hKc
                    have hd7 : d 7 = true := hdep ⟨7, .data⟩ (by simp) rfl
                    have hd10 : d 10 = true := hdep ⟨10, .data⟩ (by simp) rfl
                    have hd4 := g1 hd7
                    have f7' := f7 hd7 hd
                    obtain rfl := f10 hd10
                    rw [if_pos (by rfl)]
                    refine wp_append_own _ _ _ 53 rfl (w5.heap.size) 65 i0 En.zero.v 10 96 Try.underlying53 hi hz0 hz1 hz2 rfl (by decide) _ (K + 1) (flat ec (S.take K ++ [x])) rfl f7' ⟨g, 0, none⟩ (m - K) (gc - K) (flat ec (S.drop K)) rfl ?c0 ?c1 ?c2 ?c3 ?c4 ?c5 ?_
                    case c0 => rw [flat_len ec_len, HDL.out]
                    case c1 => intro j u hj; rw [List.eq_nil_of_length_eq_zero (show (S.drop K).length = 0 from by rw [HDL.out]; have := of_eq_true hce; omega)] at hj; simp [flat] at hj
                    case c2 => exact flat_one ec_one _
                    case c3 => unfold maxLen; omega
                    case c4 => omega
                    case c5 => exact g0.size
                    intro v' x1 hown' hgrow _
                    have gB : Below w5.heap.size w5 x1 := g0.grown hgrow g0.size (fun q hq => own_ge f7' hq)
                    refine hKc _ _ ⟨_, _, _, _, _, _, _, _, _, _, _, _, _, rfl, ?_, ?_, ?_, ?_, ?_, ?_, ?_, ?_, ?_, ?_, ?_, ?_, ?_, ?_, ?_, ?_, ?_, ?_⟩
                    · exact (fun h h5 => by have := dn h5; rw [hd4] at this; cases this)
                    · exact (fun h => f1 (up h rfl))
                    · exact (fun h => f2 (up h rfl))
                    · exact (fun h => f3 (up h rfl))
                    · exact (fun h h5 => by have := dn h5; rw [hd7] at this; cases this)
                    · exact (fun h => f5 (up h rfl))
                    · exact (fun h h5 => by have := dn h5; rw [hd7] at this; cases this)
                    · exact (fun h h5 => by simp at h5)
                    · exact (fun h => f8 (up h rfl))
                    · exact (fun h => f9 (up h rfl))
                    · exact (fun h => f10 (up h rfl))
                    · exact (fun _ => (by rw [flat_app]; exact hown'))
                    · exact (fun h => by have := (g3 (up h rfl)).2.2; rw [hd] at this; cases this)
                    · exact gB
                    · exact (fun h => upl (g1 (up h rfl)))
                    · exact (fun h => upl hd7)
                    · exact (fun h => ⟨upl (g3 (up h rfl)).1, upl (g3 (up h rfl)).2.1, upl (g3 (up h rfl)).2.2⟩)
                    · exact (fun h => g4 (dn h))
                  · unfold StepOk
                    rintro d act x0 ⟨u42, u43, u44, u45, u46, u47, u48, u49, u50, u51, u52, u53, u7, rfl, f0, f1, f2, f3, f4, f5, f6, f7, f8, f9, f10, f11, f12, g0, g1, g2, g3, g4⟩ hd hdep Kc hKc
                    have hd1 : d 1 = true := hdep ⟨1, .phase⟩ (by simp) rfl
                    have hd8 : d 8 = true := hdep ⟨8, .phase⟩ (by simp) rfl
                    have hd11 : d 11 = true := hdep ⟨11, .data⟩ (by simp) rfl
                    rw [if_pos (by rfl)]
                    go_big_op
                    refine hKc _ _ ⟨_, _, _, _, _, _, _, _, _, _, _, _, _, rfl, ?_, ?_, ?_, ?_, ?_, ?_, ?_, ?_, ?_, ?_, ?_, ?_, ?_, ?_, ?_, ?_, ?_, ?_⟩
                    · exact (fun h h5 => f0 (up h rfl) (dn h5))
                    · exact (fun h => f1 (up h rfl))
                    · exact (fun h => f2 (up h rfl))
                    · exact (fun h => f3 (up h rfl))
                    · exact (fun h h5 => f4 (up h rfl) (dn h5))
                    · exact (fun h => f5 (up h rfl))
                    · exact (fun h h5 => f6 (up h rfl) (dn h5))
                    · exact (fun h h5 => f7 (up h rfl) (dn h5))
                    · exact (fun h => f8 (up h rfl))
                    · exact (fun h => f9 (up h rfl))
                    · exact (fun h => f10 (up h rfl))
                    · exact (fun h => f11 (up h rfl))
                    · exact (fun _ => rfl)
                    · exact g0
                    · exact (fun h => upl (g1 (up h rfl)))
                    · exact (fun h => upl (g2 (up h rfl)))
                    · exact (fun h => ⟨upl hd1, upl hd8, upl hd11⟩)
                    · exact (fun h => by simp at h)
                · rintro d act x0 ⟨u42, u43, u44, u45, u46, u47, u48, u49, u50, u51, u52, u53, u7, rfl, f0, f1, f2, f3, f4, f5, f6, f7, f8, f9, f10, f11, f12, g0, g1, g2, g3, g4⟩ hall
                
                  have f11' := f11 (hall 11 (by decide))
                  have f12' := f12 (hall 12 (by decide))
                  subst f12'
                  have HN7 := Lib.hid f11'
                  have HG0 := Lib.hid g0
                  clear f0 f1 f2 f3 f4 f5 f6 f7 f8 f9 f10 f11 f12 g0 g1 g2 g3 g4 hall f11'
                  go_wp2
                  go_roundw
                  case rel => exact ⟨J + 1, by omega, by go_num, by rw [HST.out]; unfold OwnR9 OwnR; have h9 := ownsRow_base HN7.out HBW.out.size; rw [List.length_append, List.length_append, HTL.out, HDL.out]; exact h9, ext_trans HBW.out HG0.out⟩
                  case measure => simp [intOf]; omega
              · refine wp_region_inv_eq (J := fun A d act x0 => ∃ u42 u43 u44 u45 u46 u47 u48 u49 u50 u51 u52 u53 u7 : Value, act = (((((((((((((A.put (some 42) u42).put (some 43) u43).put (some 44) u44).put (some 45) u45).put (some 46) u46).put (some 47) u47).put (some 48) u48).put (some 49) u49).put (some 50) u50).put (some 51) u51).put (some 52) u52).put (some 53) u53).put (some 7) u7) ∧ (d 0 = true → (d 4 = false → ∃ b1 : Nat, u42 = .slice (some ⟨b1, 0, none⟩) 0 0 ∧ x0.heap[b1]? = some (.cells #[] 65 (0, 0)) ∧ w5.heap.size ≤ b1)) ∧ (d 1 = true → u43 = .slice (some ⟨g, 0, none⟩) m gc) ∧ (d 2 = true → u44 = .int .i64 ((K : Nat) : Int)) ∧ (d 3 = true → u45 = .slice (some ⟨g, 0, none⟩) K gc) ∧ (d 4 = true → (d 7 = false → x0.ownsRow w5.heap.size 65 10 u46 K (flat ec (S.take K)))) ∧ (d 5 = true → u47 = .agg #[.string x.c.a, .string x.c.i, .int .i64 x.c.s, .int .i64 x.c.o, .int .i64 x.c.l, .int .i64 x.c.t, .int .i64 x.c.k, .int .i64 x.c.n, .bool x.c.g, .int .i64 x.seen]) ∧ (d 6 = true → (d 7 = false → ∃ b : Nat, u48 = .slice (some ⟨b, 0, none⟩) 1 1 ∧ x0.heap[b]? = some (.cells #[.string x.c.a, .string x.c.i, .int .i64 x.c.s, .int .i64 x.c.o, .int .i64 x.c.l, .int .i64 x.c.t, .int .i64 x.c.k, .int .i64 x.c.n, .bool x.c.g, .int .i64 x.seen] 65 (0, 0)))) ∧ (d 7 = true → (d 11 = false → x0.ownsRow w5.heap.size 65 10 u49 (K + 1) (flat ec (S.take K ++ [x])))) ∧ (d 8 = true → u50 = .slice (some ⟨g, 0, none⟩) m gc) ∧ (d 9 = true → u51 = .int .i64 ((K : Nat) : Int)) ∧ (d 10 = true → u52 = .slice (some ⟨g, K * 10, none⟩) (m - K) (gc - K)) ∧ (d 11 = true → x0.ownsRow w5.heap.size 65 10 u53 (K + 1 + (m - K)) (flat ec (S.take K ++ [x] ++ S.drop K))) ∧ (d 12 = true → u7 = u53) ∧ Below w5.heap.size w5 x0 ∧ (d 7 = true → d 4 = true) ∧ (d 11 = true → d 7 = true) ∧ (d 12 = true → d 1 = true ∧ d 8 = true ∧ d 11 = true) ∧ (d 12 = false → u7 = .slice (some ⟨g, 0, none⟩) m gc)) (by simp only [Act.put, List.setIfInBounds_toArray, List.set_cons_succ, List.set_cons_zero]; rfl) (by kernel_rfl) (by kernel_rfl) ?_ ?_ ?_
                · refine ⟨_, _, _, _, _, _, _, _, _, _, _, _, _, rfl, ?_, ?_, ?_, ?_, ?_, ?_, ?_, ?_, ?_, ?_, ?_, ?_, ?_, ?_, ?_, ?_, ?_, ?_⟩
                  · intro h; cases h
                  · intro h; cases h
                  · intro h; cases h
                  · intro h; cases h
                  · intro h; cases h
                  · intro h; cases h
                  · intro h; cases h
                  · intro h; cases h
                  · intro h; cases h
                  · intro h; cases h
                  · intro h; cases h
                  · intro h; cases h
                  · intro h; cases h
                  · exact (Below.refl _ _).drew
                  · exact (fun h => by cases h)
                  · exact (fun h => by cases h)
                  · exact (fun h => by cases h)
                  · exact (fun _ => rfl)
                · refine stepsOk_cons (k := 0) ?_ (stepsOk_cons (k := 1) ?_ (stepsOk_cons (k := 2) ?_ (stepsOk_cons (k := 3) ?_ (stepsOk_cons (k := 4) ?_ (stepsOk_cons (k := 5) ?_ (stepsOk_cons (k := 6) ?_ (stepsOk_cons (k := 7) ?_ (stepsOk_cons (k := 8) ?_ (stepsOk_cons (k := 9) ?_ (stepsOk_cons (k := 10) ?_ (stepsOk_cons (k := 11) ?_ (stepsOk_cons (k := 12) ?_ stepsOk_nil))))))))))))
                  · unfold StepOk
                    rintro d act x0 ⟨u42, u43, u44, u45, u46, u47, u48, u49, u50, u51, u52, u53, u7, rfl, f0, f1, f2, f3, f4, f5, f6, f7, f8, f9, f10, f11, f12, g0, g1, g2, g3, g4⟩ hd hdep Kc hKc
                    rw [if_pos (by rfl)]
                    go_big_op
                    refine hKc _ _ ⟨_, _, _, _, _, _, _, _, _, _, _, _, _, rfl, ?_, ?_, ?_, ?_, ?_, ?_, ?_, ?_, ?_, ?_, ?_, ?_, ?_, ?_, ?_, ?_, ?_, ?_⟩
                    · exact (fun _ => (fun h5 => ⟨_, rfl, blk_new _ _ _, g0.size⟩))
                    · exact (fun h => f1 (up h rfl))
                    · exact (fun h => f2 (up h rfl))
                    · exact (fun h => f3 (up h rfl))
                    · exact (fun h h5 => (f4 (up h rfl) (dn h5)).alloc _)
                    · exact (fun h => f5 (up h rfl))
                    · exact (fun h h5 => by obtain ⟨b, e1, e2⟩ := f6 (up h rfl) (dn h5); exact ⟨b, e1, blk_alloc e2 _⟩)
                    · exact (fun h h5 => (f7 (up h rfl) (dn h5)).alloc _)
                    · exact (fun h => f8 (up h rfl))
                    · exact (fun h => f9 (up h rfl))
                    · exact (fun h => f10 (up h rfl))
                    · exact (fun h => (f11 (up h rfl)).alloc _)
                    · exact (fun h => f12 (up h rfl))
                    · exact (g0.alloc g0.size _)
                    · exact (fun h => upl (g1 (up h rfl)))
                    · exact (fun h => upl (g2 (up h rfl)))
                    · exact (fun h => ⟨upl (g3 (up h rfl)).1, upl (g3 (up h rfl)).2.1, upl (g3 (up h rfl)).2.2⟩)
                    · exact (fun h => g4 (dn h))
                  · unfold StepOk
                    rintro d act x0 ⟨u42, u43, u44, u45, u46, u47, u48, u49, u50, u51, u52, u53, u7, rfl, f0, f1, f2, f3, f4, f5, f6, f7, f8, f9, f10, f11, f12, g0, g1, g2, g3, g4⟩ hd hdep Kc hKc
                    have h12 : d 12 = false := by
                      cases h : d 12 with
                      | false => rfl
                      | true => have := (g3 h).1; rw [hd] at this; cases this
                    obtain rfl := g4 h12
                    rw [if_pos (by rfl)]
                    go_big_op
                    refine hKc _ _ ⟨_, _, _, _, _, _, _, _, _, _, _, _, _, rfl, ?_, ?_, ?_, ?_, ?_, ?_, ?_, ?_, ?_, ?_, ?_, ?_, ?_, ?_, ?_, ?_, ?_, ?_⟩
                    · exact (fun h h5 => f0 (up h rfl) (dn h5))
                    · exact (fun _ => rfl)
                    · exact (fun h => f2 (up h rfl))
                    · exact (fun h => f3 (up h rfl))
                    · exact (fun h h5 => f4 (up h rfl) (dn h5))
                    · exact (fun h => f5 (up h rfl))
                    · exact (fun h h5 => f6 (up h rfl) (dn h5))
                    · exact (fun h h5 => f7 (up h rfl) (dn h5))
                    · exact (fun h => f8 (up h rfl))
                    · exact (fun h => f9 (up h rfl))
                    · exact (fun h => f10 (up h rfl))
                    · exact (fun h => f11 (up h rfl))
                    · exact (fun h => f12 (up h rfl))
                    · exact g0
                    · exact (fun h => upl (g1 (up h rfl)))
                    · exact (fun h => upl (g2 (up h rfl)))
                    · exact (fun h => ⟨upl (g3 (up h rfl)).1, upl (g3 (up h rfl)).2.1, upl (g3 (up h rfl)).2.2⟩)
                    · exact (fun h => g4 (dn h))
                  · unfold StepOk
                    rintro d act x0 ⟨u42, u43, u44, u45, u46, u47, u48, u49, u50, u51, u52, u53, u7, rfl, f0, f1, f2, f3, f4, f5, f6, f7, f8, f9, f10, f11, f12, g0, g1, g2, g3, g4⟩ hd hdep Kc hKc
                    rw [if_pos (by rfl)]
                    go_big_op
                    refine hKc _ _ ⟨_, _, _, _, _, _, _, _, _, _, _, _, _, rfl, ?_, ?_, ?_, ?_, ?_, ?_, ?_, ?_, ?_, ?_, ?_, ?_, ?_, ?_, ?_, ?_, ?_, ?_⟩
                    · exact (fun h h5 => f0 (up h rfl) (dn h5))
                    · exact (fun h => f1 (up h rfl))
                    · exact (fun _ => rfl)
                    · exact (fun h => f3 (up h rfl))
                    · exact (fun h h5 => f4 (up h rfl) (dn h5))
                    · exact (fun h => f5 (up h rfl))
                    · exact (fun h h5 => f6 (up h rfl) (dn h5))
                    · exact (fun h h5 => f7 (up h rfl) (dn h5))
                    · exact (fun h => f8 (up h rfl))
                    · exact (fun h => f9 (up h rfl))
                    · exact (fun h => f10 (up h rfl))
                    · exact (fun h => f11 (up h rfl))
                    · exact (fun h => f12 (up h rfl))
                    · exact g0
                    · exact (fun h => upl (g1 (up h rfl)))
                    · exact (fun h => upl (g2 (up h rfl)))
                    · exact (fun h => ⟨upl (g3 (up h rfl)).1, upl (g3 (up h rfl)).2.1, upl (g3 (up h rfl)).2.2⟩)
                    · exact (fun h => g4 (dn h))
                  · unfold StepOk
                    rintro d act x0 ⟨u42, u43, u44, u45, u46, u47, u48, u49, u50, u51, u52, u53, u7, rfl, f0, f1, f2, f3, f4, f5, f6, f7, f8, f9, f10, f11, f12, g0, g1, g2, g3, g4⟩ hd hdep Kc hKc
                    have hd1 : d 1 = true := hdep ⟨1, .data⟩ (by simp) rfl
                    have hd2 : d 2 = true := hdep ⟨2, .data⟩ (by simp) rfl
                    obtain rfl := f1 hd1
                    obtain rfl := f2 hd2
                    rw [if_pos (by rfl)]
                    go_big_op
                    refine hKc _ _ ⟨_, _, _, _, _, _, _, _, _, _, _, _, _, rfl, ?_, ?_, ?_, ?_, ?_, ?_, ?_, ?_, ?_, ?_, ?_, ?_, ?_, ?_, ?_, ?_, ?_, ?_⟩
                    · exact (fun h h5 => f0 (up h rfl) (dn h5))
                    · exact (fun h => f1 (up h rfl))
                    · exact (fun h => f2 (up h rfl))
                    · exact (fun _ => rfl)
                    · exact (fun h h5 => f4 (up h rfl) (dn h5))
                    · exact (fun h => f5 (up h rfl))
                    · exact (fun h h5 => f6 (up h rfl) (dn h5))
                    · exact (fun h h5 => f7 (up h rfl) (dn h5))
                    · exact (fun h => f8 (up h rfl))
                    · exact (fun h => f9 (up h rfl))
                    · exact (fun h => f10 (up h rfl))
                    · exact (fun h => f11 (up h rfl))
                    · exact (fun h => f12 (up h rfl))
                    · exact g0
                    · exact (fun h => upl (g1 (up h rfl)))
                    · exact (fun h => upl (g2 (up h rfl)))
                    · exact (fun h => ⟨upl (g3 (up h rfl)).1, upl (g3 (up h rfl)).2.1, upl (g3 (up h rfl)).2.2⟩)
                    · exact (fun h => g4 (dn h))
                  · unfold StepOk
                    rintro d act x0 ⟨u42, u43, u44, u45, u46, u47, u48, u49, u50, u51, u52, u53, u7, rfl, f0, f1, f2, f3, f4, f5, f6, f7, f8, f9, f10, f11, f12, g0, g1, g2, g3, g4⟩ hd hdep Kc hKc
                    have hd0 : d 0 = true := hdep ⟨0, .data⟩ (by simp) rfl
                    have hd3 : d 3 = true := hdep ⟨3, .data⟩ (by simp) rfl
                    have h7 : d 7 = false := by
                      cases h : d 7 with
                      | false => rfl
                      | true => have := g1 h; rw [hd] at this; cases this
                    have h11 : d 11 = false := by
                      cases h : d 11 with
                      | false => rfl
                      | true => have := g2 h; rw [h7] at this; cases this
                    obtain ⟨b1, rfl, hb1, hge1⟩ := f0 hd0 hd
                    have f0o := own_emptyR hb1 hge1
                    obtain rfl := f3 hd3
                    rw [if_pos (by rfl)]
                    refine wp_append_own _ _ _ 53 rfl (w5.heap.size) 65 i0 En.zero.v 10 96 Try.underlying53 hi hz0 hz1 hz2 rfl (by decide) _ 0 (flat ec []) rfl f0o ⟨g, 0, none⟩ K gc (flat ec (S.take K)) rfl ?c0 ?c1 ?c2 ?c3 ?c4 ?c5 ?_
                    case c0 => rw [flat_len ec_len, HTL.out]
                    case c1 => intro j u hj; rw [add_off]; exact RE9.cells (SAt.take ec_len K (HCS.out.ext g0)) j u hj
                    case c2 => exact flat_one ec_one _
                    case c3 => unfold maxLen; omega
                    case c4 => omega
                    case c5 => exact g0.size
                    intro v' x1 hown' hgrow _
                    have gB : Below w5.heap.size w5 x1 := g0.grown hgrow g0.size (fun q hq => own_ge f0o hq)
                    refine hKc _ _ ⟨_, _, _, _, _, _, _, _, _, _, _, _, _, rfl, ?_, ?_, ?_, ?_, ?_, ?_, ?_, ?_, ?_, ?_, ?_, ?_, ?_, ?_, ?_, ?_, ?_, ?_⟩
                    · exact (fun h h5 => by simp at h5)
                    · exact (fun h => f1 (up h rfl))
                    · exact (fun h => f2 (up h rfl))
                    · exact (fun h => f3 (up h rfl))
                    · exact (fun _ => (fun h5 => by simpa [flat_nil] using hown'))
                    · exact (fun h => f5 (up h rfl))
                    · exact (fun h h5 => by obtain ⟨b, e1, e2⟩ := f6 (up h rfl) (dn h5); exact ⟨b, e1, (hgrow.block b (blk_lt e2) (by show some b ≠ some b1; simpa using blk_neR e2 hb1)).trans e2⟩)
                    · exact (fun h h5 => by have := up h rfl; rw [h7] at this; cases this)
                    · exact (fun h => f8 (up h rfl))
                    · exact (fun h => f9 (up h rfl))
                    · exact (fun h => f10 (up h rfl))
                    · exact (fun h => by have := up h rfl; rw [h11] at this; cases this)
                    · exact (fun h => f12 (up h rfl))
                    · exact gB
                    · exact (fun h => by simp)
                    · exact (fun h => upl (g2 (up h rfl)))
                    · exact (fun h => ⟨upl (g3 (up h rfl)).1, upl (g3 (up h rfl)).2.1, upl (g3 (up h rfl)).2.2⟩)
                    · exact (fun h => g4 (dn h))
                  · unfold StepOk
                    rintro d act x0 ⟨u42, u43, u44, u45, u46, u47, u48, u49, u50, u51, u52, u53, u7, rfl, f0, f1, f2, f3, f4, f5, f6, f7, f8, f9, f10, f11, f12, g0, g1, g2, g3, g4⟩ hd hdep Kc hKc
                    have hx5 := blk_cell (blk_ext g0 HRB.out)
                    have hl5 := blk_lt (blk_ext g0 HRB.out)
                    rw [if_pos (by rfl)]
                    go_big_op
                    refine hKc _ _ ⟨_, _, _, _, _, _, _, _, _, _, _, _, _, rfl, ?_, ?_, ?_, ?_, ?_, ?_, ?_, ?_, ?_, ?_, ?_, ?_, ?_, ?_, ?_, ?_, ?_, ?_⟩
                    · exact (fun h h5 => f0 (up h rfl) (dn h5))
                    · exact (fun h => f1 (up h rfl))
                    · exact (fun h => f2 (up h rfl))
                    · exact (fun h => f3 (up h rfl))
                    · exact (fun h h5 => f4 (up h rfl) (dn h5))
                    · exact (fun _ => rfl)
                    · exact (fun h h5 => f6 (up h rfl) (dn h5))
                    · exact (fun h h5 => f7 (up h rfl) (dn h5))
                    · exact (fun h => f8 (up h rfl))
                    · exact (fun h => f9 (up h rfl))
                    · exact (fun h => f10 (up h rfl))
                    · exact (fun h => f11 (up h rfl))
                    · exact (fun h => f12 (up h rfl))
                    · exact g0
                    · exact (fun h => upl (g1 (up h rfl)))
                    · exact (fun h => upl (g2 (up h rfl)))
                    · exact (fun h => ⟨upl (g3 (up h rfl)).1, upl (g3 (up h rfl)).2.1, upl (g3 (up h rfl)).2.2⟩)
                    · exact (fun h => g4 (dn h))
                  · unfold StepOk
                    rintro d act x0 ⟨u42, u43, u44, u45, u46, u47, u48, u49, u50, u51, u52, u53, u7, rfl, f0, f1, f2, f3, f4, f5, f6, f7, f8, f9, f10, f11, f12, g0, g1, g2, g3, g4⟩ hd hdep Kc hKc
                    have hd5 : d 5 = true := hdep ⟨5, .data⟩ (by simp) rfl
                    obtain rfl := f5 hd5
                    rw [if_pos (by rfl)]
                    go_big_op
                    refine hKc _ _ ⟨_, _, _, _, _, _, _, _, _, _, _, _, _, rfl, ?_, ?_, ?_, ?_, ?_, ?_, ?_, ?_, ?_, ?_, ?_, ?_, ?_, ?_, ?_, ?_, ?_, ?_⟩
                    · exact (fun h h5 => by obtain ⟨b1, e1, e2, e3⟩ := f0 (up h rfl) (dn h5); exact ⟨b1, e1, blk_alloc e2 _, e3⟩)
                    · exact (fun h => f1 (up h rfl))
                    · exact (fun h => f2 (up h rfl))
                    · exact (fun h => f3 (up h rfl))
                    · exact (fun h h5 => (f4 (up h rfl) (dn h5)).alloc _)
                    · exact (fun h => f5 (up h rfl))
                    · exact (fun _ => (fun h5 => ⟨_, rfl, blk_new _ _ _⟩))
                    · exact (fun h h5 => (f7 (up h rfl) (dn h5)).alloc _)
                    · exact (fun h => f8 (up h rfl))
                    · exact (fun h => f9 (up h rfl))
                    · exact (fun h => f10 (up h rfl))
                    · exact (fun h => (f11 (up h rfl)).alloc _)
                    · exact (fun h => f12 (up h rfl))
                    · exact (g0.alloc g0.size _)
                    · exact (fun h => upl (g1 (up h rfl)))
                    · exact (fun h => upl (g2 (up h rfl)))
                    · exact (fun h => ⟨upl (g3 (up h rfl)).1, upl (g3 (up h rfl)).2.1, upl (g3 (up h rfl)).2.2⟩)
                    · exact (fun h => g4 (dn h))
                  · unfold StepOk
                    rintro d act x0 ⟨u42, u43, u44, u45, u46, u47, u48, u49, u50, u51, u52, u53, u7, rfl, f0, f1, f2, f3, f4, f5, f6, f7, f8, f9, f10, f11, f12, g0, g1, g2, g3, g4⟩ hd hdep Kc hKc
                    have hd4 : d 4 = true := hdep ⟨4, .data⟩ (by simp) rfl
                    have hd6 : d 6 = true := hdep ⟨6, .data⟩ (by simp) rfl
                    have h11 : d 11 = false := by
                      cases h : d 11 with
                      | false => rfl
                      | true => have := g2 h; rw [hd] at this; cases this
                    have f4' := f4 hd4 hd
                    obtain ⟨b4, rfl, hb4⟩ := f6 hd6 hd
                    rw [if_pos (by rfl)]
                    refine wp_append_own _ _ _ 53 rfl (w5.heap.size) 65 i0 En.zero.v 10 96 Try.underlying53 hi hz0 hz1 hz2 rfl (by decide) _ K (flat ec (S.take K)) rfl f4' ⟨b4, 0, none⟩ 1 1 (ec x) rfl ?c0 ?c1 ?c2 ?c3 ?c4 ?c5 ?_
                    case c0 => rfl
                    case c1 => intro j u hj; rw [add_off, Nat.zero_add, blk_cell hb4]; simpa [ec] using hj
                    case c2 => exact ec_one x
                    case c3 => unfold maxLen; omega
                    case c4 => omega
                    case c5 => exact g0.size
                    intro v' x1 hown' hgrow _
                    have gB : Below w5.heap.size w5 x1 := g0.grown hgrow g0.size (fun q hq => own_ge f4' hq)
                    refine hKc _ _ ⟨_, _, _, _, _, _, _, _, _, _, _, _, _, rfl, ?_, ?_, ?_, ?_, ?_, ?_, ?_, ?_, ?_, ?_, ?_, ?_, ?_, ?_, ?_, ?_, ?_, ?_⟩
                    · exact (fun h h5 => by have := dn h5; rw [hd4] at this; cases this)
                    · exact (fun h => f1 (up h rfl))
                    · exact (fun h => f2 (up h rfl))
                    · exact (fun h => f3 (up h rfl))
                    · exact (fun h h5 => by simp at h5)
                    · exact (fun h => f5 (up h rfl))
                    · exact (fun h h5 => by simp at h5)
                    · exact (fun _ => (fun h5 => by rw [flat_snoc]; exact hown'))
                    · exact (fun h => f8 (up h rfl))
                    · exact (fun h => f9 (up h rfl))
                    · exact (fun h => f10 (up h rfl))
                    · exact (fun h => by have := up h rfl; rw [h11] at this; cases this)
                    · exact (fun h => f12 (up h rfl))
                    · exact gB
                    · exact (fun h => upl hd4)
                    · exact (fun h => upl (g2 (up h rfl)))
                    · exact (fun h => ⟨upl (g3 (up h rfl)).1, upl (g3 (up h rfl)).2.1, upl (g3 (up h rfl)).2.2⟩)
                    · exact (fun h => g4 (dn h))
                  · unfold StepOk
                    rintro d act x0 ⟨u42, u43, u44, u45, u46, u47, u48, u49, u50, u51, u52, u53, u7, rfl, f0, f1, f2, f3, f4, f5, f6, f7, f8, f9, f10, f11, f12, g0, g1, g2, g3, g4⟩ hd hdep Kc hKc
                    have h12 : d 12 = false := by
                      cases h : d 12 with
                      | false => rfl
                      | true => have := (g3 h).2.1; rw [hd] at this; cases this
                    obtain rfl := g4 h12
                    rw [if_pos (by rfl)]
                    go_big_op
                    refine hKc _ _ ⟨_, _, _, _, _, _, _, _, _, _, _, _, _, rfl, ?_, ?_, ?_, ?_, ?_, ?_, ?_, ?_, ?_, ?_, ?_, ?_, ?_, ?_, ?_, ?_, ?_, ?_⟩
                    · exact (fun h h5 => f0 (up h rfl) (dn h5))
                    · exact (fun h => f1 (up h rfl))
                    · exact (fun h => f2 (up h rfl))
                    · exact (fun h => f3 (up h rfl))
                    · exact (fun h h5 => f4 (up h rfl) (dn h5))
                    · exact (fun h => f5 (up h rfl))
                    · exact (fun h h5 => f6 (up h rfl) (dn h5))
                    · exact (fun h h5 => f7 (up h rfl) (dn h5))
                    · exact (fun _ => rfl)
                    · exact (fun h => f9 (up h rfl))
                    · exact (fun h => f10 (up h rfl))
                    · exact (fun h => f11 (up h rfl))
                    · exact (fun h => f12 (up h rfl))
                    · exact g0
                    · exact (fun h => upl (g1 (up h rfl)))
                    · exact (fun h => upl (g2 (up h rfl)))
                    · exact (fun h => ⟨upl (g3 (up h rfl)).1, upl (g3 (up h rfl)).2.1, upl (g3 (up h rfl)).2.2⟩)
                    · exact (fun h => g4 (dn h))
                  · unfold StepOk
                    rintro d act x0 ⟨u42, u43, u44, u45, u46, u47, u48, u49, u50, u51, u52, u53, u7, rfl, f0, f1, f2, f3, f4, f5, f6, f7, f8, f9, f10, f11, f12, g0, g1, g2, g3, g4⟩ hd hdep Kc hKc
                    rw [if_pos (by rfl)]
                    go_big_op
                    refine hKc _ _ ⟨_, _, _, _, _, _, _, _, _, _, _, _, _, rfl, ?_, ?_, ?_, ?_, ?_, ?_, ?_, ?_, ?_, ?_, ?_, ?_, ?_, ?_, ?_, ?_, ?_, ?_⟩
                    · exact (fun h h5 => f0 (up h rfl) (dn h5))
                    · exact (fun h => f1 (up h rfl))
                    · exact (fun h => f2 (up h rfl))
                    · exact (fun h => f3 (up h rfl))
                    · exact (fun h h5 => f4 (up h rfl) (dn h5))
                    · exact (fun h => f5 (up h rfl))
                    · exact (fun h h5 => f6 (up h rfl) (dn h5))
                    · exact (fun h h5 => f7 (up h rfl) (dn h5))
                    · exact (fun h => f8 (up h rfl))
                    · exact (fun _ => rfl)
                    · exact (fun h => f10 (up h rfl))
                    · exact (fun h => f11 (up h rfl))
                    · exact (fun h => f12 (up h rfl))
                    · exact g0
                    · exact (fun h => upl (g1 (up h rfl)))
                    · exact (fun h => upl (g2 (up h rfl)))
                    · exact (fun h => ⟨upl (g3 (up h rfl)).1, upl (g3 (up h rfl)).2.1, upl (g3 (up h rfl)).2.2⟩)
                    · exact (fun h => g4 (dn h))
                  · unfold StepOk
                    rintro d act x0 ⟨u42, u43, u44, u45, u46, u47, u48, u49, u50, u51, u52, u53, u7, rfl, f0, f1, f2, f3, f4, f5, f6, f7, f8, f9, f10, f11, f12, g0, g1, g2, g3, g4⟩ hd hdep Kc hKc
                    have hd8 : d 8 = true := hdep ⟨8, .data⟩ (by simp) rfl
                    have hd9 : d 9 = true := hdep ⟨9, .data⟩ (by simp) rfl
                    obtain rfl := f8 hd8
                    obtain rfl := f9 hd9
                    rw [if_pos (by rfl)]
                    go_big_op
                    refine hKc _ _ ⟨_, _, _, _, _, _, _, _, _, _, _, _, _, rfl, ?_, ?_, ?_, ?_, ?_, ?_, ?_, ?_, ?_, ?_, ?_, ?_, ?_, ?_, ?_, ?_, ?_, ?_⟩
                    · exact (fun h h5 => f0 (up h rfl) (dn h5))
                    · exact (fun h => f1 (up h rfl))
                    · exact (fun h => f2 (up h rfl))
                    · exact (fun h => f3 (up h rfl))
                    · exact (fun h h5 => f4 (up h rfl) (dn h5))
                    · exact (fun h => f5 (up h rfl))
                    · exact (fun h h5 => f6 (up h rfl) (dn h5))
                    · exact (fun h h5 => f7 (up h rfl) (dn h5))
                    · exact (fun h => f8 (up h rfl))
                    · exact (fun h => f9 (up h rfl))
                    · exact (fun _ => rfl)
                    · exact (fun h => f11 (up h rfl))
                    · exact (fun h => f12 (up h rfl))
                    · exact g0
                    · exact (fun h => upl (g1 (up h rfl)))
                    · exact (fun h => upl (g2 (up h rfl)))
                    · exact (fun h => ⟨upl (g3 (up h rfl)).1, upl (g3 (up h rfl)).2.1, upl (g3 (up h rfl)).2.2⟩)
                    · exact (fun h => g4 (dn h))
                  · unfold StepOk
                    rintro d act x0 ⟨u42, u43, u44, u45, u46, u47, u48, u49, u50, u51, u52, u53, u7, rfl, f0, f1, f2, f3, f4, f5, f6, f7, f8, f9, f10, f11, f12, g0, g1, g2, g3, g4⟩ hd hdep Kc hKc
                    have hd7 : d 7 = true := hdep ⟨7, .data⟩ (by simp) rfl
                    have hd10 : d 10 = true := hdep ⟨10, .data⟩ (by simp) rfl
                    have hd4 := g1 hd7
                    have f7' := f7 hd7 hd
                    obtain rfl := f10 hd10
                    rw [if_pos (by rfl)]
                    refine wp_append_own _ _ _ 53 rfl (w5.heap.size) 65 i0 En.zero.v 10 96 Try.underlying53 hi hz0 hz1 hz2 rfl (by decide) _ (K + 1) (flat ec (S.take K ++ [x])) rfl f7' ⟨g, K * 10, none⟩ (m - K) (gc - K) (flat ec (S.drop K)) rfl ?c0 ?c1 ?c2 ?c3 ?c4 ?c5 ?_
                    case c0 => rw [flat_len ec_len, HDL.out]
                    case c1 => intro j u hj; rw [add_off]; have h9 := (SAt.drop ec_len K (HCS.out.ext g0)); rw [Nat.zero_add] at h9; exact RE9.cells h9 j u hj
                    case c2 => exact flat_one ec_one _
                    case c3 => unfold maxLen; omega
                    case c4 => omega
                    case c5 => exact g0.size
                    intro v' x1 hown' hgrow _
                    have gB : Below w5.heap.size w5 x1 := g0.grown hgrow g0.size (fun q hq => own_ge f7' hq)
                    refine hKc _ _ ⟨_, _, _, _, _, _, _, _, _, _, _, _, _, rfl, ?_, ?_, ?_, ?_, ?_, ?_, ?_, ?_, ?_, ?_, ?_, ?_, ?_, ?_, ?_, ?_, ?_, ?_⟩
                    · exact (fun h h5 => by have := dn h5; rw [hd4] at this; cases this)
                    · exact (fun h => f1 (up h rfl))
                    · exact (fun h => f2 (up h rfl))
                    · exact (fun h => f3 (up h rfl))
                    · exact (fun h h5 => by have := dn h5; rw [hd7] at this; cases this)
                    · exact (fun h => f5 (up h rfl))
                    · exact (fun h h5 => by have := dn h5; rw [hd7] at this; cases this)
                    · exact (fun h h5 => by simp at h5)
                    · exact (fun h => f8 (up h rfl))
                    · exact (fun h => f9 (up h rfl))
                    · exact (fun h => f10 (up h rfl))
                    · exact (fun _ => (by rw [flat_app]; exact hown'))
                    · exact (fun h => by have := (g3 (up h rfl)).2.2; rw [hd] at this; cases this)
                    · exact gB
                    · exact (fun h => upl (g1 (up h rfl)))
                    · exact (fun h => upl hd7)
                    · exact (fun h => ⟨upl (g3 (up h rfl)).1, upl (g3 (up h rfl)).2.1, upl (g3 (up h rfl)).2.2⟩)
                    · exact (fun h => g4 (dn h))
                  · unfold StepOk
                    rintro d act x0 ⟨u42, u43, u44, u45, u46, u47, u48, u49, u50, u51, u52, u53, u7, rfl, f0, f1, f2, f3, f4, f5, f6, f7, f8, f9, f10, f11, f12, g0, g1, g2, g3, g4⟩ hd hdep Kc hKc
                    have hd1 : d 1 = true := hdep ⟨1, .phase⟩ (by simp) rfl
                    have hd8 : d 8 = true := hdep ⟨8, .phase⟩ (by simp) rfl
                    have hd11 : d 11 = true := hdep ⟨11, .data⟩ (by simp) rfl
                    rw [if_pos (by rfl)]
                    go_big_op
                    refine hKc _ _ ⟨_, _, _, _, _, _, _, _, _, _, _, _, _, rfl, ?_, ?_, ?_, ?_, ?_, ?_, ?_, ?_, ?_, ?_, ?_, ?_, ?_, ?_, ?_, ?_, ?_, ?_⟩
                    · exact (fun h h5 => f0 (up h rfl) (dn h5))
                    · exact (fun h => f1 (up h rfl))
                    · exact (fun h => f2 (up h rfl))
                    · exact (fun h => f3 (up h rfl))
                    · exact (fun h h5 => f4 (up h rfl) (dn h5))
                    · exact (fun h => f5 (up h rfl))
                    · exact (fun h h5 => f6 (up h rfl) (dn h5))
                    · exact (fun h h5 => f7 (up h rfl) (dn h5))
                    · exact (fun h => f8 (up h rfl))
                    · exact (fun h => f9 (up h rfl))
                    · exact (fun h => f10 (up h rfl))
                    · exact (fun h => f11 (up h rfl))
                    · exact (fun _ => rfl)
                    · exact g0
                    · exact (fun h => upl (g1 (up h rfl)))
                    · exact (fun h => upl (g2 (up h rfl)))
                    · exact (fun h => ⟨upl hd1, upl hd8, upl hd11⟩)
                    · exact (fun h => by simp at h)
                · rintro d act x0 ⟨u42, u43, u44, u45, u46, u47, u48, u49, u50, u51, u52, u53, u7, rfl, f0, f1, f2, f3, f4, f5, f6, f7, f8, f9, f10, f11, f12, g0, g1, g2, g3, g4⟩ hall
                
                  have f11' := f11 (hall 11 (by decide))
                  have f12' := f12 (hall 12 (by decide))
                  subst f12'
                  have HN7 := Lib.hid f11'
                  have HG0 := Lib.hid g0
                  clear f0 f1 f2 f3 f4 f5 f6 f7 f8 f9 f10 f11 f12 g0 g1 g2 g3 g4 hall f11'
                  go_wp2
                  go_roundw
                  case rel => exact ⟨J + 1, by omega, by go_num, by rw [HST.out]; unfold OwnR9 OwnR; have h9 := ownsRow_base HN7.out HBW.out.size; rw [List.length_append, List.length_append, HTL.out, HDL.out]; exact h9, ext_trans HBW.out HG0.out⟩
                  case measure => simp [intOf]; omega
          · obtain ⟨P, rfl⟩ : ∃ P, K = P + 1 := ⟨K - 1, by omega⟩
            obtain ⟨y, hy⟩ : ∃ y, S[P]? = some y := ⟨_, List.getElem?_eq_getElem (by have := HM.out; omega)⟩
            obtain ⟨g, rfl⟩ : ∃ g, ga = some ⟨g, 0, none⟩ := by
              rcases hgf with ⟨_, _, e⟩ | ⟨g, e⟩
              · rw [e] at hy; simp at hy
              · exact ⟨g, e⟩
            have HTK := Lib.hid (show S.take (P + 1) = S.take P ++ [y] from by rw [List.take_add_one, hy]; rfl)
            have HDP := Lib.hid (show S.drop P = y :: S.drop (P + 1) from drop_at hy)
            obtain ⟨k0, k1, k2, k3, k4, k5, k6, k7, k8, k9⟩ := RE9.at (HGC.out.ext HB4.out) hy
            have HRX := Lib.hid (blk_ext HB4.out HX.out)
            have hd : decide ((0 : Int) < (P : Int) + 1) = true := decide_eq_true (by omega)
            simp only [Nat.zero_add] at k0 k1 k2 k3 k4 k5 k6 k7 k8 k9
            have hPm : (P : Int) < (m : Int) := by omega
            clear hy hgf
            by_cases hlt2 : elt now x y = true
            · have HKL := Lib.hid hlt2
              have HI2 := Lib.hid (show insR (elt now) x S = insR (elt now) x (S.take P) ++ S.drop P from by rw [HINS.out, HTK.out, insR_lt (elt now) x y _ hlt2, HDP.out, List.append_assoc]; try rfl)
              clear hlt2
              go_wp2_with fail
              haveI hIq : Nonempty (Of w4) := of_some _
              have hF0 := of_cell k0
              have hF1 := of_cell k1
              have hF2 := of_cell k2
              have hF3 := of_cell k3
              have hF4 := of_cell k4
              have hF5 := of_cell k5
              have hF6 := of_cell k6
              have hF7 := of_cell k7
              have hF8 := of_cell k8
              have hF9 := of_cell k9
              have hFr := blk_of HRX.out
              first | (refine wp_region_stay w4 (by kernel_rfl) (by kernel_rfl) (by go_grown) ?_) | (refine wp_region_stay_seq w4 (by go_grown) ?_)
              repeat (go_big_quiet_step ((go_at_call 31; refine stay_bool (u := true) (refEarlier x y now _) ?_; (exact HKL.out))))
              refine wpQuiet_nil ?_
              intro w5 hb5
              clear hIq hFr hF0 k0 hF1 k1 hF2 k2 hF3 k3 hF4 k4 hF5 k5 hF6 k6 hF7 k7 hF8 k8 hF9 k9
              
              have HB5 := Lib.hid (ext_trans HB4.out hb5)
              clear hb5
              go_wp2
              go_roundw
              case rel => exact ⟨P, by omega, by go_num, HI2.out, HB5.out⟩
              case measure => simp [intOf]
            · have hf : elt now x y = false := by simpa using hlt2
              have HKL := Lib.hid hf
              have HST0 := Lib.hid (show srt (elt now) (lats (l.take (J + 1)) now lt) = S.take (P + 1) ++ [x] ++ S.drop (P + 1) from by rw [HS1.out, HINS.out, HTK.out, insR_ge (elt now) x y _ hf])
              clear hlt2 hf
              go_wp2_with fail
              haveI hIq : Nonempty (Of w4) := of_some _
              have hF0 := of_cell k0
              have hF1 := of_cell k1
              have hF2 := of_cell k2
              have hF3 := of_cell k3
              have hF4 := of_cell k4
              have hF5 := of_cell k5
              have hF6 := of_cell k6
              have hF7 := of_cell k7
              have hF8 := of_cell k8
              have hF9 := of_cell k9
              have hFr := blk_of HRX.out
              first | (refine wp_region_stay w4 (by kernel_rfl) (by kernel_rfl) (by go_grown) ?_) | (refine wp_region_stay_seq w4 (by go_grown) ?_)
              repeat (go_big_quiet_step ((go_at_call 31; refine stay_bool (u := false) (refEarlier x y now _) ?_; (exact HKL.out))))
              refine wpQuiet_nil ?_
              intro w5 hb5
              clear hIq hFr hF0 k0 hF1 k1 hF2 k2 hF3 k3 hF4 k4 hF5 k5 hF6 k6 hF7 k7 hF8 k8 hF9 k9
              
              clear HINS HS1 HTK HDP hPm hd HRX
              generalize P + 1 = K at hK HST0 ⊢
              have HST := HST0
              clear HST0
              have HRB := Lib.hid (blk_ext (ext_trans HB4.out hb5) HX.out)
              have HCS := Lib.hid (HGC.out.ext (ext_trans HB4.out hb5))
              have HBW := Lib.hid (ext_trans HB3.out (ext_trans HB4.out hb5))
              have HTL := Lib.hid (show (S.take K).length = K by rw [List.length_take]; have := HM.out; omega)
              have HDL := Lib.hid (show (S.drop K).length = m - K by rw [List.length_drop]; have := HM.out; omega)
              clear hb5 HB3 HX HO3 HGC HB4
              
              go_wp2_with fail
              rcases Classical.propComplete (gc = K) with hce | hce
              · refine wp_region_inv_eq (J := fun A d act x0 => ∃ u42 u43 u44 u45 u46 u47 u48 u49 u50 u51 u52 u53 u7 : Value, act = (((((((((((((A.put (some 42) u42).put (some 43) u43).put (some 44) u44).put (some 45) u45).put (some 46) u46).put (some 47) u47).put (some 48) u48).put (some 49) u49).put (some 50) u50).put (some 51) u51).put (some 52) u52).put (some 53) u53).put (some 7) u7) ∧ (d 0 = true → (d 4 = false → ∃ b1 : Nat, u42 = .slice (some ⟨b1, 0, none⟩) 0 0 ∧ x0.heap[b1]? = some (.cells #[] 65 (0, 0)) ∧ w5.heap.size ≤ b1)) ∧ (d 1 = true → u43 = .slice (some ⟨g, 0, none⟩) m gc) ∧ (d 2 = true → u44 = .int .i64 ((K : Nat) : Int)) ∧ (d 3 = true → u45 = .slice (some ⟨g, 0, none⟩) K gc) ∧ (d 4 = true → (d 7 = false → x0.ownsRow w5.heap.size 65 10 u46 K (flat ec (S.take K)))) ∧ (d 5 = true → u47 = .agg #[.string x.c.a, .string x.c.i, .int .i64 x.c.s, .int .i64 x.c.o, .int .i64 x.c.l, .int .i64 x.c.t, .int .i64 x.c.k, .int .i64 x.c.n, .bool x.c.g, .int .i64 x.seen]) ∧ (d 6 = true → (d 7 = false → ∃ b : Nat, u48 = .slice (some ⟨b, 0, none⟩) 1 1 ∧ x0.heap[b]? = some (.cells #[.string x.c.a, .string x.c.i, .int .i64 x.c.s, .int .i64 x.c.o, .int .i64 x.c.l, .int .i64 x.c.t, .int .i64 x.c.k, .int .i64 x.c.n, .bool x.c.g, .int .i64 x.seen] 65 (0, 0)))) ∧ (d 7 = true → (d 11 = false → x0.ownsRow w5.heap.size 65 10 u49 (K + 1) (flat ec (S.take K ++ [x])))) ∧ (d 8 = true → u50 = .slice (some ⟨g, 0, none⟩) m gc) ∧ (d 9 = true → u51 = .int .i64 ((K : Nat) : Int)) ∧ (d 10 = true → u52 = .slice (some ⟨g, 0, none⟩) (m - K) (gc - K)) ∧ (d 11 = true → x0.ownsRow w5.heap.size 65 10 u53 (K + 1 + (m - K)) (flat ec (S.take K ++ [x] ++ S.drop K))) ∧ (d 12 = true → u7 = u53) ∧ Below w5.heap.size w5 x0 ∧ (d 7 = true → d 4 = true) ∧ (d 11 = true → d 7 = true) ∧ (d 12 = true → d 1 = true ∧ d 8 = true ∧ d 11 = true) ∧ (d 12 = false → u7 = .slice (some ⟨g, 0, none⟩) m gc)) (by simp only [Act.put, List.setIfInBounds_toArray, List.set_cons_succ, List.set_cons_zero]; rfl) (by kernel_rfl) (by kernel_rfl) ?_ ?_ ?_
                · refine ⟨_, _, _, _, _, _, _, _, _, _, _, _, _, rfl, ?_, ?_, ?_, ?_, ?_, ?_, ?_, ?_, ?_, ?_, ?_, ?_, ?_, ?_, ?_, ?_, ?_, ?_⟩
                  · intro h; cases h
                  · intro h; cases h
                  · intro h; cases h
                  · intro h; cases h
                  · intro h; cases h
                  · intro h; cases h
                  · intro h; cases h
                  · intro h; cases h
                  · intro h; cases h
                  · intro h; cases h
                  · intro h; cases h
                  · intro h; cases h
                  · intro h; cases h
                  · exact (Below.refl _ _).drew
                  · exact (fun h => by cases h)
                  · exact (fun h => by cases h)
                  · exact (fun h => by cases h)
                  · exact (fun _ => rfl)
                · refine stepsOk_cons (k := 0) ?_ (stepsOk_cons (k := 1) ?_ (stepsOk_cons (k := 2) ?_ (stepsOk_cons (k := 3) ?_ (stepsOk_cons (k := 4) ?_ (stepsOk_cons (k := 5) ?_ (stepsOk_cons (k := 6) ?_ (stepsOk_cons (k := 7) ?_ (stepsOk_cons (k := 8) ?_ (stepsOk_cons (k := 9) ?_ (stepsOk_cons (k := 10) ?_ (stepsOk_cons (k := 11) ?_ (stepsOk_cons (k := 12) ?_ stepsOk_nil))))))))))))
                  · unfold StepOk
                    rintro d act x0 ⟨u42, u43, u44, u45, u46, u47, u48, u49, u50, u51, u52, u53, u7, rfl, f0, f1, f2, f3, f4, f5, f6, f7, f8, f9, f10, f11, f12, g0, g1, g2, g3, g4⟩ hd hdep Kc hKc
                    rw [if_pos (by rfl)]
                    go_big_op
                    refine hKc _ _ ⟨_, _, _, _, _, _, _, _, _, _, _, _, _, rfl, ?_, ?_, ?_, ?_, ?_, ?_, ?_, ?_, ?_, ?_, ?_, ?_, ?_, ?_, ?_, ?_, ?_, ?_⟩
                    · exact (fun _ => (fun h5 => ⟨_, rfl, blk_new _ _ _, g0.size⟩))
                    · exact (fun h => f1 (up h rfl))
                    · exact (fun h => f2 (up h rfl))
                    · exact (fun h => f3 (up h rfl))
                    · exact (fun h h5 => (f4 (up h rfl) (dn h5)).alloc _)
                    · exact (fun h => f5 (up h rfl))
                    · exact (fun h h5 => by obtain ⟨b, e1, e2⟩ := f6 (up h rfl) (dn h5); exact ⟨b, e1, blk_alloc e2 _⟩)
                    · exact (fun h h5 => (f7 (up h rfl) (dn h5)).alloc _)
                    · exact (fun h => f8 (up h rfl))
                    · exact (fun h => f9 (up h rfl))
                    · exact (fun h => f10 (up h rfl))
                    · exact (fun h => (f11 (up h rfl)).alloc _)
                    · exact (fun h => f12 (up h rfl))
                    · exact (g0.alloc g0.size _)
                    · exact (fun h => upl (g1 (up h rfl)))
                    · exact (fun h => upl (g2 (up h rfl)))
                    · exact (fun h => ⟨upl (g3 (up h rfl)).1, upl (g3 (up h rfl)).2.1, upl (g3 (up h rfl)).2.2⟩)
                    · exact (fun h => g4 (dn h))
                  · unfold StepOk
                    rintro d act x0 ⟨u42, u43, u44, u45, u46, u47, u48, u49, u50, u51, u52, u53, u7, rfl, f0, f1, f2, f3, f4, f5, f6, f7, f8, f9, f10, f11, f12, g0, g1, g2, g3, g4⟩ hd hdep Kc hKc
                    have h12 : d 12 = false := by
                      cases h : d 12 with
                      | false => rfl
                      | true => have := (g3 h).1; rw [hd] at this; cases this
                    obtain rfl := g4 h12
                    rw [if_pos (by rfl)]
                    go_big_op
                    refine hKc _ _ ⟨_, _, _, _, _, _, _, _, _, _, _, _, _, rfl, ?_, ?_, ?_, ?_, ?_, ?_, ?_, ?_, ?_, ?_, ?_, ?_, ?_, ?_, ?_, ?_, ?_, ?_⟩
                    · exact (fun h h5 => f0 (up h rfl) (dn h5))
                    · exact (fun _ => rfl)
                    · exact (fun h => f2 (up h rfl))
                    · exact (fun h => f3 (up h rfl))
                    · exact (fun h h5 => f4 (up h rfl) (dn h5))
                    · exact (fun h => f5 (up h rfl))
                    · exact (fun h h5 => f6 (up h rfl) (dn h5))
                    · exact (fun h h5 => f7 (up h rfl) (dn h5))
                    · exact (fun h => f8 (up h rfl))
                    · exact (fun h => f9 (up h rfl))
                    · exact (fun h => f10 (up h rfl))
                    · exact (fun h => f11 (up h rfl))
                    · exact (fun h => f12 (up h rfl))
                    · exact g0
                    · exact (fun h => upl (g1 (up h rfl)))
                    · exact (fun h => upl (g2 (up h rfl)))
                    · exact (fun h => ⟨upl (g3 (up h rfl)).1, upl (g3 (up h rfl)).2.1, upl (g3 (up h rfl)).2.2⟩)
                    · exact (fun h => g4 (dn h))
                  · unfold StepOk
                    rintro d act x0 ⟨u42, u43, u44, u45, u46, u47, u48, u49, u50, u51, u52, u53, u7, rfl, f0, f1, f2, f3, f4, f5, f6, f7, f8, f9, f10, f11, f12, g0, g1, g2, g3, g4⟩ hd hdep Kc hKc
                    rw [if_pos (by rfl)]
                    go_big_op
                    refine hKc _ _ ⟨_, _, _, _, _, _, _, _, _, _, _, _, _, rfl, ?_, ?_, ?_, ?_, ?_, ?_, ?_, ?_, ?_, ?_, ?_, ?_, ?_, ?_, ?_, ?_, ?_, ?_⟩
                    · exact (fun h h5 => f0 (up h rfl) (dn h5))
                    · exact (fun h => f1 (up h rfl))
                    · exact (fun _ => rfl)
                    · exact (fun h => f3 (up h rfl))
                    · exact (fun h h5 => f4 (up h rfl) (dn h5))
                    · exact (fun h => f5 (up h rfl))
                    · exact (fun h h5 => f6 (up h rfl) (dn h5))
                    · exact (fun h h5 => f7 (up h rfl) (dn h5))
                    · exact (fun h => f8 (up h rfl))
                    · exact (fun h => f9 (up h rfl))
                    · exact (fun h => f10 (up h rfl))
                    · exact (fun h => f11 (up h rfl))
                    · exact (fun h => f12 (up h rfl))
                    · exact g0
                    · exact (fun h => upl (g1 (up h rfl)))
                    · exact (fun h => upl (g2 (up h rfl)))
                    · exact (fun h => ⟨upl (g3 (up h rfl)).1, upl (g3 (up h rfl)).2.1, upl (g3 (up h rfl)).2.2⟩)
                    · exact (fun h => g4 (dn h))
                  · unfold StepOk
                    rintro d act x0 ⟨u42, u43, u44, u45, u46, u47, u48, u49, u50, u51, u52, u53, u7, rfl, f0, f1, f2, f3, f4, f5, f6, f7, f8, f9, f10, f11, f12, g0, g1, g2, g3, g4⟩ hd hdep Kc hKc
                    have hd1 : d 1 = true := hdep ⟨1, .data⟩ (by simp) rfl
                    have hd2 : d 2 = true := hdep ⟨2, .data⟩ (by simp) rfl
                    obtain rfl := f1 hd1
                    obtain rfl := f2 hd2
                    rw [if_pos (by rfl)]
                    go_big_op
                    refine hKc _ _ ⟨_, _, _, _, _, _, _, _, _, _, _, _, _, rfl, ?_, ?_, ?_, ?_, ?_, ?_, ?_, ?_, ?_, ?_, ?_, ?_, ?_, ?_, ?_, ?_, ?_, ?_⟩
                    · exact (fun h h5 => f0 (up h rfl) (dn h5))
                    · exact (fun h => f1 (up h rfl))
                    · exact (fun h => f2 (up h rfl))
                    · exact (fun _ => rfl)
                    · exact (fun h h5 => f4 (up h rfl) (dn h5))
                    · exact (fun h => f5 (up h rfl))
                    · exact (fun h h5 => f6 (up h rfl) (dn h5))
                    · exact (fun h h5 => f7 (up h rfl) (dn h5))
                    · exact (fun h => f8 (up h rfl))
                    · exact (fun h => f9 (up h rfl))
                    · exact (fun h => f10 (up h rfl))
                    · exact (fun h => f11 (up h rfl))
                    · exact (fun h => f12 (up h rfl))
                    · exact g0
                    · exact (fun h => upl (g1 (up h rfl)))
                    · exact (fun h => upl (g2 (up h rfl)))
                    · exact (fun h => ⟨upl (g3 (up h rfl)).1, upl (g3 (up h rfl)).2.1, upl (g3 (up h rfl)).2.2⟩)
                    · exact (fun h => g4 (dn h))
                  · unfold StepOk
                    rintro d act x0 ⟨u42, u43, u44, u45, u46, u47, u48, u49, u50, u51, u52, u53, u7, rfl, f0, f1, f2, f3, f4, f5, f6, f7, f8, f9, f10, f11, f12, g0, g1, g2, g3, g4⟩ hd hdep Kc hKc
                    have hd0 : d 0 = true := hdep ⟨0, .data⟩ (by simp) rfl
                    have hd3 : d 3 = true := hdep ⟨3, .data⟩ (by simp) rfl
                    have h7 : d 7 = false := by
                      cases h : d 7 with
                      | false => rfl
                      | true => have := g1 h; rw [hd] at this; cases this
                    have h11 : d 11 = false := by
                      cases h : d 11 with
                      | false => rfl
                      | true => have := g2 h; rw [h7] at this; cases this
                    obtain ⟨b1, rfl, hb1, hge1⟩ := f0 hd0 hd
                    have f0o := own_emptyR hb1 hge1
                    obtain rfl := f3 hd3
                    rw [if_pos (by rfl)]
                    refine wp_append_own _ _ _ 53 rfl (w5.heap.size) 65 i0 En.zero.v 10 96 Try.underlying53 hi hz0 hz1 hz2 rfl (by decide) _ 0 (flat ec []) rfl f0o ⟨g, 0, none⟩ K gc (flat ec (S.take K)) rfl ?c0 ?c1 ?c2 ?c3 ?c4 ?c5 ?_
                    case c0 => rw [flat_len ec_len, HTL.out]
                    case c1 => intro j u hj; rw [add_off]; exact RE9.cells (SAt.take ec_len K (HCS.out.ext g0)) j u hj
                    case c2 => exact flat_one ec_one _
                    case c3 => unfold maxLen; omega
                    case c4 => omega
                    case c5 => exact g0.size
                    intro v' x1 hown' hgrow _
                    have gB : Below w5.heap.size w5 x1 := g0.grown hgrow g0.size (fun q hq => own_ge f0o hq)
                    refine hKc _ _ ⟨_, _, _, _, _, _, _, _, _, _, _, _, _, rfl, ?_, ?_, ?_, ?_, ?_, ?_, ?_, ?_, ?_, ?_, ?_, ?_, ?_, ?_, ?_, ?_, ?_, ?_⟩
                    · exact (fun h h5 => by simp at h5)
                    · exact (fun h => f1 (up h rfl))
                    · exact (fun h => f2 (up h rfl))
                    · exact (fun h => f3 (up h rfl))
                    · exact (fun _ => (fun h5 => by simpa [flat_nil] using hown'))
                    · exact (fun h => f5 (up h rfl))
                    · exact (fun h h5 => by obtain ⟨b, e1, e2⟩ := f6 (up h rfl) (dn h5); exact ⟨b, e1, (hgrow.block b (blk_lt e2) (by show some b ≠ some b1; simpa using blk_neR e2 hb1)).trans e2⟩)
                    · exact (fun h h5 => by have := up h rfl; rw [h7] at this; cases this)
                    · exact (fun h => f8 (up h rfl))
                    · exact (fun h => f9 (up h rfl))
                    · exact (fun h => f10 (up h rfl))
                    · exact (fun h => by have := up h rfl; rw [h11] at this; cases this)
                    · exact (fun h => f12 (up h rfl))
                    · exact gB
                    · exact (fun h => by simp)
                    · exact (fun h => upl (g2 (up h rfl)))
                    · exact (fun h => ⟨upl (g3 (up h rfl)).1, upl (g3 (up h rfl)).2.1, upl (g3 (up h rfl)).2.2⟩)
                    · exact (fun h => g4 (dn h))
                  · unfold StepOk
                    rintro d act x0 ⟨u42, u43, u44, u45, u46, u47, u48, u49, u50, u51, u52, u53, u7, rfl, f0, f1, f2, f3, f4, f5, f6, f7, f8, f9, f10, f11, f12, g0, g1, g2, g3, g4⟩ hd hdep Kc hKc
                    have hx5 := blk_cell (blk_ext g0 HRB.out)
                    have hl5 := blk_lt (blk_ext g0 HRB.out)
                    rw [if_pos (by rfl)]
                    go_big_op
                    refine hKc _ _ ⟨_, _, _, _, _, _, _, _, _, _, _, _, _, rfl, ?_, ?_, ?_, ?_, ?_, ?_, ?_, ?_, ?_, ?_, ?_, ?_, ?_, ?_, ?_, ?_, ?_, ?_⟩
                    · exact (fun h h5 => f0 (up h rfl) (dn h5))
                    · exact (fun h => f1 (up h rfl))
                    · exact (fun h => f2 (up h rfl))
                    · exact (fun h => f3 (up h rfl))
                    · exact (fun h h5 => f4 (up h rfl) (dn h5))
                    · exact (fun _ => rfl)
                    · exact (fun h h5 => f6 (up h rfl) (dn h5))
                    · exact (fun h h5 => f7 (up h rfl) (dn h5))
                    · exact (fun h => f8 (up h rfl))
                    · exact (fun h => f9 (up h rfl))
                    · exact (fun h => f10 (up h rfl))
                    · exact (fun h => f11 (up h rfl))
                    · exact (fun h => f12 (up h rfl))
                    · exact g0
                    · exact (fun h => upl (g1 (up h rfl)))
                    · exact (fun h => upl (g2 (up h rfl)))
                    · exact (fun h => ⟨upl (g3 (up h rfl)).1, upl (g3 (up h rfl)).2.1, upl (g3 (up h rfl)).2.2⟩)
                    · exact (fun h => g4 (dn h))
                  · unfold StepOk
                    rintro d act x0 ⟨u42, u43, u44, u45, u46, u47, u48, u49, u50, u51, u52, u53, u7, rfl, f0, f1, f2, f3, f4, f5, f6, f7, f8, f9, f10, f11, f12, g0, g1, g2, g3, g4⟩ hd hdep Kc hKc
                    have hd5 : d 5 = true := hdep ⟨5, .data⟩ (by simp) rfl
                    obtain rfl := f5 hd5
                    rw [if_pos (by rfl)]
                    go_big_op
                    refine hKc _ _ ⟨_, _, _, _, _, _, _, _, _, _, _, _, _, rfl, ?_, ?_, ?_, ?_, ?_, ?_, ?_, ?_, ?_, ?_, ?_, ?_, ?_, ?_, ?_, ?_, ?_, ?_⟩
                    · exact (fun h h5 => by obtain ⟨b1, e1, e2, e3⟩ := f0 (up h rfl) (dn h5); exact ⟨b1, e1, blk_alloc e2 _, e3⟩)
                    · exact (fun h => f1 (up h rfl))
                    · exact (fun h => f2 (up h rfl))
                    · exact (fun h => f3 (up h rfl))
                    · exact (fun h h5 => (f4 (up h rfl) (dn h5)).alloc _)
                    · exact (fun h => f5 (up h rfl))
                    · exact (fun _ => (fun h5 => ⟨_, rfl, blk_new _ _ _⟩))
                    · exact (fun h h5 => (f7 (up h rfl) (dn h5)).alloc _)
                    · exact (fun h => f8 (up h rfl))
                    · exact (fun h => f9 (up h rfl))
                    · exact (fun h => f10 (up h rfl))
                    · exact (fun h => (f11 (up h rfl)).alloc _)
                    · exact (fun h => f12 (up h rfl))
                    · exact (g0.alloc g0.size _)
                    · exact (fun h => upl (g1 (up h rfl)))
                    · exact (fun h => upl (g2 (up h rfl)))
                    · exact (fun h => ⟨upl (g3 (up h rfl)).1, upl (g3 (up h rfl)).2.1, upl (g3 (up h rfl)).2.2⟩)
                    · exact (fun h => g4 (dn h))
                  · unfold StepOk
                    rintro d act x0 ⟨u42, u43, u44, u45, u46, u47, u48, u49, u50, u51, u52, u53, u7, rfl, f0, f1, f2, f3, f4, f5, f6, f7, f8, f9, f10, f11, f12, g0, g1, g2, g3, g4⟩ hd hdep Kc hKc
                    have hd4 : d 4 = true := hdep ⟨4, .data⟩ (by simp) rfl
                    have hd6 : d 6 = true := hdep ⟨6, .data⟩ (by simp) rfl
                    have h11 : d 11 = false := by
                      cases h : d 11 with
                      | false => rfl
                      | true => have := g2 h; rw [hd] at this; cases this
                    have f4' := f4 hd4 hd
                    obtain ⟨b4, rfl, hb4⟩ := f6 hd6 hd
                    rw [if_pos (by rfl)]
                    refine wp_append_own _ _ _ 53 rfl (w5.heap.size) 65 i0 En.zero.v 10 96 Try.underlying53 hi hz0 hz1 hz2 rfl (by decide) _ K (flat ec (S.take K)) rfl f4' ⟨b4, 0, none⟩ 1 1 (ec x) rfl ?c0 ?c1 ?c2 ?c3 ?c4 ?c5 ?_
                    case c0 => rfl
                    case c1 => intro j u hj; rw [add_off, Nat.zero_add, blk_cell hb4]; simpa [ec] using hj
                    case c2 => exact ec_one x
                    case c3 => unfold maxLen; omega
                    case c4 => omega
                    case c5 => exact g0.size
                    intro v' x1 hown' hgrow _
                    have gB : Below w5.heap.size w5 x1 := g0.grown hgrow g0.size (fun q hq => own_ge f4' hq)
                    refine hKc _ _ ⟨_, _, _, _, _, _, _, _, _, _, _, _, _, rfl, ?_, ?_, ?_, ?_, ?_, ?_, ?_, ?_, ?_, ?_, ?_, ?_, ?_, ?_, ?_, ?_, ?_, ?_⟩
                    · exact (fun h h5 => by have := dn h5; rw [hd4] at this; cases this)
                    · exact (fun h => f1 (up h rfl))
                    · exact (fun h => f2 (up h rfl))
                    · exact (fun h => f3 (up h rfl))
                    · exact (fun h h5 => by simp at h5)
                    · exact (fun h => f5 (up h rfl))
                    · exact (fun h h5 => by simp at h5)
                    · exact (fun _ => (fun h5 => by rw [flat_snoc]; exact hown'))
                    · exact (fun h => f8 (up h rfl))
                    · exact (fun h => f9 (up h rfl))
                    · exact (fun h => f10 (up h rfl))
                    · exact (fun h => by have := up h rfl; rw [h11] at this; cases this)
                    · exact (fun h => f12 (up h rfl))
                    · exact gB
                    · exact (fun h => upl hd4)
                    · exact (fun h => upl (g2 (up h rfl)))
                    · exact (fun h => ⟨upl (g3 (up h rfl)).1, upl (g3 (up h rfl)).2.1, upl (g3 (up h rfl)).2.2⟩)
                    · exact (fun h => g4 (dn h))
                  · unfold StepOk
                    rintro d act x0 ⟨u42, u43, u44, u45, u46, u47, u48, u49, u50, u51, u52, u53, u7, rfl, f0, f1, f2, f3, f4, f5, f6, f7, f8, f9, f10, f11, f12, g0, g1, g2, g3, g4⟩ hd hdep Kc hKc
                    have h12 : d 12 = false := by
                      cases h : d 12 with
                      | false => rfl
                      | true => have := (g3 h).2.1; rw [hd] at this; cases this
                    obtain rfl := g4 h12
                    rw [if_pos (by rfl)]
                    go_big_op
                    refine hKc _ _ ⟨_, _, _, _, _, _, _, _, _, _, _, _, _, rfl, ?_, ?_, ?_, ?_, ?_, ?_, ?_, ?_, ?_, ?_, ?_, ?_, ?_, ?_, ?_, ?_, ?_, ?_⟩
                    · exact (fun h h5 => f0 (up h rfl) (dn h5))
                    · exact (fun h => f1 (up h rfl))
                    · exact (fun h => f2 (up h rfl))
                    · exact (fun h => f3 (up h rfl))
                    · exact (fun h h5 => f4 (up h rfl) (dn h5))
                    · exact (fun h => f5 (up h rfl))
                    · exact (fun h h5 => f6 (up h rfl) (dn h5))
                    · exact (fun h h5 => f7 (up h rfl) (dn h5))
                    · exact (fun _ => rfl)
                    · exact (fun h => f9 (up h rfl))
                    · exact (fun h => f10 (up h rfl))
                    · exact (fun h => f11 (up h rfl))
                    · exact (fun h => f12 (up h rfl))
                    · exact g0
                    · exact (fun h => upl (g1 (up h rfl)))
                    · exact (fun h => upl (g2 (up h rfl)))
                    · exact (fun h => ⟨upl (g3 (up h rfl)).1, upl (g3 (up h rfl)).2.1, upl (g3 (up h rfl)).2.2⟩)
                    · exact (fun h => g4 (dn h))
                  · unfold StepOk
                    rintro d act x0 ⟨u42, u43, u44, u45, u46, u47, u48, u49, u50, u51, u52, u53, u7, rfl, f0, f1, f2, f3, f4, f5, f6, f7, f8, f9, f10, f11, f12, g0, g1, g2, g3, g4⟩ hd hdep Kc hKc
                    rw [if_pos (by rfl)]
                    go_big_op
                    refine hKc _ _ ⟨_, _, _, _, _, _, _, _, _, _, _, _, _, rfl, ?_, ?_, ?_, ?_, ?_, ?_, ?_, ?_, ?_, ?_, ?_, ?_, ?_, ?_, ?_, ?_, ?_, ?_⟩
                    · exact (fun h h5 => f0 (up h rfl) (dn h5))
                    · exact (fun h => f1 (up h rfl))
                    · exact (fun h => f2 (up h rfl))
                    · exact (fun h => f3 (up h rfl))
                    · exact (fun h h5 => f4 (up h rfl) (dn h5))
                    · exact (fun h => f5 (up h rfl))
                    · exact (fun h h5 => f6 (up h rfl) (dn h5))
                    · exact (fun h h5 => f7 (up h rfl) (dn h5))
                    · exact (fun h => f8 (up h rfl))
                    · exact (fun _ => rfl)
                    · exact (fun h => f10 (up h rfl))
                    · exact (fun h => f11 (up h rfl))
                    · exact (fun h => f12 (up h rfl))
                    · exact g0
                    · exact (fun h => upl (g1 (up h rfl)))
                    · exact (fun h => upl (g2 (up h rfl)))
                    · exact (fun h => ⟨upl (g3 (up h rfl)).1, upl (g3 (up h rfl)).2.1, upl (g3 (up h rfl)).2.2⟩)
                    · exact (fun h => g4 (dn h))
                  · unfold StepOk
                    rintro d act x0 ⟨u42, u43, u44, u45, u46, u47, u48, u49, u50, u51, u52, u53, u7, rfl, f0, f1, f2, f3, f4, f5, f6, f7, f8, f9, f10, f11, f12, g0, g1, g2, g3, g4⟩ hd hdep Kc hKc
                    have hd8 : d 8 = true := hdep ⟨8, .data⟩ (by simp) rfl
                    have hd9 : d 9 = true := hdep ⟨9, .data⟩ (by simp) rfl
                    obtain rfl := f8 hd8
                    obtain rfl := f9 hd9
                    rw [if_pos (by rfl)]
                    go_big_op
                    refine hKc _ _ ⟨_, _, _, _, _, _, _, _, _, _, _, _, _, rfl, ?_, ?_, ?_, ?_, ?_, ?_, ?_, ?_, ?_, ?_, ?_, ?_, ?_, ?_, ?_, ?_, ?_, ?_⟩
                    · exact (fun h h5 => f0 (up h rfl) (dn h5))
                    · exact (fun h => f1 (up h rfl))
                    · exact (fun h => f2 (up h rfl))
                    · exact (fun h => f3 (up h rfl))
                    · exact (fun h h5 => f4 (up h rfl) (dn h5))
                    · exact (fun h => f5 (up h rfl))
                    · exact (fun h h5 => f6 (up h rfl) (dn h5))
                    · exact (fun h h5 => f7 (up h rfl) (dn h5))
                    · exact (fun h => f8 (up h rfl))
                    · exact (fun h => f9 (up h rfl))
                    · exact (fun _ => rfl)
                    · exact (fun h => f11 (up h rfl))
                    · exact (fun h => f12 (up h rfl))
                    · exact g0
                    · exact (fun h => upl (g1 (up h rfl)))
                    · exact (fun h => upl (g2 (up h rfl)))
                    · exact (fun h => ⟨upl (g3 (up h rfl)).1, upl (g3 (up h rfl)).2.1, upl (g3 (up h rfl)).2.2⟩)
                    · exact (fun h => g4 (dn h))
                  · unfold StepOk
                    rintro d act x0 ⟨u42, u43, u44, u45, u46, u47, u48, u49, u50, u51, u52, u53, u7, rfl, f0, f1, f2, f3, f4, f5, f6, f7, f8, f9, f10, f11, f12, g0, g1, g2, g3, g4⟩ hd hdep Kc hKc
                    have hd7 : d 7 = true := hdep ⟨7, .data⟩ (by simp) rfl
                    have hd10 : d 10 = true := hdep ⟨10, .data⟩ (by simp) rfl
                    have hd4 := g1 hd7
                    have f7' := f7 hd7 hd
                    obtain rfl := f10 hd10
                    rw [if_pos (by rfl)]
                    refine wp_append_own _ _ _ 53 rfl (w5.heap.size) 65 i0 En.zero.v 10 96 Try.underlying53 hi hz0 hz1 hz2 rfl (by decide) _ (K + 1) (flat ec (S.take K ++ [x])) rfl f7' ⟨g, 0, none⟩ (m - K) (gc - K) (flat ec (S.drop K)) rfl ?c0 ?c1 ?c2 ?c3 ?c4 ?c5 ?_
                    case c0 => rw [flat_len ec_len, HDL.out]
                    case c1 => intro j u hj; rw [List.eq_nil_of_length_eq_zero (show (S.drop K).length = 0 from by rw [HDL.out]; have := of_eq_true hce; omega)] at hj; simp [flat] at hj
                    case c2 => exact flat_one ec_one _
                    case c3 => unfold maxLen; omega
                    case c4 => omega
                    case c5 => exact g0.size
                    intro v' x1 hown' hgrow _
                    have gB : Below w5.heap.size w5 x1 := g0.grown hgrow g0.size (fun q hq => own_ge f7' hq)
                    refine hKc _ _ ⟨_, _, _, _, _, _, _, _, _, _, _, _, _, rfl, ?_, ?_, ?_, ?_, ?_, ?_, ?_, ?_, ?_, ?_, ?_, ?_, ?_, ?_, ?_, ?_, ?_, ?_⟩
                    · exact (fun h h5 => by have := dn h5; rw [hd4] at this; cases this)
                    · exact (fun h => f1 (up h rfl))
                    · exact (fun h => f2 (up h rfl))
                    · exact (fun h => f3 (up h rfl))
                    · exact (fun h h5 => by have := dn h5; rw [hd7] at this; cases this)
                    · exact (fun h => f5 (up h rfl))
                    · exact (fun h h5 => by have := dn h5; rw [hd7] at this; cases this)
                    · exact (fun h h5 => by simp at h5)
                    · exact (fun h => f8 (up h rfl))
                    · exact (fun h => f9 (up h rfl))
                    · exact (fun h => f10 (up h rfl))
                    · exact (fun _ => (by rw [flat_app]; exact hown'))
                    · exact (fun h => by have := (g3 (up h rfl)).2.2; rw [hd] at this; cases this)
                    · exact gB
                    · exact (fun h => upl (g1 (up h rfl)))
                    · exact (fun h => upl hd7)
                    · exact (fun h => ⟨upl (g3 (up h rfl)).1, upl (g3 (up h rfl)).2.1, upl (g3 (up h rfl)).2.2⟩)
                    · exact (fun h => g4 (dn h))
                  · unfold StepOk
                    rintro d act x0 ⟨u42, u43, u44, u45, u46, u47, u48, u49, u50, u51, u52, u53, u7, rfl, f0, f1, f2, f3, f4, f5, f6, f7, f8, f9, f10, f11, f12, g0, g1, g2, g3, g4⟩ hd hdep Kc hKc
                    have hd1 : d 1 = true := hdep ⟨1, .phase⟩ (by simp) rfl
                    have hd8 : d 8 = true := hdep ⟨8, .phase⟩ (by simp) rfl
                    have hd11 : d 11 = true := hdep ⟨11, .data⟩ (by simp) rfl
                    rw [if_pos (by rfl)]
                    go_big_op
                    refine hKc _ _ ⟨_, _, _, _, _, _, _, _, _, _, _, _, _, rfl, ?_, ?_, ?_, ?_, ?_, ?_, ?_, ?_, ?_, ?_, ?_, ?_, ?_, ?_, ?_, ?_, ?_, ?_⟩
                    · exact (fun h h5 => f0 (up h rfl) (dn h5))
                    · exact (fun h => f1 (up h rfl))
                    · exact (fun h => f2 (up h rfl))
                    · exact (fun h => f3 (up h rfl))
                    · exact (fun h h5 => f4 (up h rfl) (dn h5))
                    · exact (fun h => f5 (up h rfl))
                    · exact (fun h h5 => f6 (up h rfl) (dn h5))
                    · exact (fun h h5 => f7 (up h rfl) (dn h5))
                    · exact (fun h => f8 (up h rfl))
                    · exact (fun h => f9 (up h rfl))
                    · exact (fun h => f10 (up h rfl))
                    · exact (fun h => f11 (up h rfl))
                    · exact (fun _ => rfl)
                    · exact g0
                    · exact (fun h => upl (g1 (up h rfl)))
                    · exact (fun h => upl (g2 (up h rfl)))
                    · exact (fun h => ⟨upl hd1, upl hd8, upl hd11⟩)
                    · exact (fun h => by simp at h)
                · rintro d act x0 ⟨u42, u43, u44, u45, u46, u47, u48, u49, u50, u51, u52, u53, u7, rfl, f0, f1, f2, f3, f4, f5, f6, f7, f8, f9, f10, f11, f12, g0, g1, g2, g3, g4⟩ hall
                
                  have f11' := f11 (hall 11 (by decide))
                  have f12' := f12 (hall 12 (by decide))
                  subst f12'
                  have HN7 := Lib.hid f11'
                  have HG0 := Lib.hid g0
                  clear f0 f1 f2 f3 f4 f5 f6 f7 f8 f9 f10 f11 f12 g0 g1 g2 g3 g4 hall f11'
                  go_wp2
                  go_roundw
                  case rel => exact ⟨J + 1, by omega, by go_num, by rw [HST.out]; unfold OwnR9 OwnR; have h9 := ownsRow_base HN7.out HBW.out.size; rw [List.length_append, List.length_append, HTL.out, HDL.out]; exact h9, ext_trans HBW.out HG0.out⟩
                  case measure => simp [intOf]; omega
              · refine wp_region_inv_eq (J := fun A d act x0 => ∃ u42 u43 u44 u45 u46 u47 u48 u49 u50 u51 u52 u53 u7 : Value, act = (((((((((((((A.put (some 42) u42).put (some 43) u43).put (some 44) u44).put (some 45) u45).put (some 46) u46).put (some 47) u47).put (some 48) u48).put (some 49) u49).put (some 50) u50).put (some 51) u51).put (some 52) u52).put (some 53) u53).put (some 7) u7) ∧ (d 0 = true → (d 4 = false → ∃ b1 : Nat, u42 = .slice (some ⟨b1, 0, none⟩) 0 0 ∧ x0.heap[b1]? = some (.cells #[] 65 (0, 0)) ∧ w5.heap.size ≤ b1)) ∧ (d 1 = true → u43 = .slice (some ⟨g, 0, none⟩) m gc) ∧ (d 2 = true → u44 = .int .i64 ((K : Nat) : Int)) ∧ (d 3 = true → u45 = .slice (some ⟨g, 0, none⟩) K gc) ∧ (d 4 = true → (d 7 = false → x0.ownsRow w5.heap.size 65 10 u46 K (flat ec (S.take K)))) ∧ (d 5 = true → u47 = .agg #[.string x.c.a, .string x.c.i, .int .i64 x.c.s, .int .i64 x.c.o, .int .i64 x.c.l, .int .i64 x.c.t, .int .i64 x.c.k, .int .i64 x.c.n, .bool x.c.g, .int .i64 x.seen]) ∧ (d 6 = true → (d 7 = false → ∃ b : Nat, u48 = .slice (some ⟨b, 0, none⟩) 1 1 ∧ x0.heap[b]? = some (.cells #[.string x.c.a, .string x.c.i, .int .i64 x.c.s, .int .i64 x.c.o, .int .i64 x.c.l, .int .i64 x.c.t, .int .i64 x.c.k, .int .i64 x.c.n, .bool x.c.g, .int .i64 x.seen] 65 (0, 0)))) ∧ (d 7 = true → (d 11 = false → x0.ownsRow w5.heap.size 65 10 u49 (K + 1) (flat ec (S.take K ++ [x])))) ∧ (d 8 = true → u50 = .slice (some ⟨g, 0, none⟩) m gc) ∧ (d 9 = true → u51 = .int .i64 ((K : Nat) : Int)) ∧ (d 10 = true → u52 = .slice (some ⟨g, K * 10, none⟩) (m - K) (gc - K)) ∧ (d 11 = true → x0.ownsRow w5.heap.size 65 10 u53 (K + 1 + (m - K)) (flat ec (S.take K ++ [x] ++ S.drop K))) ∧ (d 12 = true → u7 = u53) ∧ Below w5.heap.size w5 x0 ∧ (d 7 = true → d 4 = true) ∧ (d 11 = true → d 7 = true) ∧ (d 12 = true → d 1 = true ∧ d 8 = true ∧ d 11 = true) ∧ (d 12 = false → u7 = .slice (some ⟨g, 0, none⟩) m gc)) (by simp only [Act.put, List.setIfInBounds_toArray, List.set_cons_succ, List.set_cons_zero]; rfl) (by kernel_rfl) (by kernel_rfl) ?_ ?_ ?_
                · refine ⟨_, _, _, _, _, _, _, _, _, _, _, _, _, rfl, ?_, ?_, ?_, ?_, ?_, ?_, ?_, ?_, ?_, ?_, ?_, ?_, ?_, ?_, ?_, ?_, ?_, ?_⟩
                  · intro h; cases h
                  · intro h; cases h
                  · intro h; cases h
                  · intro h; cases h
                  · intro h; cases h
                  · intro h; cases h
                  · intro h; cases h
                  · intro h; cases h
                  · intro h; cases h
                  · intro h; cases h
                  · intro h; cases h
                  · intro h; cases h
                  · intro h; cases h
                  · exact (Below.refl _ _).drew
                  · exact (fun h => by cases h)
                  · exact (fun h => by cases h)
                  · exact (fun h => by cases h)
                  · exact (fun _ => rfl)
                · refine stepsOk_cons (k := 0) ?_ (stepsOk_cons (k := 1) ?_ (stepsOk_cons (k := 2) ?_ (stepsOk_cons (k := 3) ?_ (stepsOk_cons (k := 4) ?_ (stepsOk_cons (k := 5) ?_ (stepsOk_cons (k := 6) ?_ (stepsOk_cons (k := 7) ?_ (stepsOk_cons (k := 8) ?_ (stepsOk_cons (k := 9) ?_ (stepsOk_cons (k := 10) ?_ (stepsOk_cons (k := 11) ?_ (stepsOk_cons (k := 12) ?_ stepsOk_nil))))))))))))
                  · unfold StepOk
                    rintro d act x0 ⟨u42, u43, u44, u45, u46, u47, u48, u49, u50, u51, u52, u53, u7, rfl, f0, f1, f2, f3, f4, f5, f6, f7, f8, f9, f10, f11, f12, g0, g1, g2, g3, g4⟩ hd hdep Kc hKc
                    rw [if_pos (by rfl)]
                    go_big_op
                    refine hKc _ _ ⟨_, _, _, _, _, _, _, _, _, _, _, _, _, rfl, ?_, ?_, ?_, ?_, ?_, ?_, ?_, ?_, ?_, ?_, ?_, ?_, ?_, ?_, ?_, ?_, ?_, ?_⟩
                    · exact (fun _ => (fun h5 => ⟨_, rfl, blk_new _ _ _, g0.size⟩))
                    · exact (fun h => f1 (up h rfl))
                    · exact (fun h => f2 (up h rfl))
                    · exact (fun h => f3 (up h rfl))
                    · exact (fun h h5 => (f4 (up h rfl) (dn h5)).alloc _)
                    · exact (fun h => f5 (up h rfl))
                    · exact (fun h h5 => by obtain ⟨b, e1, e2⟩ := f6 (up h rfl) (dn h5); exact ⟨b, e1, blk_alloc e2 _⟩)
                    · exact (fun h h5 => (f7 (up h rfl) (dn h5)).alloc _)
                    · exact (fun h => f8 (up h rfl))
                    · exact (fun h => f9 (up h rfl))
                    · exact (fun h => f10 (up h rfl))
                    · exact (fun h => (f11 (up h rfl)).alloc _)
                    · exact (fun h => f12 (up h rfl))
                    · exact (g0.alloc g0.size _)
                    · exact (fun h => upl (g1 (up h rfl)))
                    · exact (fun h => upl (g2 (up h rfl)))
                    · exact (fun h => ⟨upl (g3 (up h rfl)).1, upl (g3 (up h rfl)).2.1, upl (g3 (up h rfl)).2.2⟩)
                    · exact (fun h => g4 (dn h))
                  · unfold StepOk
                    rintro d act x0 ⟨u42, u43, u44, u45, u46, u47, u48, u49, u50, u51, u52, u53, u7, rfl, f0, f1, f2, f3, f4, f5, f6, f7, f8, f9, f10, f11, f12, g0, g1, g2, g3, g4⟩ hd hdep Kc hKc
                    have h12 : d 12 = false := by
                      cases h : d 12 with
                      | false => rfl
                      | true => have := (g3 h).1; rw [hd] at this; cases this
                    obtain rfl := g4 h12
                    rw [if_pos (by rfl)]
                    go_big_op
                    refine hKc _ _ ⟨_, _, _, _, _, _, _, _, _, _, _, _, _, rfl, ?_, ?_, ?_, ?_, ?_, ?_, ?_, ?_, ?_, ?_, ?_, ?_, ?_, ?_, ?_, ?_, ?_, ?_⟩
                    · exact (fun h h5 => f0 (up h rfl) (dn h5))
                    · exact (fun _ => rfl)
                    · exact (fun h => f2 (up h rfl))
                    · exact (fun h => f3 (up h rfl))
                    · exact (fun h h5 => f4 (up h rfl) (dn h5))
                    · exact (fun h => f5 (up h rfl))
                    · exact (fun h h5 => f6 (up h rfl) (dn h5))
                    · exact (fun h h5 => f7 (up h rfl) (dn h5))
                    · exact (fun h => f8 (up h rfl))
                    · exact (fun h => f9 (up h rfl))
                    · exact (fun h => f10 (up h rfl))
                    · exact (fun h => f11 (up h rfl))
                    · exact (fun h => f12 (up h rfl))
                    · exact g0
                    · exact (fun h => upl (g1 (up h rfl)))
                    · exact (fun h => upl (g2 (up h rfl)))
                    · exact (fun h => ⟨upl (g3 (up h rfl)).1, upl (g3 (up h rfl)).2.1, upl (g3 (up h rfl)).2.2⟩)
                    · exact (fun h => g4 (dn h))
                  · unfold StepOk
                    rintro d act x0 ⟨u42, u43, u44, u45, u46, u47, u48, u49, u50, u51, u52, u53, u7, rfl, f0, f1, f2, f3, f4, f5, f6, f7, f8, f9, f10, f11, f12, g0, g1, g2, g3, g4⟩ hd hdep Kc hKc
                    rw [if_pos (by rfl)]
                    go_big_op
                    refine hKc _ _ ⟨_, _, _, _, _, _, _, _, _, _, _, _, _, rfl, ?_, ?_, ?_, ?_, ?_, ?_, ?_, ?_, ?_, ?_, ?_, ?_, ?_, ?_, ?_, ?_, ?_, ?_⟩
                    · exact (fun h h5 => f0 (up h rfl) (dn h5))
                    · exact (fun h => f1 (up h rfl))
                    · exact (fun _ => rfl)
                    · exact (fun h => f3 (up h rfl))
                    · exact (fun h h5 => f4 (up h rfl) (dn h5))
                    · exact (fun h => f5 (up h rfl))
                    · exact (fun h h5 => f6 (up h rfl) (dn h5))
                    · exact (fun h h5 => f7 (up h rfl) (dn h5))
                    · exact (fun h => f8 (up h rfl))
                    · exact (fun h => f9 (up h rfl))
                    · exact (fun h => f10 (up h rfl))
                    · exact (fun h => f11 (up h rfl))
                    · exact (fun h => f12 (up h rfl))
                    · exact g0
                    · exact (fun h => upl (g1 (up h rfl)))
                    · exact (fun h => upl (g2 (up h rfl)))
                    · exact (fun h => ⟨upl (g3 (up h rfl)).1, upl (g3 (up h rfl)).2.1, upl (g3 (up h rfl)).2.2⟩)
                    · exact (fun h => g4 (dn h))
                  · unfold StepOk
                    rintro d act x0 ⟨u42, u43, u44, u45, u46, u47, u48, u49, u50, u51, u52, u53, u7, rfl, f0, f1, f2, f3, f4, f5, f6, f7, f8, f9, f10, f11, f12, g0, g1, g2, g3, g4⟩ hd hdep Kc hKc
                    have hd1 : d 1 = true := hdep ⟨1, .data⟩ (by simp) rfl
                    have hd2 : d 2 = true := hdep ⟨2, .data⟩ (by simp) rfl
                    obtain rfl := f1 hd1
                    obtain rfl := f2 hd2
                    rw [if_pos (by rfl)]
                    go_big_op
                    refine hKc _ _ ⟨_, _, _, _, _, _, _, _, _, _, _, _, _, rfl, ?_, ?_, ?_, ?_, ?_, ?_, ?_, ?_, ?_, ?_, ?_, ?_, ?_, ?_, ?_, ?_, ?_, ?_⟩
                    · exact (fun h h5 => f0 (up h rfl) (dn h5))
                    · exact (fun h => f1 (up h rfl))
                    · exact (fun h => f2 (up h rfl))
                    · exact (fun _ => rfl)
                    · exact (fun h h5 => f4 (up h rfl) (dn h5))
                    · exact (fun h => f5 (up h rfl))
                    · exact (fun h h5 => f6 (up h rfl) (dn h5))
                    · exact (fun h h5 => f7 (up h rfl) (dn h5))
                    · exact (fun h => f8 (up h rfl))
                    · exact (fun h => f9 (up h rfl))
                    · exact (fun h => f10 (up h rfl))
                    · exact (fun h => f11 (up h rfl))
                    · exact (fun h => f12 (up h rfl))
                    · exact g0
                    · exact (fun h => upl (g1 (up h rfl)))
                    · exact (fun h => upl (g2 (up h rfl)))
                    · exact (fun h => ⟨upl (g3 (up h rfl)).1, upl (g3 (up h rfl)).2.1, upl (g3 (up h rfl)).2.2⟩)
                    · exact (fun h => g4 (dn h))
                  · unfold StepOk
                    rintro d act x0 ⟨u42, u43, u44, u45, u46, u47, u48, u49, u50, u51, u52, u53, u7, rfl, f0, f1, f2, f3, f4, f5, f6, f7, f8, f9, f10, f11, f12, g0, g1, g2, g3, g4⟩ hd hdep Kc hKc
                    have hd0 : d 0 = true := hdep ⟨0, .data⟩ (by simp) rfl
                    have hd3 : d 3 = true := hdep ⟨3, .data⟩ (by simp) rfl
                    have h7 : d 7 = false := by
                      cases h : d 7 with
                      | false => rfl
                      | true => have := g1 h; rw [hd] at this; cases this
                    have h11 : d 11 = false := by
                      cases h : d 11 with
                      | false => rfl
                      | true => have := g2 h; rw [h7] at this; cases this
                    obtain ⟨b1, rfl, hb1, hge1⟩ := f0 hd0 hd
                    have f0o := own_emptyR hb1 hge1
                    obtain rfl := f3 hd3
                    rw [if_pos (by rfl)]
                    refine wp_append_own _ _ _ 53 rfl (w5.heap.size) 65 i0 En.zero.v 10 96 Try.underlying53 hi hz0 hz1 hz2 rfl (by decide) _ 0 (flat ec []) rfl f0o ⟨g, 0, none⟩ K gc (flat ec (S.take K)) rfl ?c0 ?c1 ?c2 ?c3 ?c4 ?c5 ?_
                    case c0 => rw [flat_len ec_len, HTL.out]
                    case c1 => intro j u hj; rw [add_off]; exact RE9.cells (SAt.take ec_len K (HCS.out.ext g0)) j u hj
                    case c2 => exact flat_one ec_one _
                    case c3 => unfold maxLen; omega
                    case c4 => omega
                    case c5 => exact g0.size
                    intro v' x1 hown' hgrow _
                    have gB : Below w5.heap.size w5 x1 := g0.grown hgrow g0.size (fun q hq => own_ge f0o hq)
                    refine hKc _ _ ⟨_, _, _, _, _, _, _, _, _, _, _, _, _, rfl, ?_, ?_, ?_, ?_, ?_, ?_, ?_, ?_, ?_, ?_, ?_, ?_, ?_, ?_, ?_, ?_, ?_, ?_⟩
                    · exact (fun h h5 => by simp at h5)
                    · exact (fun h => f1 (up h rfl))
                    · exact (fun h => f2 (up h rfl))
                    · exact (fun h => f3 (up h rfl))
                    · exact (fun _ => (fun h5 => by simpa [flat_nil] using hown'))
                    · exact (fun h => f5 (up h rfl))
                    · exact (fun h h5 => by obtain ⟨b, e1, e2⟩ := f6 (up h rfl) (dn h5); exact ⟨b, e1, (hgrow.block b (blk_lt e2) (by show some b ≠ some b1; simpa using blk_neR e2 hb1)).trans e2⟩)
                    · exact (fun h h5 => by have := up h rfl; rw [h7] at this; cases this)
                    · exact (fun h => f8 (up h rfl))
                    · exact (fun h => f9 (up h rfl))
                    · exact (fun h => f10 (up h rfl))
                    · exact (fun h => by have := up h rfl; rw [h11] at this; cases this)
                    · exact (fun h => f12 (up h rfl))
                    · exact gB
                    · exact (fun h => by simp)
                    · exact (fun h => upl (g2 (up h rfl)))
                    · exact (fun h => ⟨upl (g3 (up h rfl)).1, upl (g3 (up h rfl)).2.1, upl (g3 (up h rfl)).2.2⟩)
                    · exact (fun h => g4 (dn h))
                  · unfold StepOk
                    rintro d act x0 ⟨u42, u43, u44, u45, u46, u47, u48, u49, u50, u51, u52, u53, u7, rfl, f0, f1, f2, f3, f4, f5, f6, f7, f8, f9, f10, f11, f12, g0, g1, g2, g3, g4⟩ hd hdep Kc hKc
                    have hx5 := blk_cell (blk_ext g0 HRB.out)
                    have hl5 := blk_lt (blk_ext g0 HRB.out)
                    rw [if_pos (by rfl)]
                    go_big_op
                    refine hKc _ _ ⟨_, _, _, _, _, _, _, _, _, _, _, _, _, rfl, ?_, ?_, ?_, ?_, ?_, ?_, ?_, ?_, ?_, ?_, ?_, ?_, ?_, ?_, ?_, ?_, ?_, ?_⟩
                    · exact (fun h h5 => f0 (up h rfl) (dn h5))
                    · exact (fun h => f1 (up h rfl))
                    · exact (fun h => f2 (up h rfl))
                    · exact (fun h => f3 (up h rfl))
                    · exact (fun h h5 => f4 (up h rfl) (dn h5))
                    · exact (fun _ => rfl)
                    · exact (fun h h5 => f6 (up h rfl) (dn h5))
                    · exact (fun h h5 => f7 (up h rfl) (dn h5))
                    · exact (fun h => f8 (up h rfl))
                    · exact (fun h => f9 (up h rfl))
                    · exact (fun h => f10 (up h rfl))
                    · exact (fun h => f11 (up h rfl))
                    · exact (fun h => f12 (up h rfl))
                    · exact g0
                    · exact (fun h => upl (g1 (up h rfl)))
                    · exact (fun h => upl (g2 (up h rfl)))
                    · exact (fun h => ⟨upl (g3 (up h rfl)).1, upl (g3 (up h rfl)).2.1, upl (g3 (up h rfl)).2.2⟩)
                    · exact (fun h => g4 (dn h))
                  · unfold StepOk
                    rintro d act x0 ⟨u42, u43, u44, u45, u46, u47, u48, u49, u50, u51, u52, u53, u7, rfl, f0, f1, f2, f3, f4, f5, f6, f7, f8, f9, f10, f11, f12, g0, g1, g2, g3, g4⟩ hd hdep Kc hKc
                    have hd5 : d 5 = true := hdep ⟨5, .data⟩ (by simp) rfl
                    obtain rfl := f5 hd5
                    rw [if_pos (by rfl)]
                    go_big_op
                    refine hKc _ _ ⟨_, _, _, _, _, _, _, _, _, _, _, _, _, rfl, ?_, ?_, ?_, ?_, ?_, ?_, ?_, ?_, ?_, ?_, ?_, ?_, ?_, ?_, ?_, ?_, ?_, ?_⟩
                    · exact (fun h h5 => by obtain ⟨b1, e1, e2, e3⟩ := f0 (up h rfl) (dn h5); exact ⟨b1, e1, blk_alloc e2 _, e3⟩)
                    · exact (fun h => f1 (up h rfl))
                    · exact (fun h => f2 (up h rfl))
                    · exact (fun h => f3 (up h rfl))
                    · exact (fun h h5 => (f4 (up h rfl) (dn h5)).alloc _)
                    · exact (fun h => f5 (up h rfl))
                    · exact (fun _ => (fun h5 => ⟨_, rfl, blk_new _ _ _⟩))
                    · exact (fun h h5 => (f7 (up h rfl) (dn h5)).alloc _)
                    · exact (fun h => f8 (up h rfl))
                    · exact (fun h => f9 (up h rfl))
                    · exact (fun h => f10 (up h rfl))
                    · exact (fun h => (f11 (up h rfl)).alloc _)
                    · exact (fun h => f12 (up h rfl))
                    · exact (g0.alloc g0.size _)
                    · exact (fun h => upl (g1 (up h rfl)))
                    · exact (fun h => upl (g2 (up h rfl)))
                    · exact (fun h => ⟨upl (g3 (up h rfl)).1, upl (g3 (up h rfl)).2.1, upl (g3 (up h rfl)).2.2⟩)
                    · exact (fun h => g4 (dn h))
                  · unfold StepOk
                    rintro d act x0 ⟨u42, u43, u44, u45, u46, u47, u48, u49, u50, u51, u52, u53, u7, rfl, f0, f1, f2, f3, f4, f5, f6, f7, f8, f9, f10, f11, f12, g0, g1, g2, g3, g4⟩ hd hdep Kc hKc
                    have hd4 : d 4 = true := hdep ⟨4, .data⟩ (by simp) rfl
                    have hd6 : d 6 = true := hdep ⟨6, .data⟩ (by simp) rfl
                    have h11 : d 11 = false := by
                      cases h : d 11 with
                      | false => rfl
                      | true => have := g2 h; rw [hd] at this; cases this
                    have f4' := f4 hd4 hd
                    obtain ⟨b4, rfl, hb4⟩ := f6 hd6 hd
                    rw [if_pos (by rfl)]
                    refine wp_append_own _ _ _ 53 rfl (w5.heap.size) 65 i0 En.zero.v 10 96 Try.underlying53 hi hz0 hz1 hz2 rfl (by decide) _ K (flat ec (S.take K)) rfl f4' ⟨b4, 0, none⟩ 1 1 (ec x) rfl ?c0 ?c1 ?c2 ?c3 ?c4 ?c5 ?_
                    case c0 => rfl
                    case c1 => intro j u hj; rw [add_off, Nat.zero_add, blk_cell hb4]; simpa [ec] using hj
                    case c2 => exact ec_one x
                    case c3 => unfold maxLen; omega
                    case c4 => omega
                    case c5 => exact g0.size
                    intro v' x1 hown' hgrow _
                    have gB : Below w5.heap.size w5 x1 := g0.grown hgrow g0.size (fun q hq => own_ge f4' hq)
                    refine hKc _ _ ⟨_, _, _, _, _, _, _, _, _, _, _, _, _, rfl, ?_, ?_, ?_, ?_, ?_, ?_, ?_, ?_, ?_, ?_, ?_, ?_, ?_, ?_, ?_, ?_, ?_, ?_⟩
                    · exact (fun h h5 => by have := dn h5; rw [hd4] at this; cases this)
                    · exact (fun h => f1 (up h rfl))
                    · exact (fun h => f2 (up h rfl))
                    · exact (fun h => f3 (up h rfl))
                    · exact (fun h h5 => by simp at h5)
                    · exact (fun h => f5 (up h rfl))
                    · exact (fun h h5 => by simp at h5)
                    · exact (fun _ => (fun h5 => by rw [flat_snoc]; exact hown'))
                    · exact (fun h => f8 (up h rfl))
                    · exact (fun h => f9 (up h rfl))
                    · exact (fun h => f10 (up h rfl))
                    · exact (fun h => by have := up h rfl; rw [h11] at this; cases this)
                    · exact (fun h => f12 (up h rfl))
                    · exact gB
                    · exact (fun h => upl hd4)
                    · exact (fun h => upl (g2 (up h rfl)))
                    · exact (fun h => ⟨upl (g3 (up h rfl)).1, upl (g3 (up h rfl)).2.1, upl (g3 (up h rfl)).2.2⟩)
                    · exact (fun h => g4 (dn h))
                  · unfold StepOk
                    rintro d act x0 ⟨u42, u43, u44, u45, u46, u47, u48, u49, u50, u51, u52, u53, u7, rfl, f0, f1, f2, f3, f4, f5, f6, f7, f8, f9, f10, f11, f12, g0, g1, g2, g3, g4⟩ hd hdep Kc hKc
                    have h12 : d 12 = false := by
                      cases h : d 12 with
                      | false => rfl
                      | true => have := (g3 h).2.1; rw [hd] at this; cases this
                    obtain rfl := g4 h12
                    rw [if_pos (by rfl)]
                    go_big_op
                    refine hKc _ _ ⟨_, _, _, _, _, _, _, _, _, _, _, _, _, rfl, ?_, ?_, ?_, ?_, ?_, ?_, ?_, ?_, ?_, ?_, ?_, ?_, ?_, ?_, ?_, ?_, ?_, ?_⟩
                    · exact (fun h h5 => f0 (up h rfl) (dn h5))
                    · exact (fun h => f1 (up h rfl))
                    · exact (fun h => f2 (up h rfl))
                    · exact (fun h => f3 (up h rfl))
                    · exact (fun h h5 => f4 (up h rfl) (dn h5))
                    · exact (fun h => f5 (up h rfl))
                    · exact (fun h h5 => f6 (up h rfl) (dn h5))
                    · exact (fun h h5 => f7 (up h rfl) (dn h5))
                    · exact (fun _ => rfl)
                    · exact (fun h => f9 (up h rfl))
                    · exact (fun h => f10 (up h rfl))
                    · exact (fun h => f11 (up h rfl))
                    · exact (fun h => f12 (up h rfl))
                    · exact g0
                    · exact (fun h => upl (g1 (up h rfl)))
                    · exact (fun h => upl (g2 (up h rfl)))
                    · exact (fun h => ⟨upl (g3 (up h rfl)).1, upl (g3 (up h rfl)).2.1, upl (g3 (up h rfl)).2.2⟩)
                    · exact (fun h => g4 (dn h))
                  · unfold StepOk
                    rintro d act x0 ⟨u42, u43, u44, u45, u46, u47, u48, u49, u50, u51, u52, u53, u7, rfl, f0, f1, f2, f3, f4, f5, f6, f7, f8, f9, f10, f11, f12, g0, g1, g2, g3, g4⟩ hd hdep Kc hKc
                    rw [if_pos (by rfl)]
                    go_big_op
                    refine hKc _ _ ⟨_, _, _, _, _, _, _, _, _, _, _, _, _, rfl, ?_, ?_, ?_, ?_, ?_, ?_, ?_, ?_, ?_, ?_, ?_, ?_, ?_, ?_, ?_, ?_, ?_, ?_⟩
                    · exact (fun h h5 => f0 (up h rfl) (dn h5))
                    · exact (fun h => f1 (up h rfl))
                    · exact (fun h => f2 (up h rfl))
                    · exact (fun h => f3 (up h rfl))
                    · exact (fun h h5 => f4 (up h rfl) (dn h5))
                    · exact (fun h => f5 (up h rfl))
                    · exact (fun h h5 => f6 (up h rfl) (dn h5))
                    · exact (fun h h5 => f7 (up h rfl) (dn h5))
                    · exact (fun h => f8 (up h rfl))
                    · exact (fun _ => rfl)
                    · exact (fun h => f10 (up h rfl))
                    · exact (fun h => f11 (up h rfl))
                    · exact (fun h => f12 (up h rfl))
                    · exact g0
                    · exact (fun h => upl (g1 (up h rfl)))
                    · exact (fun h => upl (g2 (up h rfl)))
                    · exact (fun h => ⟨upl (g3 (up h rfl)).1, upl (g3 (up h rfl)).2.1, upl (g3 (up h rfl)).2.2⟩)
                    · exact (fun h => g4 (dn h))
                  · unfold StepOk
                    rintro d act x0 ⟨u42, u43, u44, u45, u46, u47, u48, u49, u50, u51, u52, u53, u7, rfl, f0, f1, f2, f3, f4, f5, f6, f7, f8, f9, f10, f11, f12, g0, g1, g2, g3, g4⟩ hd hdep Kc hKc
                    have hd8 : d 8 = true := hdep ⟨8, .data⟩ (by simp) rfl
                    have hd9 : d 9 = true := hdep ⟨9, .data⟩ (by simp) rfl
                    obtain rfl := f8 hd8
                    obtain rfl := f9 hd9
                    rw [if_pos (by rfl)]
                    go_big_op
                    refine hKc _ _ ⟨_, _, _, _, _, _, _, _, _, _, _, _, _, rfl, ?_, ?_, ?_, ?_, ?_, ?_, ?_, ?_, ?_, ?_, ?_, ?_, ?_, ?_, ?_, ?_, ?_, ?_⟩
                    · exact (fun h h5 => f0 (up h rfl) (dn h5))
                    · exact (fun h => f1 (up h rfl))
                    · exact (fun h => f2 (up h rfl))
                    · exact (fun h => f3 (up h rfl))
                    · exact (fun h h5 => f4 (up h rfl) (dn h5))
                    · exact (fun h => f5 (up h rfl))
                    · exact (fun h h5 => f6 (up h rfl) (dn h5))
                    · exact (fun h h5 => f7 (up h rfl) (dn h5))
                    · exact (fun h => f8 (up h rfl))
                    · exact (fun h => f9 (up h rfl))
                    · exact (fun _ => rfl)
                    · exact (fun h => f11 (up h rfl))
                    · exact (fun h => f12 (up h rfl))
                    · exact g0
                    · exact (fun h => upl (g1 (up h rfl)))
                    · exact (fun h => upl (g2 (up h rfl)))
                    · exact (fun h => ⟨upl (g3 (up h rfl)).1, upl (g3 (up h rfl)).2.1, upl (g3 (up h rfl)).2.2⟩)
                    · exact (fun h => g4 (dn h))
                  · unfold StepOk
                    rintro d act x0 ⟨u42, u43, u44, u45, u46, u47, u48, u49, u50, u51, u52, u53, u7, rfl, f0, f1, f2, f3, f4, f5, f6, f7, f8, f9, f10, f11, f12, g0, g1, g2, g3, g4⟩ hd hdep Kc hKc
                    have hd7 : d 7 = true := hdep ⟨7, .data⟩ (by simp) rfl
                    have hd10 : d 10 = true := hdep ⟨10, .data⟩ (by simp) rfl
                    have hd4 := g1 hd7
                    have f7' := f7 hd7 hd
                    obtain rfl := f10 hd10
                    rw [if_pos (by rfl)]
                    refine wp_append_own _ _ _ 53 rfl (w5.heap.size) 65 i0 En.zero.v 10 96 Try.underlying53 hi hz0 hz1 hz2 rfl (by decide) _ (K + 1) (flat ec (S.take K ++ [x])) rfl f7' ⟨g, K * 10, none⟩ (m - K) (gc - K) (flat ec (S.drop K)) rfl ?c0 ?c1 ?c2 ?c3 ?c4 ?c5 ?_
                    case c0 => rw [flat_len ec_len, HDL.out]
                    case c1 => intro j u hj; rw [add_off]; have h9 := (SAt.drop ec_len K (HCS.out.ext g0)); rw [Nat.zero_add] at h9; exact RE9.cells h9 j u hj
                    case c2 => exact flat_one ec_one _
                    case c3 => unfold maxLen; omega
                    case c4 => omega
                    case c5 => exact g0.size
                    intro v' x1 hown' hgrow _
                    have gB : Below w5.heap.size w5 x1 := g0.grown hgrow g0.size (fun q hq => own_ge f7' hq)
                    refine hKc _ _ ⟨_, _, _, _, _, _, _, _, _, _, _, _, _, rfl, ?_, ?_, ?_, ?_, ?_, ?_, ?_, ?_, ?_, ?_, ?_, ?_, ?_, ?_, ?_, ?_, ?_, ?_⟩
                    · exact (fun h h5 => by have := dn h5; rw [hd4] at this; cases this)
                    · exact (fun h => f1 (up h rfl))
                    · exact (fun h => f2 (up h rfl))
                    · exact (fun h => f3 (up h rfl))
                    · exact (fun h h5 => by have := dn h5; rw [hd7] at this; cases this)
                    · exact (fun h => f5 (up h rfl))
                    · exact (fun h h5 => by have := dn h5; rw [hd7] at this; cases this)
                    · exact (fun h h5 => by simp at h5)
                    · exact (fun h => f8 (up h rfl))
                    · exact (fun h => f9 (up h rfl))
                    · exact (fun h => f10 (up h rfl))
                    · exact (fun _ => (by rw [flat_app]; exact hown'))
                    · exact (fun h => by have := (g3 (up h rfl)).2.2; rw [hd] at this; cases this)
                    · exact gB
                    · exact (fun h => upl (g1 (up h rfl)))
                    · exact (fun h => upl hd7)
                    · exact (fun h => ⟨upl (g3 (up h rfl)).1, upl (g3 (up h rfl)).2.1, upl (g3 (up h rfl)).2.2⟩)
                    · exact (fun h => g4 (dn h))
                  · unfold StepOk
                    rintro d act x0 ⟨u42, u43, u44, u45, u46, u47, u48, u49, u50, u51, u52, u53, u7, rfl, f0, f1, f2, f3, f4, f5, f6, f7, f8, f9, f10, f11, f12, g0, g1, g2, g3, g4⟩ hd hdep Kc hKc
                    have hd1 : d 1 = true := hdep ⟨1, .phase⟩ (by simp) rfl
                    have hd8 : d 8 = true := hdep ⟨8, .phase⟩ (by simp) rfl
                    have hd11 : d 11 = true := hdep ⟨11, .data⟩ (by simp) rfl
                    rw [if_pos (by rfl)]
                    go_big_op
                    refine hKc _ _ ⟨_, _, _, _, _, _, _, _, _, _, _, _, _, rfl, ?_, ?_, ?_, ?_, ?_, ?_, ?_, ?_, ?_, ?_, ?_, ?_, ?_, ?_, ?_, ?_, ?_, ?_⟩
                    · exact (fun h h5 => f0 (up h rfl) (dn h5))
                    · exact (fun h => f1 (up h rfl))
                    · exact (fun h => f2 (up h rfl))
                    · exact (fun h => f3 (up h rfl))
                    · exact (fun h h5 => f4 (up h rfl) (dn h5))
                    · exact (fun h => f5 (up h rfl))
                    · exact (fun h h5 => f6 (up h rfl) (dn h5))
                    · exact (fun h h5 => f7 (up h rfl) (dn h5))
                    · exact (fun h => f8 (up h rfl))
                    · exact (fun h => f9 (up h rfl))
                    · exact (fun h => f10 (up h rfl))
                    · exact (fun h => f11 (up h rfl))
                    · exact (fun _ => rfl)
                    · exact g0
                    · exact (fun h => upl (g1 (up h rfl)))
                    · exact (fun h => upl (g2 (up h rfl)))
                    · exact (fun h => ⟨upl hd1, upl hd8, upl hd11⟩)
                    · exact (fun h => by simp at h)
                · rintro d act x0 ⟨u42, u43, u44, u45, u46, u47, u48, u49, u50, u51, u52, u53, u7, rfl, f0, f1, f2, f3, f4, f5, f6, f7, f8, f9, f10, f11, f12, g0, g1, g2, g3, g4⟩ hall
                
                  have f11' := f11 (hall 11 (by decide))
                  have f12' := f12 (hall 12 (by decide))
                  subst f12'
                  have HN7 := Lib.hid f11'
                  have HG0 := Lib.hid g0
                  clear f0 f1 f2 f3 f4 f5 f6 f7 f8 f9 f10 f11 f12 g0 g1 g2 g3 g4 hall f11'
                  go_wp2
                  go_roundw
                  case rel => exact ⟨J + 1, by omega, by go_num, by rw [HST.out]; unfold OwnR9 OwnR; have h9 := ownsRow_base HN7.out HBW.out.size; rw [List.length_append, List.length_append, HTL.out, HDL.out]; exact h9, ext_trans HBW.out HG0.out⟩
                  case measure => simp [intOf]; omega
      · have HLS := Lib.hid (show srt (elt now) (lats (l.take (J + 1)) now lt) = S from by rw [HST.out, lats_no (by rw [hL]; exact h4), HS.out])
        go_wp2
        go_roundw
        case rel => exact ⟨J + 1, by omega, by go_num, by rw [HLS.out]; exact (by have h9 := HO3.out; rw [← HM.out] at h9; first | exact h9 | (rw [HM.out] at h9; exact h9)), HB3.out⟩
        case measure => simp [intOf]; omega
    · obtain rfl : J = n := by omega
      have htk : l.take J = l := List.take_of_length_le (by have := HN.out; omega)
      rw [htk] at ho2
      obtain ⟨U, hU⟩ : ∃ U, srt (elt now) (lats l now lt) = U := ⟨_, rfl⟩
      rw [hU] at ho2
      obtain ⟨q, hq⟩ : ∃ q, U.length = q := ⟨_, rfl⟩
      have hq1 : q ≤ 1000 := by rw [← hq, ← hU, srt_len]; have := lats_len l now lt; have := HN.out; omega
      obtain ⟨ua, uc, hgv, huc, hum, hua, -, huf⟩ := ho2.read ec_len
      rw [hq] at hgv huc
      unfold maxLen at hum
      subst hgv
      have HUA := Lib.hid hua
      have HU := Lib.hid hq
      have HUU := Lib.hid hU
      have HB2 := Lib.hid hb2
      obtain ⟨M, hM⟩ : ∃ M, mostN (lives l) = M := ⟨_, rfl⟩
      have HMM := Lib.hid hM
      have hLn : lives l ≤ 1000 := by have := lives_len l; have := HN.out; omega
      have HLn := Lib.hid hLn
      clear ho2 hb2 hua hq hU htk hM hLn
      have hqz : (∃ g, ua = some ⟨g, 0, none⟩) ∨ q = 0 := by
        rcases huf with ⟨_, _, e⟩ | h
        · right; rw [← HU.out, e]; rfl
        · exact .inl h
      clear huf
      have Z2 := HB2.out.size
      go_wp2_with fail
      go_loopw [11, 12] (fun g i wr => ∃ I : Nat, I ≤ q ∧ I ≤ M ∧ i = .int .i64 (I : Int) ∧ OwnK w2.heap.size wr g ((U.take I).map (fun e => (e.c.a, e.c.i))) ∧ Below w2.heap.size w2 wr) (fun g i _ => q - (intOf i).toNat)
      case atStart => exact ⟨0, by omega, by omega, rfl, OwnR.nil _ _, Below.refl _ _⟩
      case round =>
        obtain ⟨w4, rfl⟩ : ∃ z : World, z = wr := ⟨_, rfl⟩
        obtain ⟨I, hI, hIM, rfl, ho4, hb4⟩ := hrel
        obtain ⟨S2, hS⟩ : ∃ S, (U.take I).map (fun e => (e.c.a, e.c.i)) = S := ⟨_, rfl⟩
        rw [hS] at ho4
        obtain ⟨p, hm⟩ : ∃ m, S2.length = m := ⟨_, rfl⟩
        have hm1 : p ≤ 1000 := by rw [← hm, ← hS, List.length_map, List.length_take]; omega
        obtain ⟨ga, gc, hgv, hgc, hgm, -, -, -⟩ := ho4.read ky_len
        rw [hm] at hgc hgv
        subst hgv
        have HM := Lib.hid hm
        have HSS := Lib.hid hS
        unfold maxLen at hgm
        by_cases hlq : I < q
        · obtain ⟨y, hy⟩ : ∃ y, U[I]? = some y := ⟨_, List.getElem?_eq_getElem (by have := HU.out; omega)⟩
          have HY := Lib.hid hy
          have HSN := Lib.hid (show (U.take (I + 1)).map (fun e => (e.c.a, e.c.i)) = S2 ++ [(y.c.a, y.c.i)] from by rw [take_snoc hy, map_snoc, hS])
          obtain ⟨g, rfl⟩ : ∃ g, ua = some ⟨g, 0, none⟩ := by
            rcases hqz with h | h
            · exact h
            · omega
          have HO4 := Lib.hid ho4
          have HB4 := Lib.hid hb4
          clear ho4 hb4 hy hS hm hqz
          go_wp2_with fail
          refine (refLive a _ c l _ (HA.out.ext (ext_trans HB2.out HB4.out)) HN.out hn hnc).mono ?_
          rintro e w6 ⟨rfl, hb6⟩
          have HO6 := Lib.hid (HO4.out.ext hb6)
          have HB6 := Lib.hid (ext_trans HB4.out hb6)
          have Z6 := HB6.out.size
          clear HO4 HB4 hb6
          go_wp2_with fail
          refine (refPartI _ _).mono ?_
          rintro e w7 ⟨rfl, rfl⟩
          rw [mostI_nat _ (by have := HLn.out; omega), HMM.out]
          by_cases hlM : I < M
          · obtain ⟨y0, y1, -⟩ := RE9.at (HUA.out.ext HB6.out) HY.out
            simp only [Nat.zero_add] at y0 y1
            have HO6' := Lib.hid (show w6.ownsRow w2.heap.size 30 2 (.slice ga p gc) p (flat ky S2) from by have := HO6.out; unfold OwnR at this; rw [HM.out] at this; exact this)
            go_wp2_with (at_builtin; refine wpList_append_own _ rfl _ _ 39 rfl (w2.heap.size) 30 j0 (.agg #[.string ⟨#[]⟩, .string ⟨#[]⟩]) 2 32 Try.underlying39 gi gz0 gz1 gz2 rfl (by decide) _ p (flat ky S2) rfl (HO6'.out.alloc (.cells #[.string y.c.a, .string y.c.i] 30)) ⟨w6.heap.size, 0, none⟩ 1 1 (ky (y.c.a, y.c.i)) rfl rfl ?c1 ?c2 ?c3 ?c4 ?c5 ?_)
            case c1 =>
              intro j u hj
              rw [add_off, Nat.zero_add, blk_cell (blk_new w6 #[.string y.c.a, .string y.c.i] 30)]
              simpa [ky] using hj
            case c2 => exact ky_one _
            case c3 => unfold maxLen; omega
            case c4 => omega
            case c5 => simp; omega
            intro v7 w7 ho7 hg7 _
            have HB7 := Lib.hid ((HB6.out.alloc Z6 (.cells #[.string y.c.a, .string y.c.i] 30)).grown hg7 (by simp; omega) (fun q hq => own_ge HO6'.out hq))
            have HO7 := Lib.hid (show OwnK w2.heap.size w7 v7 (S2 ++ [(y.c.a, y.c.i)]) by unfold OwnK OwnR; rw [flat_snoc, List.length_append, HM.out]; exact ho7)
            clear ho7 hg7 HO6 HO6' HB6 y0 y1
            go_wp2
            go_roundw
            case rel => exact ⟨I + 1, by omega, by omega, by go_num, by rw [HSN.out]; exact HO7.out, HB7.out⟩
            case measure => simp [intOf]; omega
          · obtain rfl : I = M := by omega
            have HFIN := Lib.hid (show pickL l now lt = S2 from by rw [← pick_ref, HUU.out, HMM.out, HSS.out])
            go_wp2
            go_ret
            exact ⟨_, rfl, by rw [HFIN.out]; exact HO6.out.base Z2, ext_trans HB2.out HB6.out⟩
        · obtain rfl : I = q := by omega
          have HFIN := Lib.hid (show pickL l now lt = S2 from by rw [← pick_ref, HUU.out, HMM.out, ← HSS.out, List.take_of_length_le (by have := HU.out; omega), List.take_of_length_le (by have := HU.out; omega)])
          go_wp2
          go_ret
          exact ⟨_, rfl, by rw [HFIN.out]; exact ho4.base Z2, ext_trans HB2.out hb4⟩

end Go.Proofs.Ytohiimfojlcomaa
