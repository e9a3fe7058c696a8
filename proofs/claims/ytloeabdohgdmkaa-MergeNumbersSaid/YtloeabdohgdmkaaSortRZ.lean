/- Cards by key: the document's own order and sort. -/
import Derived.Test.YtloeabdohgdmkaaBsZ
import Derived.Test.YtloeabdohgdmkaaBdZ
import Derived.Test.YtloeabdohgdmkaaSfaZ
namespace Go.Proofs.Ytloeabdohgdmkaa
open Go.RowKit
set_option linter.unusedVariables false
set_option linter.unusedSimpArgs false

theorem bytesLess_cmp : ∀ a b : List UInt8, Op.bytesLess a b = decide (Lib.compareBytes a b < 0)
  | [], [] => rfl
  | [], _ :: _ => rfl
  | _ :: _, [] => rfl
  | a :: p, b :: q => by
    unfold Op.bytesLess Lib.compareBytes
    by_cases h1 : a < b
    · simp [h1]
    · by_cases h2 : b < a
      · have h3 : ¬ a = b := fun e => by subst e; exact h1 h2
        simp [h1, h2, h3]
      · have h3 : a = b := UInt8.le_antisymm (UInt8.not_lt.1 h2) (UInt8.not_lt.1 h1)
        subst h3
        simp [h1, bytesLess_cmp p q]
theorem bl_kc (a b : ByteArray) : Op.bytesLess a.toList b.toList = decide (Lib.compareBytes a.data.toList b.data.toList < 0) := by
  rw [ByteArray.toList_eq, ByteArray.toList_eq]; exact bytesLess_cmp _ _
theorem wp_append_nil9 {o : Oper} {a : Act} {w : World} {K : Act → World → Prop} {Q : Exit → Act → World → Prop} (s x : Operand) (ho : o.op = .call { callee := .builtin .append, args := #[s, x], argTypes := #[28, 28] }) (ad : Option Addr) (n c : Nat) (hs : a.eval s = .slice ad n c) (hx : a.eval x = .slice none 0 0) (hn : n ≤ c) (h : K (a.put o.dst (.slice ad n c)) w) : o.wp Try.prog a w K Q := by
  unfold Oper.wp execOp
  simp only [ho, resolve, invoke, builtin, Sem.run_bind, Sem.run_pure, Result.andThen_ok, List.map_toArray, List.map_cons, List.map_nil, hs, hx, run_append_nil w o.type ad n c hn]
  exact h
set_option maxRecDepth 100000 in
set_option maxHeartbeats 1000000 in
theorem refBefore (a i b j : ByteArray) (w : World) :
    Calls Try.prog 74 #[.agg #[.string a, .string i], .agg #[.string b, .string j]] w fun e w' => e = .returned (.bool (decide (kc a i b j < 0))) ∧ Below w.heap.size w w' := by
  have D : Below w.heap.size w ((w.alloc (.cells #[.string a, .string i] 30)).alloc (.cells #[.string b, .string j] 30)) := ((Below.refl _ _).alloc (Nat.le_refl _) _).alloc (by simp) _
  by_cases h : a = b
  · have e : kc a i b j = Lib.compareBytes i.data.toList j.data.toList := if_pos h
    rw [e, ← bl_kc]
    subst h
    clear e
    go_enter Try.func74, Try.ntmps74
    go_wp2
    go_ret
    exact ⟨rfl, D⟩
  · have e : kc a i b j = Lib.compareBytes a.data.toList b.data.toList := if_neg h
    rw [e, ← bl_kc]
    have h3 : ¬ a.toList = b.toList := fun e => h (str_inj e)
    have h4 : (a.toList == b.toList) = false := by simpa using h3
    have h5 : (@BEq.beq _ instBEqOfDecidableEq a.toList b.toList) = false := by simpa using h3
    clear e h
    go_enter Try.func74, Try.ntmps74
    go_wp2
    go_ret
    exact ⟨rfl, D⟩

set_option maxRecDepth 100000 in
set_option maxHeartbeats 4000000 in
theorem refSort (a : Option Addr) (n c : Nat) (ls : List Cd) (w : World) (h : CAt w a ls) (hl : ls.length = n) (hn : n ≤ 1000) (hnc : n ≤ c) :
    Calls Try.prog 48 #[.slice a n c] w fun e w' => ∃ v', e = .returned v' ∧ OwnC w.heap.size w' v' (srt klt ls) ∧ Below w.heap.size w w' := by
  obtain ⟨i0, hi, hz0, hz1, hz2⟩ := info_parts' info_card
  have HA := Lib.hid h
  have HN := Lib.hid hl
  clear h hl
  go_enter Try.func48, Try.ntmps48
  go_wp2_with fail
  go_loopw [3, 9] (fun o j wr => ∃ J : Nat, J ≤ n ∧ j = .int .i64 (J : Int) ∧ OwnC w.heap.size wr o (srt klt (ls.take J)) ∧ Below w.heap.size w wr) (fun o j _ => n - (intOf j).toNat)
  case atStart => exact ⟨0, by omega, rfl, OwnR.nil _ _, Below.refl _ _⟩
  case round =>
    obtain ⟨w2, rfl⟩ : ∃ y : World, y = wr := ⟨_, rfl⟩
    obtain ⟨J, hJ, rfl, ho2, hb2⟩ := hrel
    by_cases hlt : J < n
    · obtain ⟨x, hx⟩ : ∃ x, ls[J]? = some x := ⟨_, List.getElem?_eq_getElem (by have := HN.out; omega)⟩
      obtain ⟨S, hS⟩ : ∃ S, srt klt (ls.take J) = S := ⟨_, rfl⟩
      have HS1 := Lib.hid (show srt klt (ls.take (J + 1)) = insR klt x S from by
        rw [List.take_add_one, hx]
        show srt klt (ls.take J ++ [x]) = _
        rw [srt_snoc, hS])
      rw [hS] at ho2
      obtain ⟨m, hm⟩ : ∃ m, S.length = m := ⟨_, rfl⟩
      have hmJ : m ≤ 1000 := by rw [← hm, ← hS, srt_len, List.length_take]; omega
      obtain ⟨b, o, rfl⟩ : ∃ b o, a = some ⟨b, o, none⟩ := by
        rcases HA.out with h | ⟨b, o, e, _⟩
        · rw [h] at hx; simp at hx
        · exact ⟨b, o, e⟩
      obtain ⟨x0, x1, x2, x3, x4, x5, x6, x7, x8⟩ := (HA.out.ext hb2).at hx
      have D0 : Below w2.heap.size w2 (w2.alloc (.cells #[.string x.a, .string x.i, .int .i64 x.s, .int .i64 x.o, .int .i64 x.l, .int .i64 x.t, .int .i64 x.k, .int .i64 x.n, .bool x.g] 34)) := (Below.refl _ _).alloc (Nat.le_refl _) _
      have HX := Lib.hid (blk_new w2 #[.string x.a, .string x.i, .int .i64 x.s, .int .i64 x.o, .int .i64 x.l, .int .i64 x.t, .int .i64 x.k, .int .i64 x.n, .bool x.g] 34)
      have HO3 := Lib.hid (ho2.ext D0)
      have HB3 := Lib.hid (ext_trans hb2 D0)
      have HM := Lib.hid hm
      obtain ⟨ga, gc, hgv, hgc, hgm, hgat, -, hgf⟩ := ho2.read
      have HGC := Lib.hid (hgat.ext D0)
      rw [hm] at hgc hgv
      subst hgv
      unfold maxLen at hgm
      clear ho2 hb2 hx hS hm D0 hgat
      go_upto_region 5 with (fail)
      obtain ⟨r, hr⟩ : ∃ r, w2.heap.size = r := ⟨_, rfl⟩
      rw [hr] at HX ⊢
      clear hr
      generalize (w2.alloc (.cells #[.string x.a, .string x.i, .int .i64 x.s, .int .i64 x.o, .int .i64 x.l, .int .i64 x.t, .int .i64 x.k, .int .i64 x.n, .bool x.g] 34)) = w3 at *
      clear x0 x1 x2 x3 x4 x5 x6 x7 x8
      go_wp2_with fail
      go_loopw [6] (fun k wr => ∃ K : Nat, K ≤ m ∧ k = .int .i64 (K : Int) ∧ insR klt x S = insR klt x (S.take K) ++ S.drop K ∧ Below w3.heap.size w3 wr) (fun k _ => (intOf k).toNat)
      case atStart => exact ⟨m, by omega, rfl, by rw [List.take_of_length_le (by have := HM.out; omega), List.drop_of_length_le (by have := HM.out; omega), List.append_nil], Below.refl _ _⟩
      case round =>
        obtain ⟨w4, rfl⟩ : ∃ y : World, y = wr := ⟨_, rfl⟩
        obtain ⟨K, hK, rfl, hins, hb4⟩ := hrel
        have HINS := Lib.hid hins
        have HB4 := Lib.hid hb4
        clear hins hb4
        by_cases hK0 : K = 0
        · have hd : decide ((0 : Int) < (K : Int)) = false := by simp; omega
          have hd0 : decide (0 < K) = false := by simp; omega
          have HST := Lib.hid (show srt klt (ls.take (J + 1)) = S.take K ++ [x] ++ S.drop K from by rw [HS1.out, HINS.out, hK0]; simp [insR_nil])
          have HK0 := Lib.hid hK0
          clear hK0 HINS HS1
          go_wp2_with fail
          haveI hIq : Nonempty (Of w4) := of_some _
          first | (refine wp_region_stay w4 (by kernel_rfl) (by kernel_rfl) (by go_grown) ?_) | (refine wp_region_stay_seq w4 (by go_grown) ?_)
          repeat (go_big_quiet_step (fail))
          refine wpQuiet_nil ?_
          intro w5 hb5
          clear hIq
          
          have HRB := Lib.hid (blk_ext (ext_trans HB4.out hb5) HX.out)
          have HCS := Lib.hid (HGC.out.ext (ext_trans HB4.out hb5))
          have HBW := Lib.hid (ext_trans HB3.out (ext_trans HB4.out hb5))
          have HTL := Lib.hid (show (S.take K).length = K by rw [List.length_take]; have := HM.out; omega)
          have HDL := Lib.hid (show (S.drop K).length = m - K by rw [List.length_drop]; have := HM.out; omega)
          clear hb5 HB3 HX HO3 HGC HB4
          
          go_wp2_with fail
          rcases hgf with ⟨rfl, rfl, hSn⟩ | ⟨g, rfl⟩
          · obtain rfl : m = 0 := by omega
            obtain rfl : K = 0 := by omega
            subst hSn
            refine wp_region_inv_eq (J := fun A d act x0 => ∃ u30 u31 u32 u33 u34 u35 u36 u37 u38 u39 u40 u41 u3 : Value, act = (((((((((((((A.put (some 30) u30).put (some 31) u31).put (some 32) u32).put (some 33) u33).put (some 34) u34).put (some 35) u35).put (some 36) u36).put (some 37) u37).put (some 38) u38).put (some 39) u39).put (some 40) u40).put (some 41) u41).put (some 3) u3) ∧ SF [(1, u31, .slice none 0 0), (2, u32, .int .i64 ((0 : Nat) : Int)), (3, u33, .slice none 0 0), (5, u35, .agg #[.string x.a, .string x.i, .int .i64 x.s, .int .i64 x.o, .int .i64 x.l, .int .i64 x.t, .int .i64 x.k, .int .i64 x.n, .bool x.g]), (8, u38, .slice none 0 0), (9, u39, .int .i64 ((0 : Nat) : Int)), (10, u40, .slice none 0 0)] d ∧ AP w5 34 9 #[.string x.a, .string x.i, .int .i64 x.s, .int .i64 x.o, .int .i64 x.l, .int .i64 x.t, .int .i64 x.k, .int .i64 x.n, .bool x.g] 0 (0 + 1) (0 + 1 + (0 - 0)) (flat cc (([] : List Cd).take 0)) (flat cc (([] : List Cd).take 0 ++ [x])) (flat cc (([] : List Cd).take 0 ++ [x] ++ ([] : List Cd).drop 0)) 0 4 6 7 11 d x0 u30 u34 u36 u37 u41 ∧ LS 12 1 8 11 (.slice none 0 0) d u3 u41) (by simp only [Act.put, List.setIfInBounds_toArray, List.set_cons_succ, List.set_cons_zero]; rfl) (by kernel_rfl) (by kernel_rfl) ?_ ?_ ?_
            · exact ⟨_, _, _, _, _, _, _, _, _, _, _, _, _, rfl, SF.init _, AP.init (Below.refl _ _).drew, LS.init _⟩
            · refine stepsOk_cons (k := 0) ?_ (stepsOk_cons (k := 1) ?_ (stepsOk_cons (k := 2) ?_ (stepsOk_cons (k := 3) ?_ (stepsOk_cons (k := 4) ?_ (stepsOk_cons (k := 5) ?_ (stepsOk_cons (k := 6) ?_ (stepsOk_cons (k := 7) ?_ (stepsOk_cons (k := 8) ?_ (stepsOk_cons (k := 9) ?_ (stepsOk_cons (k := 10) ?_ (stepsOk_cons (k := 11) ?_ (stepsOk_cons (k := 12) ?_ stepsOk_nil))))))))))))
              · rintro d act x0 ⟨u30, u31, u32, u33, u34, u35, u36, u37, u38, u39, u40, u41, u3, rfl, F, B, E⟩ hd hdep Kc hKc
                rw [if_pos (by rfl)]
                go_big_op
                exact hKc _ _ ⟨_, _, _, _, _, _, _, _, _, _, _, _, _, rfl, F.same rfl, B.alloc0 hd rfl, E.same rfl⟩
              · rintro d act x0 ⟨u30, u31, u32, u33, u34, u35, u36, u37, u38, u39, u40, u41, u3, rfl, F, B, E⟩ hd hdep Kc hKc
                obtain rfl := E.old (.inl hd)
                rw [if_pos (by rfl)]
                go_big_op
                exact hKc _ _ ⟨_, _, _, _, _, _, _, _, _, _, _, _, _, rfl, F.set 0 rfl rfl, B.same rfl, E.same rfl⟩
              · rintro d act x0 ⟨u30, u31, u32, u33, u34, u35, u36, u37, u38, u39, u40, u41, u3, rfl, F, B, E⟩ hd hdep Kc hKc
                rw [if_pos (by rfl)]
                go_big_op
                exact hKc _ _ ⟨_, _, _, _, _, _, _, _, _, _, _, _, _, rfl, F.set 1 rfl rfl, B.same rfl, E.same rfl⟩
              · rintro d act x0 ⟨u30, u31, u32, u33, u34, u35, u36, u37, u38, u39, u40, u41, u3, rfl, F, B, E⟩ hd hdep Kc hKc
                have h1 : d 1 = true := hdep ⟨1, .data⟩ (by simp) rfl
                have h2 : d 2 = true := hdep ⟨2, .data⟩ (by simp) rfl
                have e := F.get 0 rfl h1
                subst e
                have e := F.get 1 rfl h2
                subst e
                rw [if_pos (by rfl)]
                go_big_op
                exact hKc _ _ ⟨_, _, _, _, _, _, _, _, _, _, _, _, _, rfl, F.set 2 rfl rfl, B.same rfl, E.same rfl⟩
              · rintro d act x0 ⟨u30, u31, u32, u33, u34, u35, u36, u37, u38, u39, u40, u41, u3, rfl, F, B, E⟩ hd hdep Kc hKc
                have h0 : d 0 = true := hdep ⟨0, .data⟩ (by simp) rfl
                have h3 : d 3 = true := hdep ⟨3, .data⟩ (by simp) rfl
                obtain ⟨b1, rfl, hb1, hge1⟩ := B.e h0 hd
                have e := F.get 2 rfl h3
                subst e
                have f0o : x0.ownsRow w5.heap.size 34 9 (.slice (some ⟨b1, 0, none⟩) 0 0) 0 (flat cc []) := own_empty0 hb1 hge1
                have hap := fun (ty : TypeId) => run_append_nil x0 ty (some ⟨b1, 0, none⟩) 0 0 (Nat.le_refl _)
                rw [if_pos (by rfl)]
                go_big_op
                exact hKc _ _ ⟨_, _, _, _, _, _, _, _, _, _, _, _, _, rfl, F.same rfl, B.app1 hd rfl h0 (show 0 < 9 from by decide) hb1 hge1 f0o (grown_refl _ _), E.same rfl⟩
              · rintro d act x0 ⟨u30, u31, u32, u33, u34, u35, u36, u37, u38, u39, u40, u41, u3, rfl, F, B, E⟩ hd hdep Kc hKc
                have hx5 := blk_cell (blk_ext B.bl HRB.out)
                have hl5 := blk_lt (blk_ext B.bl HRB.out)
                rw [if_pos (by rfl)]
                go_big_op
                exact hKc _ _ ⟨_, _, _, _, _, _, _, _, _, _, _, _, _, rfl, F.set 3 rfl rfl, B.same rfl, E.same rfl⟩
              · rintro d act x0 ⟨u30, u31, u32, u33, u34, u35, u36, u37, u38, u39, u40, u41, u3, rfl, F, B, E⟩ hd hdep Kc hKc
                have h5 : d 5 = true := hdep ⟨5, .data⟩ (by simp) rfl
                have e := F.get 3 rfl h5
                subst e
                rw [if_pos (by rfl)]
                go_big_op
                exact hKc _ _ ⟨_, _, _, _, _, _, _, _, _, _, _, _, _, rfl, F.same rfl, B.alloc2 hd rfl, E.same rfl⟩
              · rintro d act x0 ⟨u30, u31, u32, u33, u34, u35, u36, u37, u38, u39, u40, u41, u3, rfl, F, B, E⟩ hd hdep Kc hKc
                have h4 : d 4 = true := hdep ⟨4, .data⟩ (by simp) rfl
                have h6 : d 6 = true := hdep ⟨6, .data⟩ (by simp) rfl
                have f4' := B.a1 h4 hd
                obtain ⟨b4, rfl, hb4⟩ := B.s h6 hd
                rw [if_pos (by rfl)]
                refine wp_append_own _ _ _ 28 rfl (w5.heap.size) 34 i0 Cd.zero.v 9 88 Try.underlying28 hi hz0 hz1 hz2 rfl (by decide) _ 0 (flat cc (([] : List Cd).take 0)) rfl f4' ⟨b4, 0, none⟩ 1 1 (cc x) rfl ?c0 ?c1 ?c2 ?c3 ?c4 ?c5 ?_
                case c0 => rfl
                case c1 => intro j u hj; rw [add_off, Nat.zero_add, blk_cell hb4]; simpa [cc] using hj
                case c2 => exact cc_one x
                case c3 => unfold maxLen; omega
                case c4 => omega
                case c5 => exact B.bl.size
                intro v' x1 hown' hgrow _
                exact hKc _ _ ⟨_, _, _, _, _, _, _, _, _, _, _, _, _, rfl, F.same rfl, B.app2 hd rfl h4 h6 (by rw [flat_snoc]; exact hown') hgrow, E.same rfl⟩
              · rintro d act x0 ⟨u30, u31, u32, u33, u34, u35, u36, u37, u38, u39, u40, u41, u3, rfl, F, B, E⟩ hd hdep Kc hKc
                obtain rfl := E.old (.inr hd)
                rw [if_pos (by rfl)]
                go_big_op
                exact hKc _ _ ⟨_, _, _, _, _, _, _, _, _, _, _, _, _, rfl, F.set 4 rfl rfl, B.same rfl, E.same rfl⟩
              · rintro d act x0 ⟨u30, u31, u32, u33, u34, u35, u36, u37, u38, u39, u40, u41, u3, rfl, F, B, E⟩ hd hdep Kc hKc
                rw [if_pos (by rfl)]
                go_big_op
                exact hKc _ _ ⟨_, _, _, _, _, _, _, _, _, _, _, _, _, rfl, F.set 5 rfl rfl, B.same rfl, E.same rfl⟩
              · rintro d act x0 ⟨u30, u31, u32, u33, u34, u35, u36, u37, u38, u39, u40, u41, u3, rfl, F, B, E⟩ hd hdep Kc hKc
                have h8 : d 8 = true := hdep ⟨8, .data⟩ (by simp) rfl
                have h9 : d 9 = true := hdep ⟨9, .data⟩ (by simp) rfl
                have e := F.get 4 rfl h8
                subst e
                have e := F.get 5 rfl h9
                subst e
                rw [if_pos (by rfl)]
                go_big_op
                exact hKc _ _ ⟨_, _, _, _, _, _, _, _, _, _, _, _, _, rfl, F.set 6 rfl rfl, B.same rfl, E.same rfl⟩
              · rintro d act x0 ⟨u30, u31, u32, u33, u34, u35, u36, u37, u38, u39, u40, u41, u3, rfl, F, B, E⟩ hd hdep Kc hKc
                have h7 : d 7 = true := hdep ⟨7, .data⟩ (by simp) rfl
                have h10 : d 10 = true := hdep ⟨10, .data⟩ (by simp) rfl
                have f7' := B.a2 h7 hd
                have e := F.get 6 rfl h10
                subst e
                rw [if_pos (by rfl)]
                obtain ⟨a7, c7, e7, h71, -, h7f⟩ := OwnR.form (ls := [x]) (show OwnC w5.heap.size x0 u37 [x] from f7')
                subst e7
                obtain ⟨g7, rfl⟩ : ∃ g7, a7 = some ⟨g7, 0, none⟩ := by
                  rcases h7f with ⟨_, _, e⟩ | ⟨g7, e, _⟩
                  · cases e
                  · exact ⟨g7, e⟩
                refine wp_append_nil9 _ _ rfl (some ⟨g7, 0, none⟩) 1 c7 rfl rfl h71 ?_
                exact hKc _ _ ⟨_, _, _, _, _, _, _, _, _, _, _, _, _, rfl, F.same rfl, B.app3 hd rfl h7 (by simpa using f7') (grown_refl _ _), E.put hd rfl⟩
              · rintro d act x0 ⟨u30, u31, u32, u33, u34, u35, u36, u37, u38, u39, u40, u41, u3, rfl, F, B, E⟩ hd hdep Kc hKc
                have h1 : d 1 = true := hdep ⟨1, .phase⟩ (by simp) rfl
                have h8 : d 8 = true := hdep ⟨8, .phase⟩ (by simp) rfl
                have h11 : d 11 = true := hdep ⟨11, .data⟩ (by simp) rfl
                rw [if_pos (by rfl)]
                go_big_op
                exact hKc _ _ ⟨_, _, _, _, _, _, _, _, _, _, _, _, _, rfl, F.same rfl, B.same rfl, E.set h1 h8 h11⟩
            · rintro d act x0 ⟨u30, u31, u32, u33, u34, u35, u36, u37, u38, u39, u40, u41, u3, rfl, F, B, E⟩ hall
              have f11' := B.a3 (hall 11 (by decide))
              have f12' := (E.y (hall 12 (by decide))).1
              subst f12'
              have HN7 := Lib.hid f11'
              have HG0 := Lib.hid B.bl
              clear F B E hall f11'
            
              go_wp2
              go_roundw
              case rel => exact ⟨J + 1, by omega, by go_num, by rw [HST.out]; unfold OwnC OwnR; have h9 := ownsRow_base HN7.out HBW.out.size; simpa using h9, ext_trans HBW.out HG0.out⟩
              case measure => simp [intOf]; omega
          · rcases Classical.propComplete (gc = K) with hce | hce
            · refine wp_region_inv_eq (J := fun A d act x0 => ∃ u30 u31 u32 u33 u34 u35 u36 u37 u38 u39 u40 u41 u3 : Value, act = (((((((((((((A.put (some 30) u30).put (some 31) u31).put (some 32) u32).put (some 33) u33).put (some 34) u34).put (some 35) u35).put (some 36) u36).put (some 37) u37).put (some 38) u38).put (some 39) u39).put (some 40) u40).put (some 41) u41).put (some 3) u3) ∧ SF [(1, u31, .slice (some ⟨g, 0, none⟩) m gc), (2, u32, .int .i64 ((K : Nat) : Int)), (3, u33, .slice (some ⟨g, 0, none⟩) K gc), (5, u35, .agg #[.string x.a, .string x.i, .int .i64 x.s, .int .i64 x.o, .int .i64 x.l, .int .i64 x.t, .int .i64 x.k, .int .i64 x.n, .bool x.g]), (8, u38, .slice (some ⟨g, 0, none⟩) m gc), (9, u39, .int .i64 ((K : Nat) : Int)), (10, u40, .slice (some ⟨g, 0, none⟩) (m - K) (gc - K))] d ∧ AP w5 34 9 #[.string x.a, .string x.i, .int .i64 x.s, .int .i64 x.o, .int .i64 x.l, .int .i64 x.t, .int .i64 x.k, .int .i64 x.n, .bool x.g] K (K + 1) (K + 1 + (m - K)) (flat cc (S.take K)) (flat cc (S.take K ++ [x])) (flat cc (S.take K ++ [x] ++ S.drop K)) 0 4 6 7 11 d x0 u30 u34 u36 u37 u41 ∧ LS 12 1 8 11 (.slice (some ⟨g, 0, none⟩) m gc) d u3 u41) (by simp only [Act.put, List.setIfInBounds_toArray, List.set_cons_succ, List.set_cons_zero]; rfl) (by kernel_rfl) (by kernel_rfl) ?_ ?_ ?_
              · exact ⟨_, _, _, _, _, _, _, _, _, _, _, _, _, rfl, SF.init _, AP.init (Below.refl _ _).drew, LS.init _⟩
              · refine stepsOk_cons (k := 0) ?_ (stepsOk_cons (k := 1) ?_ (stepsOk_cons (k := 2) ?_ (stepsOk_cons (k := 3) ?_ (stepsOk_cons (k := 4) ?_ (stepsOk_cons (k := 5) ?_ (stepsOk_cons (k := 6) ?_ (stepsOk_cons (k := 7) ?_ (stepsOk_cons (k := 8) ?_ (stepsOk_cons (k := 9) ?_ (stepsOk_cons (k := 10) ?_ (stepsOk_cons (k := 11) ?_ (stepsOk_cons (k := 12) ?_ stepsOk_nil))))))))))))
                · rintro d act x0 ⟨u30, u31, u32, u33, u34, u35, u36, u37, u38, u39, u40, u41, u3, rfl, F, B, E⟩ hd hdep Kc hKc
                  rw [if_pos (by rfl)]
                  go_big_op
                  exact hKc _ _ ⟨_, _, _, _, _, _, _, _, _, _, _, _, _, rfl, F.same rfl, B.alloc0 hd rfl, E.same rfl⟩
                · rintro d act x0 ⟨u30, u31, u32, u33, u34, u35, u36, u37, u38, u39, u40, u41, u3, rfl, F, B, E⟩ hd hdep Kc hKc
                  obtain rfl := E.old (.inl hd)
                  rw [if_pos (by rfl)]
                  go_big_op
                  exact hKc _ _ ⟨_, _, _, _, _, _, _, _, _, _, _, _, _, rfl, F.set 0 rfl rfl, B.same rfl, E.same rfl⟩
                · rintro d act x0 ⟨u30, u31, u32, u33, u34, u35, u36, u37, u38, u39, u40, u41, u3, rfl, F, B, E⟩ hd hdep Kc hKc
                  rw [if_pos (by rfl)]
                  go_big_op
                  exact hKc _ _ ⟨_, _, _, _, _, _, _, _, _, _, _, _, _, rfl, F.set 1 rfl rfl, B.same rfl, E.same rfl⟩
                · rintro d act x0 ⟨u30, u31, u32, u33, u34, u35, u36, u37, u38, u39, u40, u41, u3, rfl, F, B, E⟩ hd hdep Kc hKc
                  have h1 : d 1 = true := hdep ⟨1, .data⟩ (by simp) rfl
                  have h2 : d 2 = true := hdep ⟨2, .data⟩ (by simp) rfl
                  have e := F.get 0 rfl h1
                  subst e
                  have e := F.get 1 rfl h2
                  subst e
                  rw [if_pos (by rfl)]
                  go_big_op
                  exact hKc _ _ ⟨_, _, _, _, _, _, _, _, _, _, _, _, _, rfl, F.set 2 rfl rfl, B.same rfl, E.same rfl⟩
                · rintro d act x0 ⟨u30, u31, u32, u33, u34, u35, u36, u37, u38, u39, u40, u41, u3, rfl, F, B, E⟩ hd hdep Kc hKc
                  have h0 : d 0 = true := hdep ⟨0, .data⟩ (by simp) rfl
                  have h3 : d 3 = true := hdep ⟨3, .data⟩ (by simp) rfl
                  obtain ⟨b1, rfl, hb1, hge1⟩ := B.e h0 hd
                  have e := F.get 2 rfl h3
                  subst e
                  have f0o : x0.ownsRow w5.heap.size 34 9 (.slice (some ⟨b1, 0, none⟩) 0 0) 0 (flat cc []) := own_empty0 hb1 hge1
                  rw [if_pos (by rfl)]
                  refine wp_append_own _ _ _ 28 rfl (w5.heap.size) 34 i0 Cd.zero.v 9 88 Try.underlying28 hi hz0 hz1 hz2 rfl (by decide) _ 0 (flat cc []) rfl f0o ⟨g, 0, none⟩ K gc (flat cc (S.take K)) rfl ?c0 ?c1 ?c2 ?c3 ?c4 ?c5 ?_
                  case c0 => rw [flat_len cc_len, HTL.out]
                  case c1 => intro j u hj; rw [add_off]; exact cat_cells ((HCS.out.ext B.bl).take K) j u hj
                  case c2 => exact flat_one cc_one _
                  case c3 => unfold maxLen; omega
                  case c4 => omega
                  case c5 => exact B.bl.size
                  intro v' x1 hown' hgrow _
                  exact hKc _ _ ⟨_, _, _, _, _, _, _, _, _, _, _, _, _, rfl, F.same rfl, B.app1 hd rfl h0 (show 0 < 9 from by decide) hb1 hge1 (by simpa [flat_nil] using hown') hgrow, E.same rfl⟩
                · rintro d act x0 ⟨u30, u31, u32, u33, u34, u35, u36, u37, u38, u39, u40, u41, u3, rfl, F, B, E⟩ hd hdep Kc hKc
                  have hx5 := blk_cell (blk_ext B.bl HRB.out)
                  have hl5 := blk_lt (blk_ext B.bl HRB.out)
                  rw [if_pos (by rfl)]
                  go_big_op
                  exact hKc _ _ ⟨_, _, _, _, _, _, _, _, _, _, _, _, _, rfl, F.set 3 rfl rfl, B.same rfl, E.same rfl⟩
                · rintro d act x0 ⟨u30, u31, u32, u33, u34, u35, u36, u37, u38, u39, u40, u41, u3, rfl, F, B, E⟩ hd hdep Kc hKc
                  have h5 : d 5 = true := hdep ⟨5, .data⟩ (by simp) rfl
                  have e := F.get 3 rfl h5
                  subst e
                  rw [if_pos (by rfl)]
                  go_big_op
                  exact hKc _ _ ⟨_, _, _, _, _, _, _, _, _, _, _, _, _, rfl, F.same rfl, B.alloc2 hd rfl, E.same rfl⟩
                · rintro d act x0 ⟨u30, u31, u32, u33, u34, u35, u36, u37, u38, u39, u40, u41, u3, rfl, F, B, E⟩ hd hdep Kc hKc
                  have h4 : d 4 = true := hdep ⟨4, .data⟩ (by simp) rfl
                  have h6 : d 6 = true := hdep ⟨6, .data⟩ (by simp) rfl
                  have f4' := B.a1 h4 hd
                  obtain ⟨b4, rfl, hb4⟩ := B.s h6 hd
                  rw [if_pos (by rfl)]
                  refine wp_append_own _ _ _ 28 rfl (w5.heap.size) 34 i0 Cd.zero.v 9 88 Try.underlying28 hi hz0 hz1 hz2 rfl (by decide) _ K (flat cc (S.take K)) rfl f4' ⟨b4, 0, none⟩ 1 1 (cc x) rfl ?c0 ?c1 ?c2 ?c3 ?c4 ?c5 ?_
                  case c0 => rfl
                  case c1 => intro j u hj; rw [add_off, Nat.zero_add, blk_cell hb4]; simpa [cc] using hj
                  case c2 => exact cc_one x
                  case c3 => unfold maxLen; omega
                  case c4 => omega
                  case c5 => exact B.bl.size
                  intro v' x1 hown' hgrow _
                  exact hKc _ _ ⟨_, _, _, _, _, _, _, _, _, _, _, _, _, rfl, F.same rfl, B.app2 hd rfl h4 h6 (by rw [flat_snoc]; exact hown') hgrow, E.same rfl⟩
                · rintro d act x0 ⟨u30, u31, u32, u33, u34, u35, u36, u37, u38, u39, u40, u41, u3, rfl, F, B, E⟩ hd hdep Kc hKc
                  obtain rfl := E.old (.inr hd)
                  rw [if_pos (by rfl)]
                  go_big_op
                  exact hKc _ _ ⟨_, _, _, _, _, _, _, _, _, _, _, _, _, rfl, F.set 4 rfl rfl, B.same rfl, E.same rfl⟩
                · rintro d act x0 ⟨u30, u31, u32, u33, u34, u35, u36, u37, u38, u39, u40, u41, u3, rfl, F, B, E⟩ hd hdep Kc hKc
                  rw [if_pos (by rfl)]
                  go_big_op
                  exact hKc _ _ ⟨_, _, _, _, _, _, _, _, _, _, _, _, _, rfl, F.set 5 rfl rfl, B.same rfl, E.same rfl⟩
                · rintro d act x0 ⟨u30, u31, u32, u33, u34, u35, u36, u37, u38, u39, u40, u41, u3, rfl, F, B, E⟩ hd hdep Kc hKc
                  have h8 : d 8 = true := hdep ⟨8, .data⟩ (by simp) rfl
                  have h9 : d 9 = true := hdep ⟨9, .data⟩ (by simp) rfl
                  have e := F.get 4 rfl h8
                  subst e
                  have e := F.get 5 rfl h9
                  subst e
                  rw [if_pos (by rfl)]
                  go_big_op
                  exact hKc _ _ ⟨_, _, _, _, _, _, _, _, _, _, _, _, _, rfl, F.set 6 rfl rfl, B.same rfl, E.same rfl⟩
                · rintro d act x0 ⟨u30, u31, u32, u33, u34, u35, u36, u37, u38, u39, u40, u41, u3, rfl, F, B, E⟩ hd hdep Kc hKc
                  have h7 : d 7 = true := hdep ⟨7, .data⟩ (by simp) rfl
                  have h10 : d 10 = true := hdep ⟨10, .data⟩ (by simp) rfl
                  have f7' := B.a2 h7 hd
                  have e := F.get 6 rfl h10
                  subst e
                  rw [if_pos (by rfl)]
                  refine wp_append_own _ _ _ 28 rfl (w5.heap.size) 34 i0 Cd.zero.v 9 88 Try.underlying28 hi hz0 hz1 hz2 rfl (by decide) _ (K + 1) (flat cc (S.take K ++ [x])) rfl f7' ⟨g, 0, none⟩ (m - K) (gc - K) (flat cc (S.drop K)) rfl ?c0 ?c1 ?c2 ?c3 ?c4 ?c5 ?_
                  case c0 => rw [flat_len cc_len, HDL.out]
                  case c1 => intro j u hj; rw [List.eq_nil_of_length_eq_zero (show (S.drop K).length = 0 from by rw [HDL.out]; have := of_eq_true hce; omega)] at hj; simp [flat] at hj
                  case c2 => exact flat_one cc_one _
                  case c3 => unfold maxLen; omega
                  case c4 => omega
                  case c5 => exact B.bl.size
                  intro v' x1 hown' hgrow _
                  exact hKc _ _ ⟨_, _, _, _, _, _, _, _, _, _, _, _, _, rfl, F.same rfl, B.app3 hd rfl h7 (by rw [flat_app]; exact hown') hgrow, E.put hd rfl⟩
                · rintro d act x0 ⟨u30, u31, u32, u33, u34, u35, u36, u37, u38, u39, u40, u41, u3, rfl, F, B, E⟩ hd hdep Kc hKc
                  have h1 : d 1 = true := hdep ⟨1, .phase⟩ (by simp) rfl
                  have h8 : d 8 = true := hdep ⟨8, .phase⟩ (by simp) rfl
                  have h11 : d 11 = true := hdep ⟨11, .data⟩ (by simp) rfl
                  rw [if_pos (by rfl)]
                  go_big_op
                  exact hKc _ _ ⟨_, _, _, _, _, _, _, _, _, _, _, _, _, rfl, F.same rfl, B.same rfl, E.set h1 h8 h11⟩
              · rintro d act x0 ⟨u30, u31, u32, u33, u34, u35, u36, u37, u38, u39, u40, u41, u3, rfl, F, B, E⟩ hall
                have f11' := B.a3 (hall 11 (by decide))
                have f12' := (E.y (hall 12 (by decide))).1
                subst f12'
                have HN7 := Lib.hid f11'
                have HG0 := Lib.hid B.bl
                clear F B E hall f11'
              
                go_wp2
                go_roundw
                case rel => exact ⟨J + 1, by omega, by go_num, by rw [HST.out]; unfold OwnC OwnR; have h9 := ownsRow_base HN7.out HBW.out.size; rw [List.length_append, List.length_append, HTL.out, HDL.out]; exact h9, ext_trans HBW.out HG0.out⟩
                case measure => simp [intOf]; omega
            · refine wp_region_inv_eq (J := fun A d act x0 => ∃ u30 u31 u32 u33 u34 u35 u36 u37 u38 u39 u40 u41 u3 : Value, act = (((((((((((((A.put (some 30) u30).put (some 31) u31).put (some 32) u32).put (some 33) u33).put (some 34) u34).put (some 35) u35).put (some 36) u36).put (some 37) u37).put (some 38) u38).put (some 39) u39).put (some 40) u40).put (some 41) u41).put (some 3) u3) ∧ SF [(1, u31, .slice (some ⟨g, 0, none⟩) m gc), (2, u32, .int .i64 ((K : Nat) : Int)), (3, u33, .slice (some ⟨g, 0, none⟩) K gc), (5, u35, .agg #[.string x.a, .string x.i, .int .i64 x.s, .int .i64 x.o, .int .i64 x.l, .int .i64 x.t, .int .i64 x.k, .int .i64 x.n, .bool x.g]), (8, u38, .slice (some ⟨g, 0, none⟩) m gc), (9, u39, .int .i64 ((K : Nat) : Int)), (10, u40, .slice (some ⟨g, K * 9, none⟩) (m - K) (gc - K))] d ∧ AP w5 34 9 #[.string x.a, .string x.i, .int .i64 x.s, .int .i64 x.o, .int .i64 x.l, .int .i64 x.t, .int .i64 x.k, .int .i64 x.n, .bool x.g] K (K + 1) (K + 1 + (m - K)) (flat cc (S.take K)) (flat cc (S.take K ++ [x])) (flat cc (S.take K ++ [x] ++ S.drop K)) 0 4 6 7 11 d x0 u30 u34 u36 u37 u41 ∧ LS 12 1 8 11 (.slice (some ⟨g, 0, none⟩) m gc) d u3 u41) (by simp only [Act.put, List.setIfInBounds_toArray, List.set_cons_succ, List.set_cons_zero]; rfl) (by kernel_rfl) (by kernel_rfl) ?_ ?_ ?_
              · exact ⟨_, _, _, _, _, _, _, _, _, _, _, _, _, rfl, SF.init _, AP.init (Below.refl _ _).drew, LS.init _⟩
              · refine stepsOk_cons (k := 0) ?_ (stepsOk_cons (k := 1) ?_ (stepsOk_cons (k := 2) ?_ (stepsOk_cons (k := 3) ?_ (stepsOk_cons (k := 4) ?_ (stepsOk_cons (k := 5) ?_ (stepsOk_cons (k := 6) ?_ (stepsOk_cons (k := 7) ?_ (stepsOk_cons (k := 8) ?_ (stepsOk_cons (k := 9) ?_ (stepsOk_cons (k := 10) ?_ (stepsOk_cons (k := 11) ?_ (stepsOk_cons (k := 12) ?_ stepsOk_nil))))))))))))
                · rintro d act x0 ⟨u30, u31, u32, u33, u34, u35, u36, u37, u38, u39, u40, u41, u3, rfl, F, B, E⟩ hd hdep Kc hKc
                  rw [if_pos (by rfl)]
                  go_big_op
                  exact hKc _ _ ⟨_, _, _, _, _, _, _, _, _, _, _, _, _, rfl, F.same rfl, B.alloc0 hd rfl, E.same rfl⟩
                · rintro d act x0 ⟨u30, u31, u32, u33, u34, u35, u36, u37, u38, u39, u40, u41, u3, rfl, F, B, E⟩ hd hdep Kc hKc
                  obtain rfl := E.old (.inl hd)
                  rw [if_pos (by rfl)]
                  go_big_op
                  exact hKc _ _ ⟨_, _, _, _, _, _, _, _, _, _, _, _, _, rfl, F.set 0 rfl rfl, B.same rfl, E.same rfl⟩
                · rintro d act x0 ⟨u30, u31, u32, u33, u34, u35, u36, u37, u38, u39, u40, u41, u3, rfl, F, B, E⟩ hd hdep Kc hKc
                  rw [if_pos (by rfl)]
                  go_big_op
                  exact hKc _ _ ⟨_, _, _, _, _, _, _, _, _, _, _, _, _, rfl, F.set 1 rfl rfl, B.same rfl, E.same rfl⟩
                · rintro d act x0 ⟨u30, u31, u32, u33, u34, u35, u36, u37, u38, u39, u40, u41, u3, rfl, F, B, E⟩ hd hdep Kc hKc
                  have h1 : d 1 = true := hdep ⟨1, .data⟩ (by simp) rfl
                  have h2 : d 2 = true := hdep ⟨2, .data⟩ (by simp) rfl
                  have e := F.get 0 rfl h1
                  subst e
                  have e := F.get 1 rfl h2
                  subst e
                  rw [if_pos (by rfl)]
                  go_big_op
                  exact hKc _ _ ⟨_, _, _, _, _, _, _, _, _, _, _, _, _, rfl, F.set 2 rfl rfl, B.same rfl, E.same rfl⟩
                · rintro d act x0 ⟨u30, u31, u32, u33, u34, u35, u36, u37, u38, u39, u40, u41, u3, rfl, F, B, E⟩ hd hdep Kc hKc
                  have h0 : d 0 = true := hdep ⟨0, .data⟩ (by simp) rfl
                  have h3 : d 3 = true := hdep ⟨3, .data⟩ (by simp) rfl
                  obtain ⟨b1, rfl, hb1, hge1⟩ := B.e h0 hd
                  have e := F.get 2 rfl h3
                  subst e
                  have f0o : x0.ownsRow w5.heap.size 34 9 (.slice (some ⟨b1, 0, none⟩) 0 0) 0 (flat cc []) := own_empty0 hb1 hge1
                  rw [if_pos (by rfl)]
                  refine wp_append_own _ _ _ 28 rfl (w5.heap.size) 34 i0 Cd.zero.v 9 88 Try.underlying28 hi hz0 hz1 hz2 rfl (by decide) _ 0 (flat cc []) rfl f0o ⟨g, 0, none⟩ K gc (flat cc (S.take K)) rfl ?c0 ?c1 ?c2 ?c3 ?c4 ?c5 ?_
                  case c0 => rw [flat_len cc_len, HTL.out]
                  case c1 => intro j u hj; rw [add_off]; exact cat_cells ((HCS.out.ext B.bl).take K) j u hj
                  case c2 => exact flat_one cc_one _
                  case c3 => unfold maxLen; omega
                  case c4 => omega
                  case c5 => exact B.bl.size
                  intro v' x1 hown' hgrow _
                  exact hKc _ _ ⟨_, _, _, _, _, _, _, _, _, _, _, _, _, rfl, F.same rfl, B.app1 hd rfl h0 (show 0 < 9 from by decide) hb1 hge1 (by simpa [flat_nil] using hown') hgrow, E.same rfl⟩
                · rintro d act x0 ⟨u30, u31, u32, u33, u34, u35, u36, u37, u38, u39, u40, u41, u3, rfl, F, B, E⟩ hd hdep Kc hKc
                  have hx5 := blk_cell (blk_ext B.bl HRB.out)
                  have hl5 := blk_lt (blk_ext B.bl HRB.out)
                  rw [if_pos (by rfl)]
                  go_big_op
                  exact hKc _ _ ⟨_, _, _, _, _, _, _, _, _, _, _, _, _, rfl, F.set 3 rfl rfl, B.same rfl, E.same rfl⟩
                · rintro d act x0 ⟨u30, u31, u32, u33, u34, u35, u36, u37, u38, u39, u40, u41, u3, rfl, F, B, E⟩ hd hdep Kc hKc
                  have h5 : d 5 = true := hdep ⟨5, .data⟩ (by simp) rfl
                  have e := F.get 3 rfl h5
                  subst e
                  rw [if_pos (by rfl)]
                  go_big_op
                  exact hKc _ _ ⟨_, _, _, _, _, _, _, _, _, _, _, _, _, rfl, F.same rfl, B.alloc2 hd rfl, E.same rfl⟩
                · rintro d act x0 ⟨u30, u31, u32, u33, u34, u35, u36, u37, u38, u39, u40, u41, u3, rfl, F, B, E⟩ hd hdep Kc hKc
                  have h4 : d 4 = true := hdep ⟨4, .data⟩ (by simp) rfl
                  have h6 : d 6 = true := hdep ⟨6, .data⟩ (by simp) rfl
                  have f4' := B.a1 h4 hd
                  obtain ⟨b4, rfl, hb4⟩ := B.s h6 hd
                  rw [if_pos (by rfl)]
                  refine wp_append_own _ _ _ 28 rfl (w5.heap.size) 34 i0 Cd.zero.v 9 88 Try.underlying28 hi hz0 hz1 hz2 rfl (by decide) _ K (flat cc (S.take K)) rfl f4' ⟨b4, 0, none⟩ 1 1 (cc x) rfl ?c0 ?c1 ?c2 ?c3 ?c4 ?c5 ?_
                  case c0 => rfl
                  case c1 => intro j u hj; rw [add_off, Nat.zero_add, blk_cell hb4]; simpa [cc] using hj
                  case c2 => exact cc_one x
                  case c3 => unfold maxLen; omega
                  case c4 => omega
                  case c5 => exact B.bl.size
                  intro v' x1 hown' hgrow _
                  exact hKc _ _ ⟨_, _, _, _, _, _, _, _, _, _, _, _, _, rfl, F.same rfl, B.app2 hd rfl h4 h6 (by rw [flat_snoc]; exact hown') hgrow, E.same rfl⟩
                · rintro d act x0 ⟨u30, u31, u32, u33, u34, u35, u36, u37, u38, u39, u40, u41, u3, rfl, F, B, E⟩ hd hdep Kc hKc
                  obtain rfl := E.old (.inr hd)
                  rw [if_pos (by rfl)]
                  go_big_op
                  exact hKc _ _ ⟨_, _, _, _, _, _, _, _, _, _, _, _, _, rfl, F.set 4 rfl rfl, B.same rfl, E.same rfl⟩
                · rintro d act x0 ⟨u30, u31, u32, u33, u34, u35, u36, u37, u38, u39, u40, u41, u3, rfl, F, B, E⟩ hd hdep Kc hKc
                  rw [if_pos (by rfl)]
                  go_big_op
                  exact hKc _ _ ⟨_, _, _, _, _, _, _, _, _, _, _, _, _, rfl, F.set 5 rfl rfl, B.same rfl, E.same rfl⟩
                · rintro d act x0 ⟨u30, u31, u32, u33, u34, u35, u36, u37, u38, u39, u40, u41, u3, rfl, F, B, E⟩ hd hdep Kc hKc
                  have h8 : d 8 = true := hdep ⟨8, .data⟩ (by simp) rfl
                  have h9 : d 9 = true := hdep ⟨9, .data⟩ (by simp) rfl
                  have e := F.get 4 rfl h8
                  subst e
                  have e := F.get 5 rfl h9
                  subst e
                  rw [if_pos (by rfl)]
                  go_big_op
                  exact hKc _ _ ⟨_, _, _, _, _, _, _, _, _, _, _, _, _, rfl, F.set 6 rfl rfl, B.same rfl, E.same rfl⟩
                · rintro d act x0 ⟨u30, u31, u32, u33, u34, u35, u36, u37, u38, u39, u40, u41, u3, rfl, F, B, E⟩ hd hdep Kc hKc
                  have h7 : d 7 = true := hdep ⟨7, .data⟩ (by simp) rfl
                  have h10 : d 10 = true := hdep ⟨10, .data⟩ (by simp) rfl
                  have f7' := B.a2 h7 hd
                  have e := F.get 6 rfl h10
                  subst e
                  rw [if_pos (by rfl)]
                  refine wp_append_own _ _ _ 28 rfl (w5.heap.size) 34 i0 Cd.zero.v 9 88 Try.underlying28 hi hz0 hz1 hz2 rfl (by decide) _ (K + 1) (flat cc (S.take K ++ [x])) rfl f7' ⟨g, K * 9, none⟩ (m - K) (gc - K) (flat cc (S.drop K)) rfl ?c0 ?c1 ?c2 ?c3 ?c4 ?c5 ?_
                  case c0 => rw [flat_len cc_len, HDL.out]
                  case c1 => intro j u hj; rw [add_off]; have h9 := ((HCS.out.ext B.bl).drop K); rw [Nat.zero_add] at h9; exact cat_cells h9 j u hj
                  case c2 => exact flat_one cc_one _
                  case c3 => unfold maxLen; omega
                  case c4 => omega
                  case c5 => exact B.bl.size
                  intro v' x1 hown' hgrow _
                  exact hKc _ _ ⟨_, _, _, _, _, _, _, _, _, _, _, _, _, rfl, F.same rfl, B.app3 hd rfl h7 (by rw [flat_app]; exact hown') hgrow, E.put hd rfl⟩
                · rintro d act x0 ⟨u30, u31, u32, u33, u34, u35, u36, u37, u38, u39, u40, u41, u3, rfl, F, B, E⟩ hd hdep Kc hKc
                  have h1 : d 1 = true := hdep ⟨1, .phase⟩ (by simp) rfl
                  have h8 : d 8 = true := hdep ⟨8, .phase⟩ (by simp) rfl
                  have h11 : d 11 = true := hdep ⟨11, .data⟩ (by simp) rfl
                  rw [if_pos (by rfl)]
                  go_big_op
                  exact hKc _ _ ⟨_, _, _, _, _, _, _, _, _, _, _, _, _, rfl, F.same rfl, B.same rfl, E.set h1 h8 h11⟩
              · rintro d act x0 ⟨u30, u31, u32, u33, u34, u35, u36, u37, u38, u39, u40, u41, u3, rfl, F, B, E⟩ hall
                have f11' := B.a3 (hall 11 (by decide))
                have f12' := (E.y (hall 12 (by decide))).1
                subst f12'
                have HN7 := Lib.hid f11'
                have HG0 := Lib.hid B.bl
                clear F B E hall f11'
              
                go_wp2
                go_roundw
                case rel => exact ⟨J + 1, by omega, by go_num, by rw [HST.out]; unfold OwnC OwnR; have h9 := ownsRow_base HN7.out HBW.out.size; rw [List.length_append, List.length_append, HTL.out, HDL.out]; exact h9, ext_trans HBW.out HG0.out⟩
                case measure => simp [intOf]; omega
        · obtain ⟨P, rfl⟩ : ∃ P, K = P + 1 := ⟨K - 1, by omega⟩
          obtain ⟨y, hy⟩ : ∃ y, S[P]? = some y := ⟨_, List.getElem?_eq_getElem (by have := HM.out; omega)⟩
          obtain ⟨g, rfl⟩ : ∃ g, ga = some ⟨g, 0, none⟩ := by
            rcases hgf with ⟨_, _, e⟩ | ⟨g, e⟩
            · rw [e] at hy; simp at hy
            · exact ⟨g, e⟩
          have HTK := Lib.hid (show S.take (P + 1) = S.take P ++ [y] from by rw [List.take_add_one, hy]; rfl)
          have HDP := Lib.hid (show S.drop P = y :: S.drop (P + 1) from drop_at hy)
          obtain ⟨k2, k3, -⟩ := (HGC.out.ext HB4.out).at hy
          have hrb := blk_ext HB4.out HX.out
          have k0 : w4.cell? ⟨r, 0, none⟩ = some (.string x.a) := by rw [blk_cell hrb]; rfl
          have k1 : w4.cell? ⟨r, 1, none⟩ = some (.string x.i) := by rw [blk_cell hrb]; rfl
          have hd : decide ((0 : Int) < (P : Int) + 1) = true := decide_eq_true (by omega)
          rw [Nat.zero_add] at k2 k3
          have hPm : (P : Int) < (m : Int) := by omega
          clear hy hrb hgf
          by_cases hlt2 : klt x y = true
          · have HKL := Lib.hid (show decide (kc x.a x.i y.a y.i < 0) = true from hlt2)
            have HI2 := Lib.hid (show insR klt x S = insR klt x (S.take P) ++ S.drop P from by rw [HINS.out, HTK.out, insR_lt klt x y _ hlt2, HDP.out, List.append_assoc]; try rfl)
            clear hlt2
            go_wp2_with fail
            haveI hIq : Nonempty (Of w4) := of_some _
            have hFa := of_cell k0
            have hFb := of_cell k1
            have hFc := of_cell k2
            have hFd := of_cell k3
            first | (refine wp_region_stay w4 (by kernel_rfl) (by kernel_rfl) (by go_grown) ?_) | (refine wp_region_stay_seq w4 (by go_grown) ?_)
            repeat (go_big_quiet_step ((go_at_call 74; refine stay_bool (u := true) (refBefore x.a x.i y.a y.i _) ?_; (exact HKL.out))))
            refine wpQuiet_nil ?_
            intro w5 hb5
            clear hIq hFa hFb hFc hFd k0 k1 k2 k3
            
            have HB5 := Lib.hid (ext_trans HB4.out hb5)
            clear hb5
            go_wp2
            go_roundw
            case rel => exact ⟨P, by omega, by go_num, HI2.out, HB5.out⟩
            case measure => simp [intOf]
          · have hf : klt x y = false := by simpa using hlt2
            have HKL := Lib.hid (show decide (kc x.a x.i y.a y.i < 0) = false from hf)
            have HST0 := Lib.hid (show srt klt (ls.take (J + 1)) = S.take (P + 1) ++ [x] ++ S.drop (P + 1) from by rw [HS1.out, HINS.out, HTK.out, insR_ge klt x y _ hf])
            clear hlt2 hf
            go_wp2_with fail
            haveI hIq : Nonempty (Of w4) := of_some _
            have hFa := of_cell k0
            have hFb := of_cell k1
            have hFc := of_cell k2
            have hFd := of_cell k3
            first | (refine wp_region_stay w4 (by kernel_rfl) (by kernel_rfl) (by go_grown) ?_) | (refine wp_region_stay_seq w4 (by go_grown) ?_)
            repeat (go_big_quiet_step ((go_at_call 74; refine stay_bool (u := false) (refBefore x.a x.i y.a y.i _) ?_; (exact HKL.out))))
            refine wpQuiet_nil ?_
            intro w5 hb5
            clear hIq hFa hFb hFc hFd k0 k1 k2 k3
            
            clear HINS HS1 HTK HDP hPm hd
            generalize P + 1 = K at hK HST0 ⊢
            have HST := HST0
            clear HST0
            have HRB := Lib.hid (blk_ext (ext_trans HB4.out hb5) HX.out)
            have HCS := Lib.hid (HGC.out.ext (ext_trans HB4.out hb5))
            have HBW := Lib.hid (ext_trans HB3.out (ext_trans HB4.out hb5))
            have HTL := Lib.hid (show (S.take K).length = K by rw [List.length_take]; have := HM.out; omega)
            have HDL := Lib.hid (show (S.drop K).length = m - K by rw [List.length_drop]; have := HM.out; omega)
            clear hb5 HB3 HX HO3 HGC HB4
            
            go_wp2_with fail
            rcases Classical.propComplete (gc = K) with hce | hce
            · refine wp_region_inv_eq (J := fun A d act x0 => ∃ u30 u31 u32 u33 u34 u35 u36 u37 u38 u39 u40 u41 u3 : Value, act = (((((((((((((A.put (some 30) u30).put (some 31) u31).put (some 32) u32).put (some 33) u33).put (some 34) u34).put (some 35) u35).put (some 36) u36).put (some 37) u37).put (some 38) u38).put (some 39) u39).put (some 40) u40).put (some 41) u41).put (some 3) u3) ∧ SF [(1, u31, .slice (some ⟨g, 0, none⟩) m gc), (2, u32, .int .i64 ((K : Nat) : Int)), (3, u33, .slice (some ⟨g, 0, none⟩) K gc), (5, u35, .agg #[.string x.a, .string x.i, .int .i64 x.s, .int .i64 x.o, .int .i64 x.l, .int .i64 x.t, .int .i64 x.k, .int .i64 x.n, .bool x.g]), (8, u38, .slice (some ⟨g, 0, none⟩) m gc), (9, u39, .int .i64 ((K : Nat) : Int)), (10, u40, .slice (some ⟨g, 0, none⟩) (m - K) (gc - K))] d ∧ AP w5 34 9 #[.string x.a, .string x.i, .int .i64 x.s, .int .i64 x.o, .int .i64 x.l, .int .i64 x.t, .int .i64 x.k, .int .i64 x.n, .bool x.g] K (K + 1) (K + 1 + (m - K)) (flat cc (S.take K)) (flat cc (S.take K ++ [x])) (flat cc (S.take K ++ [x] ++ S.drop K)) 0 4 6 7 11 d x0 u30 u34 u36 u37 u41 ∧ LS 12 1 8 11 (.slice (some ⟨g, 0, none⟩) m gc) d u3 u41) (by simp only [Act.put, List.setIfInBounds_toArray, List.set_cons_succ, List.set_cons_zero]; rfl) (by kernel_rfl) (by kernel_rfl) ?_ ?_ ?_
              · exact ⟨_, _, _, _, _, _, _, _, _, _, _, _, _, rfl, SF.init _, AP.init (Below.refl _ _).drew, LS.init _⟩
              · refine stepsOk_cons (k := 0) ?_ (stepsOk_cons (k := 1) ?_ (stepsOk_cons (k := 2) ?_ (stepsOk_cons (k := 3) ?_ (stepsOk_cons (k := 4) ?_ (stepsOk_cons (k := 5) ?_ (stepsOk_cons (k := 6) ?_ (stepsOk_cons (k := 7) ?_ (stepsOk_cons (k := 8) ?_ (stepsOk_cons (k := 9) ?_ (stepsOk_cons (k := 10) ?_ (stepsOk_cons (k := 11) ?_ (stepsOk_cons (k := 12) ?_ stepsOk_nil))))))))))))
                · rintro d act x0 ⟨u30, u31, u32, u33, u34, u35, u36, u37, u38, u39, u40, u41, u3, rfl, F, B, E⟩ hd hdep Kc hKc
                  rw [if_pos (by rfl)]
                  go_big_op
                  exact hKc _ _ ⟨_, _, _, _, _, _, _, _, _, _, _, _, _, rfl, F.same rfl, B.alloc0 hd rfl, E.same rfl⟩
                · rintro d act x0 ⟨u30, u31, u32, u33, u34, u35, u36, u37, u38, u39, u40, u41, u3, rfl, F, B, E⟩ hd hdep Kc hKc
                  obtain rfl := E.old (.inl hd)
                  rw [if_pos (by rfl)]
                  go_big_op
                  exact hKc _ _ ⟨_, _, _, _, _, _, _, _, _, _, _, _, _, rfl, F.set 0 rfl rfl, B.same rfl, E.same rfl⟩
                · rintro d act x0 ⟨u30, u31, u32, u33, u34, u35, u36, u37, u38, u39, u40, u41, u3, rfl, F, B, E⟩ hd hdep Kc hKc
                  rw [if_pos (by rfl)]
                  go_big_op
                  exact hKc _ _ ⟨_, _, _, _, _, _, _, _, _, _, _, _, _, rfl, F.set 1 rfl rfl, B.same rfl, E.same rfl⟩
                · rintro d act x0 ⟨u30, u31, u32, u33, u34, u35, u36, u37, u38, u39, u40, u41, u3, rfl, F, B, E⟩ hd hdep Kc hKc
                  have h1 : d 1 = true := hdep ⟨1, .data⟩ (by simp) rfl
                  have h2 : d 2 = true := hdep ⟨2, .data⟩ (by simp) rfl
                  have e := F.get 0 rfl h1
                  subst e
                  have e := F.get 1 rfl h2
                  subst e
                  rw [if_pos (by rfl)]
                  go_big_op
                  exact hKc _ _ ⟨_, _, _, _, _, _, _, _, _, _, _, _, _, rfl, F.set 2 rfl rfl, B.same rfl, E.same rfl⟩
                · rintro d act x0 ⟨u30, u31, u32, u33, u34, u35, u36, u37, u38, u39, u40, u41, u3, rfl, F, B, E⟩ hd hdep Kc hKc
                  have h0 : d 0 = true := hdep ⟨0, .data⟩ (by simp) rfl
                  have h3 : d 3 = true := hdep ⟨3, .data⟩ (by simp) rfl
                  obtain ⟨b1, rfl, hb1, hge1⟩ := B.e h0 hd
                  have e := F.get 2 rfl h3
                  subst e
                  have f0o : x0.ownsRow w5.heap.size 34 9 (.slice (some ⟨b1, 0, none⟩) 0 0) 0 (flat cc []) := own_empty0 hb1 hge1
                  rw [if_pos (by rfl)]
                  refine wp_append_own _ _ _ 28 rfl (w5.heap.size) 34 i0 Cd.zero.v 9 88 Try.underlying28 hi hz0 hz1 hz2 rfl (by decide) _ 0 (flat cc []) rfl f0o ⟨g, 0, none⟩ K gc (flat cc (S.take K)) rfl ?c0 ?c1 ?c2 ?c3 ?c4 ?c5 ?_
                  case c0 => rw [flat_len cc_len, HTL.out]
                  case c1 => intro j u hj; rw [add_off]; exact cat_cells ((HCS.out.ext B.bl).take K) j u hj
                  case c2 => exact flat_one cc_one _
                  case c3 => unfold maxLen; omega
                  case c4 => omega
                  case c5 => exact B.bl.size
                  intro v' x1 hown' hgrow _
                  exact hKc _ _ ⟨_, _, _, _, _, _, _, _, _, _, _, _, _, rfl, F.same rfl, B.app1 hd rfl h0 (show 0 < 9 from by decide) hb1 hge1 (by simpa [flat_nil] using hown') hgrow, E.same rfl⟩
                · rintro d act x0 ⟨u30, u31, u32, u33, u34, u35, u36, u37, u38, u39, u40, u41, u3, rfl, F, B, E⟩ hd hdep Kc hKc
                  have hx5 := blk_cell (blk_ext B.bl HRB.out)
                  have hl5 := blk_lt (blk_ext B.bl HRB.out)
                  rw [if_pos (by rfl)]
                  go_big_op
                  exact hKc _ _ ⟨_, _, _, _, _, _, _, _, _, _, _, _, _, rfl, F.set 3 rfl rfl, B.same rfl, E.same rfl⟩
                · rintro d act x0 ⟨u30, u31, u32, u33, u34, u35, u36, u37, u38, u39, u40, u41, u3, rfl, F, B, E⟩ hd hdep Kc hKc
                  have h5 : d 5 = true := hdep ⟨5, .data⟩ (by simp) rfl
                  have e := F.get 3 rfl h5
                  subst e
                  rw [if_pos (by rfl)]
                  go_big_op
                  exact hKc _ _ ⟨_, _, _, _, _, _, _, _, _, _, _, _, _, rfl, F.same rfl, B.alloc2 hd rfl, E.same rfl⟩
                · rintro d act x0 ⟨u30, u31, u32, u33, u34, u35, u36, u37, u38, u39, u40, u41, u3, rfl, F, B, E⟩ hd hdep Kc hKc
                  have h4 : d 4 = true := hdep ⟨4, .data⟩ (by simp) rfl
                  have h6 : d 6 = true := hdep ⟨6, .data⟩ (by simp) rfl
                  have f4' := B.a1 h4 hd
                  obtain ⟨b4, rfl, hb4⟩ := B.s h6 hd
                  rw [if_pos (by rfl)]
                  refine wp_append_own _ _ _ 28 rfl (w5.heap.size) 34 i0 Cd.zero.v 9 88 Try.underlying28 hi hz0 hz1 hz2 rfl (by decide) _ K (flat cc (S.take K)) rfl f4' ⟨b4, 0, none⟩ 1 1 (cc x) rfl ?c0 ?c1 ?c2 ?c3 ?c4 ?c5 ?_
                  case c0 => rfl
                  case c1 => intro j u hj; rw [add_off, Nat.zero_add, blk_cell hb4]; simpa [cc] using hj
                  case c2 => exact cc_one x
                  case c3 => unfold maxLen; omega
                  case c4 => omega
                  case c5 => exact B.bl.size
                  intro v' x1 hown' hgrow _
                  exact hKc _ _ ⟨_, _, _, _, _, _, _, _, _, _, _, _, _, rfl, F.same rfl, B.app2 hd rfl h4 h6 (by rw [flat_snoc]; exact hown') hgrow, E.same rfl⟩
                · rintro d act x0 ⟨u30, u31, u32, u33, u34, u35, u36, u37, u38, u39, u40, u41, u3, rfl, F, B, E⟩ hd hdep Kc hKc
                  obtain rfl := E.old (.inr hd)
                  rw [if_pos (by rfl)]
                  go_big_op
                  exact hKc _ _ ⟨_, _, _, _, _, _, _, _, _, _, _, _, _, rfl, F.set 4 rfl rfl, B.same rfl, E.same rfl⟩
                · rintro d act x0 ⟨u30, u31, u32, u33, u34, u35, u36, u37, u38, u39, u40, u41, u3, rfl, F, B, E⟩ hd hdep Kc hKc
                  rw [if_pos (by rfl)]
                  go_big_op
                  exact hKc _ _ ⟨_, _, _, _, _, _, _, _, _, _, _, _, _, rfl, F.set 5 rfl rfl, B.same rfl, E.same rfl⟩
                · rintro d act x0 ⟨u30, u31, u32, u33, u34, u35, u36, u37, u38, u39, u40, u41, u3, rfl, F, B, E⟩ hd hdep Kc hKc
                  have h8 : d 8 = true := hdep ⟨8, .data⟩ (by simp) rfl
                  have h9 : d 9 = true := hdep ⟨9, .data⟩ (by simp) rfl
                  have e := F.get 4 rfl h8
                  subst e
                  have e := F.get 5 rfl h9
                  subst e
                  rw [if_pos (by rfl)]
                  go_big_op
                  exact hKc _ _ ⟨_, _, _, _, _, _, _, _, _, _, _, _, _, rfl, F.set 6 rfl rfl, B.same rfl, E.same rfl⟩
                · rintro d act x0 ⟨u30, u31, u32, u33, u34, u35, u36, u37, u38, u39, u40, u41, u3, rfl, F, B, E⟩ hd hdep Kc hKc
                  have h7 : d 7 = true := hdep ⟨7, .data⟩ (by simp) rfl
                  have h10 : d 10 = true := hdep ⟨10, .data⟩ (by simp) rfl
                  have f7' := B.a2 h7 hd
                  have e := F.get 6 rfl h10
                  subst e
                  rw [if_pos (by rfl)]
                  refine wp_append_own _ _ _ 28 rfl (w5.heap.size) 34 i0 Cd.zero.v 9 88 Try.underlying28 hi hz0 hz1 hz2 rfl (by decide) _ (K + 1) (flat cc (S.take K ++ [x])) rfl f7' ⟨g, 0, none⟩ (m - K) (gc - K) (flat cc (S.drop K)) rfl ?c0 ?c1 ?c2 ?c3 ?c4 ?c5 ?_
                  case c0 => rw [flat_len cc_len, HDL.out]
                  case c1 => intro j u hj; rw [List.eq_nil_of_length_eq_zero (show (S.drop K).length = 0 from by rw [HDL.out]; have := of_eq_true hce; omega)] at hj; simp [flat] at hj
                  case c2 => exact flat_one cc_one _
                  case c3 => unfold maxLen; omega
                  case c4 => omega
                  case c5 => exact B.bl.size
                  intro v' x1 hown' hgrow _
                  exact hKc _ _ ⟨_, _, _, _, _, _, _, _, _, _, _, _, _, rfl, F.same rfl, B.app3 hd rfl h7 (by rw [flat_app]; exact hown') hgrow, E.put hd rfl⟩
                · rintro d act x0 ⟨u30, u31, u32, u33, u34, u35, u36, u37, u38, u39, u40, u41, u3, rfl, F, B, E⟩ hd hdep Kc hKc
                  have h1 : d 1 = true := hdep ⟨1, .phase⟩ (by simp) rfl
                  have h8 : d 8 = true := hdep ⟨8, .phase⟩ (by simp) rfl
                  have h11 : d 11 = true := hdep ⟨11, .data⟩ (by simp) rfl
                  rw [if_pos (by rfl)]
                  go_big_op
                  exact hKc _ _ ⟨_, _, _, _, _, _, _, _, _, _, _, _, _, rfl, F.same rfl, B.same rfl, E.set h1 h8 h11⟩
              · rintro d act x0 ⟨u30, u31, u32, u33, u34, u35, u36, u37, u38, u39, u40, u41, u3, rfl, F, B, E⟩ hall
                have f11' := B.a3 (hall 11 (by decide))
                have f12' := (E.y (hall 12 (by decide))).1
                subst f12'
                have HN7 := Lib.hid f11'
                have HG0 := Lib.hid B.bl
                clear F B E hall f11'
              
                go_wp2
                go_roundw
                case rel => exact ⟨J + 1, by omega, by go_num, by rw [HST.out]; unfold OwnC OwnR; have h9 := ownsRow_base HN7.out HBW.out.size; rw [List.length_append, List.length_append, HTL.out, HDL.out]; exact h9, ext_trans HBW.out HG0.out⟩
                case measure => simp [intOf]; omega
            · refine wp_region_inv_eq (J := fun A d act x0 => ∃ u30 u31 u32 u33 u34 u35 u36 u37 u38 u39 u40 u41 u3 : Value, act = (((((((((((((A.put (some 30) u30).put (some 31) u31).put (some 32) u32).put (some 33) u33).put (some 34) u34).put (some 35) u35).put (some 36) u36).put (some 37) u37).put (some 38) u38).put (some 39) u39).put (some 40) u40).put (some 41) u41).put (some 3) u3) ∧ SF [(1, u31, .slice (some ⟨g, 0, none⟩) m gc), (2, u32, .int .i64 ((K : Nat) : Int)), (3, u33, .slice (some ⟨g, 0, none⟩) K gc), (5, u35, .agg #[.string x.a, .string x.i, .int .i64 x.s, .int .i64 x.o, .int .i64 x.l, .int .i64 x.t, .int .i64 x.k, .int .i64 x.n, .bool x.g]), (8, u38, .slice (some ⟨g, 0, none⟩) m gc), (9, u39, .int .i64 ((K : Nat) : Int)), (10, u40, .slice (some ⟨g, K * 9, none⟩) (m - K) (gc - K))] d ∧ AP w5 34 9 #[.string x.a, .string x.i, .int .i64 x.s, .int .i64 x.o, .int .i64 x.l, .int .i64 x.t, .int .i64 x.k, .int .i64 x.n, .bool x.g] K (K + 1) (K + 1 + (m - K)) (flat cc (S.take K)) (flat cc (S.take K ++ [x])) (flat cc (S.take K ++ [x] ++ S.drop K)) 0 4 6 7 11 d x0 u30 u34 u36 u37 u41 ∧ LS 12 1 8 11 (.slice (some ⟨g, 0, none⟩) m gc) d u3 u41) (by simp only [Act.put, List.setIfInBounds_toArray, List.set_cons_succ, List.set_cons_zero]; rfl) (by kernel_rfl) (by kernel_rfl) ?_ ?_ ?_
              · exact ⟨_, _, _, _, _, _, _, _, _, _, _, _, _, rfl, SF.init _, AP.init (Below.refl _ _).drew, LS.init _⟩
              · refine stepsOk_cons (k := 0) ?_ (stepsOk_cons (k := 1) ?_ (stepsOk_cons (k := 2) ?_ (stepsOk_cons (k := 3) ?_ (stepsOk_cons (k := 4) ?_ (stepsOk_cons (k := 5) ?_ (stepsOk_cons (k := 6) ?_ (stepsOk_cons (k := 7) ?_ (stepsOk_cons (k := 8) ?_ (stepsOk_cons (k := 9) ?_ (stepsOk_cons (k := 10) ?_ (stepsOk_cons (k := 11) ?_ (stepsOk_cons (k := 12) ?_ stepsOk_nil))))))))))))
                · rintro d act x0 ⟨u30, u31, u32, u33, u34, u35, u36, u37, u38, u39, u40, u41, u3, rfl, F, B, E⟩ hd hdep Kc hKc
                  rw [if_pos (by rfl)]
                  go_big_op
                  exact hKc _ _ ⟨_, _, _, _, _, _, _, _, _, _, _, _, _, rfl, F.same rfl, B.alloc0 hd rfl, E.same rfl⟩
                · rintro d act x0 ⟨u30, u31, u32, u33, u34, u35, u36, u37, u38, u39, u40, u41, u3, rfl, F, B, E⟩ hd hdep Kc hKc
                  obtain rfl := E.old (.inl hd)
                  rw [if_pos (by rfl)]
                  go_big_op
                  exact hKc _ _ ⟨_, _, _, _, _, _, _, _, _, _, _, _, _, rfl, F.set 0 rfl rfl, B.same rfl, E.same rfl⟩
                · rintro d act x0 ⟨u30, u31, u32, u33, u34, u35, u36, u37, u38, u39, u40, u41, u3, rfl, F, B, E⟩ hd hdep Kc hKc
                  rw [if_pos (by rfl)]
                  go_big_op
                  exact hKc _ _ ⟨_, _, _, _, _, _, _, _, _, _, _, _, _, rfl, F.set 1 rfl rfl, B.same rfl, E.same rfl⟩
                · rintro d act x0 ⟨u30, u31, u32, u33, u34, u35, u36, u37, u38, u39, u40, u41, u3, rfl, F, B, E⟩ hd hdep Kc hKc
                  have h1 : d 1 = true := hdep ⟨1, .data⟩ (by simp) rfl
                  have h2 : d 2 = true := hdep ⟨2, .data⟩ (by simp) rfl
                  have e := F.get 0 rfl h1
                  subst e
                  have e := F.get 1 rfl h2
                  subst e
                  rw [if_pos (by rfl)]
                  go_big_op
                  exact hKc _ _ ⟨_, _, _, _, _, _, _, _, _, _, _, _, _, rfl, F.set 2 rfl rfl, B.same rfl, E.same rfl⟩
                · rintro d act x0 ⟨u30, u31, u32, u33, u34, u35, u36, u37, u38, u39, u40, u41, u3, rfl, F, B, E⟩ hd hdep Kc hKc
                  have h0 : d 0 = true := hdep ⟨0, .data⟩ (by simp) rfl
                  have h3 : d 3 = true := hdep ⟨3, .data⟩ (by simp) rfl
                  obtain ⟨b1, rfl, hb1, hge1⟩ := B.e h0 hd
                  have e := F.get 2 rfl h3
                  subst e
                  have f0o : x0.ownsRow w5.heap.size 34 9 (.slice (some ⟨b1, 0, none⟩) 0 0) 0 (flat cc []) := own_empty0 hb1 hge1
                  rw [if_pos (by rfl)]
                  refine wp_append_own _ _ _ 28 rfl (w5.heap.size) 34 i0 Cd.zero.v 9 88 Try.underlying28 hi hz0 hz1 hz2 rfl (by decide) _ 0 (flat cc []) rfl f0o ⟨g, 0, none⟩ K gc (flat cc (S.take K)) rfl ?c0 ?c1 ?c2 ?c3 ?c4 ?c5 ?_
                  case c0 => rw [flat_len cc_len, HTL.out]
                  case c1 => intro j u hj; rw [add_off]; exact cat_cells ((HCS.out.ext B.bl).take K) j u hj
                  case c2 => exact flat_one cc_one _
                  case c3 => unfold maxLen; omega
                  case c4 => omega
                  case c5 => exact B.bl.size
                  intro v' x1 hown' hgrow _
                  exact hKc _ _ ⟨_, _, _, _, _, _, _, _, _, _, _, _, _, rfl, F.same rfl, B.app1 hd rfl h0 (show 0 < 9 from by decide) hb1 hge1 (by simpa [flat_nil] using hown') hgrow, E.same rfl⟩
                · rintro d act x0 ⟨u30, u31, u32, u33, u34, u35, u36, u37, u38, u39, u40, u41, u3, rfl, F, B, E⟩ hd hdep Kc hKc
                  have hx5 := blk_cell (blk_ext B.bl HRB.out)
                  have hl5 := blk_lt (blk_ext B.bl HRB.out)
                  rw [if_pos (by rfl)]
                  go_big_op
                  exact hKc _ _ ⟨_, _, _, _, _, _, _, _, _, _, _, _, _, rfl, F.set 3 rfl rfl, B.same rfl, E.same rfl⟩
                · rintro d act x0 ⟨u30, u31, u32, u33, u34, u35, u36, u37, u38, u39, u40, u41, u3, rfl, F, B, E⟩ hd hdep Kc hKc
                  have h5 : d 5 = true := hdep ⟨5, .data⟩ (by simp) rfl
                  have e := F.get 3 rfl h5
                  subst e
                  rw [if_pos (by rfl)]
                  go_big_op
                  exact hKc _ _ ⟨_, _, _, _, _, _, _, _, _, _, _, _, _, rfl, F.same rfl, B.alloc2 hd rfl, E.same rfl⟩
                · rintro d act x0 ⟨u30, u31, u32, u33, u34, u35, u36, u37, u38, u39, u40, u41, u3, rfl, F, B, E⟩ hd hdep Kc hKc
                  have h4 : d 4 = true := hdep ⟨4, .data⟩ (by simp) rfl
                  have h6 : d 6 = true := hdep ⟨6, .data⟩ (by simp) rfl
                  have f4' := B.a1 h4 hd
                  obtain ⟨b4, rfl, hb4⟩ := B.s h6 hd
                  rw [if_pos (by rfl)]
                  refine wp_append_own _ _ _ 28 rfl (w5.heap.size) 34 i0 Cd.zero.v 9 88 Try.underlying28 hi hz0 hz1 hz2 rfl (by decide) _ K (flat cc (S.take K)) rfl f4' ⟨b4, 0, none⟩ 1 1 (cc x) rfl ?c0 ?c1 ?c2 ?c3 ?c4 ?c5 ?_
                  case c0 => rfl
                  case c1 => intro j u hj; rw [add_off, Nat.zero_add, blk_cell hb4]; simpa [cc] using hj
                  case c2 => exact cc_one x
                  case c3 => unfold maxLen; omega
                  case c4 => omega
                  case c5 => exact B.bl.size
                  intro v' x1 hown' hgrow _
                  exact hKc _ _ ⟨_, _, _, _, _, _, _, _, _, _, _, _, _, rfl, F.same rfl, B.app2 hd rfl h4 h6 (by rw [flat_snoc]; exact hown') hgrow, E.same rfl⟩
                · rintro d act x0 ⟨u30, u31, u32, u33, u34, u35, u36, u37, u38, u39, u40, u41, u3, rfl, F, B, E⟩ hd hdep Kc hKc
                  obtain rfl := E.old (.inr hd)
                  rw [if_pos (by rfl)]
                  go_big_op
                  exact hKc _ _ ⟨_, _, _, _, _, _, _, _, _, _, _, _, _, rfl, F.set 4 rfl rfl, B.same rfl, E.same rfl⟩
                · rintro d act x0 ⟨u30, u31, u32, u33, u34, u35, u36, u37, u38, u39, u40, u41, u3, rfl, F, B, E⟩ hd hdep Kc hKc
                  rw [if_pos (by rfl)]
                  go_big_op
                  exact hKc _ _ ⟨_, _, _, _, _, _, _, _, _, _, _, _, _, rfl, F.set 5 rfl rfl, B.same rfl, E.same rfl⟩
                · rintro d act x0 ⟨u30, u31, u32, u33, u34, u35, u36, u37, u38, u39, u40, u41, u3, rfl, F, B, E⟩ hd hdep Kc hKc
                  have h8 : d 8 = true := hdep ⟨8, .data⟩ (by simp) rfl
                  have h9 : d 9 = true := hdep ⟨9, .data⟩ (by simp) rfl
                  have e := F.get 4 rfl h8
                  subst e
                  have e := F.get 5 rfl h9
                  subst e
                  rw [if_pos (by rfl)]
                  go_big_op
                  exact hKc _ _ ⟨_, _, _, _, _, _, _, _, _, _, _, _, _, rfl, F.set 6 rfl rfl, B.same rfl, E.same rfl⟩
                · rintro d act x0 ⟨u30, u31, u32, u33, u34, u35, u36, u37, u38, u39, u40, u41, u3, rfl, F, B, E⟩ hd hdep Kc hKc
                  have h7 : d 7 = true := hdep ⟨7, .data⟩ (by simp) rfl
                  have h10 : d 10 = true := hdep ⟨10, .data⟩ (by simp) rfl
                  have f7' := B.a2 h7 hd
                  have e := F.get 6 rfl h10
                  subst e
                  rw [if_pos (by rfl)]
                  refine wp_append_own _ _ _ 28 rfl (w5.heap.size) 34 i0 Cd.zero.v 9 88 Try.underlying28 hi hz0 hz1 hz2 rfl (by decide) _ (K + 1) (flat cc (S.take K ++ [x])) rfl f7' ⟨g, K * 9, none⟩ (m - K) (gc - K) (flat cc (S.drop K)) rfl ?c0 ?c1 ?c2 ?c3 ?c4 ?c5 ?_
                  case c0 => rw [flat_len cc_len, HDL.out]
                  case c1 => intro j u hj; rw [add_off]; have h9 := ((HCS.out.ext B.bl).drop K); rw [Nat.zero_add] at h9; exact cat_cells h9 j u hj
                  case c2 => exact flat_one cc_one _
                  case c3 => unfold maxLen; omega
                  case c4 => omega
                  case c5 => exact B.bl.size
                  intro v' x1 hown' hgrow _
                  exact hKc _ _ ⟨_, _, _, _, _, _, _, _, _, _, _, _, _, rfl, F.same rfl, B.app3 hd rfl h7 (by rw [flat_app]; exact hown') hgrow, E.put hd rfl⟩
                · rintro d act x0 ⟨u30, u31, u32, u33, u34, u35, u36, u37, u38, u39, u40, u41, u3, rfl, F, B, E⟩ hd hdep Kc hKc
                  have h1 : d 1 = true := hdep ⟨1, .phase⟩ (by simp) rfl
                  have h8 : d 8 = true := hdep ⟨8, .phase⟩ (by simp) rfl
                  have h11 : d 11 = true := hdep ⟨11, .data⟩ (by simp) rfl
                  rw [if_pos (by rfl)]
                  go_big_op
                  exact hKc _ _ ⟨_, _, _, _, _, _, _, _, _, _, _, _, _, rfl, F.same rfl, B.same rfl, E.set h1 h8 h11⟩
              · rintro d act x0 ⟨u30, u31, u32, u33, u34, u35, u36, u37, u38, u39, u40, u41, u3, rfl, F, B, E⟩ hall
                have f11' := B.a3 (hall 11 (by decide))
                have f12' := (E.y (hall 12 (by decide))).1
                subst f12'
                have HN7 := Lib.hid f11'
                have HG0 := Lib.hid B.bl
                clear F B E hall f11'
              
                go_wp2
                go_roundw
                case rel => exact ⟨J + 1, by omega, by go_num, by rw [HST.out]; unfold OwnC OwnR; have h9 := ownsRow_base HN7.out HBW.out.size; rw [List.length_append, List.length_append, HTL.out, HDL.out]; exact h9, ext_trans HBW.out HG0.out⟩
                case measure => simp [intOf]; omega
    · obtain rfl : J = n := by omega
      have HF := Lib.hid (show ls.take J = ls from List.take_of_length_le (by have := HN.out; omega))
      go_wp2
      go_ret
      exact ⟨_, rfl, by rw [HF.out] at ho2; exact ho2, hb2⟩

end Go.Proofs.Ytloeabdohgdmkaa
