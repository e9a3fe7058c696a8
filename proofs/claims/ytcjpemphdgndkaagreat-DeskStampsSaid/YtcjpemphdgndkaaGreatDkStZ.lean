/- DeskStamps: the walk. -/
import Derived.Test.YtcjpemphdgndkaaGreatDkZZ
namespace Go.Proofs.YtcjpemphdgndkaaGreat
open Go.RowKit
set_option linter.unusedVariables false
set_option linter.unusedSimpArgs false

set_option maxHeartbeats 400000 in
theorem refLess (t k n t' k' n' : Int) (w : World) :
    Calls Tryz.prog 22 #[stv t k n, stv t' k' n'] w fun e w' => e = .returned (.bool (sLess t k n t' k' n')) ∧ Below w.heap.size w w' := by
  by_cases h1 : t = t'
  · subst h1
    by_cases h2 : n = n'
    · subst h2
      go_enter Tryz.func22, Tryz.ntmps22
      go_wp2
      go_ret
      exact ⟨by simp [sLess], by go_grown⟩
    · go_enter Tryz.func22, Tryz.ntmps22
      go_wp2
      go_ret
      exact ⟨by simp [sLess, h2], by go_grown⟩
  · go_enter Tryz.func22, Tryz.ntmps22
    go_wp2
    go_ret
    exact ⟨by simp [sLess, h1], by go_grown⟩

set_option maxRecDepth 100000 in
set_option maxHeartbeats 4000000 in
theorem deskStamps_walk (ta : Option Addr) (tlen tcap : Nat) (tz : List Int) (w : World) (hr : IsRow .i64 w ta tlen tcap tz) (hr8 : tlen * 8 ≤ 140737488351232) :
    Calls Tryz.prog 6 #[.slice ta tlen tcap] w fun r w' => r = .returned (.bool true) ∧ Below w.heap.size w w' := by
  obtain ⟨i0, hi, hz0, hz1, hz2⟩ := info_parts' info_aq
  go_enter Tryz.func6, Tryz.ntmps6
  go_wp2_with fail
  refine (deskNew 3 0 w (by omega) (by omega) (by omega) (by omega)).mono ?_
  rintro r w1 ⟨db, rfl, hdb, hp, hb⟩
  have HP1 := Lib.hid hp
  have HD1 := Lib.hid hb
  clear hp hb
  go_wp2_with fail
  refine (deskShelf db 3 0 3 0 [] 0 0 0 [] w1 HP1.out).mono ?_
  rintro r w2 ⟨rfl, hb⟩
  have HP2 := Lib.hid (HP1.out.ext hb)
  have HD2 := Lib.hid (ext_trans HD1.out hb)
  clear hb HP1 HD1
  go_wp2_with fail
  refine (lawAsks ta tlen tcap tz 60 w2 (hr.ext HD2.out) (by omega)).mono ?_
  rintro r w3 ⟨v, qs, rfl, ho, hql, hqok, hb⟩
  obtain ⟨qa, qc, rfl, hqc, hqm, hqat, -, -⟩ := OwnR.read aq_len ho
  obtain ⟨n, hn⟩ : ∃ n, qs.length = n := ⟨_, rfl⟩
  have HN := Lib.hid hn
  rw [hn] at hql hqc ⊢
  have HQA := Lib.hid (show AqAt w3 qa qs from hqat)
  have HQOK := Lib.hid hqok
  have HP3 := Lib.hid (HP2.out.ext hb)
  have HD3 := Lib.hid (ext_trans HD2.out hb)
  clear hb HP2 HD2 ho hqok hqat hn
  unfold maxLen at hqm
  go_wp2_with fail
  go_loopw [23] (fun i wr => ∃ (I : Nat) (t0 k0 n0 : Int) (es : List En) (g l tt : Int) (ks : List Ky), I ≤ n ∧ i = .int .i64 (I : Int) ∧ DkP wr db 3 t0 k0 n0 es g l tt ks ∧ DOk I t0 n0 es tt ks ∧ AqAt wr qa qs ∧ Below w.heap.size w wr) (fun i _ => n - (intOf i).toNat)
  case atStart => exact ⟨0, 0, 3, 0, [], 0, 0, 0, [], by omega, rfl, HP3.out, DOk.nil (by omega), HQA.out, HD3.out⟩
  case round =>
    obtain ⟨w4, rfl⟩ : ∃ y : World, y = wr := ⟨_, rfl⟩
    obtain ⟨I, t0, k0, n0, es, g, l, tt, ks, hI, rfl, hp, hok, hq, hb⟩ := hrel
    clear HP3 HD3 HQA
    by_cases hlt : I < n
    · have hd : decide ((I : Int) < (n : Int)) = true := by simp; omega
      obtain ⟨x, hx⟩ : ∃ x, qs[I]? = some x := ⟨_, List.getElem?_eq_getElem (by have := HN.out; omega)⟩
      have hxo := HQOK.out x (List.mem_of_getElem? hx)
      obtain ⟨qg, qo, rfl⟩ : ∃ g o, qa = some ⟨g, o, none⟩ := by
        rcases hq with h | ⟨g, o, e, _⟩
        · rw [h] at hx; simp at hx
        · exact ⟨g, o, e⟩
      have hget := fun (q : Nat) (u : Value) (h : (aq x)[q]? = some u) => SAt.get aq_len hq hx q u h
      obtain ⟨kd, op, st, tag, N, sq, k, more, late, c⟩ := x
      obtain ⟨k1, k2, hak, m1, m2, -, -, hcd, hca, hci⟩ := hxo
      have hL : (Instr.loadAt 39 (.pointer (some ⟨qg, qo + I * 25, none⟩))).run Tryz.prog w4 = .ok (.agg #[.int .i64 kd, .int .i64 1, .int .i64 op, .int .i64 st, .int .i64 0, .int .i64 tag, .int .i64 N, .int .i64 sq, .string k.1, .string k.2, .bool false, .int .u32 0, .slice none 0 0, .slice none 0 0, .int .i64 more, .int .i64 late, .string c.a, .string c.i, .int .i64 c.s, .int .i64 c.o, .int .i64 c.l, .int .i64 c.t, .int .i64 c.k, .int .i64 c.n, .bool c.g]) w4 := run_loadAt_at (c := aq (⟨kd, op, st, tag, N, sq, k, more, late, c⟩ : Aq)) (fun j v hj => hget j v hj) (aggAq _) (szAq _) rfl
      have hS : (Instr.storeAt 39 (.pointer (some ⟨w4.heap.size, 0, none⟩)) (.agg #[.int .i64 kd, .int .i64 1, .int .i64 op, .int .i64 st, .int .i64 0, .int .i64 tag, .int .i64 N, .int .i64 sq, .string k.1, .string k.2, .bool false, .int .u32 0, .slice none 0 0, .slice none 0 0, .int .i64 more, .int .i64 late, .string c.a, .string c.i, .int .i64 c.s, .int .i64 c.o, .int .i64 c.l, .int .i64 c.t, .int .i64 c.k, .int .i64 c.n, .bool c.g])).run Tryz.prog (w4.alloc (.cells #[.int .i64 0, .int .i64 0, .int .i64 0, .int .i64 0, .int .i64 0, .int .i64 0, .int .i64 0, .int .i64 0, .string ⟨#[]⟩, .string ⟨#[]⟩, .bool false, .int .u32 0, .slice none 0 0, .slice none 0 0, .int .i64 0, .int .i64 0, .string ⟨#[]⟩, .string ⟨#[]⟩, .int .i64 0, .int .i64 0, .int .i64 0, .int .i64 0, .int .i64 0, .int .i64 0, .bool false] 39)) = .ok () (w4.alloc (.cells #[.int .i64 kd, .int .i64 1, .int .i64 op, .int .i64 st, .int .i64 0, .int .i64 tag, .int .i64 N, .int .i64 sq, .string k.1, .string k.2, .bool false, .int .u32 0, .slice none 0 0, .slice none 0 0, .int .i64 more, .int .i64 late, .string c.a, .string c.i, .int .i64 c.s, .int .i64 c.o, .int .i64 c.l, .int .i64 c.t, .int .i64 c.k, .int .i64 c.n, .bool c.g] 39)) := run_storeAt_new w4 39 _ _ sizeAq rfl (all_of (aq_one (⟨kd, op, st, tag, N, sq, k, more, late, c⟩ : Aq)))
      have D5 : Below w4.heap.size w4 (w4.alloc (.cells #[.int .i64 kd, .int .i64 1, .int .i64 op, .int .i64 st, .int .i64 0, .int .i64 tag, .int .i64 N, .int .i64 sq, .string k.1, .string k.2, .bool false, .int .u32 0, .slice none 0 0, .slice none 0 0, .int .i64 more, .int .i64 late, .string c.a, .string c.i, .int .i64 c.s, .int .i64 c.o, .int .i64 c.l, .int .i64 c.t, .int .i64 c.k, .int .i64 c.n, .bool c.g] 39)) := (Below.refl _ _).alloc (Nat.le_refl _) _
      have HQB := Lib.hid (blk_new w4 #[.int .i64 kd, .int .i64 1, .int .i64 op, .int .i64 st, .int .i64 0, .int .i64 tag, .int .i64 N, .int .i64 sq, .string k.1, .string k.2, .bool false, .int .u32 0, .slice none 0 0, .slice none 0 0, .int .i64 more, .int .i64 late, .string c.a, .string c.i, .int .i64 c.s, .int .i64 c.o, .int .i64 c.l, .int .i64 c.t, .int .i64 c.k, .int .i64 c.n, .bool c.g] 39)
      have HP := Lib.hid (hp.ext D5)
      have HOK := Lib.hid hok
      have HQ5 := Lib.hid (show AqAt (w4.alloc (.cells #[.int .i64 kd, .int .i64 1, .int .i64 op, .int .i64 st, .int .i64 0, .int .i64 tag, .int .i64 N, .int .i64 sq, .string k.1, .string k.2, .bool false, .int .u32 0, .slice none 0 0, .slice none 0 0, .int .i64 more, .int .i64 late, .string c.a, .string c.i, .int .i64 c.s, .int .i64 c.o, .int .i64 c.l, .int .i64 c.t, .int .i64 c.k, .int .i64 c.n, .bool c.g] 39)) (some ⟨qg, qo, none⟩) qs from SAt.ext hq D5)
      have HD5 := Lib.hid (ext_trans hb D5)
      have HCD := Lib.hid (show CdOk c ∧ KA c.a ∧ KI c.i from And.intro hcd (And.intro hca hci))
      have m1 : 0 ≤ more := m1
      have m2 : more < 420 := m2
      have HAK := Lib.hid (show AskOk op st tag N sq k from hak)
      have hn9 : es.length ≤ 900 := by have := hok.few; omega
      have HAS := Lib.hid hok.1
      clear hget hp hok hq hb hx D5 hcd hca hci hak
      go_upto_region 6 with (fail)
      refine wp_region_lit ?_
      refine wpList_plain rfl (fun K hK => ?_)
      go_big_op
      refine hK _ _ ?_
      clear hK K
      refine wpList_load rfl rfl rfl hL ?_
      simp only [Act.put, List.setIfInBounds_toArray, List.set_cons_succ, List.set_cons_zero]
      refine wpList_plain rfl (fun K hK => ?_)
      go_big_op
      refine hK _ _ ?_
      clear hK K
      refine wpList_store rfl rfl rfl hS ?_
      refine wpList_nil ?_
      clear hL hS
      obtain ⟨qb, hqb⟩ : ∃ q, w4.heap.size = q := ⟨_, rfl⟩
      rw [hqb] at HQB
      try rw [hqb]
      have hqd : qb ≠ db := by rintro rfl; obtain ⟨_, _, _, _, h9, _⟩ := HP.out; have h8 := HQB.out; rw [h9] at h8; simp at h8
      clear hqb
      generalize (w4.alloc (.cells #[.int .i64 kd, .int .i64 1, .int .i64 op, .int .i64 st, .int .i64 0, .int .i64 tag, .int .i64 N, .int .i64 sq, .string k.1, .string k.2, .bool false, .int .u32 0, .slice none 0 0, .slice none 0 0, .int .i64 more, .int .i64 late, .string c.a, .string c.i, .int .i64 c.s, .int .i64 c.o, .int .i64 c.l, .int .i64 c.t, .int .i64 c.k, .int .i64 c.n, .bool c.g] 39)) = w5 at *
      have hc5 := blk_cell HQB.out
      have hl5 := blk_lt HQB.out
      by_cases h8 : kd = 8
      · have hd8 : (kd == 8) = true := by simpa using h8
        clear h8
        go_wp2_with fail
        refine (deskSet db 3 t0 k0 n0 es g l tt ks (⟨c, 0⟩ : En) w5 HP.out HAS.out hn9 (.inr (by have := HOK.out.few; omega)) (by have := HOK.out.2.2.2.2.2.2.2; omega)).mono ?_
        rintro r w6 ⟨rfl, hp6, hr6⟩
        have HP6 := Lib.hid hp6
        have HQ6 := Lib.hid (show AqAt w6 (some ⟨qg, qo, none⟩) qs from HP.out.sat hr6 (by decide) HQ5.out)
        have HD6 := Lib.hid (HD5.out.trans (hr6.below (by omega) HD5.out.size))
        have HO6 := Lib.hid (HOK.out.set (s := 0) HCD.out.1 HCD.out.2.1 HCD.out.2.2)
        clear hp6 hr6 hc5 hl5
        go_wp2
        go_roundw
        case rel => exact ⟨I + 1, t0, k0, n0, _, g, l, tt, _, by omega, by go_num, HP6.out, HO6.out, HQ6.out, HD6.out⟩
        case measure => simp [intOf]; omega
      · have hd8 : (kd == 8) = false := by simpa using h8
        clear h8
        obtain ⟨e, he⟩ : ∃ e, ge es k = e := ⟨_, rfl⟩
        obtain ⟨b, hb⟩ : ∃ b, isIn k es = b := ⟨_, rfl⟩
        have HE := Lib.hid he
        have HB := Lib.hid hb
        clear he hb
        go_upto_region 9 with (fail)
        clear hc5 hl5
        refine wp_region_inv_eq (J := fun A d act x => ∃ u36 u37 u38 u39 u40 u41 u35 u42 u43 u6 u7 : Value, act = (((((((((((A.put (some 36) u36).put (some 37) u37).put (some 38) u38).put (some 39) u39).put (some 40) u40).put (some 41) u41).put (some 35) u35).put (some 42) u42).put (some 43) u43).put (some 6) u6).put (some 7) u7) ∧ (d 0 = true → u36 = .pointer (some ⟨db, 0, none⟩)) ∧ (d 1 = true → u37 = .pointer (some ⟨db, 4, none⟩)) ∧ (d 2 = true → u38 = .pointer (some ⟨qb, 1, none⟩)) ∧ (d 3 = true → u39 = .pointer (some ⟨qb, 8, none⟩)) ∧ (d 4 = true → u40 = .agg #[.string k.1, .string k.2]) ∧ (d 5 = true → u41 = .tuple #[.agg #[.string e.c.a, .string e.c.i, .int .i64 e.c.s, .int .i64 e.c.o, .int .i64 e.c.l, .int .i64 e.c.t, .int .i64 e.c.k, .int .i64 e.c.n, .bool e.c.g, .int .i64 e.seen], .bool b]) ∧ (d 6 = true → u35 = .tuple #[.agg #[.string e.c.a, .string e.c.i, .int .i64 e.c.s, .int .i64 e.c.o, .int .i64 e.c.l, .int .i64 e.c.t, .int .i64 e.c.k, .int .i64 e.c.n, .bool e.c.g, .int .i64 e.seen], .bool b]) ∧ (d 7 = true → u42 = .agg #[.string e.c.a, .string e.c.i, .int .i64 e.c.s, .int .i64 e.c.o, .int .i64 e.c.l, .int .i64 e.c.t, .int .i64 e.c.k, .int .i64 e.c.n, .bool e.c.g, .int .i64 e.seen]) ∧ (d 8 = true → u43 = .bool b) ∧ (d 9 = true → (∃ b : Nat, u6 = .pointer (some ⟨b, 0, none⟩) ∧ w5.heap.size ≤ b ∧ (d 10 = false → x.heap[b]? = some (.cells #[.string ⟨#[]⟩, .string ⟨#[]⟩, .int .i64 0, .int .i64 0, .int .i64 0, .int .i64 0, .int .i64 0, .int .i64 0, .bool false, .int .i64 0] 58 (0, 0))) ∧ (d 10 = true → x.heap[b]? = some (.cells #[.string e.c.a, .string e.c.i, .int .i64 e.c.s, .int .i64 e.c.o, .int .i64 e.c.l, .int .i64 e.c.t, .int .i64 e.c.k, .int .i64 e.c.n, .bool e.c.g, .int .i64 e.seen] 58 (0, 0))))) ∧ (d 11 = true → u7 = .bool b) ∧ Below w5.heap.size w5 x ∧ (d 10 = true → d 9 = true)) (by simp only [Act.put, List.setIfInBounds_toArray, List.set_cons_succ, List.set_cons_zero]; rfl) (by kernel_rfl) (by kernel_rfl) ?_ ?_ ?_
        · refine ⟨_, _, _, _, _, _, _, _, _, _, _, rfl, ?_, ?_, ?_, ?_, ?_, ?_, ?_, ?_, ?_, ?_, ?_, ?_, ?_⟩
          · intro h; cases h
          · intro h; cases h
          · intro h; cases h
          · intro h; cases h
          · intro h; cases h
          · intro h; cases h
          · intro h; cases h
          · intro h; cases h
          · intro h; cases h
          · intro h; cases h
          · intro h; cases h
          · exact ((Below.refl _ _).drew)
          · exact (fun h => by cases h)
        · refine stepsOk_cons (k := 0) ?_ (stepsOk_cons (k := 1) ?_ (stepsOk_cons (k := 2) ?_ (stepsOk_cons (k := 3) ?_ (stepsOk_cons (k := 4) ?_ (stepsOk_cons (k := 5) ?_ (stepsOk_cons (k := 6) ?_ (stepsOk_cons (k := 7) ?_ (stepsOk_cons (k := 8) ?_ (stepsOk_cons (k := 9) ?_ (stepsOk_cons (k := 10) ?_ (stepsOk_cons (k := 11) ?_ stepsOk_nil)))))))))))
          · unfold StepOk
            rintro d act x ⟨u36, u37, u38, u39, u40, u41, u35, u42, u43, u6, u7, rfl, f0, f1, f2, f3, f4, f5, f6, f7, f8, f9, f11, g0, g1⟩ hd hdep Kc hKc
            rw [if_pos (by rfl)]
            go_big_op
            refine hKc _ _ ⟨_, _, _, _, _, _, _, _, _, _, _, rfl, ?_, ?_, ?_, ?_, ?_, ?_, ?_, ?_, ?_, ?_, ?_, ?_, ?_⟩
            · exact (fun _ => rfl)
            · exact (fun h => f1 (up h rfl))
            · exact (fun h => f2 (up h rfl))
            · exact (fun h => f3 (up h rfl))
            · exact (fun h => f4 (up h rfl))
            · exact (fun h => f5 (up h rfl))
            · exact (fun h => f6 (up h rfl))
            · exact (fun h => f7 (up h rfl))
            · exact (fun h => f8 (up h rfl))
            · exact (fun h => by obtain ⟨b, e, hb, h1, h2⟩ := f9 (up h rfl); exact ⟨b, e, hb, fun h => (h1 (dn h)), fun h => (h2 (up h rfl))⟩)
            · exact (fun h => f11 (up h rfl))
            · exact g0
            · exact (fun h => upl (g1 (up h rfl)))
          · unfold StepOk
            rintro d act x ⟨u36, u37, u38, u39, u40, u41, u35, u42, u43, u6, u7, rfl, f0, f1, f2, f3, f4, f5, f6, f7, f8, f9, f11, g0, g1⟩ hd hdep Kc hKc
            have hd0 : d 0 = true := hdep ⟨0, .data⟩ (by simp) rfl
            obtain rfl := f0 hd0
            rw [if_pos (by rfl)]
            go_big_op
            refine (deskShelf db 3 t0 k0 n0 es g l tt ks x (HP.out.ext g0)).mono ?_
            rintro e x1 ⟨rfl, hb1⟩
            refine hKc _ _ ⟨_, _, _, _, _, _, _, _, _, _, _, rfl, ?_, ?_, ?_, ?_, ?_, ?_, ?_, ?_, ?_, ?_, ?_, ?_, ?_⟩
            · exact (fun h => f0 (up h rfl))
            · exact (fun _ => rfl)
            · exact (fun h => f2 (up h rfl))
            · exact (fun h => f3 (up h rfl))
            · exact (fun h => f4 (up h rfl))
            · exact (fun h => f5 (up h rfl))
            · exact (fun h => f6 (up h rfl))
            · exact (fun h => f7 (up h rfl))
            · exact (fun h => f8 (up h rfl))
            · exact (fun h => by obtain ⟨b, e, hb, h1, h2⟩ := f9 (up h rfl); exact ⟨b, e, hb, fun h => blk_ext hb1 (h1 (dn h)), fun h => blk_ext hb1 (h2 (up h rfl))⟩)
            · exact (fun h => f11 (up h rfl))
            · exact (ext_trans g0 hb1)
            · exact (fun h => upl (g1 (up h rfl)))
          · unfold StepOk
            rintro d act x ⟨u36, u37, u38, u39, u40, u41, u35, u42, u43, u6, u7, rfl, f0, f1, f2, f3, f4, f5, f6, f7, f8, f9, f11, g0, g1⟩ hd hdep Kc hKc
            rw [if_pos (by rfl)]
            go_big_op
            refine hKc _ _ ⟨_, _, _, _, _, _, _, _, _, _, _, rfl, ?_, ?_, ?_, ?_, ?_, ?_, ?_, ?_, ?_, ?_, ?_, ?_, ?_⟩
            · exact (fun h => f0 (up h rfl))
            · exact (fun h => f1 (up h rfl))
            · exact (fun _ => rfl)
            · exact (fun h => f3 (up h rfl))
            · exact (fun h => f4 (up h rfl))
            · exact (fun h => f5 (up h rfl))
            · exact (fun h => f6 (up h rfl))
            · exact (fun h => f7 (up h rfl))
            · exact (fun h => f8 (up h rfl))
            · exact (fun h => by obtain ⟨b, e, hb, h1, h2⟩ := f9 (up h rfl); exact ⟨b, e, hb, fun h => (h1 (dn h)), fun h => (h2 (up h rfl))⟩)
            · exact (fun h => f11 (up h rfl))
            · exact g0
            · exact (fun h => upl (g1 (up h rfl)))
          · unfold StepOk
            rintro d act x ⟨u36, u37, u38, u39, u40, u41, u35, u42, u43, u6, u7, rfl, f0, f1, f2, f3, f4, f5, f6, f7, f8, f9, f11, g0, g1⟩ hd hdep Kc hKc
            have hd2 : d 2 = true := hdep ⟨2, .data⟩ (by simp) rfl
            obtain rfl := f2 hd2
            rw [if_pos (by rfl)]
            go_big_op
            refine hKc _ _ ⟨_, _, _, _, _, _, _, _, _, _, _, rfl, ?_, ?_, ?_, ?_, ?_, ?_, ?_, ?_, ?_, ?_, ?_, ?_, ?_⟩
            · exact (fun h => f0 (up h rfl))
            · exact (fun h => f1 (up h rfl))
            · exact (fun h => f2 (up h rfl))
            · exact (fun _ => rfl)
            · exact (fun h => f4 (up h rfl))
            · exact (fun h => f5 (up h rfl))
            · exact (fun h => f6 (up h rfl))
            · exact (fun h => f7 (up h rfl))
            · exact (fun h => f8 (up h rfl))
            · exact (fun h => by obtain ⟨b, e, hb, h1, h2⟩ := f9 (up h rfl); exact ⟨b, e, hb, fun h => (h1 (dn h)), fun h => (h2 (up h rfl))⟩)
            · exact (fun h => f11 (up h rfl))
            · exact g0
            · exact (fun h => upl (g1 (up h rfl)))
          · unfold StepOk
            rintro d act x ⟨u36, u37, u38, u39, u40, u41, u35, u42, u43, u6, u7, rfl, f0, f1, f2, f3, f4, f5, f6, f7, f8, f9, f11, g0, g1⟩ hd hdep Kc hKc
            have hd3 : d 3 = true := hdep ⟨3, .data⟩ (by simp) rfl
            obtain rfl := f3 hd3
            have hx := blk_cell (blk_ext g0 HQB.out)
            have hxl := blk_lt (blk_ext g0 HQB.out)
            rw [if_pos (by rfl)]
            go_big_op
            refine hKc _ _ ⟨_, _, _, _, _, _, _, _, _, _, _, rfl, ?_, ?_, ?_, ?_, ?_, ?_, ?_, ?_, ?_, ?_, ?_, ?_, ?_⟩
            · exact (fun h => f0 (up h rfl))
            · exact (fun h => f1 (up h rfl))
            · exact (fun h => f2 (up h rfl))
            · exact (fun h => f3 (up h rfl))
            · exact (fun _ => rfl)
            · exact (fun h => f5 (up h rfl))
            · exact (fun h => f6 (up h rfl))
            · exact (fun h => f7 (up h rfl))
            · exact (fun h => f8 (up h rfl))
            · exact (fun h => by obtain ⟨b, e, hb, h1, h2⟩ := f9 (up h rfl); exact ⟨b, e, hb, fun h => (h1 (dn h)), fun h => (h2 (up h rfl))⟩)
            · exact (fun h => f11 (up h rfl))
            · exact g0
            · exact (fun h => upl (g1 (up h rfl)))
          · unfold StepOk
            rintro d act x ⟨u36, u37, u38, u39, u40, u41, u35, u42, u43, u6, u7, rfl, f0, f1, f2, f3, f4, f5, f6, f7, f8, f9, f11, g0, g1⟩ hd hdep Kc hKc
            have hd1 : d 1 = true := hdep ⟨1, .data⟩ (by simp) rfl
            have hd4 : d 4 = true := hdep ⟨4, .data⟩ (by simp) rfl
            have hd1 : d 1 = true := hdep ⟨1, .chain⟩ (by simp) rfl
            obtain rfl := f1 hd1
            obtain rfl := f4 hd4
            rw [if_pos (by rfl)]
            go_big_op
            refine (dkGetP db 3 t0 k0 n0 es g l tt ks k x (HP.out.ext g0) HAS.out hn9 e b HE.out HB.out).mono ?_
            rintro e x1 ⟨rfl, hb1⟩
            refine hKc _ _ ⟨_, _, _, _, _, _, _, _, _, _, _, rfl, ?_, ?_, ?_, ?_, ?_, ?_, ?_, ?_, ?_, ?_, ?_, ?_, ?_⟩
            · exact (fun h => f0 (up h rfl))
            · exact (fun h => f1 (up h rfl))
            · exact (fun h => f2 (up h rfl))
            · exact (fun h => f3 (up h rfl))
            · exact (fun h => f4 (up h rfl))
            · exact (fun _ => rfl)
            · exact (fun h => f6 (up h rfl))
            · exact (fun h => f7 (up h rfl))
            · exact (fun h => f8 (up h rfl))
            · exact (fun h => by obtain ⟨b, e, hb, h1, h2⟩ := f9 (up h rfl); exact ⟨b, e, hb, fun h => blk_ext hb1 (h1 (dn h)), fun h => blk_ext hb1 (h2 (up h rfl))⟩)
            · exact (fun h => f11 (up h rfl))
            · exact (ext_trans g0 hb1)
            · exact (fun h => upl (g1 (up h rfl)))
          · unfold StepOk
            rintro d act x ⟨u36, u37, u38, u39, u40, u41, u35, u42, u43, u6, u7, rfl, f0, f1, f2, f3, f4, f5, f6, f7, f8, f9, f11, g0, g1⟩ hd hdep Kc hKc
            have hd5 : d 5 = true := hdep ⟨5, .data⟩ (by simp) rfl
            obtain rfl := f5 hd5
            rw [if_pos (by rfl)]
            go_big_op
            refine hKc _ _ ⟨_, _, _, _, _, _, _, _, _, _, _, rfl, ?_, ?_, ?_, ?_, ?_, ?_, ?_, ?_, ?_, ?_, ?_, ?_, ?_⟩
            · exact (fun h => f0 (up h rfl))
            · exact (fun h => f1 (up h rfl))
            · exact (fun h => f2 (up h rfl))
            · exact (fun h => f3 (up h rfl))
            · exact (fun h => f4 (up h rfl))
            · exact (fun h => f5 (up h rfl))
            · exact (fun _ => rfl)
            · exact (fun h => f7 (up h rfl))
            · exact (fun h => f8 (up h rfl))
            · exact (fun h => by obtain ⟨b, e, hb, h1, h2⟩ := f9 (up h rfl); exact ⟨b, e, hb, fun h => (h1 (dn h)), fun h => (h2 (up h rfl))⟩)
            · exact (fun h => f11 (up h rfl))
            · exact g0
            · exact (fun h => upl (g1 (up h rfl)))
          · unfold StepOk
            rintro d act x ⟨u36, u37, u38, u39, u40, u41, u35, u42, u43, u6, u7, rfl, f0, f1, f2, f3, f4, f5, f6, f7, f8, f9, f11, g0, g1⟩ hd hdep Kc hKc
            have hd6 : d 6 = true := hdep ⟨6, .data⟩ (by simp) rfl
            obtain rfl := f6 hd6
            rw [if_pos (by rfl)]
            go_big_op
            refine hKc _ _ ⟨_, _, _, _, _, _, _, _, _, _, _, rfl, ?_, ?_, ?_, ?_, ?_, ?_, ?_, ?_, ?_, ?_, ?_, ?_, ?_⟩
            · exact (fun h => f0 (up h rfl))
            · exact (fun h => f1 (up h rfl))
            · exact (fun h => f2 (up h rfl))
            · exact (fun h => f3 (up h rfl))
            · exact (fun h => f4 (up h rfl))
            · exact (fun h => f5 (up h rfl))
            · exact (fun h => f6 (up h rfl))
            · exact (fun _ => rfl)
            · exact (fun h => f8 (up h rfl))
            · exact (fun h => by obtain ⟨b, e, hb, h1, h2⟩ := f9 (up h rfl); exact ⟨b, e, hb, fun h => (h1 (dn h)), fun h => (h2 (up h rfl))⟩)
            · exact (fun h => f11 (up h rfl))
            · exact g0
            · exact (fun h => upl (g1 (up h rfl)))
          · unfold StepOk
            rintro d act x ⟨u36, u37, u38, u39, u40, u41, u35, u42, u43, u6, u7, rfl, f0, f1, f2, f3, f4, f5, f6, f7, f8, f9, f11, g0, g1⟩ hd hdep Kc hKc
            have hd6 : d 6 = true := hdep ⟨6, .data⟩ (by simp) rfl
            obtain rfl := f6 hd6
            rw [if_pos (by rfl)]
            go_big_op
            refine hKc _ _ ⟨_, _, _, _, _, _, _, _, _, _, _, rfl, ?_, ?_, ?_, ?_, ?_, ?_, ?_, ?_, ?_, ?_, ?_, ?_, ?_⟩
            · exact (fun h => f0 (up h rfl))
            · exact (fun h => f1 (up h rfl))
            · exact (fun h => f2 (up h rfl))
            · exact (fun h => f3 (up h rfl))
            · exact (fun h => f4 (up h rfl))
            · exact (fun h => f5 (up h rfl))
            · exact (fun h => f6 (up h rfl))
            · exact (fun h => f7 (up h rfl))
            · exact (fun _ => rfl)
            · exact (fun h => by obtain ⟨b, e, hb, h1, h2⟩ := f9 (up h rfl); exact ⟨b, e, hb, fun h => (h1 (dn h)), fun h => (h2 (up h rfl))⟩)
            · exact (fun h => f11 (up h rfl))
            · exact g0
            · exact (fun h => upl (g1 (up h rfl)))
          · unfold StepOk
            rintro d act x ⟨u36, u37, u38, u39, u40, u41, u35, u42, u43, u6, u7, rfl, f0, f1, f2, f3, f4, f5, f6, f7, f8, f9, f11, g0, g1⟩ hd hdep Kc hKc
            rw [if_pos (by rfl)]
            go_big_op
            refine hKc _ _ ⟨_, _, _, _, _, _, _, _, _, _, _, rfl, ?_, ?_, ?_, ?_, ?_, ?_, ?_, ?_, ?_, ?_, ?_, ?_, ?_⟩
            · exact (fun h => f0 (up h rfl))
            · exact (fun h => f1 (up h rfl))
            · exact (fun h => f2 (up h rfl))
            · exact (fun h => f3 (up h rfl))
            · exact (fun h => f4 (up h rfl))
            · exact (fun h => f5 (up h rfl))
            · exact (fun h => f6 (up h rfl))
            · exact (fun h => f7 (up h rfl))
            · exact (fun h => f8 (up h rfl))
            · exact (fun _ => ⟨_, rfl, g0.size, fun _ => blk_new _ _ _, fun h => absurd (g1 (up h rfl)) (by rw [hd]; simp)⟩)
            · exact (fun h => f11 (up h rfl))
            · exact (g0.alloc g0.size _)
            · exact (fun h => upl (g1 (up h rfl)))
          · unfold StepOk
            rintro d act x ⟨u36, u37, u38, u39, u40, u41, u35, u42, u43, u6, u7, rfl, f0, f1, f2, f3, f4, f5, f6, f7, f8, f9, f11, g0, g1⟩ hd hdep Kc hKc
            have hd9 : d 9 = true := hdep ⟨9, .data⟩ (by simp) rfl
            have hd7 : d 7 = true := hdep ⟨7, .data⟩ (by simp) rfl
            have hd7 : d 7 = true := hdep ⟨7, .phase⟩ (by simp) rfl
            have hd9 : d 9 = true := hdep ⟨9, .phase⟩ (by simp) rfl
            obtain ⟨nb, rfl, hnb, hz, hf⟩ := f9 hd9
            obtain rfl := f7 hd7
            have HZ := hz hd
            have hbc := blk_cell HZ
            have hbf := blk_free HZ
            have hbl := blk_lt HZ
            rw [if_pos (by rfl)]
            go_big_op
            have HFF := blk_fill10 (v0 := .string e.c.a) (v1 := .string e.c.i) (v2 := .int .i64 e.c.s) (v3 := .int .i64 e.c.o) (v4 := .int .i64 e.c.l) (v5 := .int .i64 e.c.t) (v6 := .int .i64 e.c.k) (v7 := .int .i64 e.c.n) (v8 := .bool e.c.g) (v9 := .int .i64 e.seen) HZ rfl
            have HBB := below_fill10 (v0 := .string e.c.a) (v1 := .string e.c.i) (v2 := .int .i64 e.c.s) (v3 := .int .i64 e.c.o) (v4 := .int .i64 e.c.l) (v5 := .int .i64 e.c.t) (v6 := .int .i64 e.c.k) (v7 := .int .i64 e.c.n) (v8 := .bool e.c.g) (v9 := .int .i64 e.seen) g0 hnb
            refine hKc _ _ ⟨_, _, _, _, _, _, _, _, _, _, _, rfl, ?_, ?_, ?_, ?_, ?_, ?_, ?_, ?_, ?_, ?_, ?_, ?_, ?_⟩
            · exact (fun h => f0 (up h rfl))
            · exact (fun h => f1 (up h rfl))
            · exact (fun h => f2 (up h rfl))
            · exact (fun h => f3 (up h rfl))
            · exact (fun h => f4 (up h rfl))
            · exact (fun h => f5 (up h rfl))
            · exact (fun h => f6 (up h rfl))
            · exact (fun h => f7 (up h rfl))
            · exact (fun h => f8 (up h rfl))
            · exact (fun h => ⟨nb, rfl, hnb, fun h => by simp at h, fun _ => HFF⟩)
            · exact (fun h => f11 (up h rfl))
            · exact HBB
            · exact (fun h => upl hd9)
          · unfold StepOk
            rintro d act x ⟨u36, u37, u38, u39, u40, u41, u35, u42, u43, u6, u7, rfl, f0, f1, f2, f3, f4, f5, f6, f7, f8, f9, f11, g0, g1⟩ hd hdep Kc hKc
            have hd8 : d 8 = true := hdep ⟨8, .data⟩ (by simp) rfl
            have hd8 : d 8 = true := hdep ⟨8, .phase⟩ (by simp) rfl
            obtain rfl := f8 hd8
            rw [if_pos (by rfl)]
            go_big_op
            refine hKc _ _ ⟨_, _, _, _, _, _, _, _, _, _, _, rfl, ?_, ?_, ?_, ?_, ?_, ?_, ?_, ?_, ?_, ?_, ?_, ?_, ?_⟩
            · exact (fun h => f0 (up h rfl))
            · exact (fun h => f1 (up h rfl))
            · exact (fun h => f2 (up h rfl))
            · exact (fun h => f3 (up h rfl))
            · exact (fun h => f4 (up h rfl))
            · exact (fun h => f5 (up h rfl))
            · exact (fun h => f6 (up h rfl))
            · exact (fun h => f7 (up h rfl))
            · exact (fun h => f8 (up h rfl))
            · exact (fun h => by obtain ⟨b, e, hb, h1, h2⟩ := f9 (up h rfl); exact ⟨b, e, hb, fun h => (h1 (dn h)), fun h => (h2 (up h rfl))⟩)
            · exact (fun _ => rfl)
            · exact g0
            · exact (fun h => upl (g1 (up h rfl)))
        · rintro d act x ⟨u36, u37, u38, u39, u40, u41, u35, u42, u43, u6, u7, rfl, f0, f1, f2, f3, f4, f5, f6, f7, f8, f9, f11, g0, g1⟩ hall
          obtain rfl := f0 (hall 0 (by decide))
          obtain rfl := f1 (hall 1 (by decide))
          obtain rfl := f2 (hall 2 (by decide))
          obtain rfl := f3 (hall 3 (by decide))
          obtain rfl := f4 (hall 4 (by decide))
          obtain rfl := f5 (hall 5 (by decide))
          obtain rfl := f6 (hall 6 (by decide))
          obtain rfl := f7 (hall 7 (by decide))
          obtain rfl := f8 (hall 8 (by decide))
          obtain ⟨nb, rfl, hnb, hz, hf⟩ := f9 (hall 9 (by decide))
          obtain rfl := f11 (hall 11 (by decide))
          have HNB := Lib.hid (hf (hall 10 (by decide)))
          have HWB := Lib.hid g0
          have HNL := Lib.hid hnb
          clear f0 f1 f2 f3 f4 f5 f6 f7 f8 f9 f11 g1 hz hf hall g0 hnb
          obtain ⟨w6, rfl⟩ : ∃ y : World, y = x := ⟨_, rfl⟩
          obtain ⟨eb, rfl⟩ : ∃ y : Nat, y = nb := ⟨_, rfl⟩
          clear d
          have HEB := Lib.hid HNB.out
          have HQB6 := Lib.hid (blk_ext HWB.out HQB.out)
          have HP6 := Lib.hid (HP.out.ext HWB.out)
          have HQ6 := Lib.hid (show AqAt w6 (some ⟨qg, qo, none⟩) qs from SAt.ext HQ5.out HWB.out)
          have HD6 := Lib.hid (ext_trans HD5.out HWB.out)
          have hed : eb ≠ db := by rintro rfl; obtain ⟨_, _, _, _, h9, _⟩ := HP6.out; have h8 := HEB.out; rw [h9] at h8; simp at h8
          clear HNB HWB HNL HQB HP HQ5 HD5
          have hc6 := blk_cell HQB6.out
          have hl6 := blk_lt HQB6.out
          by_cases h5 : op = 5
          · subst h5
            obtain ⟨rfl, rfl, rfl, sq0, sq1⟩ : st = 0 ∧ N = 0 ∧ k = (⟨#[]⟩, ⟨#[]⟩) ∧ -1 ≤ sq ∧ sq < 39 := by
              obtain ⟨-, -, -, -, h | h⟩ := HAK.out
              · exact h.2
              · exact absurd h.1 (by omega)
            go_wp2_with fail
            refine (handleFetch db 3 t0 k0 n0 es g l tt ks 0 tag 0 sq more w6 HP6.out HAS.out (by have := HOK.out.few; omega) HOK.out.cds (by have := HOK.out.2.2.2.2.2.2.2; omega) (by omega) (by omega) sq0).mono ?_
            rintro r w7 ⟨v, full, s, cds, rfl, fa, fn, fc, rfl, -, -, -, -, hb7⟩
            have HP7 := Lib.hid (HP6.out.ext hb7)
            have HQ7 := Lib.hid (show AqAt w7 (some ⟨qg, qo, none⟩) qs from SAt.ext HQ6.out hb7)
            have HD7 := Lib.hid (ext_trans HD6.out hb7)
            clear hb7 hc6 hl6
            go_wp2_with fail
            go_loopw [55] (fun i wr => i = .int .i64 0 ∧ Below w7.heap.size w7 wr) (fun i _ => 0)
            case atStart => exact ⟨rfl, (Below.refl _ _).alloc (Nat.le_refl _) _⟩
            case round =>
              obtain ⟨w8, rfl⟩ : ∃ y : World, y = wr := ⟨_, rfl⟩
              obtain ⟨rfl, hb8⟩ := hrel
              go_wp2
              go_roundw
              case rel => exact ⟨I + 1, t0, k0, n0, es, g, l, tt, ks, by omega, by go_num, HP7.out.ext hb8, HOK.out.up, SAt.ext HQ7.out hb8, ext_trans HD7.out hb8⟩
              case measure => simp [intOf]; omega
          · obtain ⟨hka, hki, n0_, n1_, s0_, s1_, hsq⟩ : KA k.1 ∧ KI k.2 ∧ 0 ≤ N ∧ N < 60 ∧ 0 ≤ st ∧ st < 5 ∧ -1 ≤ sq := by
              obtain ⟨-, -, -, -, h | h⟩ := HAK.out
              · exact absurd h.1 h5
              · obtain ⟨a, b, c, d, e, f, g, h⟩ := h
                exact ⟨b, c, d, e, f, g, by omega⟩
            obtain ⟨o1, o2⟩ : 1 ≤ op ∧ op < 5 := by
              obtain ⟨a1, a2, -⟩ := HAK.out
              omega
            go_wp2_with fail
            refine (handleAny db 3 t0 k0 n0 es g l tt ks op st tag N sq k more w6 HP6.out HAS.out (by have := HOK.out.few; omega) (by have := HOK.out.2.2.2.2.2.2.2; omega) (HOK.out.hN k (by omega)) HOK.out.2.2.2.2.2.1 HOK.out.2.2.2.2.2.2.1 o1 o2 hka.nm hki.nm m1 (by omega) s0_ (by omega) hsq).mono ?_
            rintro r w7 ⟨a, c7, rfl, hq7, hr7⟩
            have HQ7 := Lib.hid (show AqAt w7 (some ⟨qg, qo, none⟩) qs from HP6.out.sat hr7 (by decide) HQ6.out)
            have HD7 := Lib.hid (HD6.out.trans (hr7.below (by omega) HD6.out.size))
            have HEB7 := Lib.hid ((hr7.block eb hed (blk_lt HEB.out)).trans HEB.out)
            clear hr7 hc6 hl6 HEB HQB6 HQ6 HD6
            rcases hq7 with ⟨e2, b2, hneu, rfl, rfl, hx2, hd2⟩ | ⟨fs, tt', rfl, hd2, tt0, tt1, hf⟩
            · obtain ⟨hok2, hk3, hn1, ht0, hlater⟩ := HOK.out.neu (by omega) hneu hka hki
              have HX7 := Lib.hid hx2
              have HP7 := Lib.hid hd2
              have HOK7 := Lib.hid hok2
              have HLAT := Lib.hid (show b = true → sLess e.c.t e.c.k e.c.n e2.c.t e2.c.k e2.c.n = true from by rw [← HB.out, ← HE.out]; exact hlater)
              have HZER := Lib.hid (show sLess 0 0 0 e2.c.t e2.c.k e2.c.n = true from sLess_iff.2 (by omega))
              have hkf : (e2.c.k != 3) = false := by rw [hk3]; rfl
              clear hx2 hd2 hok2 hlater hneu hk3 hn1 ht0 HP6
              have hE8 := (Below.refl w7.heap.size w7).alloc (Nat.le_refl _) (.cells #[.int .i64 2, .int .i64 op, .int .i64 0, .int .i64 0, .int .i64 tag, .int .i64 0, .int .i64 0, .string k.1, .string k.2, .bool false, .int .u32 0, .slice none 0 0, .slice none 0 0] 33)
              go_upto_region 12 with (fail)
              have HX8 := Lib.hid (blk_ext hE8 HX7.out)
              have HP8 := Lib.hid (HP7.out.ext hE8)
              have HQ8 := Lib.hid (show AqAt _ (some ⟨qg, qo, none⟩) qs from SAt.ext HQ7.out hE8)
              have HD8 := Lib.hid (ext_trans HD7.out hE8)
              have HEB8 := Lib.hid (blk_ext hE8 HEB7.out)
              clear HX7 HP7 HQ7 HD7 HEB7 hE8
              generalize (w7.alloc (.cells #[.int .i64 2, .int .i64 op, .int .i64 0, .int .i64 0, .int .i64 tag, .int .i64 0, .int .i64 0, .string k.1, .string k.2, .bool false, .int .u32 0, .slice none 0 0, .slice none 0 0] 33)) = w8 at *
              refine wp_loop_rounds 2 ?_
              rw [rounds_succ]
              have hxc := blk_cell HX8.out
              have hxl := blk_lt HX8.out
              go_upto_region 14 with (fail)
              clear hxc hxl
              have D9 := (Below.refl w8.heap.size w8).alloc (Nat.le_refl _) (.cells #[.string e2.c.a, .string e2.c.i, .int .i64 e2.c.s, .int .i64 e2.c.o, .int .i64 e2.c.l, .int .i64 e2.c.t, .int .i64 e2.c.k, .int .i64 e2.c.n, .bool e2.c.g] 37)
              have HC9 := Lib.hid (blk_new w8 #[.string e2.c.a, .string e2.c.i, .int .i64 e2.c.s, .int .i64 e2.c.o, .int .i64 e2.c.l, .int .i64 e2.c.t, .int .i64 e2.c.k, .int .i64 e2.c.n, .bool e2.c.g] 37)
              have HP9 := Lib.hid (HP8.out.ext D9)
              have HQ9 := Lib.hid (show AqAt _ (some ⟨qg, qo, none⟩) qs from SAt.ext HQ8.out D9)
              have HD9 := Lib.hid (ext_trans HD8.out D9)
              have HEB9 := Lib.hid (blk_ext D9 HEB8.out)
              obtain ⟨cb, hcb⟩ : ∃ q, w8.heap.size = q := ⟨_, rfl⟩
              rw [hcb] at HC9
              try rw [hcb]
              clear hcb D9 HX8 HP8 HQ8 HD8 HEB8
              generalize (w8.alloc (.cells #[.string e2.c.a, .string e2.c.i, .int .i64 e2.c.s, .int .i64 e2.c.o, .int .i64 e2.c.l, .int .i64 e2.c.t, .int .i64 e2.c.k, .int .i64 e2.c.n, .bool e2.c.g] 37)) = w9 at *
              have hcc := blk_cell HC9.out
              have hcl := blk_lt HC9.out
              cases b
              · go_wp2_with fail
                refine (refLess 0 0 0 e2.c.t e2.c.k e2.c.n _).mono ?_
                rintro r w10 ⟨rfl, hb10⟩
                rw [HZER.out]
                clear hcc hcl
                go_wp2
                rw [rounds_succ]
                go_wp2
                go_roundw
                case rel => exact ⟨I + 1, _, _, _, _, g, l, tt, _, by omega, by go_num, HP9.out.ext hb10, HOK7.out, SAt.ext HQ9.out hb10, ext_trans HD9.out hb10⟩
                case measure => simp [intOf]; omega
              · have hec := blk_cell HEB9.out
                have hel := blk_lt HEB9.out
                go_wp2_with fail
                refine (refLess e.c.t e.c.k e.c.n e2.c.t e2.c.k e2.c.n _).mono ?_
                rintro r w10 ⟨rfl, hb10⟩
                rw [HLAT.out (by first | rfl | trivial)]
                have HC10 := Lib.hid (blk_ext hb10 HC9.out)
                have HP10 := Lib.hid (HP9.out.ext hb10)
                have HQ10 := Lib.hid (show AqAt _ (some ⟨qg, qo, none⟩) qs from SAt.ext HQ9.out hb10)
                have HD10 := Lib.hid (ext_trans HD9.out hb10)
                clear hcc hcl hec hel hb10 HC9 HP9 HQ9 HD9 HEB9
                have hcc := blk_cell HC10.out
                have hcl := blk_lt HC10.out
                go_wp2_with fail
                refine (refLess 0 0 0 e2.c.t e2.c.k e2.c.n _).mono ?_
                rintro r w11 ⟨rfl, hb11⟩
                rw [HZER.out]
                clear hcc hcl
                go_wp2
                rw [rounds_succ]
                go_wp2
                go_roundw
                case rel => exact ⟨I + 1, _, _, _, _, g, l, tt, _, by omega, by go_num, HP10.out.ext hb11, HOK7.out, SAt.ext HQ10.out hb11, ext_trans HD10.out hb11⟩
                case measure => simp [intOf]; omega
            · have HP7 := Lib.hid hd2
              have HOK7 := Lib.hid (HOK.out.stay tt0 tt1 hf).up
              clear hd2 hf tt0 tt1 HP6
              go_wp2_with fail
              go_loopw [55] (fun i wr => i = .int .i64 0 ∧ Below w7.heap.size w7 wr) (fun i _ => 0)
              case atStart => exact ⟨rfl, (Below.refl _ _).alloc (Nat.le_refl _) _⟩
              case round =>
                obtain ⟨w8, rfl⟩ : ∃ y : World, y = wr := ⟨_, rfl⟩
                obtain ⟨rfl, hb8⟩ := hrel
                go_wp2
                go_roundw
                case rel => exact ⟨I + 1, t0, k0, n0, fs, g, l, tt', ks, by omega, by go_num, HP7.out.ext hb8, HOK7.out, SAt.ext HQ7.out hb8, ext_trans HD7.out hb8⟩
                case measure => simp [intOf]; omega
    · have hd : decide ((I : Int) < (n : Int)) = false := by simp; omega
      go_wp2_with fail
      refine (law16known _).mono ?_
      rintro r w5 ⟨rfl, hb5⟩
      go_wp2
      go_ret
      exact ⟨rfl, ext_trans hb hb5⟩


end Go.Proofs.YtcjpemphdgndkaaGreat
