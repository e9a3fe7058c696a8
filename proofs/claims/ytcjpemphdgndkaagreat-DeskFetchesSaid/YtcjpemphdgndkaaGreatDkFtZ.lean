/- DeskFetches: the walk. -/
import Derived.Test.YtcjpemphdgndkaaGreatDkAlZ
namespace Go.Proofs.YtcjpemphdgndkaaGreat
open Go.RowKit
set_option linter.unusedVariables false
set_option linter.unusedSimpArgs false

theorem szM : (Tryz.prog.info? 33).map (·.size) = some 13 := by kernel_rfl
set_option maxRecDepth 100000 in
set_option maxHeartbeats 4000000 in
theorem deskFetches_walk (ta : Option Addr) (tlen tcap : Nat) (tz : List Int) (w : World) (hr : IsRow .i64 w ta tlen tcap tz) (hr8 : tlen * 8 ≤ 140737488351232) :
    Calls Tryz.prog 8 #[.slice ta tlen tcap] w fun r w' => r = .returned (.bool true) ∧ Below w.heap.size w w' := by
  go_enter Tryz.func8, Tryz.ntmps8
  go_wp2_with fail
  refine (deskNew 2 0 w (by omega) (by omega) (by omega) (by omega)).mono ?_
  rintro r w1 ⟨db, rfl, hdb, hp, hb⟩
  have HP1 := Lib.hid hp
  have HD1 := Lib.hid hb
  clear hp hb
  go_wp2_with fail
  refine (deskShelf db 2 0 2 0 [] 0 0 0 [] w1 HP1.out).mono ?_
  rintro r w2 ⟨rfl, hb⟩
  have HP2 := Lib.hid (HP1.out.ext hb)
  have HD2 := Lib.hid (ext_trans HD1.out hb)
  clear hb HP1 HD1
  go_wp2_with fail
  refine (lawAsks ta tlen tcap tz 50 w2 (hr.ext HD2.out) (by omega)).mono ?_
  rintro r w3 ⟨v, qs, rfl, ho, hql, hqok, hb⟩
  obtain ⟨qa, qc, rfl, hqc, hqm, hqat, -, -⟩ := OwnR.read aq_len ho
  obtain ⟨n, hn⟩ : ∃ n, qs.length = n := ⟨_, rfl⟩
  have HN := Lib.hid hn
  rw [hn] at hql hqc ⊢
  have HQA := Lib.hid (show AqAt w3 qa qs from hqat)
  have HQOK := Lib.hid hqok
  have HP3 := Lib.hid (HP2.out.ext hb)
  have HD3 := Lib.hid (ext_trans HD2.out hb)
  clear hb HP2 HD2 ho hqok hqat hn
  unfold maxLen at hqm
  go_wp2_with fail
  go_loopw [4, 23] (fun at_ i wr => ∃ (I : Nat) (t0 k0 n0 : Int) (es : List En) (g l tt : Int) (ks : List Ky), I ≤ n ∧ at_ = .int .i64 (ks.length : Int) ∧ i = .int .i64 (I : Int) ∧ DkP wr db 2 t0 k0 n0 es g l tt ks ∧ DOk I t0 n0 es tt ks ∧ AqAt wr qa qs ∧ Below w.heap.size w wr) (fun at_ i _ => n - (intOf i).toNat)
  case atStart => exact ⟨0, 0, 2, 0, [], 0, 0, 0, [], by omega, rfl, rfl, HP3.out, DOk.nil (by omega), HQA.out, HD3.out⟩
  case round =>
    obtain ⟨w4, rfl⟩ : ∃ y : World, y = wr := ⟨_, rfl⟩
    obtain ⟨I, t0, k0, n0, es, g, l, tt, ks, hI, rfl, rfl, hp, hok, hq, hb⟩ := hrel
    obtain ⟨q, hqn⟩ : ∃ q, ks.length = q := ⟨_, rfl⟩
    have HQN := Lib.hid hqn
    have hqI : q ≤ I := by have := hok.2.2.2.2.2.2.2; omega
    rw [hqn]
    clear HP3 HD3 HQA hqn
    by_cases hlt : I < n
    · have hd : decide ((I : Int) < (n : Int)) = true := by simp; omega
      obtain ⟨x, hx⟩ : ∃ x, qs[I]? = some x := ⟨_, List.getElem?_eq_getElem (by have := HN.out; omega)⟩
      have hxo := HQOK.out x (List.mem_of_getElem? hx)
      obtain ⟨qg, qo, rfl⟩ : ∃ g o, qa = some ⟨g, o, none⟩ := by
        rcases hq with h | ⟨g, o, e, _⟩
        · rw [h] at hx; simp at hx
        · exact ⟨g, o, e⟩
      have hget := fun (q : Nat) (u : Value) (h : (aq x)[q]? = some u) => SAt.get aq_len hq hx q u h
      obtain ⟨kd, op, st, tag, N, sq, k, more, late, c⟩ := x
      have HAK := Lib.hid (show AskOk op st tag N sq k from hxo.2.2.1)
      have hL : (Instr.loadAt 39 (.pointer (some ⟨qg, qo + I * 25, none⟩))).run Tryz.prog w4 = .ok (.agg #[.int .i64 kd, .int .i64 1, .int .i64 op, .int .i64 st, .int .i64 0, .int .i64 tag, .int .i64 N, .int .i64 sq, .string k.1, .string k.2, .bool false, .int .u32 0, .slice none 0 0, .slice none 0 0, .int .i64 more, .int .i64 late, .string c.a, .string c.i, .int .i64 c.s, .int .i64 c.o, .int .i64 c.l, .int .i64 c.t, .int .i64 c.k, .int .i64 c.n, .bool c.g]) w4 := run_loadAt_at (c := aq (⟨kd, op, st, tag, N, sq, k, more, late, c⟩ : Aq)) (fun j v hj => hget j v hj) (aggAq _) (szAq _) rfl
      have hS : (Instr.storeAt 39 (.pointer (some ⟨w4.heap.size, 0, none⟩)) (.agg #[.int .i64 kd, .int .i64 1, .int .i64 op, .int .i64 st, .int .i64 0, .int .i64 tag, .int .i64 N, .int .i64 sq, .string k.1, .string k.2, .bool false, .int .u32 0, .slice none 0 0, .slice none 0 0, .int .i64 more, .int .i64 late, .string c.a, .string c.i, .int .i64 c.s, .int .i64 c.o, .int .i64 c.l, .int .i64 c.t, .int .i64 c.k, .int .i64 c.n, .bool c.g])).run Tryz.prog (w4.alloc (.cells #[.int .i64 0, .int .i64 0, .int .i64 0, .int .i64 0, .int .i64 0, .int .i64 0, .int .i64 0, .int .i64 0, .string ⟨#[]⟩, .string ⟨#[]⟩, .bool false, .int .u32 0, .slice none 0 0, .slice none 0 0, .int .i64 0, .int .i64 0, .string ⟨#[]⟩, .string ⟨#[]⟩, .int .i64 0, .int .i64 0, .int .i64 0, .int .i64 0, .int .i64 0, .int .i64 0, .bool false] 39)) = .ok () (w4.alloc (.cells #[.int .i64 kd, .int .i64 1, .int .i64 op, .int .i64 st, .int .i64 0, .int .i64 tag, .int .i64 N, .int .i64 sq, .string k.1, .string k.2, .bool false, .int .u32 0, .slice none 0 0, .slice none 0 0, .int .i64 more, .int .i64 late, .string c.a, .string c.i, .int .i64 c.s, .int .i64 c.o, .int .i64 c.l, .int .i64 c.t, .int .i64 c.k, .int .i64 c.n, .bool c.g] 39)) := run_storeAt_new w4 39 _ _ sizeAq rfl (all_of (aq_one (⟨kd, op, st, tag, N, sq, k, more, late, c⟩ : Aq)))
      have D5 : Below w4.heap.size w4 (w4.alloc (.cells #[.int .i64 kd, .int .i64 1, .int .i64 op, .int .i64 st, .int .i64 0, .int .i64 tag, .int .i64 N, .int .i64 sq, .string k.1, .string k.2, .bool false, .int .u32 0, .slice none 0 0, .slice none 0 0, .int .i64 more, .int .i64 late, .string c.a, .string c.i, .int .i64 c.s, .int .i64 c.o, .int .i64 c.l, .int .i64 c.t, .int .i64 c.k, .int .i64 c.n, .bool c.g] 39)) := (Below.refl _ _).alloc (Nat.le_refl _) _
      have HQB := Lib.hid (blk_new w4 #[.int .i64 kd, .int .i64 1, .int .i64 op, .int .i64 st, .int .i64 0, .int .i64 tag, .int .i64 N, .int .i64 sq, .string k.1, .string k.2, .bool false, .int .u32 0, .slice none 0 0, .slice none 0 0, .int .i64 more, .int .i64 late, .string c.a, .string c.i, .int .i64 c.s, .int .i64 c.o, .int .i64 c.l, .int .i64 c.t, .int .i64 c.k, .int .i64 c.n, .bool c.g] 39)
      have HP := Lib.hid (hp.ext D5)
      have HOK := Lib.hid hok
      have HQ5 := Lib.hid (show AqAt (w4.alloc (.cells #[.int .i64 kd, .int .i64 1, .int .i64 op, .int .i64 st, .int .i64 0, .int .i64 tag, .int .i64 N, .int .i64 sq, .string k.1, .string k.2, .bool false, .int .u32 0, .slice none 0 0, .slice none 0 0, .int .i64 more, .int .i64 late, .string c.a, .string c.i, .int .i64 c.s, .int .i64 c.o, .int .i64 c.l, .int .i64 c.t, .int .i64 c.k, .int .i64 c.n, .bool c.g] 39)) (some ⟨qg, qo, none⟩) qs from SAt.ext hq D5)
      have HD5 := Lib.hid (ext_trans hb D5)
      clear hget hp hok hq hb hx D5 hxo
      go_upto_region 7 with (fail)
      refine wp_region_lit ?_
      refine wpList_plain rfl (fun K hK => ?_)
      go_big_op
      refine hK _ _ ?_
      clear hK K
      refine wpList_plain rfl (fun K hK => ?_)
      go_big_op
      refine hK _ _ ?_
      clear hK K
      refine wpList_load rfl rfl rfl hL ?_
      simp only [Act.put, List.setIfInBounds_toArray, List.set_cons_succ, List.set_cons_zero]
      refine wpList_plain rfl (fun K hK => ?_)
      go_big_op
      refine hK _ _ ?_
      clear hK K
      refine wpList_plain rfl (fun K hK => ?_)
      go_big_op
      refine hK _ _ ?_
      clear hK K
      refine wpList_store rfl rfl rfl hS ?_
      refine wpList_nil ?_
      clear hL hS
      obtain ⟨qb, hqb⟩ : ∃ q, w4.heap.size = q := ⟨_, rfl⟩
      rw [hqb] at HQB
      try rw [hqb]
      have hqd : qb ≠ db := by rintro rfl; obtain ⟨_, _, _, _, h9, _⟩ := HP.out; have h8 := HQB.out; rw [h9] at h8; simp at h8
      clear hqb
      generalize (w4.alloc (.cells #[.int .i64 kd, .int .i64 1, .int .i64 op, .int .i64 st, .int .i64 0, .int .i64 tag, .int .i64 N, .int .i64 sq, .string k.1, .string k.2, .bool false, .int .u32 0, .slice none 0 0, .slice none 0 0, .int .i64 more, .int .i64 late, .string c.a, .string c.i, .int .i64 c.s, .int .i64 c.o, .int .i64 c.l, .int .i64 c.t, .int .i64 c.k, .int .i64 c.n, .bool c.g] 39)) = w5 at *
      have hc5 := blk_cell HQB.out
      have hl5 := blk_lt HQB.out
      go_wp2_with fail
      refine (handleAsk db I 2 t0 k0 n0 es g l tt ks op st tag N sq k (I : Int) w5 HP.out HOK.out (by omega) HAK.out (by omega) (by omega)).mono ?_
      rintro r w6 ⟨vs, la, m0, lc, cs, t0', k0', n0', fs, tt', rfl, hv13, hvall, hp6, hok6, hcs, hcl, hlc, hlm, hla, hr6⟩
      obtain ⟨m, hm⟩ : ∃ m, m0 = m := ⟨_, rfl⟩
      subst hm
      have HP6 := Lib.hid hp6
      have HOK6 := Lib.hid hok6
      have HQ6 := Lib.hid (show AqAt w6 (some ⟨qg, qo, none⟩) qs from HP.out.sat hr6 (by decide) HQ5.out)
      have HD6 := Lib.hid (HD5.out.trans (hr6.below (by have := HD5.out.size; omega) HD5.out.size))
      have HLA := Lib.hid hla
      have HCS := Lib.hid hcs
      have HCL := Lib.hid hcl
      have hm1 : m0 ≤ 1 := by
        rcases hcs with h | ⟨k', h⟩
        · rw [h] at hcl; simp at hcl; omega
        · rw [h] at hcl; simp at hcl; omega
      unfold maxLen at hlm
      clear hc5 hl5 hp6 hok6 hr6 hla hcs hcl HP HOK HQ5 HD5 HQB HAK
      have hSV : (Instr.storeAt 33 (.pointer (some ⟨w6.heap.size, 0, none⟩)) (.agg vs)).run Tryz.prog (w6.alloc (.cells #[.int .i64 0, .int .i64 0, .int .i64 0, .int .i64 0, .int .i64 0, .int .i64 0, .int .i64 0, .string ⟨#[]⟩, .string ⟨#[]⟩, .bool false, .int .u32 0, .slice none 0 0, .slice none 0 0] 33)) = .ok () (w6.alloc (.cells vs 33)) := run_storeAt_new w6 33 _ _ (by rw [hv13]; exact szM) (by rw [hv13]; rfl) hvall
      rename_i hK7
      refine hK7 _ _ ?_
      clear hK7
      refine wpList_plain rfl (fun K hK => ?_)
      go_big_op
      refine hK _ _ ?_
      clear hK K
      refine wpList_plain rfl (fun K hK => ?_)
      go_big_op
      refine hK _ _ ?_
      clear hK K
      refine wpList_plain rfl (fun K hK => ?_)
      go_big_op
      refine hK _ _ ?_
      clear hK K
      refine wpList_plain rfl (fun K hK => ?_)
      go_big_op
      refine hK _ _ ?_
      clear hK K
      refine wpList_store rfl rfl rfl hSV ?_
      refine wpList_plain rfl (fun K hK => ?_)
      go_big_op
      refine hK _ _ ?_
      clear hK K
      refine wpList_nil ?_
      clear hSV
      have E7 : Below w6.heap.size w6 (w6.alloc (.cells vs 33)) := (Below.refl _ _).alloc (Nat.le_refl _) _
      have HP7 := Lib.hid (HP6.out.ext E7)
      have HQ7 := Lib.hid (show AqAt (w6.alloc (.cells vs 33)) (some ⟨qg, qo, none⟩) qs from SAt.ext HQ6.out E7)
      have HD7 := Lib.hid (ext_trans HD6.out E7)
      have HLA7 := Lib.hid (HLA.out.ext E7)
      clear E7 HP6 HQ6 HD6 HLA hv13 hvall
      generalize (w6.alloc (.cells vs 33)) = w7 at *
      generalize w6.heap.size = ab at *
      go_wp2_with fail
      refine (handleDelta db 2 t0' k0' n0' fs g l tt' (ks ++ cs) (I : Int) (q : Int) cs (I : Int) w7 HP7.out HOK6.out.1 (by have := HOK6.out.few; omega) HOK6.out.cds (by have := HOK6.out.2.2.2.2.2.2.2; omega) HCS.out (by
        rw [lastK_len _ _ (Nat.le_refl _)]
        unfold lastK
        rw [List.take_length, List.drop_drop]
        have h1 : (ks ++ cs).length - 16 + (min (ks ++ cs).length 16 - cs.length) = ks.length := by rw [List.length_append]; have := HCL.out; omega
        rw [h1, List.drop_left']
        rfl) (by rw [List.length_append, HQN.out]; push_cast; omega) (by rw [List.length_append]; omega)).mono ?_
      rintro r w8 ⟨v, s, rfl, fa, fn, fc, rfl, hfl, hfc, hfm, hfa, hb8⟩
      have hq9 : (((ks ++ cs).length : Nat) : Int) = (q : Int) + (m0 : Int) := by rw [List.length_append, HQN.out, HCL.out]; push_cast; rfl
      rw [hq9]
      have hfn : fn = m0 := by rw [← hfl, List.length_map]; exact HCL.out
      subst hfn
      have HQ9 := Lib.hid hq9
      have HP8 := Lib.hid (HP7.out.ext hb8)
      have HQ8 := Lib.hid (show AqAt w8 (some ⟨qg, qo, none⟩) qs from SAt.ext HQ7.out hb8)
      have HD8 := Lib.hid (ext_trans HD7.out hb8)
      have HLA8 := Lib.hid (HLA7.out.ext hb8)
      have HFA8 := Lib.hid hfa
      unfold maxLen at hfm
      clear hb8 hq9 hfl hfa HP7 HQ7 HD7 HLA7
      have E9 : Below w8.heap.size w8 (w8.alloc (.cells #[.int .i64 2, .int .i64 5, .int .i64 0, .int .i64 0, .int .i64 (I : Int), .int .i64 0, .int .i64 ((q : Int) + (fn : Int)), .string ⟨#[]⟩, .string ⟨#[]⟩, .bool false, .int .u32 s, .slice fa fn fc, .slice none 0 0] 33)) := (Below.refl _ _).alloc (Nat.le_refl _) _
      have HF9 := Lib.hid (blk_new w8 #[.int .i64 2, .int .i64 5, .int .i64 0, .int .i64 0, .int .i64 (I : Int), .int .i64 0, .int .i64 ((q : Int) + (fn : Int)), .string ⟨#[]⟩, .string ⟨#[]⟩, .bool false, .int .u32 s, .slice fa fn fc, .slice none 0 0] 33)
      go_upto_region 10 with (fail)
      have HP9 := Lib.hid (HP8.out.ext E9)
      have HQ9' := Lib.hid (show AqAt _ (some ⟨qg, qo, none⟩) qs from SAt.ext HQ8.out E9)
      have HD9 := Lib.hid (ext_trans HD8.out E9)
      have HLA9 := Lib.hid (HLA8.out.ext E9)
      have HFA9 := Lib.hid (HFA8.out.ext E9)
      obtain ⟨fb, hfb⟩ : ∃ q, w8.heap.size = q := ⟨_, rfl⟩
      rw [hfb] at HF9
      try rw [hfb]
      clear hfb E9 HP8 HQ8 HD8 HLA8 HFA8
      generalize (w8.alloc (.cells #[.int .i64 2, .int .i64 5, .int .i64 0, .int .i64 0, .int .i64 (I : Int), .int .i64 0, .int .i64 ((q : Int) + (fn : Int)), .string ⟨#[]⟩, .string ⟨#[]⟩, .bool false, .int .u32 s, .slice fa fn fc, .slice none 0 0] 33)) = w9 at *
      have hfc9 := blk_cell HF9.out
      have hfl9 := blk_lt HF9.out
      have hw9 : wrap64 ((q : Int) + (fn : Int)) = (q : Int) + (fn : Int) := by unfold wrap64; omega
      have hne9 : (((q : Int) + (fn : Int)) != ((q : Int) + (fn : Int))) = false := by simp
      go_wp2_with fail
      go_loopw [77] (fun j wr => ∃ J : Nat, J ≤ fn ∧ j = .int .i64 (J : Int) ∧ Below w9.heap.size w9 wr) (fun j _ => fn - (intOf j).toNat)
      case atStart => exact ⟨0, by omega, rfl, Below.refl _ _⟩
      case round =>
        obtain ⟨w10, rfl⟩ : ∃ y : World, y = wr := ⟨_, rfl⟩
        obtain ⟨J, hJ, rfl, hb10⟩ := hrel
        clear hfc9 hfl9
        by_cases hJm : J < fn
        · have hdJ : decide ((J : Int) < (fn : Int)) = true := by simp; omega
          obtain ⟨x, hx⟩ : ∃ x, (cs.map (cur fs))[J]? = some x := ⟨_, List.getElem?_eq_getElem (by rw [List.length_map, HCL.out]; exact hJm)⟩
          obtain ⟨b1, o1, rfl⟩ : ∃ b o, fa = some ⟨b, o, none⟩ := by
            rcases HFA9.out with h | ⟨b, o, e, _⟩
            · rw [h] at hx; simp at hx
            · exact ⟨b, o, e⟩
          obtain ⟨b2, o2, rfl⟩ : ∃ b o, la = some ⟨b, o, none⟩ := by
            rcases HLA9.out with h | ⟨b, o, e, _⟩
            · rw [h] at hx; simp at hx
            · exact ⟨b, o, e⟩
          obtain ⟨y0, y1, y2, y3, y4, y5, y6, y7, y8⟩ := (HFA9.out.ext hb10).at hx
          obtain ⟨z0, z1, z2, z3, z4, z5, z6, z7, z8⟩ := (HLA9.out.ext hb10).at hx
          have HF10 := Lib.hid (blk_ext hb10 HF9.out)
          have HB10 := Lib.hid hb10
          clear hx hb10
          go_upto_region 15 with (fail)
          have hf11 := (blk_cell HF10.out) 11
          simp only [List.getElem?_toArray, List.getElem?_cons_zero, List.getElem?_cons_succ] at hf11
          haveI hIq : Nonempty (Of w10) := of_some _
          have hF0 := of_cell y0
          have hF1 := of_cell y1
          have hF2 := of_cell y2
          have hF3 := of_cell y3
          have hF4 := of_cell y4
          have hF5 := of_cell y5
          have hF6 := of_cell y6
          have hF7 := of_cell y7
          have hF8 := of_cell y8
          have hF9 := of_cell z0
          have hF10 := of_cell z1
          have hF11 := of_cell z2
          have hF12 := of_cell z3
          have hF13 := of_cell z4
          have hF14 := of_cell z5
          have hF15 := of_cell z6
          have hF16 := of_cell z7
          have hF17 := of_cell z8
          have hF18 := of_cell hf11
          first | (refine wp_region_stay w10 (by kernel_rfl) (by kernel_rfl) (by go_grown) ?_) | (refine wp_region_stay_seq w10 (by go_grown) ?_)
          repeat (go_big_quiet_step (fail))
          refine wpQuiet_nil ?_
          intro w11 hb11
          clear hIq hF0 hF1 hF2 hF3 hF4 hF5 hF6 hF7 hF8 hF9 hF10 hF11 hF12 hF13 hF14 hF15 hF16 hF17 hF18
          have HB11 := Lib.hid (ext_trans HB10.out hb11)
          clear hb11
          go_wp2
          go_roundw
          case rel => exact ⟨J + 1, by omega, by go_num, HB11.out⟩
          case measure => simp [intOf]; omega
        · have hdJ : decide ((J : Int) < (fn : Int)) = false := by simp; omega
          have HF10 := Lib.hid (blk_ext hb10 HF9.out)
          have hfc10 := blk_cell HF10.out
          have hfl10 := blk_lt HF10.out
          go_wp2
          go_roundw
          case rel => exact ⟨I + 1, t0', k0', n0', fs, g, l, tt', ks ++ cs, by omega, by rw [HQ9.out], by go_num, HP9.out.ext hb10, HOK6.out, SAt.ext HQ9'.out hb10, ext_trans HD9.out hb10⟩
          case measure => simp [intOf]; omega
    · have hd : decide ((I : Int) < (n : Int)) = false := by simp; omega
      go_wp2_with fail
      refine (law16known _).mono ?_
      rintro r w5 ⟨rfl, hb5⟩
      go_wp2
      go_ret
      exact ⟨rfl, ext_trans hb hb5⟩


end Go.Proofs.YtcjpemphdgndkaaGreat
