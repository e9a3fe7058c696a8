/- Cards are put into the document's own desk: Into. -/
import Derived.Test.YtloeabdohgdmkaaRiAZ
import Derived.Test.YtloeabdohgdmkaaMgLZ
import Derived.Test.YtloeabdohgdmkaaSfaZ
namespace Go.Proofs.Ytloeabdohgdmkaa
open Go.RowKit
set_option linter.unusedVariables false
set_option linter.unusedSimpArgs false


theorem stampLessR (x y : Cd) (b : Bool) (w : World) (h : ltC x y = b) : Calls Try.prog 20 #[.agg #[.int .i64 x.t, .int .i64 x.k, .int .i64 x.n], .agg #[.int .i64 y.t, .int .i64 y.k, .int .i64 y.n]] w fun r w' => r = .returned (.bool b) ∧ Below w.heap.size w w' := by
  subst h
  exact refLess x.t x.k x.n y.t y.k y.n w
set_option maxRecDepth 100000 in
set_option maxHeartbeats 1000000 in
theorem refHeldV (nv nx now : Int) (w : World) (m1 : min nv 1099511627776 = nx) (m2 : max nx 0 = now) :
    Calls Try.prog 42 #[.int .i64 nv] w fun r w' => r = .returned (.int .i64 now) ∧ Below w.heap.size w w' := by
  go_enter Try.func42, Try.ntmps42
  go_wp2
  go_ret
  exact ⟨rfl, Below.refl _ _⟩

set_option maxRecDepth 100000 in
set_option maxHeartbeats 6000000 in
theorem refInto (rb sb gb wb : Nat) (nd t0 n0 : Int) (es : List En) (g l tt : Int) (ks : List Ky) (a : Option Addr) (n c : Nat) (ls : List Cd) (now : Int) (w : World) (h : RDk w rb sb gb wb nd t0 n0 es g l tt ks) (hs : Asc es) (he : es.length ≤ 32) (hat : CAt w a ls) (hl : ls.length = n) (hn : n ≤ 1000) (hr : ∀ x ∈ ls, CdR x) (hks : ks.length + ls.length ≤ 1000) (nv nx : Int) (m1 : min nv 1099511627776 = nx) (m2 : max nx 0 = now) :
    Calls Try.prog 22 #[.pointer (some ⟨rb, 0, none⟩), .slice a n c, .int .i64 nv] w fun r w' => ∃ v, r = .returned (.tuple #[v, .int .i64 ((intoL now ⟨es, ks, [], 0⟩ ls).ref : Int)]) ∧ OwnC w.heap.size w' v (intoL now ⟨es, ks, [], 0⟩ ls).out ∧ RDk w' rb sb gb wb nd t0 n0 (intoL now ⟨es, ks, [], 0⟩ ls).es g l tt (intoL now ⟨es, ks, [], 0⟩ ls).ks ∧ Rim4 rb sb gb wb w w' := by
  obtain ⟨i0, hi, hz0, hz1, hz2⟩ := info_parts' info_card
  have HP := Lib.hid h
  have HAT := Lib.hid hat
  have HL := Lib.hid hl
  have HRT := Lib.hid hr
  have HI0 := Lib.hid (show IB ks.length 0 (⟨es, ks, [], 0⟩ : Is) from ⟨hs, he, Nat.le_refl _, Nat.le_refl _, Nat.le_refl _⟩)
  have HKS := Lib.hid hks
  clear h hs hat hl hr
  go_enter Try.func22, Try.ntmps22
  go_wp2_with fail
  refine (refHeldV nv nx now w m1 m2).mono ?_
  rintro r w0 ⟨rfl, hb0⟩
  have HB0 := Lib.hid hb0
  have HPW := HP
  have HATW := HAT
  have HP := Lib.hid (HP.out.ext hb0)
  have HAT := Lib.hid (HAT.out.ext hb0)
  clear hb0
  go_wp2_with fail
  go_loopw [8, 9, 18] (fun v q j wr => ∃ J : Nat, J ≤ n ∧ j = .int .i64 (J : Int) ∧ q = .int .i64 ((intoL now ⟨es, ks, [], 0⟩ (ls.take J)).ref : Int) ∧ OwnC w.heap.size wr v (intoL now ⟨es, ks, [], 0⟩ (ls.take J)).out ∧ RDk wr rb sb gb wb nd t0 n0 (intoL now ⟨es, ks, [], 0⟩ (ls.take J)).es g l tt (intoL now ⟨es, ks, [], 0⟩ (ls.take J)).ks ∧ Rim4 rb sb gb wb w wr) (fun v q j _ => n - (intOf j).toNat)
  case atStart => exact ⟨0, by omega, rfl, rfl, OwnR.nil _ _, HP.out, Rim4.of HB0.out⟩
  case round =>
    obtain ⟨w2, rfl⟩ : ∃ y : World, y = wr := ⟨_, rfl⟩
    obtain ⟨J, hJ, rfl, rfl, ho2, hp2, hr2⟩ := hrel
    have hib := HI0.out.all (now := now) (ls.take J)
    obtain ⟨S, hS⟩ : ∃ S, (intoL now ⟨es, ks, [], 0⟩ (ls.take J)) = S := ⟨_, rfl⟩
    rw [hS] at ho2 hp2 hib ⊢
    rw [Nat.zero_add, List.length_take, HL.out, Nat.min_eq_left hJ] at hib
    have HIB := Lib.hid hib
    have HSE := Lib.hid hS
    obtain ⟨ga, gc, rfl, hgn, hgm, hgf⟩ := OwnR.form ho2
    obtain ⟨m, hm⟩ : ∃ m, S.out.length = m := ⟨_, rfl⟩
    have HM := Lib.hid hm
    rw [hm] at hgn ho2 ⊢
    have hmJ : m ≤ J := by rw [← hm]; exact hib.out
    have hrJ := hib.ref
    obtain ⟨rf, hrf⟩ : ∃ rf, S.ref = rf := ⟨_, rfl⟩
    rw [hrf] at hrJ
    have HRF := Lib.hid hrf
    have HO2 := Lib.hid ho2
    have HP2 := Lib.hid hp2
    have HR2 := Lib.hid hr2
    clear hS hm ho2 hp2 hr2 hib hgf
    by_cases hlt : J < n
    · obtain ⟨y, hy⟩ : ∃ y, ls[J]? = some y := ⟨_, List.getElem?_eq_getElem (by have := HL.out; omega)⟩
      obtain ⟨ab, ao, rfl⟩ : ∃ b o, a = some ⟨b, o, none⟩ := by
        rcases HAT.out with h | ⟨b, o, e, _⟩
        · rw [h] at hy; simp at hy
        · exact ⟨b, o, e⟩
      have HAT2 := Lib.hid (show CAt w2 (some ⟨ab, ao, none⟩) ls from HATW.out.keep fun b cur hc _ => HPW.out.keepB HR2.out hc (by decide) (by decide) (by decide) (by decide))
      obtain ⟨y0, y1, y2, y3, y4, y5, y6, y7, y8⟩ := CAt.at HAT2.out hy
      have HST := Lib.hid (show (intoL now ⟨es, ks, [], 0⟩ (ls.take (J + 1))) = into1 now S y from by rw [List.take_add_one, hy, ← HSE.out]; exact intoL_snoc _ _ _ _)
      have HRY := Lib.hid (HRT.out y (List.mem_of_getElem? hy))
      have D3 := (Below.refl w2.heap.size w2).alloc (Nat.le_refl _) (.cells #[.string y.a, .string y.i, .int .i64 y.s, .int .i64 y.o, .int .i64 y.l, .int .i64 y.t, .int .i64 y.k, .int .i64 y.n, .bool y.g] 34)
      have HX3 := Lib.hid (blk_new w2 #[.string y.a, .string y.i, .int .i64 y.s, .int .i64 y.o, .int .i64 y.l, .int .i64 y.t, .int .i64 y.k, .int .i64 y.n, .bool y.g] 34)
      have HO3 := Lib.hid (show OwnC w.heap.size (w2.alloc (.cells #[.string y.a, .string y.i, .int .i64 y.s, .int .i64 y.o, .int .i64 y.l, .int .i64 y.t, .int .i64 y.k, .int .i64 y.n, .bool y.g] 34)) (.slice ga m gc) S.out from OwnR.ext HO2.out D3)
      have HP3 := Lib.hid (HP2.out.ext D3)
      have HR3 := Lib.hid (HR2.out.trans (Rim4.of D3))
      clear hy D3 HO2 HP2 HR2 HAT2
      go_upto_region 7 with (fail)
      obtain ⟨p, hp⟩ : ∃ p, w2.heap.size = p := ⟨_, rfl⟩
      rw [hp] at HX3
      try rw [hp]
      clear hp y0 y1 y2 y3 y4 y5 y6 y7 y8
      generalize (w2.alloc (.cells #[.string y.a, .string y.i, .int .i64 y.s, .int .i64 y.o, .int .i64 y.l, .int .i64 y.t, .int .i64 y.k, .int .i64 y.n, .bool y.g] 34)) = w3 at *
      have hxc := blk_cell HX3.out
      have hxl := blk_lt HX3.out
      · have HYR := HRY
        have HYZ := Lib.hid (show y.a.size ≠ 0 from by have := HRY.out.1.1; omega)
        go_wp2_with fail
        refine (refCdOk y w3 HYR.out).mono ?_
        rintro r w4 ⟨rfl, hb4⟩
        have HX4 := Lib.hid (blk_ext hb4 HX3.out)
        have HO4 := Lib.hid (show OwnC w.heap.size w4 (.slice ga m gc) S.out from OwnR.ext HO3.out hb4)
        have HP4 := Lib.hid (HP3.out.ext hb4)
        have HR4 := Lib.hid (HR3.out.trans (Rim4.of hb4))
        obtain ⟨e, he9⟩ : ∃ e, ge S.es (y.a, y.i) = e := ⟨_, rfl⟩
        obtain ⟨b, hb9⟩ : ∃ b, isIn (y.a, y.i) S.es = b := ⟨_, rfl⟩
        have HE := Lib.hid he9
        have HB := Lib.hid hb9
        clear hb4 hxc hxl HX3 HO3 HP3 HR3 he9 hb9
        go_upto_region 8 with (fail)
        refine wp_region_inv_eq (J := fun A d act x => ∃ u26 u27 u28 u29 u30 u31 u32 u25 u33 u34 u12 u13 : Value, act = ((((((((((((A.put (some 26) u26).put (some 27) u27).put (some 28) u28).put (some 29) u29).put (some 30) u30).put (some 31) u31).put (some 32) u32).put (some 25) u25).put (some 33) u33).put (some 34) u34).put (some 12) u12).put (some 13) u13) ∧ SF [(0, u26, .pointer (some ⟨rb, 0, none⟩)), (1, u27, .pointer (some ⟨rb, 0, none⟩)), (2, u28, .pointer (some ⟨rb, 0, none⟩)), (3, u29, .pointer (some ⟨sb, 0, none⟩)), (4, u30, .pointer (some ⟨p, 0, none⟩)), (5, u31, .agg #[.string y.a, .string y.i]), (6, u32, .tuple #[.agg #[.string e.c.a, .string e.c.i, .int .i64 e.c.s, .int .i64 e.c.o, .int .i64 e.c.l, .int .i64 e.c.t, .int .i64 e.c.k, .int .i64 e.c.n, .bool e.c.g, .int .i64 e.seen], .bool b]), (7, u25, .tuple #[.agg #[.string e.c.a, .string e.c.i, .int .i64 e.c.s, .int .i64 e.c.o, .int .i64 e.c.l, .int .i64 e.c.t, .int .i64 e.c.k, .int .i64 e.c.n, .bool e.c.g, .int .i64 e.seen], .bool b]), (8, u33, .agg #[.string e.c.a, .string e.c.i, .int .i64 e.c.s, .int .i64 e.c.o, .int .i64 e.c.l, .int .i64 e.c.t, .int .i64 e.c.k, .int .i64 e.c.n, .bool e.c.g, .int .i64 e.seen]), (9, u34, .bool b), (12, u13, .bool b)] d ∧ NB w4 77 #[.string ⟨#[]⟩, .string ⟨#[]⟩, .int .i64 0, .int .i64 0, .int .i64 0, .int .i64 0, .int .i64 0, .int .i64 0, .bool false, .int .i64 0] #[.string e.c.a, .string e.c.i, .int .i64 e.c.s, .int .i64 e.c.o, .int .i64 e.c.l, .int .i64 e.c.t, .int .i64 e.c.k, .int .i64 e.c.n, .bool e.c.g, .int .i64 e.seen] 10 11 d x u12) (by simp only [Act.put, List.setIfInBounds_toArray, List.set_cons_succ, List.set_cons_zero]; rfl) (by kernel_rfl) (by kernel_rfl) ?_ ?_ ?_
        · exact ⟨_, _, _, _, _, _, _, _, _, _, _, _, rfl, SF.init _, NB.init _ (Below.refl _ _).drew⟩
        · refine stepsOk_cons (k := 0) ?_ (stepsOk_cons (k := 1) ?_ (stepsOk_cons (k := 2) ?_ (stepsOk_cons (k := 3) ?_ (stepsOk_cons (k := 4) ?_ (stepsOk_cons (k := 5) ?_ (stepsOk_cons (k := 6) ?_ (stepsOk_cons (k := 7) ?_ (stepsOk_cons (k := 8) ?_ (stepsOk_cons (k := 9) ?_ (stepsOk_cons (k := 10) ?_ (stepsOk_cons (k := 11) ?_ (stepsOk_cons (k := 12) ?_ stepsOk_nil))))))))))))
          · rintro d act x ⟨u26, u27, u28, u29, u30, u31, u32, u25, u33, u34, u12, u13, rfl, F, B⟩ hd hdep Kc hKc
            rw [if_pos (by rfl)]
            go_big_op
            exact hKc _ _ ⟨_, _, _, _, _, _, _, _, _, _, _, _, rfl, F.set 0 rfl rfl, B.same rfl rfl⟩
          · rintro d act x ⟨u26, u27, u28, u29, u30, u31, u32, u25, u33, u34, u12, u13, rfl, F, B⟩ hd hdep Kc hKc
            have h0 : d 0 = true := hdep ⟨0, .data⟩ (by simp) rfl
            have e := F.get 0 rfl h0
            subst e
            rw [if_pos (by rfl)]
            go_big_op
            exact hKc _ _ ⟨_, _, _, _, _, _, _, _, _, _, _, _, rfl, F.set 1 rfl rfl, B.same rfl rfl⟩
          · rintro d act x ⟨u26, u27, u28, u29, u30, u31, u32, u25, u33, u34, u12, u13, rfl, F, B⟩ hd hdep Kc hKc
            have h1 : d 1 = true := hdep ⟨1, .data⟩ (by simp) rfl
            have e := F.get 1 rfl h1
            subst e
            rw [if_pos (by rfl)]
            go_big_op
            exact hKc _ _ ⟨_, _, _, _, _, _, _, _, _, _, _, _, rfl, F.set 2 rfl rfl, B.same rfl rfl⟩
          · rintro d act x ⟨u26, u27, u28, u29, u30, u31, u32, u25, u33, u34, u12, u13, rfl, F, B⟩ hd hdep Kc hKc
            have h2 : d 2 = true := hdep ⟨2, .data⟩ (by simp) rfl
            have e := F.get 2 rfl h2
            subst e
            have hx := blk_cell (blk_ext B.bl (show w4.heap[rb]? = _ from HP4.out.d))
            have hxl := blk_lt (blk_ext B.bl (show w4.heap[rb]? = _ from HP4.out.d))
            rw [if_pos (by rfl)]
            go_big_op
            exact hKc _ _ ⟨_, _, _, _, _, _, _, _, _, _, _, _, rfl, F.set 3 rfl rfl, B.same rfl rfl⟩
          · rintro d act x ⟨u26, u27, u28, u29, u30, u31, u32, u25, u33, u34, u12, u13, rfl, F, B⟩ hd hdep Kc hKc
            rw [if_pos (by rfl)]
            go_big_op
            exact hKc _ _ ⟨_, _, _, _, _, _, _, _, _, _, _, _, rfl, F.set 4 rfl rfl, B.same rfl rfl⟩
          · rintro d act x ⟨u26, u27, u28, u29, u30, u31, u32, u25, u33, u34, u12, u13, rfl, F, B⟩ hd hdep Kc hKc
            have h4 : d 4 = true := hdep ⟨4, .data⟩ (by simp) rfl
            have e := F.get 4 rfl h4
            subst e
            have hx := blk_cell (blk_ext B.bl HX4.out)
            have hxl := blk_lt (blk_ext B.bl HX4.out)
            rw [if_pos (by rfl)]
            go_big_op
            exact hKc _ _ ⟨_, _, _, _, _, _, _, _, _, _, _, _, rfl, F.set 5 rfl rfl, B.same rfl rfl⟩
          · rintro d act x ⟨u26, u27, u28, u29, u30, u31, u32, u25, u33, u34, u12, u13, rfl, F, B⟩ hd hdep Kc hKc
            have h3 : d 3 = true := hdep ⟨3, .data⟩ (by simp) rfl
            have h5 : d 5 = true := hdep ⟨5, .data⟩ (by simp) rfl
            have e := F.get 3 rfl h3
            subst e
            have e := F.get 5 rfl h5
            subst e
            rw [if_pos (by rfl)]
            go_big_op
            refine (rsGet sb 32 S.es (y.a, y.i) x (HP4.out.ext B.bl).s HIB.out.asc (by have := HIB.out.len; omega) e b HE.out HB.out).mono ?_
            rintro e x1 ⟨rfl, hb1⟩
            exact hKc _ _ ⟨_, _, _, _, _, _, _, _, _, _, _, _, rfl, F.set 6 rfl rfl, B.call rfl rfl hb1⟩
          · rintro d act x ⟨u26, u27, u28, u29, u30, u31, u32, u25, u33, u34, u12, u13, rfl, F, B⟩ hd hdep Kc hKc
            have h6 : d 6 = true := hdep ⟨6, .data⟩ (by simp) rfl
            have e := F.get 6 rfl h6
            subst e
            rw [if_pos (by rfl)]
            go_big_op
            exact hKc _ _ ⟨_, _, _, _, _, _, _, _, _, _, _, _, rfl, F.set 7 rfl rfl, B.same rfl rfl⟩
          · rintro d act x ⟨u26, u27, u28, u29, u30, u31, u32, u25, u33, u34, u12, u13, rfl, F, B⟩ hd hdep Kc hKc
            have h7 : d 7 = true := hdep ⟨7, .data⟩ (by simp) rfl
            have e := F.get 7 rfl h7
            subst e
            rw [if_pos (by rfl)]
            go_big_op
            exact hKc _ _ ⟨_, _, _, _, _, _, _, _, _, _, _, _, rfl, F.set 8 rfl rfl, B.same rfl rfl⟩
          · rintro d act x ⟨u26, u27, u28, u29, u30, u31, u32, u25, u33, u34, u12, u13, rfl, F, B⟩ hd hdep Kc hKc
            have h7 : d 7 = true := hdep ⟨7, .data⟩ (by simp) rfl
            have e := F.get 7 rfl h7
            subst e
            rw [if_pos (by rfl)]
            go_big_op
            exact hKc _ _ ⟨_, _, _, _, _, _, _, _, _, _, _, _, rfl, F.set 9 rfl rfl, B.same rfl rfl⟩
          · rintro d act x ⟨u26, u27, u28, u29, u30, u31, u32, u25, u33, u34, u12, u13, rfl, F, B⟩ hd hdep Kc hKc
            rw [if_pos (by rfl)]
            go_big_op
            exact hKc _ _ ⟨_, _, _, _, _, _, _, _, _, _, _, _, rfl, F.same rfl, B.alloc hd rfl⟩
          · rintro d act x ⟨u26, u27, u28, u29, u30, u31, u32, u25, u33, u34, u12, u13, rfl, F, B⟩ hd hdep Kc hKc
            have h10 : d 10 = true := hdep ⟨10, .data⟩ (by simp) rfl
            have h8 : d 8 = true := hdep ⟨8, .data⟩ (by simp) rfl
            obtain ⟨nb, rfl, hnb, hz, -⟩ := B.p h10
            have e := F.get 8 rfl h8
            subst e
            have HZ := hz hd
            have hbc := blk_cell HZ
            have hbf := blk_free HZ
            have hbl := blk_lt HZ
            rw [if_pos (by rfl)]
            go_big_op
            exact hKc _ _ ⟨_, _, _, _, _, _, _, _, _, _, _, _, rfl, F.same rfl, NB.store h10 hnb (blk_fill10 (v0 := .string e.c.a) (v1 := .string e.c.i) (v2 := .int .i64 e.c.s) (v3 := .int .i64 e.c.o) (v4 := .int .i64 e.c.l) (v5 := .int .i64 e.c.t) (v6 := .int .i64 e.c.k) (v7 := .int .i64 e.c.n) (v8 := .bool e.c.g) (v9 := .int .i64 e.seen) HZ rfl) (below_fill10 (v0 := .string e.c.a) (v1 := .string e.c.i) (v2 := .int .i64 e.c.s) (v3 := .int .i64 e.c.o) (v4 := .int .i64 e.c.l) (v5 := .int .i64 e.c.t) (v6 := .int .i64 e.c.k) (v7 := .int .i64 e.c.n) (v8 := .bool e.c.g) (v9 := .int .i64 e.seen) B.bl hnb)⟩
          · rintro d act x ⟨u26, u27, u28, u29, u30, u31, u32, u25, u33, u34, u12, u13, rfl, F, B⟩ hd hdep Kc hKc
            have h9 : d 9 = true := hdep ⟨9, .data⟩ (by simp) rfl
            have e := F.get 9 rfl h9
            subst e
            rw [if_pos (by rfl)]
            go_big_op
            exact hKc _ _ ⟨_, _, _, _, _, _, _, _, _, _, _, _, rfl, F.set 10 rfl rfl, B.same rfl rfl⟩
        · rintro d act x ⟨u26, u27, u28, u29, u30, u31, u32, u25, u33, u34, u12, u13, rfl, F, B⟩ hall
          have e := F.get 0 rfl (hall 0 (by decide))
          subst e
          have e := F.get 1 rfl (hall 1 (by decide))
          subst e
          have e := F.get 2 rfl (hall 2 (by decide))
          subst e
          have e := F.get 3 rfl (hall 3 (by decide))
          subst e
          have e := F.get 4 rfl (hall 4 (by decide))
          subst e
          have e := F.get 5 rfl (hall 5 (by decide))
          subst e
          have e := F.get 6 rfl (hall 6 (by decide))
          subst e
          have e := F.get 7 rfl (hall 7 (by decide))
          subst e
          have e := F.get 8 rfl (hall 8 (by decide))
          subst e
          have e := F.get 9 rfl (hall 9 (by decide))
          subst e
          have e := F.get 10 rfl (hall 12 (by decide))
          subst e
          obtain ⟨nb, rfl, hnb, -, hf⟩ := B.p (hall 10 (by decide))
          have HNB := Lib.hid (hf (hall 11 (by decide)))
          have HWB := Lib.hid B.bl
          have HNL := Lib.hid hnb
          clear F B hf hall hnb
          obtain ⟨w5, rfl⟩ : ∃ y : World, y = x := ⟨_, rfl⟩
          obtain ⟨q1, rfl⟩ : ∃ y : Nat, y = nb := ⟨_, rfl⟩
          clear d
          have HQ5 := Lib.hid HNB.out
          have HX5 := Lib.hid (blk_ext HWB.out HX4.out)
          have HO5 := Lib.hid (show OwnC w.heap.size w5 (.slice ga m gc) S.out from OwnR.ext HO4.out HWB.out)
          have HP5 := Lib.hid (HP4.out.ext HWB.out)
          have HR5 := Lib.hid (HR4.out.trans (Rim4.of HWB.out))
          have HNLq := Lib.hid HNL.out
          clear HNB HNL HX4
          have hxc := blk_cell HX5.out
          have hxl := blk_lt HX5.out
          have hqc := blk_cell HQ5.out
          have hql := blk_lt HQ5.out
          cases b
          · have HX6 := HX5
            have HO6 := HO5
            have HP6 := HP5
            have HR6 := HR5
            clear HX5 HO5 HP5 HR5
            obtain ⟨w6, hw6⟩ : ∃ w6, w6 = w5 := ⟨_, rfl⟩
            subst hw6
            by_cases hfl : S.es.length < 32
            · have HFL := Lib.hid hfl
              clear hfl
              go_upto_region 13 with (fail)
              clear hxc hxl hqc hql
              have hxc := blk_cell HX6.out
              have hxl := blk_lt HX6.out
              go_wp2_with fail
              refine (rdSet rb sb gb wb nd t0 n0 S.es g l tt S.ks (⟨y, now⟩ : En) w6 HP6.out HIB.out.asc (by have := HIB.out.len; omega) (.inr HFL.out) (by have := HIB.out.ks; have := HKS.out; have := HL.out; omega)).mono ?_
              rintro r w7 ⟨rfl, hp7, hr7⟩
              have HX7 := Lib.hid ((HP6.out.keepB hr7 HX6.out (by decide) (by decide) (by decide) (by decide)).trans HX6.out)
              have HO7 := Lib.hid (show OwnC w.heap.size w7 (.slice ga m gc) S.out from own_blocks HO6.out fun b cur hc => HP6.out.keepB hr7 hc (by decide) (by decide) (by decide) (by decide))
              have HP7 := Lib.hid hp7
              have HR7 := Lib.hid (HR6.out.trans hr7)
              have HS2 := Lib.hid (show into1 now S y = ⟨putE S.es ⟨y, now⟩, S.ks ++ [ck y], S.out ++ [y], S.ref⟩ from into_set HYZ.out (.inl HB.out) (.inr HFL.out))
              clear hp7 hr7 hxc hxl HX6 HO6 HP6 HR6
              have hxc := blk_cell HX7.out
              have hxl := blk_lt HX7.out
              have hz9 := HR7.out.size
              have D8 := (Below.refl w7.heap.size w7).alloc (Nat.le_refl _) (.cells #[.string y.a, .string y.i, .int .i64 y.s, .int .i64 y.o, .int .i64 y.l, .int .i64 y.t, .int .i64 y.k, .int .i64 y.n, .bool y.g] 34)
              have HV8 := Lib.hid (blk_new w7 #[.string y.a, .string y.i, .int .i64 y.s, .int .i64 y.o, .int .i64 y.l, .int .i64 y.t, .int .i64 y.k, .int .i64 y.n, .bool y.g] 34)
              have HP8 := Lib.hid (HP7.out.ext D8)
              have HO8 := Lib.hid (show (w7.alloc (.cells #[.string y.a, .string y.i, .int .i64 y.s, .int .i64 y.o, .int .i64 y.l, .int .i64 y.t, .int .i64 y.k, .int .i64 y.n, .bool y.g] 34)).ownsRow w.heap.size 34 9 (.slice ga m gc) m (flat cc S.out) from by
                have h9 := OwnR.ext HO7.out D8
                unfold OwnR at h9
                rwa [HM.out] at h9)
              have HR8 := Lib.hid (HR7.out.trans (Rim4.of D8))
              clear D8 HP7 HO7 HR7
              go_wp2_with (at_builtin; refine wpList_append_own _ rfl _ _ 28 rfl (w.heap.size) 34 i0 Cd.zero.v 9 88 Try.underlying28 hi hz0 hz1 hz2 rfl (by decide) (.slice ga m gc) m (flat cc S.out) rfl HO8.out ⟨w7.heap.size, 0, none⟩ 1 1 (cc y) rfl rfl ?c1 ?c2 ?c3 ?c4 ?c5 ?_)
              case c1 => intro j u hj; rw [add_off, Nat.zero_add, blk_cell HV8.out]; simpa [cc] using hj
              case c2 => exact cc_one y
              case c3 => unfold maxLen; omega
              case c4 => omega
              case c5 => first | omega | (simp; omega)
              intro v9 w9 ho9 hg9 _
              have HO9 := Lib.hid (show OwnC w.heap.size w9 v9 (S.out ++ [y]) from by unfold OwnC OwnR; rw [flat_snoc, List.length_append, HM.out]; exact ho9)
              have HP9 := Lib.hid (HP8.out.grownC hg9 HO8.out)
              have HR9 := Lib.hid (show Rim4 rb sb gb wb w w9 from ⟨hg9.os.trans HR8.out.os, hg9.tape.trans HR8.out.tape, hg9.output.trans HR8.out.output, Nat.le_trans HR8.out.size hg9.size, fun b ha hb hc hd hl => (hg9.block b (Nat.lt_of_lt_of_le hl HR8.out.size) (fun e => by have h9 := own_ge HO8.out e.symm; omega)).trans (HR8.out.block b ha hb hc hd hl)⟩)
              clear ho9 hg9 HO8 HP8 HR8 HV8 hxc hxl hz9
              go_wp2
              go_roundw
              case rel => exact ⟨J + 1, by omega, by go_num, by rw [HST.out, HS2.out, HRF.out], by rw [HST.out, HS2.out]; exact HO9.out, by rw [HST.out, HS2.out]; exact HP9.out, HR9.out⟩
              case measure => simp [intOf]; omega
            · go_upto_region 13 with (fail)
              clear hxc hxl hqc hql
              have hxc := blk_cell HX6.out
              have hxl := blk_lt HX6.out
              go_wp2_with fail
              refine (rdSetNo rb sb gb wb nd t0 n0 S.es g l tt S.ks (⟨y, now⟩ : En) w6 HP6.out HIB.out.asc (by have := HIB.out.len; omega) HB.out (by omega)).mono ?_
              rintro r w7 ⟨rfl, hb7⟩
              have HO7 := Lib.hid (show OwnC w.heap.size w7 (.slice ga m gc) S.out from OwnR.ext HO6.out hb7)
              have HP7 := Lib.hid (HP6.out.ext hb7)
              have HR7 := Lib.hid (HR6.out.trans (Rim4.of hb7))
              have HS2 := Lib.hid (show into1 now S y = ⟨S.es, S.ks, S.out, S.ref + 1⟩ from into_full HYZ.out HB.out (by omega))
              clear hb7 hxc hxl HX6 HO6 HP6 HR6
              go_wp2
              go_roundw
              case rel => exact ⟨J + 1, by omega, by go_num, by rw [HST.out, HS2.out]; show _ = Value.int .i64 ((S.ref + 1 : Nat) : Int); rw [HRF.out]; first | rfl | (go_num; done) | (have := HIB.out.ref; go_num), by rw [HST.out, HS2.out]; exact HO7.out, by rw [HST.out, HS2.out]; exact HP7.out, HR7.out⟩
              case measure => simp [intOf]; omega
          · obtain ⟨tb, htb⟩ : ∃ tb, ltC e.c y = tb := ⟨_, rfl⟩
            have HTB := Lib.hid htb
            clear htb
            go_wp2_with fail
            refine (stampLessR e.c y tb w5 HTB.out).mono ?_
            rintro r w6 ⟨rfl, hb6⟩
            have HX6 := Lib.hid (blk_ext hb6 HX5.out)
            have HQ6 := Lib.hid (blk_ext hb6 HQ5.out)
            have HO6 := Lib.hid (show OwnC w.heap.size w6 (.slice ga m gc) S.out from OwnR.ext HO5.out hb6)
            have HP6 := Lib.hid (HP5.out.ext hb6)
            have HR6 := Lib.hid (HR5.out.trans (Rim4.of hb6))
            have D46 := Lib.hid (ext_trans HWB.out hb6)
            clear hb6 hxc hxl hqc hql HX5 HQ5 HO5 HP5 HR5
            cases tb
            · have HEK := Lib.hid (show enK e = (y.a, y.i) from by rw [← HE.out]; exact (ge_yes HB.out).2)
              have hxc := blk_cell HX6.out
              have hxl := blk_lt HX6.out
              have hqc := blk_cell HQ6.out
              have hql := blk_lt HQ6.out
              obtain ⟨s1, hs1⟩ : ∃ s1, (e.c.t == y.t) = s1 := ⟨_, rfl⟩
              obtain ⟨s2, hs2⟩ : ∃ s2, (e.c.k == y.k) = s2 := ⟨_, rfl⟩
              obtain ⟨s3, hs3⟩ : ∃ s3, (e.c.n == y.n) = s3 := ⟨_, rfl⟩
              have HL3 := Lib.hid (show ltC (ge S.es (ck y)).c y = false from by show ltC (ge S.es (y.a, y.i)).c y = false; rw [HE.out]; exact HTB.out)
              have HSM := Lib.hid (show (s1 = true ∧ s2 = true ∧ s3 = true) ↔ ((ge S.es (ck y)).c.t = y.t ∧ (ge S.es (ck y)).c.k = y.k ∧ (ge S.es (ck y)).c.n = y.n) from by
                show _ ↔ ((ge S.es (y.a, y.i)).c.t = y.t ∧ (ge S.es (y.a, y.i)).c.k = y.k ∧ (ge S.es (y.a, y.i)).c.n = y.n)
                rw [HE.out, ← hs1, ← hs2, ← hs3]
                simp)
              by_cases hsm : s1 = true ∧ s2 = true ∧ s3 = true
              · obtain ⟨rfl, rfl, rfl⟩ := hsm
                obtain ⟨gg, hgg⟩ : ∃ gg, e.c.g = gg := ⟨_, rfl⟩
                have HGG := Lib.hid hgg
                cases gg
                · have HS2 := Lib.hid (show into1 now S y = ⟨putE S.es ⟨e.c, now⟩, S.ks, S.out, S.ref⟩ from by
                    have h9 := into_see (now := now) HYZ.out HB.out HL3.out ⟨HSM.out.1 ⟨rfl, rfl, rfl⟩, by show (ge S.es (y.a, y.i)).c.g = false; rw [HE.out]; exact HGG.out⟩
                    rw [show ge S.es (ck y) = e from HE.out] at h9
                    exact h9)
                  rw [hgg] at hqc
                  clear hgg
                  have hqf := blk_free HQ6.out
                  go_upto_region 12 with (fail)
                  have D67 := Lib.hid (D46.out.setCell (p := ⟨q1, 9, none⟩) HNLq.out (.int .i64 now))
                  have HQ67 := Lib.hid (show (w6.setCell ⟨q1, 9, none⟩ (.int .i64 now)).heap[q1]? = some (.cells #[.string e.c.a, .string e.c.i, .int .i64 e.c.s, .int .i64 e.c.o, .int .i64 e.c.l, .int .i64 e.c.t, .int .i64 e.c.k, .int .i64 e.c.n, .bool e.c.g, .int .i64 now] 77 (0, 0)) from blk_set HQ6.out (by first | rfl | simp))
                  clear hxc hxl hqc hql hqf hs1 hs2 hs3 HQ6 HP6 HO6 HR6 HX6
                  generalize (w6.setCell ⟨q1, 9, none⟩ (.int .i64 now)) = wq at *
                  have HQ7 := Lib.hid (show (wq.drew).heap[q1]? = _ from blk_drew HQ67.out)
                  have D7 := Lib.hid (D67.out.trans (((Below.refl wq.heap.size wq).drew).mono D67.out.size))
                  have HP7 := Lib.hid (HP4.out.ext D7.out)
                  have HO7 := Lib.hid (show OwnC w.heap.size wq.drew (.slice ga m gc) S.out from OwnR.ext HO4.out D7.out)
                  have HR7 := Lib.hid (HR4.out.trans (Rim4.of D7.out))
                  haveI hI0 : Nonempty (In (fun W : World => W.heap[q1]? = some (.cells #[.string e.c.a, .string e.c.i, .int .i64 e.c.s, .int .i64 e.c.o, .int .i64 e.c.l, .int .i64 e.c.t, .int .i64 e.c.k, .int .i64 e.c.n, .bool e.c.g, .int .i64 now] 77 (0, 0)) ∧ W.heap[rb]? = some (.cells #[.pointer (some ⟨sb, 0, none⟩), .pointer (some ⟨gb, 0, none⟩), .pointer (some ⟨wb, 0, none⟩), .int .i64 t0, .int .i64 nd, .int .i64 n0] 72 (0, 0)))) := ⟨⟨_, HQ7.out, HP7.out.d⟩⟩
                  have hL0 : ∀ g : In (fun W : World => W.heap[q1]? = some (.cells #[.string e.c.a, .string e.c.i, .int .i64 e.c.s, .int .i64 e.c.o, .int .i64 e.c.l, .int .i64 e.c.t, .int .i64 e.c.k, .int .i64 e.c.n, .bool e.c.g, .int .i64 now] 77 (0, 0)) ∧ W.heap[rb]? = some (.cells #[.pointer (some ⟨sb, 0, none⟩), .pointer (some ⟨gb, 0, none⟩), .pointer (some ⟨wb, 0, none⟩), .int .i64 t0, .int .i64 nd, .int .i64 n0] 72 (0, 0))), q1 < g.w.heap.size := fun g => blk_lt g.h.1
                  have hM0 : ∀ g : In (fun W : World => W.heap[q1]? = some (.cells #[.string e.c.a, .string e.c.i, .int .i64 e.c.s, .int .i64 e.c.o, .int .i64 e.c.l, .int .i64 e.c.t, .int .i64 e.c.k, .int .i64 e.c.n, .bool e.c.g, .int .i64 now] 77 (0, 0)) ∧ W.heap[rb]? = some (.cells #[.pointer (some ⟨sb, 0, none⟩), .pointer (some ⟨gb, 0, none⟩), .pointer (some ⟨wb, 0, none⟩), .int .i64 t0, .int .i64 nd, .int .i64 n0] 72 (0, 0))), rb < g.w.heap.size := fun g => blk_lt g.h.2
                  have hD0 : ∀ g : In (fun W : World => W.heap[q1]? = some (.cells #[.string e.c.a, .string e.c.i, .int .i64 e.c.s, .int .i64 e.c.o, .int .i64 e.c.l, .int .i64 e.c.t, .int .i64 e.c.k, .int .i64 e.c.n, .bool e.c.g, .int .i64 now] 77 (0, 0)) ∧ W.heap[rb]? = some (.cells #[.pointer (some ⟨sb, 0, none⟩), .pointer (some ⟨gb, 0, none⟩), .pointer (some ⟨wb, 0, none⟩), .int .i64 t0, .int .i64 nd, .int .i64 n0] 72 (0, 0))), g.w.cell? ⟨rb, 0, none⟩ = some (.pointer (some ⟨sb, 0, none⟩)) := fun g => by rw [blk_cell g.h.2]; rfl
                  have hB0_0 : ∀ g : In (fun W : World => W.heap[q1]? = some (.cells #[.string e.c.a, .string e.c.i, .int .i64 e.c.s, .int .i64 e.c.o, .int .i64 e.c.l, .int .i64 e.c.t, .int .i64 e.c.k, .int .i64 e.c.n, .bool e.c.g, .int .i64 now] 77 (0, 0)) ∧ W.heap[rb]? = some (.cells #[.pointer (some ⟨sb, 0, none⟩), .pointer (some ⟨gb, 0, none⟩), .pointer (some ⟨wb, 0, none⟩), .int .i64 t0, .int .i64 nd, .int .i64 n0] 72 (0, 0))), g.w.cell? ⟨q1, 0, none⟩ = some (.string e.c.a) := fun g => by rw [blk_cell g.h.1]; rfl
                  have hB0_1 : ∀ g : In (fun W : World => W.heap[q1]? = some (.cells #[.string e.c.a, .string e.c.i, .int .i64 e.c.s, .int .i64 e.c.o, .int .i64 e.c.l, .int .i64 e.c.t, .int .i64 e.c.k, .int .i64 e.c.n, .bool e.c.g, .int .i64 now] 77 (0, 0)) ∧ W.heap[rb]? = some (.cells #[.pointer (some ⟨sb, 0, none⟩), .pointer (some ⟨gb, 0, none⟩), .pointer (some ⟨wb, 0, none⟩), .int .i64 t0, .int .i64 nd, .int .i64 n0] 72 (0, 0))), g.w.cell? ⟨q1, 1, none⟩ = some (.string e.c.i) := fun g => by rw [blk_cell g.h.1]; rfl
                  have hB0_2 : ∀ g : In (fun W : World => W.heap[q1]? = some (.cells #[.string e.c.a, .string e.c.i, .int .i64 e.c.s, .int .i64 e.c.o, .int .i64 e.c.l, .int .i64 e.c.t, .int .i64 e.c.k, .int .i64 e.c.n, .bool e.c.g, .int .i64 now] 77 (0, 0)) ∧ W.heap[rb]? = some (.cells #[.pointer (some ⟨sb, 0, none⟩), .pointer (some ⟨gb, 0, none⟩), .pointer (some ⟨wb, 0, none⟩), .int .i64 t0, .int .i64 nd, .int .i64 n0] 72 (0, 0))), g.w.cell? ⟨q1, 2, none⟩ = some (.int .i64 e.c.s) := fun g => by rw [blk_cell g.h.1]; rfl
                  have hB0_3 : ∀ g : In (fun W : World => W.heap[q1]? = some (.cells #[.string e.c.a, .string e.c.i, .int .i64 e.c.s, .int .i64 e.c.o, .int .i64 e.c.l, .int .i64 e.c.t, .int .i64 e.c.k, .int .i64 e.c.n, .bool e.c.g, .int .i64 now] 77 (0, 0)) ∧ W.heap[rb]? = some (.cells #[.pointer (some ⟨sb, 0, none⟩), .pointer (some ⟨gb, 0, none⟩), .pointer (some ⟨wb, 0, none⟩), .int .i64 t0, .int .i64 nd, .int .i64 n0] 72 (0, 0))), g.w.cell? ⟨q1, 3, none⟩ = some (.int .i64 e.c.o) := fun g => by rw [blk_cell g.h.1]; rfl
                  have hB0_4 : ∀ g : In (fun W : World => W.heap[q1]? = some (.cells #[.string e.c.a, .string e.c.i, .int .i64 e.c.s, .int .i64 e.c.o, .int .i64 e.c.l, .int .i64 e.c.t, .int .i64 e.c.k, .int .i64 e.c.n, .bool e.c.g, .int .i64 now] 77 (0, 0)) ∧ W.heap[rb]? = some (.cells #[.pointer (some ⟨sb, 0, none⟩), .pointer (some ⟨gb, 0, none⟩), .pointer (some ⟨wb, 0, none⟩), .int .i64 t0, .int .i64 nd, .int .i64 n0] 72 (0, 0))), g.w.cell? ⟨q1, 4, none⟩ = some (.int .i64 e.c.l) := fun g => by rw [blk_cell g.h.1]; rfl
                  have hB0_5 : ∀ g : In (fun W : World => W.heap[q1]? = some (.cells #[.string e.c.a, .string e.c.i, .int .i64 e.c.s, .int .i64 e.c.o, .int .i64 e.c.l, .int .i64 e.c.t, .int .i64 e.c.k, .int .i64 e.c.n, .bool e.c.g, .int .i64 now] 77 (0, 0)) ∧ W.heap[rb]? = some (.cells #[.pointer (some ⟨sb, 0, none⟩), .pointer (some ⟨gb, 0, none⟩), .pointer (some ⟨wb, 0, none⟩), .int .i64 t0, .int .i64 nd, .int .i64 n0] 72 (0, 0))), g.w.cell? ⟨q1, 5, none⟩ = some (.int .i64 e.c.t) := fun g => by rw [blk_cell g.h.1]; rfl
                  have hB0_6 : ∀ g : In (fun W : World => W.heap[q1]? = some (.cells #[.string e.c.a, .string e.c.i, .int .i64 e.c.s, .int .i64 e.c.o, .int .i64 e.c.l, .int .i64 e.c.t, .int .i64 e.c.k, .int .i64 e.c.n, .bool e.c.g, .int .i64 now] 77 (0, 0)) ∧ W.heap[rb]? = some (.cells #[.pointer (some ⟨sb, 0, none⟩), .pointer (some ⟨gb, 0, none⟩), .pointer (some ⟨wb, 0, none⟩), .int .i64 t0, .int .i64 nd, .int .i64 n0] 72 (0, 0))), g.w.cell? ⟨q1, 6, none⟩ = some (.int .i64 e.c.k) := fun g => by rw [blk_cell g.h.1]; rfl
                  have hB0_7 : ∀ g : In (fun W : World => W.heap[q1]? = some (.cells #[.string e.c.a, .string e.c.i, .int .i64 e.c.s, .int .i64 e.c.o, .int .i64 e.c.l, .int .i64 e.c.t, .int .i64 e.c.k, .int .i64 e.c.n, .bool e.c.g, .int .i64 now] 77 (0, 0)) ∧ W.heap[rb]? = some (.cells #[.pointer (some ⟨sb, 0, none⟩), .pointer (some ⟨gb, 0, none⟩), .pointer (some ⟨wb, 0, none⟩), .int .i64 t0, .int .i64 nd, .int .i64 n0] 72 (0, 0))), g.w.cell? ⟨q1, 7, none⟩ = some (.int .i64 e.c.n) := fun g => by rw [blk_cell g.h.1]; rfl
                  have hB0_8 : ∀ g : In (fun W : World => W.heap[q1]? = some (.cells #[.string e.c.a, .string e.c.i, .int .i64 e.c.s, .int .i64 e.c.o, .int .i64 e.c.l, .int .i64 e.c.t, .int .i64 e.c.k, .int .i64 e.c.n, .bool e.c.g, .int .i64 now] 77 (0, 0)) ∧ W.heap[rb]? = some (.cells #[.pointer (some ⟨sb, 0, none⟩), .pointer (some ⟨gb, 0, none⟩), .pointer (some ⟨wb, 0, none⟩), .int .i64 t0, .int .i64 nd, .int .i64 n0] 72 (0, 0))), g.w.cell? ⟨q1, 8, none⟩ = some (.bool e.c.g) := fun g => by rw [blk_cell g.h.1]; rfl
                  have hB0_9 : ∀ g : In (fun W : World => W.heap[q1]? = some (.cells #[.string e.c.a, .string e.c.i, .int .i64 e.c.s, .int .i64 e.c.o, .int .i64 e.c.l, .int .i64 e.c.t, .int .i64 e.c.k, .int .i64 e.c.n, .bool e.c.g, .int .i64 now] 77 (0, 0)) ∧ W.heap[rb]? = some (.cells #[.pointer (some ⟨sb, 0, none⟩), .pointer (some ⟨gb, 0, none⟩), .pointer (some ⟨wb, 0, none⟩), .int .i64 t0, .int .i64 nd, .int .i64 n0] 72 (0, 0))), g.w.cell? ⟨q1, 9, none⟩ = some (.int .i64 now) := fun g => by rw [blk_cell g.h.1]; rfl
                  refine Hist.wp_region_hist (fun W : World => W.heap[q1]? = some (.cells #[.string e.c.a, .string e.c.i, .int .i64 e.c.s, .int .i64 e.c.o, .int .i64 e.c.l, .int .i64 e.c.t, .int .i64 e.c.k, .int .i64 e.c.n, .bool e.c.g, .int .i64 now] 77 (0, 0)) ∧ W.heap[rb]? = some (.cells #[.pointer (some ⟨sb, 0, none⟩), .pointer (some ⟨gb, 0, none⟩), .pointer (some ⟨wb, 0, none⟩), .int .i64 t0, .int .i64 nd, .int .i64 n0] 72 (0, 0))) (by kernel_rfl) (by kernel_rfl) (by kernel_rfl) ⟨HQ7.out, HP7.out.d⟩ ?_
                  clear HQ67 D67 D7
                  generalize wq.drew = w7 at *
                  repeat (first | (refine Hist.wpG_plain 0 _ (by decide +kernel) rfl (by rfl) (by rfl) (fun K hK => ?_); go_big_quiet_op; refine hK _ ?_; clear hK K))
                  refine Hist.wpG_call (by rfl) (by rfl) (fun K hK => ?_)
                  go_big_op
                  refine (rsPut sb S.es (⟨e.c, now⟩ : En) w7 HP7.out.s HIB.out.asc (by have := HIB.out.len; omega) (.inl (by show isIn (enK e) S.es = true; rw [HEK.out]; exact HB.out))).mono ?_
                  rintro r w9 ⟨rfl, hp9, hr9⟩
                  have hk9 : ∀ (b : Nat) (cs : Array Value) (T : TypeId), T ≠ 72 → T ≠ 67 → T ≠ 104 → T ≠ 75 → w7.heap[b]? = some (.cells cs T (0, 0)) → w9.heap[b]? = w7.heap[b]? := fun b cs T k1 k2 k3 k4 hc => HP7.out.keepB (Rim4.s hr9) hc k1 k2 k3 k4
                  have HQ9 := Lib.hid ((hk9 _ _ _ (by decide) (by decide) (by decide) (by decide) HQ7.out).trans HQ7.out)
                  have HO9 := Lib.hid (show OwnC w.heap.size w9 (.slice ga m gc) S.out from own_blocks HO7.out fun b cur hc => hk9 _ _ _ (by decide) (by decide) (by decide) (by decide) hc)
                  have HP9 := Lib.hid (HP7.out.sh hp9 hr9)
                  have HR9 := Lib.hid (HR7.out.trans (Rim4.s hr9))
                  refine hK _ _ ⟨(fun W : World => W.heap[q1]? = some (.cells #[.string e.c.a, .string e.c.i, .int .i64 e.c.s, .int .i64 e.c.o, .int .i64 e.c.l, .int .i64 e.c.t, .int .i64 e.c.k, .int .i64 e.c.n, .bool e.c.g, .int .i64 now] 77 (0, 0)) ∧ W.heap[rb]? = some (.cells #[.pointer (some ⟨sb, 0, none⟩), .pointer (some ⟨gb, 0, none⟩), .pointer (some ⟨wb, 0, none⟩), .int .i64 t0, .int .i64 nd, .int .i64 n0] 72 (0, 0))), (by simp only [List.cons_append, List.nil_append, List.forall_mem_cons]; repeat' (first | exact ⟨HQ9.out, HP9.out.d⟩ | (intro _ h; cases h; done) | (exact trivial) | constructor)), ?_⟩
                  clear hK K hp9 hr9 hk9 HQ7 HP7 HO7 HR7
                  repeat (first | (refine Hist.wpG_plain 1 _ (by decide +kernel) rfl (by rfl) (by rfl) (fun K hK => ?_); go_big_quiet_op; refine hK _ ?_; clear hK K) | (refine Hist.wpG_plain 0 _ (by decide +kernel) rfl (by rfl) (by rfl) (fun K hK => ?_); go_big_quiet_op; refine hK _ ?_; clear hK K))
                  refine Hist.wpG_nil ?_
                  clear hI0 hL0 hM0 hD0 hB0_0 hB0_1 hB0_2 hB0_3 hB0_4 hB0_5 hB0_6 hB0_7 hB0_8 hB0_9
                  go_wp2
                  go_roundw
                  case rel => exact ⟨J + 1, by omega, by go_num, by rw [HST.out, HS2.out, HRF.out], by rw [HST.out, HS2.out]; exact HO9.out, by rw [HST.out, HS2.out]; exact HP9.out, HR9.out⟩
                  case measure => simp [intOf]; omega
                · rw [hgg] at hqc
                  clear hgg
                  have HS2 := Lib.hid (show into1 now S y = S from into_no HYZ.out HB.out HL3.out (fun q => by have h9 : (ge S.es (y.a, y.i)).c.g = false := q.2; rw [HE.out, HGG.out] at h9; cases h9))
                  go_wp2
                  go_roundw
                  case rel => exact ⟨J + 1, by omega, by go_num, by rw [HST.out, HS2.out, HRF.out], by rw [HST.out, HS2.out]; exact HO6.out, by rw [HST.out, HS2.out]; exact HP6.out, HR6.out⟩
                  case measure => simp [intOf]; omega
              · have HS3 := Lib.hid (show ¬(s1 = true ∧ s2 = true ∧ s3 = true) from hsm)
                clear hsm
                cases s1
                all_goals cases s2
                all_goals cases s3
                all_goals first
                  | (exact absurd ⟨rfl, rfl, rfl⟩ HS3.out)
                  | skip
                all_goals
                  have HS2 := Lib.hid (show into1 now S y = S from into_no HYZ.out HB.out HL3.out (fun q => HS3.out (HSM.out.2 q.1)))
                  go_wp2
                  go_roundw
                  case rel => exact ⟨J + 1, by omega, by go_num, by rw [HST.out, HS2.out, HRF.out], by rw [HST.out, HS2.out]; exact HO6.out, by rw [HST.out, HS2.out]; exact HP6.out, HR6.out⟩
                  case measure => simp [intOf]; omega
            · go_upto_region 13 with (fail)
              have hxc := blk_cell HX6.out
              have hxl := blk_lt HX6.out
              go_wp2_with fail
              refine (rdSet rb sb gb wb nd t0 n0 S.es g l tt S.ks (⟨y, now⟩ : En) w6 HP6.out HIB.out.asc (by have := HIB.out.len; omega) (.inl HB.out) (by have := HIB.out.ks; have := HKS.out; have := HL.out; omega)).mono ?_
              rintro r w7 ⟨rfl, hp7, hr7⟩
              have HX7 := Lib.hid ((HP6.out.keepB hr7 HX6.out (by decide) (by decide) (by decide) (by decide)).trans HX6.out)
              have HO7 := Lib.hid (show OwnC w.heap.size w7 (.slice ga m gc) S.out from own_blocks HO6.out fun b cur hc => HP6.out.keepB hr7 hc (by decide) (by decide) (by decide) (by decide))
              have HP7 := Lib.hid hp7
              have HR7 := Lib.hid (HR6.out.trans hr7)
              have HS2 := Lib.hid (show into1 now S y = ⟨putE S.es ⟨y, now⟩, S.ks ++ [ck y], S.out ++ [y], S.ref⟩ from into_set HYZ.out (.inr (by show ltC (ge S.es (y.a, y.i)).c y = true; rw [HE.out]; exact HTB.out)) (.inl HB.out))
              clear hp7 hr7 hxc hxl HX6 HO6 HP6 HR6
              have hxc := blk_cell HX7.out
              have hxl := blk_lt HX7.out
              have hz9 := HR7.out.size
              have D8 := (Below.refl w7.heap.size w7).alloc (Nat.le_refl _) (.cells #[.string y.a, .string y.i, .int .i64 y.s, .int .i64 y.o, .int .i64 y.l, .int .i64 y.t, .int .i64 y.k, .int .i64 y.n, .bool y.g] 34)
              have HV8 := Lib.hid (blk_new w7 #[.string y.a, .string y.i, .int .i64 y.s, .int .i64 y.o, .int .i64 y.l, .int .i64 y.t, .int .i64 y.k, .int .i64 y.n, .bool y.g] 34)
              have HP8 := Lib.hid (HP7.out.ext D8)
              have HO8 := Lib.hid (show (w7.alloc (.cells #[.string y.a, .string y.i, .int .i64 y.s, .int .i64 y.o, .int .i64 y.l, .int .i64 y.t, .int .i64 y.k, .int .i64 y.n, .bool y.g] 34)).ownsRow w.heap.size 34 9 (.slice ga m gc) m (flat cc S.out) from by
                have h9 := OwnR.ext HO7.out D8
                unfold OwnR at h9
                rwa [HM.out] at h9)
              have HR8 := Lib.hid (HR7.out.trans (Rim4.of D8))
              clear D8 HP7 HO7 HR7
              go_wp2_with (at_builtin; refine wpList_append_own _ rfl _ _ 28 rfl (w.heap.size) 34 i0 Cd.zero.v 9 88 Try.underlying28 hi hz0 hz1 hz2 rfl (by decide) (.slice ga m gc) m (flat cc S.out) rfl HO8.out ⟨w7.heap.size, 0, none⟩ 1 1 (cc y) rfl rfl ?c1 ?c2 ?c3 ?c4 ?c5 ?_)
              case c1 => intro j u hj; rw [add_off, Nat.zero_add, blk_cell HV8.out]; simpa [cc] using hj
              case c2 => exact cc_one y
              case c3 => unfold maxLen; omega
              case c4 => omega
              case c5 => first | omega | (simp; omega)
              intro v9 w9 ho9 hg9 _
              have HO9 := Lib.hid (show OwnC w.heap.size w9 v9 (S.out ++ [y]) from by unfold OwnC OwnR; rw [flat_snoc, List.length_append, HM.out]; exact ho9)
              have HP9 := Lib.hid (HP8.out.grownC hg9 HO8.out)
              have HR9 := Lib.hid (show Rim4 rb sb gb wb w w9 from ⟨hg9.os.trans HR8.out.os, hg9.tape.trans HR8.out.tape, hg9.output.trans HR8.out.output, Nat.le_trans HR8.out.size hg9.size, fun b ha hb hc hd hl => (hg9.block b (Nat.lt_of_lt_of_le hl HR8.out.size) (fun e => by have h9 := own_ge HO8.out e.symm; omega)).trans (HR8.out.block b ha hb hc hd hl)⟩)
              clear ho9 hg9 HO8 HP8 HR8 HV8 hxc hxl hz9
              go_wp2
              go_roundw
              case rel => exact ⟨J + 1, by omega, by go_num, by rw [HST.out, HS2.out, HRF.out], by rw [HST.out, HS2.out]; exact HO9.out, by rw [HST.out, HS2.out]; exact HP9.out, HR9.out⟩
              case measure => simp [intOf]; omega
    · have hdJ : decide ((J : Int) < (n : Int)) = false := by simp; omega
      have hall : ls.take J = ls := List.take_of_length_le (by have := HL.out; omega)
      have HSF := Lib.hid (show (intoL now ⟨es, ks, [], 0⟩ ls) = S from by rw [← HSE.out, hall])
      clear hall
      go_wp2
      go_ret2
      refine ⟨_, by rw [HSF.out, HRF.out]; rfl, ?_, ?_, HR2.out⟩
      · rw [HSF.out]; have h9 := HO2.out; exact h9
      · rw [HSF.out]; exact HP2.out

end Go.Proofs.Ytloeabdohgdmkaa
