/- A desk: renew. -/
import Derived.Test.YtcjpemphdgndkaaGreatDkEY
import Derived.Test.YtcjpemphdgndkaaGreatHistY
namespace Go.Proofs.YtcjpemphdgndkaaGreat
open Go.RowKit
set_option linter.unusedVariables false
set_option linter.unusedSimpArgs false

set_option maxRecDepth 100000 in
set_option maxHeartbeats 4000000 in
theorem deskRenew (db : Nat) (nd t0 k0 n0 : Int) (es : List En) (g l tt : Int) (ks : List Ky) (k : Ky) (now : Int) (w : World) (h : DkP w db nd t0 k0 n0 es g l tt ks) (hs : Asc es) (hn : es.length ≤ 900) (htt0 : 0 ≤ tt) (htt1 : tt ≤ 1048576) :
    Calls Tryz.prog 89 #[.pointer (some ⟨db, 0, none⟩), .agg #[.string k.1, .string k.2], .int .i64 now] w fun r w' => (isIn k es = true ∧ (ge es k).c.g = false ∧ r = .returned (.int .i64 0) ∧ DkP w' db nd t0 k0 n0 (putE es (renE (ge es k) now)) g l (if tt + 1 ≤ 1048576 then tt + 1 else 1048576) ks ∧ Rim db w w') ∨ ((isIn k es = false ∨ (ge es k).c.g = true) ∧ r = .returned (.int .i64 22) ∧ Below w.heap.size w w') := by
  obtain ⟨TQ, hTQ⟩ : ∃ T, (if tt + 1 ≤ 1048576 then tt + 1 else 1048576) = T := ⟨_, rfl⟩
  rw [hTQ]
  have HTQ := Lib.hid hTQ
  clear hTQ
  have D0 := Lib.hid (show Below w.heap.size w (w.alloc (.cells #[.string k.1, .string k.2] 28)) from (Below.refl _ _).alloc (Nat.le_refl _) _)
  have HK := Lib.hid (blk_new w #[.string k.1, .string k.2] 28)
  have HP := Lib.hid (h.ext D0.out)
  have HAS := Lib.hid hs
  obtain ⟨e, he⟩ : ∃ e, ge es k = e := ⟨_, rfl⟩
  obtain ⟨b, hb⟩ : ∃ b, isIn k es = b := ⟨_, rfl⟩
  have HE := Lib.hid he
  have HB := Lib.hid hb
  have hlt := h.lt
  clear h hs he hb
  obtain ⟨f, hf⟩ : ∃ f, renE e now = f := ⟨_, rfl⟩
  obtain ⟨v, hv⟩ : ∃ v, (!e.c.g) = v := ⟨_, rfl⟩
  have HF := Lib.hid hf
  have HV := Lib.hid hv
  clear hf hv
  go_enter Tryz.func89, Tryz.ntmps89
  go_upto_region 1 with (fail)
  obtain ⟨p, hp⟩ : ∃ p, w.heap.size = p := ⟨_, rfl⟩
  have hpd : p ≠ db := by omega
  have HPW := Lib.hid hp
  rw [hp] at HK
  try rw [hp]
  clear hp hlt
  generalize (w.alloc (.cells #[.string k.1, .string k.2] 28)) = w1 at *
  refine wp_region_inv_eq (J := fun A d act x => ∃ u12 u13 u14 u15 u16 u11 u17 u18 u7 u8 : Value, act = ((((((((((A.put (some 12) u12).put (some 13) u13).put (some 14) u14).put (some 15) u15).put (some 16) u16).put (some 11) u11).put (some 17) u17).put (some 18) u18).put (some 7) u7).put (some 8) u8) ∧ (d 0 = true → u12 = .pointer (some ⟨db, 0, none⟩)) ∧ (d 1 = true → u13 = .pointer (some ⟨db, 0, none⟩)) ∧ (d 2 = true → u14 = .pointer (some ⟨db, 4, none⟩)) ∧ (d 3 = true → u15 = .agg #[.string k.1, .string k.2]) ∧ (d 4 = true → u16 = .tuple #[.agg #[.string e.c.a, .string e.c.i, .int .i64 e.c.s, .int .i64 e.c.o, .int .i64 e.c.l, .int .i64 e.c.t, .int .i64 e.c.k, .int .i64 e.c.n, .bool e.c.g, .int .i64 e.seen], .bool b]) ∧ (d 5 = true → u11 = .tuple #[.agg #[.string e.c.a, .string e.c.i, .int .i64 e.c.s, .int .i64 e.c.o, .int .i64 e.c.l, .int .i64 e.c.t, .int .i64 e.c.k, .int .i64 e.c.n, .bool e.c.g, .int .i64 e.seen], .bool b]) ∧ (d 6 = true → u17 = .agg #[.string e.c.a, .string e.c.i, .int .i64 e.c.s, .int .i64 e.c.o, .int .i64 e.c.l, .int .i64 e.c.t, .int .i64 e.c.k, .int .i64 e.c.n, .bool e.c.g, .int .i64 e.seen]) ∧ (d 7 = true → u18 = .bool b) ∧ (d 8 = true → (∃ b : Nat, u7 = .pointer (some ⟨b, 0, none⟩) ∧ w1.heap.size ≤ b ∧ (d 9 = false → x.heap[b]? = some (.cells #[.string ⟨#[]⟩, .string ⟨#[]⟩, .int .i64 0, .int .i64 0, .int .i64 0, .int .i64 0, .int .i64 0, .int .i64 0, .bool false, .int .i64 0] 58 (0, 0))) ∧ (d 9 = true → x.heap[b]? = some (.cells #[.string e.c.a, .string e.c.i, .int .i64 e.c.s, .int .i64 e.c.o, .int .i64 e.c.l, .int .i64 e.c.t, .int .i64 e.c.k, .int .i64 e.c.n, .bool e.c.g, .int .i64 e.seen] 58 (0, 0))))) ∧ (d 10 = true → u8 = .bool b) ∧ Below w1.heap.size w1 x ∧ (d 9 = true → d 8 = true)) (by simp only [Act.put, List.setIfInBounds_toArray, List.set_cons_succ, List.set_cons_zero]; rfl) (by kernel_rfl) (by kernel_rfl) ?_ ?_ ?_
  · refine ⟨_, _, _, _, _, _, _, _, _, _, rfl, ?_, ?_, ?_, ?_, ?_, ?_, ?_, ?_, ?_, ?_, ?_, ?_⟩
    · intro h; cases h
    · intro h; cases h
    · intro h; cases h
    · intro h; cases h
    · intro h; cases h
    · intro h; cases h
    · intro h; cases h
    · intro h; cases h
    · intro h; cases h
    · intro h; cases h
    · exact ((Below.refl _ _).drew)
    · exact (fun h => by cases h)
  · refine stepsOk_cons (k := 0) ?_ (stepsOk_cons (k := 1) ?_ (stepsOk_cons (k := 2) ?_ (stepsOk_cons (k := 3) ?_ (stepsOk_cons (k := 4) ?_ (stepsOk_cons (k := 5) ?_ (stepsOk_cons (k := 6) ?_ (stepsOk_cons (k := 7) ?_ (stepsOk_cons (k := 8) ?_ (stepsOk_cons (k := 9) ?_ (stepsOk_cons (k := 10) ?_ stepsOk_nil))))))))))
    · unfold StepOk
      rintro d act x ⟨u12, u13, u14, u15, u16, u11, u17, u18, u7, u8, rfl, f0, f1, f2, f3, f4, f5, f6, f7, f8, f10, g0, g1⟩ hd hdep Kc hKc
      rw [if_pos (by rfl)]
      go_big_op
      refine hKc _ _ ⟨_, _, _, _, _, _, _, _, _, _, rfl, ?_, ?_, ?_, ?_, ?_, ?_, ?_, ?_, ?_, ?_, ?_, ?_⟩
      · exact (fun _ => rfl)
      · exact (fun h => f1 (up h rfl))
      · exact (fun h => f2 (up h rfl))
      · exact (fun h => f3 (up h rfl))
      · exact (fun h => f4 (up h rfl))
      · exact (fun h => f5 (up h rfl))
      · exact (fun h => f6 (up h rfl))
      · exact (fun h => f7 (up h rfl))
      · exact (fun h => by obtain ⟨b, e, hb, h1, h2⟩ := f8 (up h rfl); exact ⟨b, e, hb, fun h => (h1 (dn h)), fun h => (h2 (up h rfl))⟩)
      · exact (fun h => f10 (up h rfl))
      · exact g0
      · exact (fun h => upl (g1 (up h rfl)))
    · unfold StepOk
      rintro d act x ⟨u12, u13, u14, u15, u16, u11, u17, u18, u7, u8, rfl, f0, f1, f2, f3, f4, f5, f6, f7, f8, f10, g0, g1⟩ hd hdep Kc hKc
      have hd0 : d 0 = true := hdep ⟨0, .data⟩ (by simp) rfl
      obtain rfl := f0 hd0
      rw [if_pos (by rfl)]
      go_big_op
      refine hKc _ _ ⟨_, _, _, _, _, _, _, _, _, _, rfl, ?_, ?_, ?_, ?_, ?_, ?_, ?_, ?_, ?_, ?_, ?_, ?_⟩
      · exact (fun h => f0 (up h rfl))
      · exact (fun _ => rfl)
      · exact (fun h => f2 (up h rfl))
      · exact (fun h => f3 (up h rfl))
      · exact (fun h => f4 (up h rfl))
      · exact (fun h => f5 (up h rfl))
      · exact (fun h => f6 (up h rfl))
      · exact (fun h => f7 (up h rfl))
      · exact (fun h => by obtain ⟨b, e, hb, h1, h2⟩ := f8 (up h rfl); exact ⟨b, e, hb, fun h => (h1 (dn h)), fun h => (h2 (up h rfl))⟩)
      · exact (fun h => f10 (up h rfl))
      · exact g0
      · exact (fun h => upl (g1 (up h rfl)))
    · unfold StepOk
      rintro d act x ⟨u12, u13, u14, u15, u16, u11, u17, u18, u7, u8, rfl, f0, f1, f2, f3, f4, f5, f6, f7, f8, f10, g0, g1⟩ hd hdep Kc hKc
      have hd1 : d 1 = true := hdep ⟨1, .data⟩ (by simp) rfl
      obtain rfl := f1 hd1
      rw [if_pos (by rfl)]
      go_big_op
      refine hKc _ _ ⟨_, _, _, _, _, _, _, _, _, _, rfl, ?_, ?_, ?_, ?_, ?_, ?_, ?_, ?_, ?_, ?_, ?_, ?_⟩
      · exact (fun h => f0 (up h rfl))
      · exact (fun h => f1 (up h rfl))
      · exact (fun _ => rfl)
      · exact (fun h => f3 (up h rfl))
      · exact (fun h => f4 (up h rfl))
      · exact (fun h => f5 (up h rfl))
      · exact (fun h => f6 (up h rfl))
      · exact (fun h => f7 (up h rfl))
      · exact (fun h => by obtain ⟨b, e, hb, h1, h2⟩ := f8 (up h rfl); exact ⟨b, e, hb, fun h => (h1 (dn h)), fun h => (h2 (up h rfl))⟩)
      · exact (fun h => f10 (up h rfl))
      · exact g0
      · exact (fun h => upl (g1 (up h rfl)))
    · unfold StepOk
      rintro d act x ⟨u12, u13, u14, u15, u16, u11, u17, u18, u7, u8, rfl, f0, f1, f2, f3, f4, f5, f6, f7, f8, f10, g0, g1⟩ hd hdep Kc hKc
      have hx := blk_cell (blk_ext g0 HK.out)
      have hxl := blk_lt (blk_ext g0 HK.out)
      rw [if_pos (by rfl)]
      go_big_op
      refine hKc _ _ ⟨_, _, _, _, _, _, _, _, _, _, rfl, ?_, ?_, ?_, ?_, ?_, ?_, ?_, ?_, ?_, ?_, ?_, ?_⟩
      · exact (fun h => f0 (up h rfl))
      · exact (fun h => f1 (up h rfl))
      · exact (fun h => f2 (up h rfl))
      · exact (fun _ => rfl)
      · exact (fun h => f4 (up h rfl))
      · exact (fun h => f5 (up h rfl))
      · exact (fun h => f6 (up h rfl))
      · exact (fun h => f7 (up h rfl))
      · exact (fun h => by obtain ⟨b, e, hb, h1, h2⟩ := f8 (up h rfl); exact ⟨b, e, hb, fun h => (h1 (dn h)), fun h => (h2 (up h rfl))⟩)
      · exact (fun h => f10 (up h rfl))
      · exact g0
      · exact (fun h => upl (g1 (up h rfl)))
    · unfold StepOk
      rintro d act x ⟨u12, u13, u14, u15, u16, u11, u17, u18, u7, u8, rfl, f0, f1, f2, f3, f4, f5, f6, f7, f8, f10, g0, g1⟩ hd hdep Kc hKc
      have hd2 : d 2 = true := hdep ⟨2, .data⟩ (by simp) rfl
      have hd3 : d 3 = true := hdep ⟨3, .data⟩ (by simp) rfl
      obtain rfl := f2 hd2
      obtain rfl := f3 hd3
      rw [if_pos (by rfl)]
      go_big_op
      refine (dkGetP db nd t0 k0 n0 es g l tt ks k x (HP.out.ext g0) HAS.out hn e b HE.out HB.out).mono ?_
      rintro e x1 ⟨rfl, hb1⟩
      refine hKc _ _ ⟨_, _, _, _, _, _, _, _, _, _, rfl, ?_, ?_, ?_, ?_, ?_, ?_, ?_, ?_, ?_, ?_, ?_, ?_⟩
      · exact (fun h => f0 (up h rfl))
      · exact (fun h => f1 (up h rfl))
      · exact (fun h => f2 (up h rfl))
      · exact (fun h => f3 (up h rfl))
      · exact (fun _ => rfl)
      · exact (fun h => f5 (up h rfl))
      · exact (fun h => f6 (up h rfl))
      · exact (fun h => f7 (up h rfl))
      · exact (fun h => by obtain ⟨b, e, hb, h1, h2⟩ := f8 (up h rfl); exact ⟨b, e, hb, fun h => blk_ext hb1 (h1 (dn h)), fun h => blk_ext hb1 (h2 (up h rfl))⟩)
      · exact (fun h => f10 (up h rfl))
      · exact (ext_trans g0 hb1)
      · exact (fun h => upl (g1 (up h rfl)))
    · unfold StepOk
      rintro d act x ⟨u12, u13, u14, u15, u16, u11, u17, u18, u7, u8, rfl, f0, f1, f2, f3, f4, f5, f6, f7, f8, f10, g0, g1⟩ hd hdep Kc hKc
      have hd4 : d 4 = true := hdep ⟨4, .data⟩ (by simp) rfl
      obtain rfl := f4 hd4
      rw [if_pos (by rfl)]
      go_big_op
      refine hKc _ _ ⟨_, _, _, _, _, _, _, _, _, _, rfl, ?_, ?_, ?_, ?_, ?_, ?_, ?_, ?_, ?_, ?_, ?_, ?_⟩
      · exact (fun h => f0 (up h rfl))
      · exact (fun h => f1 (up h rfl))
      · exact (fun h => f2 (up h rfl))
      · exact (fun h => f3 (up h rfl))
      · exact (fun h => f4 (up h rfl))
      · exact (fun _ => rfl)
      · exact (fun h => f6 (up h rfl))
      · exact (fun h => f7 (up h rfl))
      · exact (fun h => by obtain ⟨b, e, hb, h1, h2⟩ := f8 (up h rfl); exact ⟨b, e, hb, fun h => (h1 (dn h)), fun h => (h2 (up h rfl))⟩)
      · exact (fun h => f10 (up h rfl))
      · exact g0
      · exact (fun h => upl (g1 (up h rfl)))
    · unfold StepOk
      rintro d act x ⟨u12, u13, u14, u15, u16, u11, u17, u18, u7, u8, rfl, f0, f1, f2, f3, f4, f5, f6, f7, f8, f10, g0, g1⟩ hd hdep Kc hKc
      have hd5 : d 5 = true := hdep ⟨5, .data⟩ (by simp) rfl
      obtain rfl := f5 hd5
      rw [if_pos (by rfl)]
      go_big_op
      refine hKc _ _ ⟨_, _, _, _, _, _, _, _, _, _, rfl, ?_, ?_, ?_, ?_, ?_, ?_, ?_, ?_, ?_, ?_, ?_, ?_⟩
      · exact (fun h => f0 (up h rfl))
      · exact (fun h => f1 (up h rfl))
      · exact (fun h => f2 (up h rfl))
      · exact (fun h => f3 (up h rfl))
      · exact (fun h => f4 (up h rfl))
      · exact (fun h => f5 (up h rfl))
      · exact (fun _ => rfl)
      · exact (fun h => f7 (up h rfl))
      · exact (fun h => by obtain ⟨b, e, hb, h1, h2⟩ := f8 (up h rfl); exact ⟨b, e, hb, fun h => (h1 (dn h)), fun h => (h2 (up h rfl))⟩)
      · exact (fun h => f10 (up h rfl))
      · exact g0
      · exact (fun h => upl (g1 (up h rfl)))
    · unfold StepOk
      rintro d act x ⟨u12, u13, u14, u15, u16, u11, u17, u18, u7, u8, rfl, f0, f1, f2, f3, f4, f5, f6, f7, f8, f10, g0, g1⟩ hd hdep Kc hKc
      have hd5 : d 5 = true := hdep ⟨5, .data⟩ (by simp) rfl
      obtain rfl := f5 hd5
      rw [if_pos (by rfl)]
      go_big_op
      refine hKc _ _ ⟨_, _, _, _, _, _, _, _, _, _, rfl, ?_, ?_, ?_, ?_, ?_, ?_, ?_, ?_, ?_, ?_, ?_, ?_⟩
      · exact (fun h => f0 (up h rfl))
      · exact (fun h => f1 (up h rfl))
      · exact (fun h => f2 (up h rfl))
      · exact (fun h => f3 (up h rfl))
      · exact (fun h => f4 (up h rfl))
      · exact (fun h => f5 (up h rfl))
      · exact (fun h => f6 (up h rfl))
      · exact (fun _ => rfl)
      · exact (fun h => by obtain ⟨b, e, hb, h1, h2⟩ := f8 (up h rfl); exact ⟨b, e, hb, fun h => (h1 (dn h)), fun h => (h2 (up h rfl))⟩)
      · exact (fun h => f10 (up h rfl))
      · exact g0
      · exact (fun h => upl (g1 (up h rfl)))
    · unfold StepOk
      rintro d act x ⟨u12, u13, u14, u15, u16, u11, u17, u18, u7, u8, rfl, f0, f1, f2, f3, f4, f5, f6, f7, f8, f10, g0, g1⟩ hd hdep Kc hKc
      rw [if_pos (by rfl)]
      go_big_op
      refine hKc _ _ ⟨_, _, _, _, _, _, _, _, _, _, rfl, ?_, ?_, ?_, ?_, ?_, ?_, ?_, ?_, ?_, ?_, ?_, ?_⟩
      · exact (fun h => f0 (up h rfl))
      · exact (fun h => f1 (up h rfl))
      · exact (fun h => f2 (up h rfl))
      · exact (fun h => f3 (up h rfl))
      · exact (fun h => f4 (up h rfl))
      · exact (fun h => f5 (up h rfl))
      · exact (fun h => f6 (up h rfl))
      · exact (fun h => f7 (up h rfl))
      · exact (fun _ => ⟨_, rfl, g0.size, fun _ => blk_new _ _ _, fun h => absurd (g1 (up h rfl)) (by rw [hd]; simp)⟩)
      · exact (fun h => f10 (up h rfl))
      · exact (g0.alloc g0.size _)
      · exact (fun h => upl (g1 (up h rfl)))
    · unfold StepOk
      rintro d act x ⟨u12, u13, u14, u15, u16, u11, u17, u18, u7, u8, rfl, f0, f1, f2, f3, f4, f5, f6, f7, f8, f10, g0, g1⟩ hd hdep Kc hKc
      have hd8 : d 8 = true := hdep ⟨8, .data⟩ (by simp) rfl
      have hd6 : d 6 = true := hdep ⟨6, .data⟩ (by simp) rfl
      have hd6 : d 6 = true := hdep ⟨6, .phase⟩ (by simp) rfl
      have hd8 : d 8 = true := hdep ⟨8, .phase⟩ (by simp) rfl
      obtain ⟨nb, rfl, hnb, hz, hf⟩ := f8 hd8
      obtain rfl := f6 hd6
      have HZ := hz hd
      have hbc := blk_cell HZ
      have hbf := blk_free HZ
      have hbl := blk_lt HZ
      rw [if_pos (by rfl)]
      go_big_op
      have HFF := blk_fill10 (v0 := .string e.c.a) (v1 := .string e.c.i) (v2 := .int .i64 e.c.s) (v3 := .int .i64 e.c.o) (v4 := .int .i64 e.c.l) (v5 := .int .i64 e.c.t) (v6 := .int .i64 e.c.k) (v7 := .int .i64 e.c.n) (v8 := .bool e.c.g) (v9 := .int .i64 e.seen) HZ rfl
      have HBB := below_fill10 (v0 := .string e.c.a) (v1 := .string e.c.i) (v2 := .int .i64 e.c.s) (v3 := .int .i64 e.c.o) (v4 := .int .i64 e.c.l) (v5 := .int .i64 e.c.t) (v6 := .int .i64 e.c.k) (v7 := .int .i64 e.c.n) (v8 := .bool e.c.g) (v9 := .int .i64 e.seen) g0 hnb
      refine hKc _ _ ⟨_, _, _, _, _, _, _, _, _, _, rfl, ?_, ?_, ?_, ?_, ?_, ?_, ?_, ?_, ?_, ?_, ?_, ?_⟩
      · exact (fun h => f0 (up h rfl))
      · exact (fun h => f1 (up h rfl))
      · exact (fun h => f2 (up h rfl))
      · exact (fun h => f3 (up h rfl))
      · exact (fun h => f4 (up h rfl))
      · exact (fun h => f5 (up h rfl))
      · exact (fun h => f6 (up h rfl))
      · exact (fun h => f7 (up h rfl))
      · exact (fun h => ⟨nb, rfl, hnb, fun h => by simp at h, fun _ => HFF⟩)
      · exact (fun h => f10 (up h rfl))
      · exact HBB
      · exact (fun h => upl hd8)
    · unfold StepOk
      rintro d act x ⟨u12, u13, u14, u15, u16, u11, u17, u18, u7, u8, rfl, f0, f1, f2, f3, f4, f5, f6, f7, f8, f10, g0, g1⟩ hd hdep Kc hKc
      have hd7 : d 7 = true := hdep ⟨7, .data⟩ (by simp) rfl
      have hd7 : d 7 = true := hdep ⟨7, .phase⟩ (by simp) rfl
      obtain rfl := f7 hd7
      rw [if_pos (by rfl)]
      go_big_op
      refine hKc _ _ ⟨_, _, _, _, _, _, _, _, _, _, rfl, ?_, ?_, ?_, ?_, ?_, ?_, ?_, ?_, ?_, ?_, ?_, ?_⟩
      · exact (fun h => f0 (up h rfl))
      · exact (fun h => f1 (up h rfl))
      · exact (fun h => f2 (up h rfl))
      · exact (fun h => f3 (up h rfl))
      · exact (fun h => f4 (up h rfl))
      · exact (fun h => f5 (up h rfl))
      · exact (fun h => f6 (up h rfl))
      · exact (fun h => f7 (up h rfl))
      · exact (fun h => by obtain ⟨b, e, hb, h1, h2⟩ := f8 (up h rfl); exact ⟨b, e, hb, fun h => (h1 (dn h)), fun h => (h2 (up h rfl))⟩)
      · exact (fun _ => rfl)
      · exact g0
      · exact (fun h => upl (g1 (up h rfl)))
  · rintro d act x ⟨u12, u13, u14, u15, u16, u11, u17, u18, u7, u8, rfl, f0, f1, f2, f3, f4, f5, f6, f7, f8, f10, g0, g1⟩ hall
    obtain rfl := f0 (hall 0 (by decide))
    obtain rfl := f1 (hall 1 (by decide))
    obtain rfl := f2 (hall 2 (by decide))
    obtain rfl := f3 (hall 3 (by decide))
    obtain rfl := f4 (hall 4 (by decide))
    obtain rfl := f5 (hall 5 (by decide))
    obtain rfl := f6 (hall 6 (by decide))
    obtain rfl := f7 (hall 7 (by decide))
    obtain ⟨nb, rfl, hnb, hz, hf⟩ := f8 (hall 8 (by decide))
    obtain rfl := f10 (hall 10 (by decide))
    have HNB := Lib.hid (hf (hall 9 (by decide)))
    have HWB := Lib.hid g0
    have HNL := Lib.hid hnb
    clear f0 f1 f2 f3 f4 f5 f6 f7 f8 f10 g1 hz hf hall g0 hnb
    obtain ⟨y1, rfl⟩ : ∃ y : World, y = x := ⟨_, rfl⟩
    obtain ⟨q1, rfl⟩ : ∃ y : Nat, y = nb := ⟨_, rfl⟩
    clear d
    have HQ1 := Lib.hid HNB.out
    have HP1 := Lib.hid (HP.out.ext HWB.out)
    have D1 := Lib.hid (ext_trans D0.out HWB.out)
    clear HNB HWB HNL HK HP D0
    have NO : RowKit.Hid ((b = false ∨ v = false) → isIn k es = false ∨ (ge es k).c.g = true) := Lib.hid <| by
      intro h
      rw [HE.out, HB.out]
      rcases h with h | h
      · exact .inl h
      · right
        have := HV.out
        rw [h] at this
        simpa using this
    have hc := blk_cell HQ1.out
    have hl := blk_lt HQ1.out
    go_wp2_with fail
    refine (leaseRenewP e now f v y1 HF.out HV.out).mono ?_
    rintro r y2 ⟨rfl, hb2⟩
    have HP2 := Lib.hid (HP1.out.ext hb2)
    have D2 := Lib.hid (ext_trans D1.out hb2)
    clear hc hl hb2 HP1 D1 HQ1
    go_upto_region 3 with (fail)
    obtain ⟨q2, hq2⟩ : ∃ q, y2.heap.size = q := ⟨_, rfl⟩
    have HQ3 := Lib.hid (blk_new y2 #[.string f.c.a, .string f.c.i, .int .i64 f.c.s, .int .i64 f.c.o, .int .i64 f.c.l, .int .i64 f.c.t, .int .i64 f.c.k, .int .i64 f.c.n, .bool f.c.g, .int .i64 f.seen] 58)
    have hb3 : Below y2.heap.size y2 (y2.alloc (.cells #[.string f.c.a, .string f.c.i, .int .i64 f.c.s, .int .i64 f.c.o, .int .i64 f.c.l, .int .i64 f.c.t, .int .i64 f.c.k, .int .i64 f.c.n, .bool f.c.g, .int .i64 f.seen] 58)) := (Below.refl _ _).alloc (Nat.le_refl _) _
    rw [hq2] at HQ3
    try rw [hq2]
    have HP3 := Lib.hid (HP2.out.ext hb3)
    have D3 := Lib.hid (ext_trans D2.out hb3)
    have hqd : q2 ≠ db := by rw [← hq2]; exact (Nat.ne_of_lt HP2.out.lt).symm
    clear hb3 hq2 HP2 D2
    generalize (y2.alloc (.cells #[.string f.c.a, .string f.c.i, .int .i64 f.c.s, .int .i64 f.c.o, .int .i64 f.c.l, .int .i64 f.c.t, .int .i64 f.c.k, .int .i64 f.c.n, .bool f.c.g, .int .i64 f.seen] 58)) = y3 at *
    cases b
    · go_wp2
      go_returns
      exact .inr ⟨NO.out (by simp), rfl, D3.out⟩
    · cases v
      · go_wp2
        go_returns
        exact .inr ⟨NO.out (by simp), rfl, D3.out⟩
      · have hg : e.c.g = false := by simpa using HV.out
        have hk : enK f = k := by rw [← HF.out, enK_ren hg, ← HE.out]; exact (ge_yes HB.out).2
        have HG := Lib.hid hg
        have HKK := Lib.hid hk
        clear hg hk NO
        go_wp2_with fail
        refine (deskGRenew db nd t0 k0 n0 es g l tt ks y3 HP3.out htt0 htt1).mono ?_
        rintro r y4 ⟨rfl, hd4, hr4⟩
        rw [HTQ.out] at hd4
        have HP4 := Lib.hid hd4
        have HQ4 := Lib.hid ((hr4.block q2 hqd (blk_lt HQ3.out)).trans HQ3.out)
        have HR4 := Lib.hid ((Rim.of D3.out).trans hr4)
        clear hd4 hr4 HP3 HQ3 D3
        go_upto_region 6 with (fail)
        haveI hI1 : Nonempty (In (fun W : World => W.heap[q2]? = some (.cells #[.string f.c.a, .string f.c.i, .int .i64 f.c.s, .int .i64 f.c.o, .int .i64 f.c.l, .int .i64 f.c.t, .int .i64 f.c.k, .int .i64 f.c.n, .bool f.c.g, .int .i64 f.seen] 58 (0, 0)))) := ⟨⟨_, HQ4.out⟩⟩
        have hL1 : ∀ g : In (fun W : World => W.heap[q2]? = some (.cells #[.string f.c.a, .string f.c.i, .int .i64 f.c.s, .int .i64 f.c.o, .int .i64 f.c.l, .int .i64 f.c.t, .int .i64 f.c.k, .int .i64 f.c.n, .bool f.c.g, .int .i64 f.seen] 58 (0, 0))), q2 < g.w.heap.size := fun g => blk_lt g.h
        have hB1_0 : ∀ g : In (fun W : World => W.heap[q2]? = some (.cells #[.string f.c.a, .string f.c.i, .int .i64 f.c.s, .int .i64 f.c.o, .int .i64 f.c.l, .int .i64 f.c.t, .int .i64 f.c.k, .int .i64 f.c.n, .bool f.c.g, .int .i64 f.seen] 58 (0, 0))), g.w.cell? ⟨q2, 0, none⟩ = some (.string f.c.a) := fun g => by rw [blk_cell g.h]; rfl
        have hB1_1 : ∀ g : In (fun W : World => W.heap[q2]? = some (.cells #[.string f.c.a, .string f.c.i, .int .i64 f.c.s, .int .i64 f.c.o, .int .i64 f.c.l, .int .i64 f.c.t, .int .i64 f.c.k, .int .i64 f.c.n, .bool f.c.g, .int .i64 f.seen] 58 (0, 0))), g.w.cell? ⟨q2, 1, none⟩ = some (.string f.c.i) := fun g => by rw [blk_cell g.h]; rfl
        have hB1_2 : ∀ g : In (fun W : World => W.heap[q2]? = some (.cells #[.string f.c.a, .string f.c.i, .int .i64 f.c.s, .int .i64 f.c.o, .int .i64 f.c.l, .int .i64 f.c.t, .int .i64 f.c.k, .int .i64 f.c.n, .bool f.c.g, .int .i64 f.seen] 58 (0, 0))), g.w.cell? ⟨q2, 2, none⟩ = some (.int .i64 f.c.s) := fun g => by rw [blk_cell g.h]; rfl
        have hB1_3 : ∀ g : In (fun W : World => W.heap[q2]? = some (.cells #[.string f.c.a, .string f.c.i, .int .i64 f.c.s, .int .i64 f.c.o, .int .i64 f.c.l, .int .i64 f.c.t, .int .i64 f.c.k, .int .i64 f.c.n, .bool f.c.g, .int .i64 f.seen] 58 (0, 0))), g.w.cell? ⟨q2, 3, none⟩ = some (.int .i64 f.c.o) := fun g => by rw [blk_cell g.h]; rfl
        have hB1_4 : ∀ g : In (fun W : World => W.heap[q2]? = some (.cells #[.string f.c.a, .string f.c.i, .int .i64 f.c.s, .int .i64 f.c.o, .int .i64 f.c.l, .int .i64 f.c.t, .int .i64 f.c.k, .int .i64 f.c.n, .bool f.c.g, .int .i64 f.seen] 58 (0, 0))), g.w.cell? ⟨q2, 4, none⟩ = some (.int .i64 f.c.l) := fun g => by rw [blk_cell g.h]; rfl
        have hB1_5 : ∀ g : In (fun W : World => W.heap[q2]? = some (.cells #[.string f.c.a, .string f.c.i, .int .i64 f.c.s, .int .i64 f.c.o, .int .i64 f.c.l, .int .i64 f.c.t, .int .i64 f.c.k, .int .i64 f.c.n, .bool f.c.g, .int .i64 f.seen] 58 (0, 0))), g.w.cell? ⟨q2, 5, none⟩ = some (.int .i64 f.c.t) := fun g => by rw [blk_cell g.h]; rfl
        have hB1_6 : ∀ g : In (fun W : World => W.heap[q2]? = some (.cells #[.string f.c.a, .string f.c.i, .int .i64 f.c.s, .int .i64 f.c.o, .int .i64 f.c.l, .int .i64 f.c.t, .int .i64 f.c.k, .int .i64 f.c.n, .bool f.c.g, .int .i64 f.seen] 58 (0, 0))), g.w.cell? ⟨q2, 6, none⟩ = some (.int .i64 f.c.k) := fun g => by rw [blk_cell g.h]; rfl
        have hB1_7 : ∀ g : In (fun W : World => W.heap[q2]? = some (.cells #[.string f.c.a, .string f.c.i, .int .i64 f.c.s, .int .i64 f.c.o, .int .i64 f.c.l, .int .i64 f.c.t, .int .i64 f.c.k, .int .i64 f.c.n, .bool f.c.g, .int .i64 f.seen] 58 (0, 0))), g.w.cell? ⟨q2, 7, none⟩ = some (.int .i64 f.c.n) := fun g => by rw [blk_cell g.h]; rfl
        have hB1_8 : ∀ g : In (fun W : World => W.heap[q2]? = some (.cells #[.string f.c.a, .string f.c.i, .int .i64 f.c.s, .int .i64 f.c.o, .int .i64 f.c.l, .int .i64 f.c.t, .int .i64 f.c.k, .int .i64 f.c.n, .bool f.c.g, .int .i64 f.seen] 58 (0, 0))), g.w.cell? ⟨q2, 8, none⟩ = some (.bool f.c.g) := fun g => by rw [blk_cell g.h]; rfl
        have hB1_9 : ∀ g : In (fun W : World => W.heap[q2]? = some (.cells #[.string f.c.a, .string f.c.i, .int .i64 f.c.s, .int .i64 f.c.o, .int .i64 f.c.l, .int .i64 f.c.t, .int .i64 f.c.k, .int .i64 f.c.n, .bool f.c.g, .int .i64 f.seen] 58 (0, 0))), g.w.cell? ⟨q2, 9, none⟩ = some (.int .i64 f.seen) := fun g => by rw [blk_cell g.h]; rfl
        refine Hist.wp_region_hist (fun W : World => W.heap[q2]? = some (.cells #[.string f.c.a, .string f.c.i, .int .i64 f.c.s, .int .i64 f.c.o, .int .i64 f.c.l, .int .i64 f.c.t, .int .i64 f.c.k, .int .i64 f.c.n, .bool f.c.g, .int .i64 f.seen] 58 (0, 0))) (by kernel_rfl) (by kernel_rfl) (by kernel_rfl) (show (fun W : World => W.heap[q2]? = some (.cells #[.string f.c.a, .string f.c.i, .int .i64 f.c.s, .int .i64 f.c.o, .int .i64 f.c.l, .int .i64 f.c.t, .int .i64 f.c.k, .int .i64 f.c.n, .bool f.c.g, .int .i64 f.seen] 58 (0, 0))) y4.drew from blk_drew HQ4.out) ?_
        have HQ4 := Lib.hid (blk_drew HQ4.out)
        have HP4 := Lib.hid (show DkP y4.drew db nd t0 k0 n0 es g l TQ ks from HP4.out)
        have HR4 := Lib.hid (show Rim db w y4.drew from HR4.out.trans (Rim.of (Below.refl _ _).drew))
        generalize y4.drew = y5 at *
        repeat (first | (refine Hist.wpG_plain 0 _ (by decide +kernel) rfl (by rfl) (by rfl) (fun K hK => ?_); go_big_quiet_op; refine hK _ ?_; clear hK K))
        refine Hist.wpG_call (by rfl) (by rfl) (fun K hK => ?_)
        go_big_op
        refine (deskPut db nd t0 k0 n0 es g l TQ ks f y5 HP4.out HAS.out hn (by rw [HKK.out]; exact HB.out)).mono ?_
        rintro r y6 ⟨rfl, hd6, hr6⟩
        have HQ6 := Lib.hid (show (fun W : World => W.heap[q2]? = some (.cells #[.string f.c.a, .string f.c.i, .int .i64 f.c.s, .int .i64 f.c.o, .int .i64 f.c.l, .int .i64 f.c.t, .int .i64 f.c.k, .int .i64 f.c.n, .bool f.c.g, .int .i64 f.seen] 58 (0, 0))) y6 from (hr6.block q2 hqd (blk_lt HQ4.out)).trans HQ4.out)
        have HP6 := Lib.hid hd6
        have HR6 := Lib.hid (HR4.out.trans hr6)
        refine hK _ _ ⟨fun _ => True, (by simp only [List.cons_append, List.nil_append, List.forall_mem_cons]; repeat' (first | exact HQ6.out | (intro _ h; cases h; done) | (exact trivial) | constructor)), ?_⟩
        clear hK K hd6 hr6
        repeat (first | (refine Hist.wpG_plain 1 _ (by decide +kernel) rfl (by rfl) (by rfl) (fun K hK => ?_); go_big_quiet_op; refine hK _ ?_; clear hK K) | (refine Hist.wpG_plain 0 _ (by decide +kernel) rfl (by rfl) (by rfl) (fun K hK => ?_); go_big_quiet_op; refine hK _ ?_; clear hK K))
        refine Hist.wpG_nil ?_
        clear hI1 hL1 hB1_0 hB1_1 hB1_2 hB1_3 hB1_4 hB1_5 hB1_6 hB1_7 hB1_8 hB1_9
        go_wp2
        go_returns
        refine .inl ⟨HB.out, by rw [HE.out]; exact HG.out, rfl, ?_, HR6.out⟩
        rw [HE.out, HF.out]
        exact HP6.out

end Go.Proofs.YtcjpemphdgndkaaGreat
