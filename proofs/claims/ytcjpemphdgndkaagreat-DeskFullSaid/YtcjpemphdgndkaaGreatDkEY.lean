/- A desk: cancel, renew. -/
import Derived.Test.YtcjpemphdgndkaaGreatDkDY
namespace Go.Proofs.YtcjpemphdgndkaaGreat
open Go.RowKit
set_option linter.unusedVariables false
set_option linter.unusedSimpArgs false

theorem leaseCancelP (e : En) (s : Int × Int × Int) (now : Int) (f : En) (v : Bool) (w : World) (hf : canE e s now = f) (hv : (!e.c.g) = v) : Calls Tryz.prog 97 #[.agg #[.string e.c.a, .string e.c.i, .int .i64 e.c.s, .int .i64 e.c.o, .int .i64 e.c.l, .int .i64 e.c.t, .int .i64 e.c.k, .int .i64 e.c.n, .bool e.c.g, .int .i64 e.seen], .agg #[.int .i64 s.1, .int .i64 s.2.1, .int .i64 s.2.2], .int .i64 now] w fun r w' => r = .returned (.tuple #[.agg #[.string f.c.a, .string f.c.i, .int .i64 f.c.s, .int .i64 f.c.o, .int .i64 f.c.l, .int .i64 f.c.t, .int .i64 f.c.k, .int .i64 f.c.n, .bool f.c.g, .int .i64 f.seen], .bool v]) ∧ Below w.heap.size w w' := by
  subst hf hv
  exact leaseCancel e s now w
theorem leaseRenewP (e : En) (now : Int) (f : En) (v : Bool) (w : World) (hf : renE e now = f) (hv : (!e.c.g) = v) : Calls Tryz.prog 133 #[.agg #[.string e.c.a, .string e.c.i, .int .i64 e.c.s, .int .i64 e.c.o, .int .i64 e.c.l, .int .i64 e.c.t, .int .i64 e.c.k, .int .i64 e.c.n, .bool e.c.g, .int .i64 e.seen], .int .i64 now] w fun r w' => r = .returned (.tuple #[.agg #[.string f.c.a, .string f.c.i, .int .i64 f.c.s, .int .i64 f.c.o, .int .i64 f.c.l, .int .i64 f.c.t, .int .i64 f.c.k, .int .i64 f.c.n, .bool f.c.g, .int .i64 f.seen], .bool v]) ∧ Below w.heap.size w w' := by
  subst hf hv
  exact leaseRenew e now w
theorem deskNextP (db : Nat) (nd t0 k0 n0 : Int) (es : List En) (g l tt : Int) (ks : List Ky) (k : Ky) (now : Int) (w : World) (h : DkP w db nd t0 k0 n0 es g l tt ks) (hs : Asc es) (hn : es.length ≤ 900) (hN : ∀ s, s = (if isIn k es then sMax t0 k0 n0 (ge es k).c.t (ge es k).c.k (ge es k).c.n else (t0, k0, n0)) → s.2.2 ≤ 9223372036854775807 ∧ -9223372036854775808 ≤ s.2.2) (s : Int × Int × Int) (e : nxt t0 k0 n0 es k nd now = s) :
    Calls Tryz.prog 98 #[.pointer (some ⟨db, 0, none⟩), .agg #[.string k.1, .string k.2], .int .i64 now] w fun r w' => r = .returned (.agg #[.int .i64 s.1, .int .i64 s.2.1, .int .i64 s.2.2]) ∧ Below w.heap.size w w' := by
  subst e
  exact deskNext db nd t0 k0 n0 es g l tt ks k now w h hs hn hN
theorem deskPut (db : Nat) (nd t0 k0 n0 : Int) (es : List En) (g l tt : Int) (ks : List Ky) (e : En) (w : World) (h : DkP w db nd t0 k0 n0 es g l tt ks) (hs : Asc es) (hn : es.length ≤ 900) (hin : isIn (enK e) es = true) :
    Calls Tryz.prog 53 #[.pointer (some ⟨db, 4, none⟩), .agg #[.string e.c.a, .string e.c.i, .int .i64 e.c.s, .int .i64 e.c.o, .int .i64 e.c.l, .int .i64 e.c.t, .int .i64 e.c.k, .int .i64 e.c.n, .bool e.c.g, .int .i64 e.seen]] w fun r w' => r = .returned (.int .i64 0) ∧ DkP w' db nd t0 k0 n0 (putE es e) g l tt ks ∧ Rim db w w' := by
  obtain ⟨Dk0, h1, h2⟩ := h.s
  refine (dkPutIn Dk0 db 32 es e w h1 hs hn hin).mono fun r w' ⟨h3, h4, h5⟩ => ⟨h3, ?_, h5⟩
  unfold putE
  rw [if_pos hin]
  exact h2 w' _ h4 h5
theorem enK_can {e : En} {s : Int × Int × Int} {now : Int} (h : e.c.g = false) : enK (canE e s now) = enK e := by unfold canE; rw [if_neg (by rw [h]; simp)]; rfl
theorem enK_ren {e : En} {now : Int} (h : e.c.g = false) : enK (renE e now) = enK e := by unfold renE; rw [if_neg (by rw [h]; simp)]; rfl
set_option maxRecDepth 100000 in
set_option maxHeartbeats 4000000 in
theorem deskCancel (db : Nat) (nd t0 k0 n0 : Int) (es : List En) (g l tt : Int) (ks : List Ky) (k : Ky) (now : Int) (w : World) (h : DkP w db nd t0 k0 n0 es g l tt ks) (hs : Asc es) (hn : es.length ≤ 900) (hks : ks.length ≤ 1000000) (hN : ∀ s, s = (if isIn k es then sMax t0 k0 n0 (ge es k).c.t (ge es k).c.k (ge es k).c.n else (t0, k0, n0)) → s.2.2 ≤ 9223372036854775807 ∧ -9223372036854775808 ≤ s.2.2) (s : Int × Int × Int) (es' : nxt t0 k0 n0 es k nd now = s) :
    Calls Tryz.prog 52 #[.pointer (some ⟨db, 0, none⟩), .agg #[.string k.1, .string k.2], .int .i64 now] w fun r w' => (isIn k es = true ∧ (ge es k).c.g = false ∧ ∃ b, r = .returned (.tuple #[.slice (some ⟨b, 0, none⟩) 1 1, .int .i64 0]) ∧ w.heap.size ≤ b ∧ w'.heap[b]? = some (.cells #[.string (canE (ge es k) s now).c.a, .string (canE (ge es k) s now).c.i, .int .i64 (canE (ge es k) s now).c.s, .int .i64 (canE (ge es k) s now).c.o, .int .i64 (canE (ge es k) s now).c.l, .int .i64 (canE (ge es k) s now).c.t, .int .i64 (canE (ge es k) s now).c.k, .int .i64 (canE (ge es k) s now).c.n, .bool (canE (ge es k) s now).c.g] 37 (0, 0)) ∧ DkP w' db nd (canE (ge es k) s now).c.t (canE (ge es k) s now).c.k (canE (ge es k) s now).c.n (putE es (canE (ge es k) s now)) g l tt (ks ++ [k]) ∧ Rim db w w') ∨ ((isIn k es = false ∨ (ge es k).c.g = true) ∧ r = .returned (.tuple #[.slice none 0 0, .int .i64 22]) ∧ Below w.heap.size w w') := by
  have D0 := Lib.hid (show Below w.heap.size w (w.alloc (.cells #[.string k.1, .string k.2] 28)) from (Below.refl _ _).alloc (Nat.le_refl _) _)
  have HK := Lib.hid (blk_new w #[.string k.1, .string k.2] 28)
  have HP := Lib.hid (h.ext D0.out)
  have HAS := Lib.hid hs
  obtain ⟨e, he⟩ : ∃ e, ge es k = e := ⟨_, rfl⟩
  obtain ⟨b, hb⟩ : ∃ b, isIn k es = b := ⟨_, rfl⟩
  have HE := Lib.hid he
  have HB := Lib.hid hb
  have hlt := h.lt
  clear h hs he hb
  have HNN := Lib.hid hN
  have HS := Lib.hid es'
  obtain ⟨f, hf⟩ : ∃ f, canE e s now = f := ⟨_, rfl⟩
  obtain ⟨v, hv⟩ : ∃ v, (!e.c.g) = v := ⟨_, rfl⟩
  have HF := Lib.hid hf
  have HV := Lib.hid hv
  clear hN es' hf hv
  go_enter Tryz.func52, Tryz.ntmps52
  go_upto_region 1 with (fail)
  obtain ⟨p, hp⟩ : ∃ p, w.heap.size = p := ⟨_, rfl⟩
  have hpd : p ≠ db := by omega
  have HPW := Lib.hid hp
  rw [hp] at HK
  try rw [hp]
  clear hp hlt
  generalize (w.alloc (.cells #[.string k.1, .string k.2] 28)) = w1 at *
  refine wp_region_inv_eq (J := fun A d act x => ∃ u13 u14 u15 u16 u17 u12 u18 u19 u8 u9 : Value, act = ((((((((((A.put (some 13) u13).put (some 14) u14).put (some 15) u15).put (some 16) u16).put (some 17) u17).put (some 12) u12).put (some 18) u18).put (some 19) u19).put (some 8) u8).put (some 9) u9) ∧ (d 0 = true → u13 = .pointer (some ⟨db, 0, none⟩)) ∧ (d 1 = true → u14 = .pointer (some ⟨db, 0, none⟩)) ∧ (d 2 = true → u15 = .pointer (some ⟨db, 4, none⟩)) ∧ (d 3 = true → u16 = .agg #[.string k.1, .string k.2]) ∧ (d 4 = true → u17 = .tuple #[.agg #[.string e.c.a, .string e.c.i, .int .i64 e.c.s, .int .i64 e.c.o, .int .i64 e.c.l, .int .i64 e.c.t, .int .i64 e.c.k, .int .i64 e.c.n, .bool e.c.g, .int .i64 e.seen], .bool b]) ∧ (d 5 = true → u12 = .tuple #[.agg #[.string e.c.a, .string e.c.i, .int .i64 e.c.s, .int .i64 e.c.o, .int .i64 e.c.l, .int .i64 e.c.t, .int .i64 e.c.k, .int .i64 e.c.n, .bool e.c.g, .int .i64 e.seen], .bool b]) ∧ (d 6 = true → u18 = .agg #[.string e.c.a, .string e.c.i, .int .i64 e.c.s, .int .i64 e.c.o, .int .i64 e.c.l, .int .i64 e.c.t, .int .i64 e.c.k, .int .i64 e.c.n, .bool e.c.g, .int .i64 e.seen]) ∧ (d 7 = true → u19 = .bool b) ∧ (d 8 = true → (∃ b : Nat, u8 = .pointer (some ⟨b, 0, none⟩) ∧ w1.heap.size ≤ b ∧ (d 9 = false → x.heap[b]? = some (.cells #[.string ⟨#[]⟩, .string ⟨#[]⟩, .int .i64 0, .int .i64 0, .int .i64 0, .int .i64 0, .int .i64 0, .int .i64 0, .bool false, .int .i64 0] 58 (0, 0))) ∧ (d 9 = true → x.heap[b]? = some (.cells #[.string e.c.a, .string e.c.i, .int .i64 e.c.s, .int .i64 e.c.o, .int .i64 e.c.l, .int .i64 e.c.t, .int .i64 e.c.k, .int .i64 e.c.n, .bool e.c.g, .int .i64 e.seen] 58 (0, 0))))) ∧ (d 10 = true → u9 = .bool b) ∧ Below w1.heap.size w1 x ∧ (d 9 = true → d 8 = true)) (by simp only [Act.put, List.setIfInBounds_toArray, List.set_cons_succ, List.set_cons_zero]; rfl) (by kernel_rfl) (by kernel_rfl) ?_ ?_ ?_
  · refine ⟨_, _, _, _, _, _, _, _, _, _, rfl, ?_, ?_, ?_, ?_, ?_, ?_, ?_, ?_, ?_, ?_, ?_, ?_⟩
    · intro h; cases h
    · intro h; cases h
    · intro h; cases h
    · intro h; cases h
    · intro h; cases h
    · intro h; cases h
    · intro h; cases h
    · intro h; cases h
    · intro h; cases h
    · intro h; cases h
    · exact ((Below.refl _ _).drew)
    · exact (fun h => by cases h)
  · refine stepsOk_cons (k := 0) ?_ (stepsOk_cons (k := 1) ?_ (stepsOk_cons (k := 2) ?_ (stepsOk_cons (k := 3) ?_ (stepsOk_cons (k := 4) ?_ (stepsOk_cons (k := 5) ?_ (stepsOk_cons (k := 6) ?_ (stepsOk_cons (k := 7) ?_ (stepsOk_cons (k := 8) ?_ (stepsOk_cons (k := 9) ?_ (stepsOk_cons (k := 10) ?_ stepsOk_nil))))))))))
    · unfold StepOk
      rintro d act x ⟨u13, u14, u15, u16, u17, u12, u18, u19, u8, u9, rfl, f0, f1, f2, f3, f4, f5, f6, f7, f8, f10, g0, g1⟩ hd hdep Kc hKc
      rw [if_pos (by rfl)]
      go_big_op
      refine hKc _ _ ⟨_, _, _, _, _, _, _, _, _, _, rfl, ?_, ?_, ?_, ?_, ?_, ?_, ?_, ?_, ?_, ?_, ?_, ?_⟩
      · exact (fun _ => rfl)
      · exact (fun h => f1 (up h rfl))
      · exact (fun h => f2 (up h rfl))
      · exact (fun h => f3 (up h rfl))
      · exact (fun h => f4 (up h rfl))
      · exact (fun h => f5 (up h rfl))
      · exact (fun h => f6 (up h rfl))
      · exact (fun h => f7 (up h rfl))
      · exact (fun h => by obtain ⟨b, e, hb, h1, h2⟩ := f8 (up h rfl); exact ⟨b, e, hb, fun h => (h1 (dn h)), fun h => (h2 (up h rfl))⟩)
      · exact (fun h => f10 (up h rfl))
      · exact g0
      · exact (fun h => upl (g1 (up h rfl)))
    · unfold StepOk
      rintro d act x ⟨u13, u14, u15, u16, u17, u12, u18, u19, u8, u9, rfl, f0, f1, f2, f3, f4, f5, f6, f7, f8, f10, g0, g1⟩ hd hdep Kc hKc
      have hd0 : d 0 = true := hdep ⟨0, .data⟩ (by simp) rfl
      obtain rfl := f0 hd0
      rw [if_pos (by rfl)]
      go_big_op
      refine hKc _ _ ⟨_, _, _, _, _, _, _, _, _, _, rfl, ?_, ?_, ?_, ?_, ?_, ?_, ?_, ?_, ?_, ?_, ?_, ?_⟩
      · exact (fun h => f0 (up h rfl))
      · exact (fun _ => rfl)
      · exact (fun h => f2 (up h rfl))
      · exact (fun h => f3 (up h rfl))
      · exact (fun h => f4 (up h rfl))
      · exact (fun h => f5 (up h rfl))
      · exact (fun h => f6 (up h rfl))
      · exact (fun h => f7 (up h rfl))
      · exact (fun h => by obtain ⟨b, e, hb, h1, h2⟩ := f8 (up h rfl); exact ⟨b, e, hb, fun h => (h1 (dn h)), fun h => (h2 (up h rfl))⟩)
      · exact (fun h => f10 (up h rfl))
      · exact g0
      · exact (fun h => upl (g1 (up h rfl)))
    · unfold StepOk
      rintro d act x ⟨u13, u14, u15, u16, u17, u12, u18, u19, u8, u9, rfl, f0, f1, f2, f3, f4, f5, f6, f7, f8, f10, g0, g1⟩ hd hdep Kc hKc
      have hd1 : d 1 = true := hdep ⟨1, .data⟩ (by simp) rfl
      obtain rfl := f1 hd1
      rw [if_pos (by rfl)]
      go_big_op
      refine hKc _ _ ⟨_, _, _, _, _, _, _, _, _, _, rfl, ?_, ?_, ?_, ?_, ?_, ?_, ?_, ?_, ?_, ?_, ?_, ?_⟩
      · exact (fun h => f0 (up h rfl))
      · exact (fun h => f1 (up h rfl))
      · exact (fun _ => rfl)
      · exact (fun h => f3 (up h rfl))
      · exact (fun h => f4 (up h rfl))
      · exact (fun h => f5 (up h rfl))
      · exact (fun h => f6 (up h rfl))
      · exact (fun h => f7 (up h rfl))
      · exact (fun h => by obtain ⟨b, e, hb, h1, h2⟩ := f8 (up h rfl); exact ⟨b, e, hb, fun h => (h1 (dn h)), fun h => (h2 (up h rfl))⟩)
      · exact (fun h => f10 (up h rfl))
      · exact g0
      · exact (fun h => upl (g1 (up h rfl)))
    · unfold StepOk
      rintro d act x ⟨u13, u14, u15, u16, u17, u12, u18, u19, u8, u9, rfl, f0, f1, f2, f3, f4, f5, f6, f7, f8, f10, g0, g1⟩ hd hdep Kc hKc
      have hx := blk_cell (blk_ext g0 HK.out)
      have hxl := blk_lt (blk_ext g0 HK.out)
      rw [if_pos (by rfl)]
      go_big_op
      refine hKc _ _ ⟨_, _, _, _, _, _, _, _, _, _, rfl, ?_, ?_, ?_, ?_, ?_, ?_, ?_, ?_, ?_, ?_, ?_, ?_⟩
      · exact (fun h => f0 (up h rfl))
      · exact (fun h => f1 (up h rfl))
      · exact (fun h => f2 (up h rfl))
      · exact (fun _ => rfl)
      · exact (fun h => f4 (up h rfl))
      · exact (fun h => f5 (up h rfl))
      · exact (fun h => f6 (up h rfl))
      · exact (fun h => f7 (up h rfl))
      · exact (fun h => by obtain ⟨b, e, hb, h1, h2⟩ := f8 (up h rfl); exact ⟨b, e, hb, fun h => (h1 (dn h)), fun h => (h2 (up h rfl))⟩)
      · exact (fun h => f10 (up h rfl))
      · exact g0
      · exact (fun h => upl (g1 (up h rfl)))
    · unfold StepOk
      rintro d act x ⟨u13, u14, u15, u16, u17, u12, u18, u19, u8, u9, rfl, f0, f1, f2, f3, f4, f5, f6, f7, f8, f10, g0, g1⟩ hd hdep Kc hKc
      have hd2 : d 2 = true := hdep ⟨2, .data⟩ (by simp) rfl
      have hd3 : d 3 = true := hdep ⟨3, .data⟩ (by simp) rfl
      obtain rfl := f2 hd2
      obtain rfl := f3 hd3
      rw [if_pos (by rfl)]
      go_big_op
      refine (dkGetP db nd t0 k0 n0 es g l tt ks k x (HP.out.ext g0) HAS.out hn e b HE.out HB.out).mono ?_
      rintro e x1 ⟨rfl, hb1⟩
      refine hKc _ _ ⟨_, _, _, _, _, _, _, _, _, _, rfl, ?_, ?_, ?_, ?_, ?_, ?_, ?_, ?_, ?_, ?_, ?_, ?_⟩
      · exact (fun h => f0 (up h rfl))
      · exact (fun h => f1 (up h rfl))
      · exact (fun h => f2 (up h rfl))
      · exact (fun h => f3 (up h rfl))
      · exact (fun _ => rfl)
      · exact (fun h => f5 (up h rfl))
      · exact (fun h => f6 (up h rfl))
      · exact (fun h => f7 (up h rfl))
      · exact (fun h => by obtain ⟨b, e, hb, h1, h2⟩ := f8 (up h rfl); exact ⟨b, e, hb, fun h => blk_ext hb1 (h1 (dn h)), fun h => blk_ext hb1 (h2 (up h rfl))⟩)
      · exact (fun h => f10 (up h rfl))
      · exact (ext_trans g0 hb1)
      · exact (fun h => upl (g1 (up h rfl)))
    · unfold StepOk
      rintro d act x ⟨u13, u14, u15, u16, u17, u12, u18, u19, u8, u9, rfl, f0, f1, f2, f3, f4, f5, f6, f7, f8, f10, g0, g1⟩ hd hdep Kc hKc
      have hd4 : d 4 = true := hdep ⟨4, .data⟩ (by simp) rfl
      obtain rfl := f4 hd4
      rw [if_pos (by rfl)]
      go_big_op
      refine hKc _ _ ⟨_, _, _, _, _, _, _, _, _, _, rfl, ?_, ?_, ?_, ?_, ?_, ?_, ?_, ?_, ?_, ?_, ?_, ?_⟩
      · exact (fun h => f0 (up h rfl))
      · exact (fun h => f1 (up h rfl))
      · exact (fun h => f2 (up h rfl))
      · exact (fun h => f3 (up h rfl))
      · exact (fun h => f4 (up h rfl))
      · exact (fun _ => rfl)
      · exact (fun h => f6 (up h rfl))
      · exact (fun h => f7 (up h rfl))
      · exact (fun h => by obtain ⟨b, e, hb, h1, h2⟩ := f8 (up h rfl); exact ⟨b, e, hb, fun h => (h1 (dn h)), fun h => (h2 (up h rfl))⟩)
      · exact (fun h => f10 (up h rfl))
      · exact g0
      · exact (fun h => upl (g1 (up h rfl)))
    · unfold StepOk
      rintro d act x ⟨u13, u14, u15, u16, u17, u12, u18, u19, u8, u9, rfl, f0, f1, f2, f3, f4, f5, f6, f7, f8, f10, g0, g1⟩ hd hdep Kc hKc
      have hd5 : d 5 = true := hdep ⟨5, .data⟩ (by simp) rfl
      obtain rfl := f5 hd5
      rw [if_pos (by rfl)]
      go_big_op
      refine hKc _ _ ⟨_, _, _, _, _, _, _, _, _, _, rfl, ?_, ?_, ?_, ?_, ?_, ?_, ?_, ?_, ?_, ?_, ?_, ?_⟩
      · exact (fun h => f0 (up h rfl))
      · exact (fun h => f1 (up h rfl))
      · exact (fun h => f2 (up h rfl))
      · exact (fun h => f3 (up h rfl))
      · exact (fun h => f4 (up h rfl))
      · exact (fun h => f5 (up h rfl))
      · exact (fun _ => rfl)
      · exact (fun h => f7 (up h rfl))
      · exact (fun h => by obtain ⟨b, e, hb, h1, h2⟩ := f8 (up h rfl); exact ⟨b, e, hb, fun h => (h1 (dn h)), fun h => (h2 (up h rfl))⟩)
      · exact (fun h => f10 (up h rfl))
      · exact g0
      · exact (fun h => upl (g1 (up h rfl)))
    · unfold StepOk
      rintro d act x ⟨u13, u14, u15, u16, u17, u12, u18, u19, u8, u9, rfl, f0, f1, f2, f3, f4, f5, f6, f7, f8, f10, g0, g1⟩ hd hdep Kc hKc
      have hd5 : d 5 = true := hdep ⟨5, .data⟩ (by simp) rfl
      obtain rfl := f5 hd5
      rw [if_pos (by rfl)]
      go_big_op
      refine hKc _ _ ⟨_, _, _, _, _, _, _, _, _, _, rfl, ?_, ?_, ?_, ?_, ?_, ?_, ?_, ?_, ?_, ?_, ?_, ?_⟩
      · exact (fun h => f0 (up h rfl))
      · exact (fun h => f1 (up h rfl))
      · exact (fun h => f2 (up h rfl))
      · exact (fun h => f3 (up h rfl))
      · exact (fun h => f4 (up h rfl))
      · exact (fun h => f5 (up h rfl))
      · exact (fun h => f6 (up h rfl))
      · exact (fun _ => rfl)
      · exact (fun h => by obtain ⟨b, e, hb, h1, h2⟩ := f8 (up h rfl); exact ⟨b, e, hb, fun h => (h1 (dn h)), fun h => (h2 (up h rfl))⟩)
      · exact (fun h => f10 (up h rfl))
      · exact g0
      · exact (fun h => upl (g1 (up h rfl)))
    · unfold StepOk
      rintro d act x ⟨u13, u14, u15, u16, u17, u12, u18, u19, u8, u9, rfl, f0, f1, f2, f3, f4, f5, f6, f7, f8, f10, g0, g1⟩ hd hdep Kc hKc
      rw [if_pos (by rfl)]
      go_big_op
      refine hKc _ _ ⟨_, _, _, _, _, _, _, _, _, _, rfl, ?_, ?_, ?_, ?_, ?_, ?_, ?_, ?_, ?_, ?_, ?_, ?_⟩
      · exact (fun h => f0 (up h rfl))
      · exact (fun h => f1 (up h rfl))
      · exact (fun h => f2 (up h rfl))
      · exact (fun h => f3 (up h rfl))
      · exact (fun h => f4 (up h rfl))
      · exact (fun h => f5 (up h rfl))
      · exact (fun h => f6 (up h rfl))
      · exact (fun h => f7 (up h rfl))
      · exact (fun _ => ⟨_, rfl, g0.size, fun _ => blk_new _ _ _, fun h => absurd (g1 (up h rfl)) (by rw [hd]; simp)⟩)
      · exact (fun h => f10 (up h rfl))
      · exact (g0.alloc g0.size _)
      · exact (fun h => upl (g1 (up h rfl)))
    · unfold StepOk
      rintro d act x ⟨u13, u14, u15, u16, u17, u12, u18, u19, u8, u9, rfl, f0, f1, f2, f3, f4, f5, f6, f7, f8, f10, g0, g1⟩ hd hdep Kc hKc
      have hd8 : d 8 = true := hdep ⟨8, .data⟩ (by simp) rfl
      have hd6 : d 6 = true := hdep ⟨6, .data⟩ (by simp) rfl
      have hd6 : d 6 = true := hdep ⟨6, .phase⟩ (by simp) rfl
      have hd8 : d 8 = true := hdep ⟨8, .phase⟩ (by simp) rfl
      obtain ⟨nb, rfl, hnb, hz, hf⟩ := f8 hd8
      obtain rfl := f6 hd6
      have HZ := hz hd
      have hbc := blk_cell HZ
      have hbf := blk_free HZ
      have hbl := blk_lt HZ
      rw [if_pos (by rfl)]
      go_big_op
      have HFF := blk_fill10 (v0 := .string e.c.a) (v1 := .string e.c.i) (v2 := .int .i64 e.c.s) (v3 := .int .i64 e.c.o) (v4 := .int .i64 e.c.l) (v5 := .int .i64 e.c.t) (v6 := .int .i64 e.c.k) (v7 := .int .i64 e.c.n) (v8 := .bool e.c.g) (v9 := .int .i64 e.seen) HZ rfl
      have HBB := below_fill10 (v0 := .string e.c.a) (v1 := .string e.c.i) (v2 := .int .i64 e.c.s) (v3 := .int .i64 e.c.o) (v4 := .int .i64 e.c.l) (v5 := .int .i64 e.c.t) (v6 := .int .i64 e.c.k) (v7 := .int .i64 e.c.n) (v8 := .bool e.c.g) (v9 := .int .i64 e.seen) g0 hnb
      refine hKc _ _ ⟨_, _, _, _, _, _, _, _, _, _, rfl, ?_, ?_, ?_, ?_, ?_, ?_, ?_, ?_, ?_, ?_, ?_, ?_⟩
      · exact (fun h => f0 (up h rfl))
      · exact (fun h => f1 (up h rfl))
      · exact (fun h => f2 (up h rfl))
      · exact (fun h => f3 (up h rfl))
      · exact (fun h => f4 (up h rfl))
      · exact (fun h => f5 (up h rfl))
      · exact (fun h => f6 (up h rfl))
      · exact (fun h => f7 (up h rfl))
      · exact (fun h => ⟨nb, rfl, hnb, fun h => by simp at h, fun _ => HFF⟩)
      · exact (fun h => f10 (up h rfl))
      · exact HBB
      · exact (fun h => upl hd8)
    · unfold StepOk
      rintro d act x ⟨u13, u14, u15, u16, u17, u12, u18, u19, u8, u9, rfl, f0, f1, f2, f3, f4, f5, f6, f7, f8, f10, g0, g1⟩ hd hdep Kc hKc
      have hd7 : d 7 = true := hdep ⟨7, .data⟩ (by simp) rfl
      have hd7 : d 7 = true := hdep ⟨7, .phase⟩ (by simp) rfl
      obtain rfl := f7 hd7
      rw [if_pos (by rfl)]
      go_big_op
      refine hKc _ _ ⟨_, _, _, _, _, _, _, _, _, _, rfl, ?_, ?_, ?_, ?_, ?_, ?_, ?_, ?_, ?_, ?_, ?_, ?_⟩
      · exact (fun h => f0 (up h rfl))
      · exact (fun h => f1 (up h rfl))
      · exact (fun h => f2 (up h rfl))
      · exact (fun h => f3 (up h rfl))
      · exact (fun h => f4 (up h rfl))
      · exact (fun h => f5 (up h rfl))
      · exact (fun h => f6 (up h rfl))
      · exact (fun h => f7 (up h rfl))
      · exact (fun h => by obtain ⟨b, e, hb, h1, h2⟩ := f8 (up h rfl); exact ⟨b, e, hb, fun h => (h1 (dn h)), fun h => (h2 (up h rfl))⟩)
      · exact (fun _ => rfl)
      · exact g0
      · exact (fun h => upl (g1 (up h rfl)))
  · rintro d act x ⟨u13, u14, u15, u16, u17, u12, u18, u19, u8, u9, rfl, f0, f1, f2, f3, f4, f5, f6, f7, f8, f10, g0, g1⟩ hall
    obtain rfl := f0 (hall 0 (by decide))
    obtain rfl := f1 (hall 1 (by decide))
    obtain rfl := f2 (hall 2 (by decide))
    obtain rfl := f3 (hall 3 (by decide))
    obtain rfl := f4 (hall 4 (by decide))
    obtain rfl := f5 (hall 5 (by decide))
    obtain rfl := f6 (hall 6 (by decide))
    obtain rfl := f7 (hall 7 (by decide))
    obtain ⟨nb, rfl, hnb, hz, hf⟩ := f8 (hall 8 (by decide))
    obtain rfl := f10 (hall 10 (by decide))
    have HNB := Lib.hid (hf (hall 9 (by decide)))
    have HWB := Lib.hid g0
    have HNL := Lib.hid hnb
    clear f0 f1 f2 f3 f4 f5 f6 f7 f8 f10 g1 hz hf hall g0 hnb
    obtain ⟨y1, rfl⟩ : ∃ y : World, y = x := ⟨_, rfl⟩
    obtain ⟨q1, rfl⟩ : ∃ y : Nat, y = nb := ⟨_, rfl⟩
    clear d
    have HQ1 := Lib.hid HNB.out
    have HK1 := Lib.hid (blk_ext HWB.out HK.out)
    have HP1 := Lib.hid (HP.out.ext HWB.out)
    have D1 := Lib.hid (ext_trans D0.out HWB.out)
    clear HNB HWB HNL HK HP D0
    go_upto_region 2 with (fail)
    refine wp_region_inv_eq (J := fun A d act x => ∃ u21 u22 u23 u24 u25 u26 u27 u20 u28 u29 u10 u11 : Value, act = ((((((((((((A.put (some 21) u21).put (some 22) u22).put (some 23) u23).put (some 24) u24).put (some 25) u25).put (some 26) u26).put (some 27) u27).put (some 20) u20).put (some 28) u28).put (some 29) u29).put (some 10) u10).put (some 11) u11) ∧ (d 0 = true → u21 = .agg #[.string e.c.a, .string e.c.i, .int .i64 e.c.s, .int .i64 e.c.o, .int .i64 e.c.l, .int .i64 e.c.t, .int .i64 e.c.k, .int .i64 e.c.n, .bool e.c.g, .int .i64 e.seen]) ∧ (d 1 = true → u22 = .pointer (some ⟨db, 0, none⟩)) ∧ (d 2 = true → u23 = .agg #[.string k.1, .string k.2]) ∧ (d 3 = true → u24 = .int .i64 now) ∧ (d 4 = true → u25 = .agg #[.int .i64 s.1, .int .i64 s.2.1, .int .i64 s.2.2]) ∧ (d 5 = true → u26 = .int .i64 now) ∧ (d 6 = true → u27 = .tuple #[.agg #[.string f.c.a, .string f.c.i, .int .i64 f.c.s, .int .i64 f.c.o, .int .i64 f.c.l, .int .i64 f.c.t, .int .i64 f.c.k, .int .i64 f.c.n, .bool f.c.g, .int .i64 f.seen], .bool v]) ∧ (d 7 = true → u20 = .tuple #[.agg #[.string f.c.a, .string f.c.i, .int .i64 f.c.s, .int .i64 f.c.o, .int .i64 f.c.l, .int .i64 f.c.t, .int .i64 f.c.k, .int .i64 f.c.n, .bool f.c.g, .int .i64 f.seen], .bool v]) ∧ (d 8 = true → u28 = .agg #[.string f.c.a, .string f.c.i, .int .i64 f.c.s, .int .i64 f.c.o, .int .i64 f.c.l, .int .i64 f.c.t, .int .i64 f.c.k, .int .i64 f.c.n, .bool f.c.g, .int .i64 f.seen]) ∧ (d 9 = true → u29 = .bool v) ∧ (d 10 = true → (∃ b : Nat, u10 = .pointer (some ⟨b, 0, none⟩) ∧ y1.heap.size ≤ b ∧ (d 11 = false → x.heap[b]? = some (.cells #[.string ⟨#[]⟩, .string ⟨#[]⟩, .int .i64 0, .int .i64 0, .int .i64 0, .int .i64 0, .int .i64 0, .int .i64 0, .bool false, .int .i64 0] 58 (0, 0))) ∧ (d 11 = true → x.heap[b]? = some (.cells #[.string f.c.a, .string f.c.i, .int .i64 f.c.s, .int .i64 f.c.o, .int .i64 f.c.l, .int .i64 f.c.t, .int .i64 f.c.k, .int .i64 f.c.n, .bool f.c.g, .int .i64 f.seen] 58 (0, 0))))) ∧ (d 12 = true → u11 = .bool v) ∧ Below y1.heap.size y1 x ∧ (d 11 = true → d 10 = true)) (by simp only [Act.put, List.setIfInBounds_toArray, List.set_cons_succ, List.set_cons_zero]; rfl) (by kernel_rfl) (by kernel_rfl) ?_ ?_ ?_
    · refine ⟨_, _, _, _, _, _, _, _, _, _, _, _, rfl, ?_, ?_, ?_, ?_, ?_, ?_, ?_, ?_, ?_, ?_, ?_, ?_, ?_, ?_⟩
      · intro h; cases h
      · intro h; cases h
      · intro h; cases h
      · intro h; cases h
      · intro h; cases h
      · intro h; cases h
      · intro h; cases h
      · intro h; cases h
      · intro h; cases h
      · intro h; cases h
      · intro h; cases h
      · intro h; cases h
      · exact ((Below.refl _ _).drew)
      · exact (fun h => by cases h)
    · refine stepsOk_cons (k := 0) ?_ (stepsOk_cons (k := 1) ?_ (stepsOk_cons (k := 2) ?_ (stepsOk_cons (k := 3) ?_ (stepsOk_cons (k := 4) ?_ (stepsOk_cons (k := 5) ?_ (stepsOk_cons (k := 6) ?_ (stepsOk_cons (k := 7) ?_ (stepsOk_cons (k := 8) ?_ (stepsOk_cons (k := 9) ?_ (stepsOk_cons (k := 10) ?_ (stepsOk_cons (k := 11) ?_ (stepsOk_cons (k := 12) ?_ stepsOk_nil))))))))))))
      · unfold StepOk
        rintro d act x ⟨u21, u22, u23, u24, u25, u26, u27, u20, u28, u29, u10, u11, rfl, f0, f1, f2, f3, f4, f5, f6, f7, f8, f9, f10, f12, g0, g1⟩ hd hdep Kc hKc
        have hx := blk_cell (blk_ext g0 HQ1.out)
        have hxl := blk_lt (blk_ext g0 HQ1.out)
        rw [if_pos (by rfl)]
        go_big_op
        refine hKc _ _ ⟨_, _, _, _, _, _, _, _, _, _, _, _, rfl, ?_, ?_, ?_, ?_, ?_, ?_, ?_, ?_, ?_, ?_, ?_, ?_, ?_, ?_⟩
        · exact (fun _ => rfl)
        · exact (fun h => f1 (up h rfl))
        · exact (fun h => f2 (up h rfl))
        · exact (fun h => f3 (up h rfl))
        · exact (fun h => f4 (up h rfl))
        · exact (fun h => f5 (up h rfl))
        · exact (fun h => f6 (up h rfl))
        · exact (fun h => f7 (up h rfl))
        · exact (fun h => f8 (up h rfl))
        · exact (fun h => f9 (up h rfl))
        · exact (fun h => by obtain ⟨b, e, hb, h1, h2⟩ := f10 (up h rfl); exact ⟨b, e, hb, fun h => (h1 (dn h)), fun h => (h2 (up h rfl))⟩)
        · exact (fun h => f12 (up h rfl))
        · exact g0
        · exact (fun h => upl (g1 (up h rfl)))
      · unfold StepOk
        rintro d act x ⟨u21, u22, u23, u24, u25, u26, u27, u20, u28, u29, u10, u11, rfl, f0, f1, f2, f3, f4, f5, f6, f7, f8, f9, f10, f12, g0, g1⟩ hd hdep Kc hKc
        rw [if_pos (by rfl)]
        go_big_op
        refine hKc _ _ ⟨_, _, _, _, _, _, _, _, _, _, _, _, rfl, ?_, ?_, ?_, ?_, ?_, ?_, ?_, ?_, ?_, ?_, ?_, ?_, ?_, ?_⟩
        · exact (fun h => f0 (up h rfl))
        · exact (fun _ => rfl)
        · exact (fun h => f2 (up h rfl))
        · exact (fun h => f3 (up h rfl))
        · exact (fun h => f4 (up h rfl))
        · exact (fun h => f5 (up h rfl))
        · exact (fun h => f6 (up h rfl))
        · exact (fun h => f7 (up h rfl))
        · exact (fun h => f8 (up h rfl))
        · exact (fun h => f9 (up h rfl))
        · exact (fun h => by obtain ⟨b, e, hb, h1, h2⟩ := f10 (up h rfl); exact ⟨b, e, hb, fun h => (h1 (dn h)), fun h => (h2 (up h rfl))⟩)
        · exact (fun h => f12 (up h rfl))
        · exact g0
        · exact (fun h => upl (g1 (up h rfl)))
      · unfold StepOk
        rintro d act x ⟨u21, u22, u23, u24, u25, u26, u27, u20, u28, u29, u10, u11, rfl, f0, f1, f2, f3, f4, f5, f6, f7, f8, f9, f10, f12, g0, g1⟩ hd hdep Kc hKc
        have hx := blk_cell (blk_ext g0 HK1.out)
        have hxl := blk_lt (blk_ext g0 HK1.out)
        rw [if_pos (by rfl)]
        go_big_op
        refine hKc _ _ ⟨_, _, _, _, _, _, _, _, _, _, _, _, rfl, ?_, ?_, ?_, ?_, ?_, ?_, ?_, ?_, ?_, ?_, ?_, ?_, ?_, ?_⟩
        · exact (fun h => f0 (up h rfl))
        · exact (fun h => f1 (up h rfl))
        · exact (fun _ => rfl)
        · exact (fun h => f3 (up h rfl))
        · exact (fun h => f4 (up h rfl))
        · exact (fun h => f5 (up h rfl))
        · exact (fun h => f6 (up h rfl))
        · exact (fun h => f7 (up h rfl))
        · exact (fun h => f8 (up h rfl))
        · exact (fun h => f9 (up h rfl))
        · exact (fun h => by obtain ⟨b, e, hb, h1, h2⟩ := f10 (up h rfl); exact ⟨b, e, hb, fun h => (h1 (dn h)), fun h => (h2 (up h rfl))⟩)
        · exact (fun h => f12 (up h rfl))
        · exact g0
        · exact (fun h => upl (g1 (up h rfl)))
      · unfold StepOk
        rintro d act x ⟨u21, u22, u23, u24, u25, u26, u27, u20, u28, u29, u10, u11, rfl, f0, f1, f2, f3, f4, f5, f6, f7, f8, f9, f10, f12, g0, g1⟩ hd hdep Kc hKc
        rw [if_pos (by rfl)]
        go_big_op
        refine hKc _ _ ⟨_, _, _, _, _, _, _, _, _, _, _, _, rfl, ?_, ?_, ?_, ?_, ?_, ?_, ?_, ?_, ?_, ?_, ?_, ?_, ?_, ?_⟩
        · exact (fun h => f0 (up h rfl))
        · exact (fun h => f1 (up h rfl))
        · exact (fun h => f2 (up h rfl))
        · exact (fun _ => rfl)
        · exact (fun h => f4 (up h rfl))
        · exact (fun h => f5 (up h rfl))
        · exact (fun h => f6 (up h rfl))
        · exact (fun h => f7 (up h rfl))
        · exact (fun h => f8 (up h rfl))
        · exact (fun h => f9 (up h rfl))
        · exact (fun h => by obtain ⟨b, e, hb, h1, h2⟩ := f10 (up h rfl); exact ⟨b, e, hb, fun h => (h1 (dn h)), fun h => (h2 (up h rfl))⟩)
        · exact (fun h => f12 (up h rfl))
        · exact g0
        · exact (fun h => upl (g1 (up h rfl)))
      · unfold StepOk
        rintro d act x ⟨u21, u22, u23, u24, u25, u26, u27, u20, u28, u29, u10, u11, rfl, f0, f1, f2, f3, f4, f5, f6, f7, f8, f9, f10, f12, g0, g1⟩ hd hdep Kc hKc
        have hd1 : d 1 = true := hdep ⟨1, .data⟩ (by simp) rfl
        have hd2 : d 2 = true := hdep ⟨2, .data⟩ (by simp) rfl
        have hd3 : d 3 = true := hdep ⟨3, .data⟩ (by simp) rfl
        obtain rfl := f1 hd1
        obtain rfl := f2 hd2
        obtain rfl := f3 hd3
        rw [if_pos (by rfl)]
        go_big_op
        refine (deskNextP db nd t0 k0 n0 es g l tt ks k now x (HP1.out.ext g0) HAS.out hn HNN.out s HS.out).mono ?_
        rintro e x1 ⟨rfl, hb1⟩
        refine hKc _ _ ⟨_, _, _, _, _, _, _, _, _, _, _, _, rfl, ?_, ?_, ?_, ?_, ?_, ?_, ?_, ?_, ?_, ?_, ?_, ?_, ?_, ?_⟩
        · exact (fun h => f0 (up h rfl))
        · exact (fun h => f1 (up h rfl))
        · exact (fun h => f2 (up h rfl))
        · exact (fun h => f3 (up h rfl))
        · exact (fun _ => rfl)
        · exact (fun h => f5 (up h rfl))
        · exact (fun h => f6 (up h rfl))
        · exact (fun h => f7 (up h rfl))
        · exact (fun h => f8 (up h rfl))
        · exact (fun h => f9 (up h rfl))
        · exact (fun h => by obtain ⟨b, e, hb, h1, h2⟩ := f10 (up h rfl); exact ⟨b, e, hb, fun h => blk_ext hb1 (h1 (dn h)), fun h => blk_ext hb1 (h2 (up h rfl))⟩)
        · exact (fun h => f12 (up h rfl))
        · exact (ext_trans g0 hb1)
        · exact (fun h => upl (g1 (up h rfl)))
      · unfold StepOk
        rintro d act x ⟨u21, u22, u23, u24, u25, u26, u27, u20, u28, u29, u10, u11, rfl, f0, f1, f2, f3, f4, f5, f6, f7, f8, f9, f10, f12, g0, g1⟩ hd hdep Kc hKc
        rw [if_pos (by rfl)]
        go_big_op
        refine hKc _ _ ⟨_, _, _, _, _, _, _, _, _, _, _, _, rfl, ?_, ?_, ?_, ?_, ?_, ?_, ?_, ?_, ?_, ?_, ?_, ?_, ?_, ?_⟩
        · exact (fun h => f0 (up h rfl))
        · exact (fun h => f1 (up h rfl))
        · exact (fun h => f2 (up h rfl))
        · exact (fun h => f3 (up h rfl))
        · exact (fun h => f4 (up h rfl))
        · exact (fun _ => rfl)
        · exact (fun h => f6 (up h rfl))
        · exact (fun h => f7 (up h rfl))
        · exact (fun h => f8 (up h rfl))
        · exact (fun h => f9 (up h rfl))
        · exact (fun h => by obtain ⟨b, e, hb, h1, h2⟩ := f10 (up h rfl); exact ⟨b, e, hb, fun h => (h1 (dn h)), fun h => (h2 (up h rfl))⟩)
        · exact (fun h => f12 (up h rfl))
        · exact g0
        · exact (fun h => upl (g1 (up h rfl)))
      · unfold StepOk
        rintro d act x ⟨u21, u22, u23, u24, u25, u26, u27, u20, u28, u29, u10, u11, rfl, f0, f1, f2, f3, f4, f5, f6, f7, f8, f9, f10, f12, g0, g1⟩ hd hdep Kc hKc
        have hd0 : d 0 = true := hdep ⟨0, .data⟩ (by simp) rfl
        have hd4 : d 4 = true := hdep ⟨4, .data⟩ (by simp) rfl
        have hd5 : d 5 = true := hdep ⟨5, .data⟩ (by simp) rfl
        have hd4 : d 4 = true := hdep ⟨4, .chain⟩ (by simp) rfl
        obtain rfl := f0 hd0
        obtain rfl := f4 hd4
        obtain rfl := f5 hd5
        rw [if_pos (by rfl)]
        go_big_op
        refine (leaseCancelP e s now f v x HF.out HV.out).mono ?_
        rintro e x1 ⟨rfl, hb1⟩
        refine hKc _ _ ⟨_, _, _, _, _, _, _, _, _, _, _, _, rfl, ?_, ?_, ?_, ?_, ?_, ?_, ?_, ?_, ?_, ?_, ?_, ?_, ?_, ?_⟩
        · exact (fun h => f0 (up h rfl))
        · exact (fun h => f1 (up h rfl))
        · exact (fun h => f2 (up h rfl))
        · exact (fun h => f3 (up h rfl))
        · exact (fun h => f4 (up h rfl))
        · exact (fun h => f5 (up h rfl))
        · exact (fun _ => rfl)
        · exact (fun h => f7 (up h rfl))
        · exact (fun h => f8 (up h rfl))
        · exact (fun h => f9 (up h rfl))
        · exact (fun h => by obtain ⟨b, e, hb, h1, h2⟩ := f10 (up h rfl); exact ⟨b, e, hb, fun h => blk_ext hb1 (h1 (dn h)), fun h => blk_ext hb1 (h2 (up h rfl))⟩)
        · exact (fun h => f12 (up h rfl))
        · exact (ext_trans g0 hb1)
        · exact (fun h => upl (g1 (up h rfl)))
      · unfold StepOk
        rintro d act x ⟨u21, u22, u23, u24, u25, u26, u27, u20, u28, u29, u10, u11, rfl, f0, f1, f2, f3, f4, f5, f6, f7, f8, f9, f10, f12, g0, g1⟩ hd hdep Kc hKc
        have hd6 : d 6 = true := hdep ⟨6, .data⟩ (by simp) rfl
        obtain rfl := f6 hd6
        rw [if_pos (by rfl)]
        go_big_op
        refine hKc _ _ ⟨_, _, _, _, _, _, _, _, _, _, _, _, rfl, ?_, ?_, ?_, ?_, ?_, ?_, ?_, ?_, ?_, ?_, ?_, ?_, ?_, ?_⟩
        · exact (fun h => f0 (up h rfl))
        · exact (fun h => f1 (up h rfl))
        · exact (fun h => f2 (up h rfl))
        · exact (fun h => f3 (up h rfl))
        · exact (fun h => f4 (up h rfl))
        · exact (fun h => f5 (up h rfl))
        · exact (fun h => f6 (up h rfl))
        · exact (fun _ => rfl)
        · exact (fun h => f8 (up h rfl))
        · exact (fun h => f9 (up h rfl))
        · exact (fun h => by obtain ⟨b, e, hb, h1, h2⟩ := f10 (up h rfl); exact ⟨b, e, hb, fun h => (h1 (dn h)), fun h => (h2 (up h rfl))⟩)
        · exact (fun h => f12 (up h rfl))
        · exact g0
        · exact (fun h => upl (g1 (up h rfl)))
      · unfold StepOk
        rintro d act x ⟨u21, u22, u23, u24, u25, u26, u27, u20, u28, u29, u10, u11, rfl, f0, f1, f2, f3, f4, f5, f6, f7, f8, f9, f10, f12, g0, g1⟩ hd hdep Kc hKc
        have hd7 : d 7 = true := hdep ⟨7, .data⟩ (by simp) rfl
        obtain rfl := f7 hd7
        rw [if_pos (by rfl)]
        go_big_op
        refine hKc _ _ ⟨_, _, _, _, _, _, _, _, _, _, _, _, rfl, ?_, ?_, ?_, ?_, ?_, ?_, ?_, ?_, ?_, ?_, ?_, ?_, ?_, ?_⟩
        · exact (fun h => f0 (up h rfl))
        · exact (fun h => f1 (up h rfl))
        · exact (fun h => f2 (up h rfl))
        · exact (fun h => f3 (up h rfl))
        · exact (fun h => f4 (up h rfl))
        · exact (fun h => f5 (up h rfl))
        · exact (fun h => f6 (up h rfl))
        · exact (fun h => f7 (up h rfl))
        · exact (fun _ => rfl)
        · exact (fun h => f9 (up h rfl))
        · exact (fun h => by obtain ⟨b, e, hb, h1, h2⟩ := f10 (up h rfl); exact ⟨b, e, hb, fun h => (h1 (dn h)), fun h => (h2 (up h rfl))⟩)
        · exact (fun h => f12 (up h rfl))
        · exact g0
        · exact (fun h => upl (g1 (up h rfl)))
      · unfold StepOk
        rintro d act x ⟨u21, u22, u23, u24, u25, u26, u27, u20, u28, u29, u10, u11, rfl, f0, f1, f2, f3, f4, f5, f6, f7, f8, f9, f10, f12, g0, g1⟩ hd hdep Kc hKc
        have hd7 : d 7 = true := hdep ⟨7, .data⟩ (by simp) rfl
        obtain rfl := f7 hd7
        rw [if_pos (by rfl)]
        go_big_op
        refine hKc _ _ ⟨_, _, _, _, _, _, _, _, _, _, _, _, rfl, ?_, ?_, ?_, ?_, ?_, ?_, ?_, ?_, ?_, ?_, ?_, ?_, ?_, ?_⟩
        · exact (fun h => f0 (up h rfl))
        · exact (fun h => f1 (up h rfl))
        · exact (fun h => f2 (up h rfl))
        · exact (fun h => f3 (up h rfl))
        · exact (fun h => f4 (up h rfl))
        · exact (fun h => f5 (up h rfl))
        · exact (fun h => f6 (up h rfl))
        · exact (fun h => f7 (up h rfl))
        · exact (fun h => f8 (up h rfl))
        · exact (fun _ => rfl)
        · exact (fun h => by obtain ⟨b, e, hb, h1, h2⟩ := f10 (up h rfl); exact ⟨b, e, hb, fun h => (h1 (dn h)), fun h => (h2 (up h rfl))⟩)
        · exact (fun h => f12 (up h rfl))
        · exact g0
        · exact (fun h => upl (g1 (up h rfl)))
      · unfold StepOk
        rintro d act x ⟨u21, u22, u23, u24, u25, u26, u27, u20, u28, u29, u10, u11, rfl, f0, f1, f2, f3, f4, f5, f6, f7, f8, f9, f10, f12, g0, g1⟩ hd hdep Kc hKc
        rw [if_pos (by rfl)]
        go_big_op
        refine hKc _ _ ⟨_, _, _, _, _, _, _, _, _, _, _, _, rfl, ?_, ?_, ?_, ?_, ?_, ?_, ?_, ?_, ?_, ?_, ?_, ?_, ?_, ?_⟩
        · exact (fun h => f0 (up h rfl))
        · exact (fun h => f1 (up h rfl))
        · exact (fun h => f2 (up h rfl))
        · exact (fun h => f3 (up h rfl))
        · exact (fun h => f4 (up h rfl))
        · exact (fun h => f5 (up h rfl))
        · exact (fun h => f6 (up h rfl))
        · exact (fun h => f7 (up h rfl))
        · exact (fun h => f8 (up h rfl))
        · exact (fun h => f9 (up h rfl))
        · exact (fun _ => ⟨_, rfl, g0.size, fun _ => blk_new _ _ _, fun h => absurd (g1 (up h rfl)) (by rw [hd]; simp)⟩)
        · exact (fun h => f12 (up h rfl))
        · exact (g0.alloc g0.size _)
        · exact (fun h => upl (g1 (up h rfl)))
      · unfold StepOk
        rintro d act x ⟨u21, u22, u23, u24, u25, u26, u27, u20, u28, u29, u10, u11, rfl, f0, f1, f2, f3, f4, f5, f6, f7, f8, f9, f10, f12, g0, g1⟩ hd hdep Kc hKc
        have hd10 : d 10 = true := hdep ⟨10, .data⟩ (by simp) rfl
        have hd8 : d 8 = true := hdep ⟨8, .data⟩ (by simp) rfl
        have hd8 : d 8 = true := hdep ⟨8, .phase⟩ (by simp) rfl
        have hd10 : d 10 = true := hdep ⟨10, .phase⟩ (by simp) rfl
        obtain ⟨nb, rfl, hnb, hz, hf⟩ := f10 hd10
        obtain rfl := f8 hd8
        have HZ := hz hd
        have hbc := blk_cell HZ
        have hbf := blk_free HZ
        have hbl := blk_lt HZ
        rw [if_pos (by rfl)]
        go_big_op
        have HFF := blk_fill10 (v0 := .string f.c.a) (v1 := .string f.c.i) (v2 := .int .i64 f.c.s) (v3 := .int .i64 f.c.o) (v4 := .int .i64 f.c.l) (v5 := .int .i64 f.c.t) (v6 := .int .i64 f.c.k) (v7 := .int .i64 f.c.n) (v8 := .bool f.c.g) (v9 := .int .i64 f.seen) HZ rfl
        have HBB := below_fill10 (v0 := .string f.c.a) (v1 := .string f.c.i) (v2 := .int .i64 f.c.s) (v3 := .int .i64 f.c.o) (v4 := .int .i64 f.c.l) (v5 := .int .i64 f.c.t) (v6 := .int .i64 f.c.k) (v7 := .int .i64 f.c.n) (v8 := .bool f.c.g) (v9 := .int .i64 f.seen) g0 hnb
        refine hKc _ _ ⟨_, _, _, _, _, _, _, _, _, _, _, _, rfl, ?_, ?_, ?_, ?_, ?_, ?_, ?_, ?_, ?_, ?_, ?_, ?_, ?_, ?_⟩
        · exact (fun h => f0 (up h rfl))
        · exact (fun h => f1 (up h rfl))
        · exact (fun h => f2 (up h rfl))
        · exact (fun h => f3 (up h rfl))
        · exact (fun h => f4 (up h rfl))
        · exact (fun h => f5 (up h rfl))
        · exact (fun h => f6 (up h rfl))
        · exact (fun h => f7 (up h rfl))
        · exact (fun h => f8 (up h rfl))
        · exact (fun h => f9 (up h rfl))
        · exact (fun h => ⟨nb, rfl, hnb, fun h => by simp at h, fun _ => HFF⟩)
        · exact (fun h => f12 (up h rfl))
        · exact HBB
        · exact (fun h => upl hd10)
      · unfold StepOk
        rintro d act x ⟨u21, u22, u23, u24, u25, u26, u27, u20, u28, u29, u10, u11, rfl, f0, f1, f2, f3, f4, f5, f6, f7, f8, f9, f10, f12, g0, g1⟩ hd hdep Kc hKc
        have hd9 : d 9 = true := hdep ⟨9, .data⟩ (by simp) rfl
        have hd9 : d 9 = true := hdep ⟨9, .phase⟩ (by simp) rfl
        obtain rfl := f9 hd9
        rw [if_pos (by rfl)]
        go_big_op
        refine hKc _ _ ⟨_, _, _, _, _, _, _, _, _, _, _, _, rfl, ?_, ?_, ?_, ?_, ?_, ?_, ?_, ?_, ?_, ?_, ?_, ?_, ?_, ?_⟩
        · exact (fun h => f0 (up h rfl))
        · exact (fun h => f1 (up h rfl))
        · exact (fun h => f2 (up h rfl))
        · exact (fun h => f3 (up h rfl))
        · exact (fun h => f4 (up h rfl))
        · exact (fun h => f5 (up h rfl))
        · exact (fun h => f6 (up h rfl))
        · exact (fun h => f7 (up h rfl))
        · exact (fun h => f8 (up h rfl))
        · exact (fun h => f9 (up h rfl))
        · exact (fun h => by obtain ⟨b, e, hb, h1, h2⟩ := f10 (up h rfl); exact ⟨b, e, hb, fun h => (h1 (dn h)), fun h => (h2 (up h rfl))⟩)
        · exact (fun _ => rfl)
        · exact g0
        · exact (fun h => upl (g1 (up h rfl)))
    · rintro d act x ⟨u21, u22, u23, u24, u25, u26, u27, u20, u28, u29, u10, u11, rfl, f0, f1, f2, f3, f4, f5, f6, f7, f8, f9, f10, f12, g0, g1⟩ hall
      obtain rfl := f0 (hall 0 (by decide))
      obtain rfl := f1 (hall 1 (by decide))
      obtain rfl := f2 (hall 2 (by decide))
      obtain rfl := f3 (hall 3 (by decide))
      obtain rfl := f4 (hall 4 (by decide))
      obtain rfl := f5 (hall 5 (by decide))
      obtain rfl := f6 (hall 6 (by decide))
      obtain rfl := f7 (hall 7 (by decide))
      obtain rfl := f8 (hall 8 (by decide))
      obtain rfl := f9 (hall 9 (by decide))
      obtain ⟨nb, rfl, hnb, hz, hf⟩ := f10 (hall 10 (by decide))
      obtain rfl := f12 (hall 12 (by decide))
      have HNB := Lib.hid (hf (hall 11 (by decide)))
      have HWB := Lib.hid g0
      have HNL := Lib.hid hnb
      clear f0 f1 f2 f3 f4 f5 f6 f7 f8 f9 f10 f12 g1 hz hf hall g0 hnb
      obtain ⟨y2, rfl⟩ : ∃ y : World, y = x := ⟨_, rfl⟩
      obtain ⟨q2, rfl⟩ : ∃ y : Nat, y = nb := ⟨_, rfl⟩
      clear d
      have HQ2 := Lib.hid HNB.out
      have HP2 := Lib.hid (HP1.out.ext HWB.out)
      have D2 := Lib.hid (ext_trans D1.out HWB.out)
      have hq2 := Lib.hid (Nat.le_trans D1.out.size HNL.out)
      clear HNB HWB HNL HK1 HP1 D1 HQ1
      have NO : RowKit.Hid ((b = false ∨ v = false) → isIn k es = false ∨ (ge es k).c.g = true) := Lib.hid <| by
        intro h
        rw [HE.out, HB.out]
        rcases h with h | h
        · exact .inl h
        · right
          have := HV.out
          rw [h] at this
          simpa using this
      cases b
      · go_wp2
        go_returns
        exact .inr ⟨NO.out (by simp), rfl, D2.out⟩
      · cases v
        · go_wp2
          go_returns
          exact .inr ⟨NO.out (by simp), rfl, D2.out⟩
        · have hg : e.c.g = false := by simpa using HV.out
          have hk : enK f = k := by rw [← HF.out, enK_can hg, ← HE.out]; exact (ge_yes HB.out).2
          have HG := Lib.hid hg
          have HKK := Lib.hid hk
          clear hg hk NO
          have hc := blk_cell HQ2.out
          have hl := blk_lt HQ2.out
          go_wp2_with fail
          refine (deskChange db nd t0 k0 n0 es g l tt ks f y2 HP2.out HAS.out hn (.inl (by rw [HKK.out]; exact HB.out)) hks).mono ?_
          rintro r y3 ⟨b3, rfl, hb3, hx3, hd3, hr3⟩
          have HX3 := Lib.hid hx3
          have HD3 := Lib.hid hd3
          have HR3 := Lib.hid ((Rim.of D2.out).trans hr3)
          have HB3 := Lib.hid (Nat.le_trans D2.out.size hb3)
          clear hc hl hx3 hd3 hr3 hb3
          go_wp2
          go_returns
          refine .inl ⟨HB.out, by rw [HE.out]; exact HG.out, b3, rfl, HB3.out, ?_, ?_, HR3.out⟩
          · rw [HE.out, HF.out]; exact HX3.out
          · rw [HE.out, HF.out]; have h9 := HD3.out; rw [HKK.out] at h9; exact h9

end Go.Proofs.YtcjpemphdgndkaaGreat
