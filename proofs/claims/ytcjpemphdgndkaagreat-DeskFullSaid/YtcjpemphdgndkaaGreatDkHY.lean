/- A desk: register. -/
import Derived.Test.YtcjpemphdgndkaaGreatDkFY
namespace Go.Proofs.YtcjpemphdgndkaaGreat
open Go.RowKit
set_option linter.unusedVariables false
set_option linter.unusedSimpArgs false

/-- the entry of one that registers -/
def rgE (es : List En) (k : Ky) (st N : Int) (s : Int × Int × Int) (now : Int) : En := regE (ge es k) (isIn k es) (⟨k.1, k.2, st, 0, N, s.1, s.2.1, s.2.2, false⟩ : Cd) now
theorem leaseRegisterP (e : En) (b : Bool) (k : Ky) (st N : Int) (s : Int × Int × Int) (now : Int) (f : En) (w : World) (hf : regE e b (⟨k.1, k.2, st, 0, N, s.1, s.2.1, s.2.2, false⟩ : Cd) now = f) : Calls Tryz.prog 132 #[.agg #[.string e.c.a, .string e.c.i, .int .i64 e.c.s, .int .i64 e.c.o, .int .i64 e.c.l, .int .i64 e.c.t, .int .i64 e.c.k, .int .i64 e.c.n, .bool e.c.g, .int .i64 e.seen], .bool b, .agg #[.string k.1, .string k.2, .int .i64 st, .int .i64 0, .int .i64 N, .int .i64 s.1, .int .i64 s.2.1, .int .i64 s.2.2, .bool false], .int .i64 now] w fun r w' => r = .returned (.agg #[.string f.c.a, .string f.c.i, .int .i64 f.c.s, .int .i64 f.c.o, .int .i64 f.c.l, .int .i64 f.c.t, .int .i64 f.c.k, .int .i64 f.c.n, .bool f.c.g, .int .i64 f.seen]) ∧ Below w.heap.size w w' := by
  subst hf
  exact leaseRegister e b (⟨k.1, k.2, st, 0, N, s.1, s.2.1, s.2.2, false⟩ : Cd) now w
set_option maxRecDepth 100000 in
set_option maxHeartbeats 4000000 in
theorem deskRegister (db : Nat) (nd t0 k0 n0 : Int) (es : List En) (g l tt : Int) (ks : List Ky) (kd op st cod tag N sq : Int) (k : Ky) (fu : Bool) (su : Int) (cs kys : Value) (now : Int) (w : World) (h : DkP w db nd t0 k0 n0 es g l tt ks) (hs : Asc es) (hn : es.length ≤ 900) (hks : ks.length ≤ 1000000) (hN : ∀ s, s = (if isIn k es then sMax t0 k0 n0 (ge es k).c.t (ge es k).c.k (ge es k).c.n else (t0, k0, n0)) → s.2.2 ≤ 9223372036854775807 ∧ -9223372036854775808 ≤ s.2.2) (s : Int × Int × Int) (es' : nxt t0 k0 n0 es k nd now = s) (hin : isIn k es = true ∨ es.length < 32) (hN1 : 1 ≤ N) (hN2 : N ≤ 1048576) (hst : st = 1 ∨ st = 2) :
    Calls Tryz.prog 88 #[.pointer (some ⟨db, 0, none⟩), .agg #[.int .i64 kd, .int .i64 op, .int .i64 st, .int .i64 cod, .int .i64 tag, .int .i64 N, .int .i64 sq, .string k.1, .string k.2, .bool fu, .int .u32 su, cs, kys], .int .i64 now] w fun r w' => ∃ b, r = .returned (.tuple #[.slice (some ⟨b, 0, none⟩) 1 1, .int .i64 0]) ∧ w.heap.size ≤ b ∧ w'.heap[b]? = some (.cells #[.string (rgE es k st N s now).c.a, .string (rgE es k st N s now).c.i, .int .i64 (rgE es k st N s now).c.s, .int .i64 (rgE es k st N s now).c.o, .int .i64 (rgE es k st N s now).c.l, .int .i64 (rgE es k st N s now).c.t, .int .i64 (rgE es k st N s now).c.k, .int .i64 (rgE es k st N s now).c.n, .bool (rgE es k st N s now).c.g] 37 (0, 0)) ∧ DkP w' db nd (rgE es k st N s now).c.t (rgE es k st N s now).c.k (rgE es k st N s now).c.n (putE es (rgE es k st N s now)) g l tt (ks ++ [k]) ∧ Rim db w w' := by
  obtain ⟨f, hf⟩ : ∃ f, rgE es k st N s now = f := ⟨_, rfl⟩
  rw [hf]
  have HKK := Lib.hid (show enK f = k from by rw [← hf]; rfl)
  have D0 := Lib.hid (show Below w.heap.size w (w.alloc (.cells #[.int .i64 kd, .int .i64 op, .int .i64 st, .int .i64 cod, .int .i64 tag, .int .i64 N, .int .i64 sq, .string k.1, .string k.2, .bool fu, .int .u32 su, cs, kys] 33)) from (Below.refl _ _).alloc (Nat.le_refl _) _)
  have HK := Lib.hid (blk_new w #[.int .i64 kd, .int .i64 op, .int .i64 st, .int .i64 cod, .int .i64 tag, .int .i64 N, .int .i64 sq, .string k.1, .string k.2, .bool fu, .int .u32 su, cs, kys] 33)
  have HP := Lib.hid (h.ext D0.out)
  have HAS := Lib.hid hs
  obtain ⟨e, he⟩ : ∃ e, ge es k = e := ⟨_, rfl⟩
  obtain ⟨b, hb⟩ : ∃ b, isIn k es = b := ⟨_, rfl⟩
  have HE := Lib.hid he
  have HB := Lib.hid hb
  have HF := Lib.hid (show regE e b (⟨k.1, k.2, st, 0, N, s.1, s.2.1, s.2.2, false⟩ : Cd) now = f from by rw [← he, ← hb]; exact hf)
  have HIN := Lib.hid hin
  have hlt := h.lt
  have HNN := Lib.hid hN
  have HS := Lib.hid es'
  have hx1 : decide (N < 1) = false := decide_eq_false (by omega)
  have hx2 : decide (1048576 < N) = false := decide_eq_false (by omega)
  have hc := blk_cell HK.out
  have hcl := blk_lt HK.out
  clear h hs he hb hf hin hN es'
  go_enter Tryz.func88, Tryz.ntmps88
  go_upto_region 1 with (fail)
  obtain ⟨p, hp⟩ : ∃ p, w.heap.size = p := ⟨_, rfl⟩
  have hpd : p ≠ db := by omega
  have HPW := Lib.hid hp
  rw [hp] at HK hc hcl
  try rw [hp]
  clear hp hlt
  generalize (w.alloc (.cells #[.int .i64 kd, .int .i64 op, .int .i64 st, .int .i64 cod, .int .i64 tag, .int .i64 N, .int .i64 sq, .string k.1, .string k.2, .bool fu, .int .u32 su, cs, kys] 33)) = w1 at *
  have hst9 : ∃ c1 c2 : Bool, (st == 1) = c1 ∧ (st != 1) = !c1 ∧ (st == 2) = c2 ∧ (st != 2) = !c2 ∧ (c1 = true ∨ c2 = true) := by
    refine ⟨_, _, rfl, rfl, rfl, rfl, ?_⟩
    rcases hst with rfl | rfl
    · exact .inl rfl
    · exact .inr rfl
  obtain ⟨c1, c2, g1, g2, g3, g4, g5⟩ := hst9
  clear hst
  cases c1
  all_goals cases c2
  all_goals first
    | (exfalso; rcases g5 with h | h <;> cases h; done)
    | skip
  all_goals
    clear g5
    go_upto_region 3 with (fail)
    clear hc hcl hx1 hx2 g1 g2 g3 g4
    refine wp_region_inv_eq (J := fun A d act x => ∃ u29 u30 u31 u32 u33 u34 u35 u36 u37 u38 u39 u40 u8 : Value, act = (((((((((((((A.put (some 29) u29).put (some 30) u30).put (some 31) u31).put (some 32) u32).put (some 33) u33).put (some 34) u34).put (some 35) u35).put (some 36) u36).put (some 37) u37).put (some 38) u38).put (some 39) u39).put (some 40) u40).put (some 8) u8) ∧ (d 0 = true → u29 = .pointer (some ⟨p, 7, none⟩)) ∧ (d 1 = true → u30 = .agg #[.string k.1, .string k.2]) ∧ (d 2 = true → u31 = .pointer (some ⟨p, 2, none⟩)) ∧ (d 3 = true → u32 = .int .i64 st) ∧ (d 4 = true → u33 = .pointer (some ⟨p, 5, none⟩)) ∧ (d 5 = true → u34 = .int .i64 N) ∧ (d 6 = true → u35 = .pointer (some ⟨db, 0, none⟩)) ∧ (d 7 = true → u36 = .pointer (some ⟨p, 7, none⟩)) ∧ (d 8 = true → u37 = .agg #[.string k.1, .string k.2]) ∧ (d 9 = true → u38 = .int .i64 now) ∧ (d 10 = true → u39 = .agg #[.int .i64 s.1, .int .i64 s.2.1, .int .i64 s.2.2]) ∧ (d 11 = true → u40 = .agg #[.string k.1, .string k.2, .int .i64 st, .int .i64 0, .int .i64 N, .int .i64 s.1, .int .i64 s.2.1, .int .i64 s.2.2, .bool false]) ∧ (d 12 = true → (∃ b : Nat, u8 = .pointer (some ⟨b, 0, none⟩) ∧ w1.heap.size ≤ b ∧ (d 13 = false → x.heap[b]? = some (.cells #[.string ⟨#[]⟩, .string ⟨#[]⟩, .int .i64 0, .int .i64 0, .int .i64 0, .int .i64 0, .int .i64 0, .int .i64 0, .bool false] 37 (0, 0))) ∧ (d 13 = true → x.heap[b]? = some (.cells #[.string k.1, .string k.2, .int .i64 st, .int .i64 0, .int .i64 N, .int .i64 s.1, .int .i64 s.2.1, .int .i64 s.2.2, .bool false] 37 (0, 0))))) ∧ Below w1.heap.size w1 x ∧ (d 13 = true → d 12 = true)) (by simp only [Act.put, List.setIfInBounds_toArray, List.set_cons_succ, List.set_cons_zero]; rfl) (by kernel_rfl) (by kernel_rfl) ?_ ?_ ?_
    · refine ⟨_, _, _, _, _, _, _, _, _, _, _, _, _, rfl, ?_, ?_, ?_, ?_, ?_, ?_, ?_, ?_, ?_, ?_, ?_, ?_, ?_, ?_, ?_⟩
      · intro h; cases h
      · intro h; cases h
      · intro h; cases h
      · intro h; cases h
      · intro h; cases h
      · intro h; cases h
      · intro h; cases h
      · intro h; cases h
      · intro h; cases h
      · intro h; cases h
      · intro h; cases h
      · intro h; cases h
      · intro h; cases h
      · exact ((Below.refl _ _).drew)
      · exact (fun h => by cases h)
    · refine stepsOk_cons (k := 0) ?_ (stepsOk_cons (k := 1) ?_ (stepsOk_cons (k := 2) ?_ (stepsOk_cons (k := 3) ?_ (stepsOk_cons (k := 4) ?_ (stepsOk_cons (k := 5) ?_ (stepsOk_cons (k := 6) ?_ (stepsOk_cons (k := 7) ?_ (stepsOk_cons (k := 8) ?_ (stepsOk_cons (k := 9) ?_ (stepsOk_cons (k := 10) ?_ (stepsOk_cons (k := 11) ?_ (stepsOk_cons (k := 12) ?_ (stepsOk_cons (k := 13) ?_ stepsOk_nil)))))))))))))
      · unfold StepOk
        rintro d act x ⟨u29, u30, u31, u32, u33, u34, u35, u36, u37, u38, u39, u40, u8, rfl, f0, f1, f2, f3, f4, f5, f6, f7, f8, f9, f10, f11, f12, g0, g1⟩ hd hdep Kc hKc
        rw [if_pos (by rfl)]
        go_big_op
        refine hKc _ _ ⟨_, _, _, _, _, _, _, _, _, _, _, _, _, rfl, ?_, ?_, ?_, ?_, ?_, ?_, ?_, ?_, ?_, ?_, ?_, ?_, ?_, ?_, ?_⟩
        · exact (fun _ => rfl)
        · exact (fun h => f1 (up h rfl))
        · exact (fun h => f2 (up h rfl))
        · exact (fun h => f3 (up h rfl))
        · exact (fun h => f4 (up h rfl))
        · exact (fun h => f5 (up h rfl))
        · exact (fun h => f6 (up h rfl))
        · exact (fun h => f7 (up h rfl))
        · exact (fun h => f8 (up h rfl))
        · exact (fun h => f9 (up h rfl))
        · exact (fun h => f10 (up h rfl))
        · exact (fun h => f11 (up h rfl))
        · exact (fun h => by obtain ⟨b, e, hb, h1, h2⟩ := f12 (up h rfl); exact ⟨b, e, hb, fun h => (h1 (dn h)), fun h => (h2 (up h rfl))⟩)
        · exact g0
        · exact (fun h => upl (g1 (up h rfl)))
      · unfold StepOk
        rintro d act x ⟨u29, u30, u31, u32, u33, u34, u35, u36, u37, u38, u39, u40, u8, rfl, f0, f1, f2, f3, f4, f5, f6, f7, f8, f9, f10, f11, f12, g0, g1⟩ hd hdep Kc hKc
        have hd0 : d 0 = true := hdep ⟨0, .data⟩ (by simp) rfl
        obtain rfl := f0 hd0
        have hx := blk_cell (blk_ext g0 HK.out)
        have hxl := blk_lt (blk_ext g0 HK.out)
        rw [if_pos (by rfl)]
        go_big_op
        refine hKc _ _ ⟨_, _, _, _, _, _, _, _, _, _, _, _, _, rfl, ?_, ?_, ?_, ?_, ?_, ?_, ?_, ?_, ?_, ?_, ?_, ?_, ?_, ?_, ?_⟩
        · exact (fun h => f0 (up h rfl))
        · exact (fun _ => rfl)
        · exact (fun h => f2 (up h rfl))
        · exact (fun h => f3 (up h rfl))
        · exact (fun h => f4 (up h rfl))
        · exact (fun h => f5 (up h rfl))
        · exact (fun h => f6 (up h rfl))
        · exact (fun h => f7 (up h rfl))
        · exact (fun h => f8 (up h rfl))
        · exact (fun h => f9 (up h rfl))
        · exact (fun h => f10 (up h rfl))
        · exact (fun h => f11 (up h rfl))
        · exact (fun h => by obtain ⟨b, e, hb, h1, h2⟩ := f12 (up h rfl); exact ⟨b, e, hb, fun h => (h1 (dn h)), fun h => (h2 (up h rfl))⟩)
        · exact g0
        · exact (fun h => upl (g1 (up h rfl)))
      · unfold StepOk
        rintro d act x ⟨u29, u30, u31, u32, u33, u34, u35, u36, u37, u38, u39, u40, u8, rfl, f0, f1, f2, f3, f4, f5, f6, f7, f8, f9, f10, f11, f12, g0, g1⟩ hd hdep Kc hKc
        rw [if_pos (by rfl)]
        go_big_op
        refine hKc _ _ ⟨_, _, _, _, _, _, _, _, _, _, _, _, _, rfl, ?_, ?_, ?_, ?_, ?_, ?_, ?_, ?_, ?_, ?_, ?_, ?_, ?_, ?_, ?_⟩
        · exact (fun h => f0 (up h rfl))
        · exact (fun h => f1 (up h rfl))
        · exact (fun _ => rfl)
        · exact (fun h => f3 (up h rfl))
        · exact (fun h => f4 (up h rfl))
        · exact (fun h => f5 (up h rfl))
        · exact (fun h => f6 (up h rfl))
        · exact (fun h => f7 (up h rfl))
        · exact (fun h => f8 (up h rfl))
        · exact (fun h => f9 (up h rfl))
        · exact (fun h => f10 (up h rfl))
        · exact (fun h => f11 (up h rfl))
        · exact (fun h => by obtain ⟨b, e, hb, h1, h2⟩ := f12 (up h rfl); exact ⟨b, e, hb, fun h => (h1 (dn h)), fun h => (h2 (up h rfl))⟩)
        · exact g0
        · exact (fun h => upl (g1 (up h rfl)))
      · unfold StepOk
        rintro d act x ⟨u29, u30, u31, u32, u33, u34, u35, u36, u37, u38, u39, u40, u8, rfl, f0, f1, f2, f3, f4, f5, f6, f7, f8, f9, f10, f11, f12, g0, g1⟩ hd hdep Kc hKc
        have hd2 : d 2 = true := hdep ⟨2, .data⟩ (by simp) rfl
        obtain rfl := f2 hd2
        have hx := blk_cell (blk_ext g0 HK.out)
        have hxl := blk_lt (blk_ext g0 HK.out)
        rw [if_pos (by rfl)]
        go_big_op
        refine hKc _ _ ⟨_, _, _, _, _, _, _, _, _, _, _, _, _, rfl, ?_, ?_, ?_, ?_, ?_, ?_, ?_, ?_, ?_, ?_, ?_, ?_, ?_, ?_, ?_⟩
        · exact (fun h => f0 (up h rfl))
        · exact (fun h => f1 (up h rfl))
        · exact (fun h => f2 (up h rfl))
        · exact (fun _ => rfl)
        · exact (fun h => f4 (up h rfl))
        · exact (fun h => f5 (up h rfl))
        · exact (fun h => f6 (up h rfl))
        · exact (fun h => f7 (up h rfl))
        · exact (fun h => f8 (up h rfl))
        · exact (fun h => f9 (up h rfl))
        · exact (fun h => f10 (up h rfl))
        · exact (fun h => f11 (up h rfl))
        · exact (fun h => by obtain ⟨b, e, hb, h1, h2⟩ := f12 (up h rfl); exact ⟨b, e, hb, fun h => (h1 (dn h)), fun h => (h2 (up h rfl))⟩)
        · exact g0
        · exact (fun h => upl (g1 (up h rfl)))
      · unfold StepOk
        rintro d act x ⟨u29, u30, u31, u32, u33, u34, u35, u36, u37, u38, u39, u40, u8, rfl, f0, f1, f2, f3, f4, f5, f6, f7, f8, f9, f10, f11, f12, g0, g1⟩ hd hdep Kc hKc
        rw [if_pos (by rfl)]
        go_big_op
        refine hKc _ _ ⟨_, _, _, _, _, _, _, _, _, _, _, _, _, rfl, ?_, ?_, ?_, ?_, ?_, ?_, ?_, ?_, ?_, ?_, ?_, ?_, ?_, ?_, ?_⟩
        · exact (fun h => f0 (up h rfl))
        · exact (fun h => f1 (up h rfl))
        · exact (fun h => f2 (up h rfl))
        · exact (fun h => f3 (up h rfl))
        · exact (fun _ => rfl)
        · exact (fun h => f5 (up h rfl))
        · exact (fun h => f6 (up h rfl))
        · exact (fun h => f7 (up h rfl))
        · exact (fun h => f8 (up h rfl))
        · exact (fun h => f9 (up h rfl))
        · exact (fun h => f10 (up h rfl))
        · exact (fun h => f11 (up h rfl))
        · exact (fun h => by obtain ⟨b, e, hb, h1, h2⟩ := f12 (up h rfl); exact ⟨b, e, hb, fun h => (h1 (dn h)), fun h => (h2 (up h rfl))⟩)
        · exact g0
        · exact (fun h => upl (g1 (up h rfl)))
      · unfold StepOk
        rintro d act x ⟨u29, u30, u31, u32, u33, u34, u35, u36, u37, u38, u39, u40, u8, rfl, f0, f1, f2, f3, f4, f5, f6, f7, f8, f9, f10, f11, f12, g0, g1⟩ hd hdep Kc hKc
        have hd4 : d 4 = true := hdep ⟨4, .data⟩ (by simp) rfl
        obtain rfl := f4 hd4
        have hx := blk_cell (blk_ext g0 HK.out)
        have hxl := blk_lt (blk_ext g0 HK.out)
        rw [if_pos (by rfl)]
        go_big_op
        refine hKc _ _ ⟨_, _, _, _, _, _, _, _, _, _, _, _, _, rfl, ?_, ?_, ?_, ?_, ?_, ?_, ?_, ?_, ?_, ?_, ?_, ?_, ?_, ?_, ?_⟩
        · exact (fun h => f0 (up h rfl))
        · exact (fun h => f1 (up h rfl))
        · exact (fun h => f2 (up h rfl))
        · exact (fun h => f3 (up h rfl))
        · exact (fun h => f4 (up h rfl))
        · exact (fun _ => rfl)
        · exact (fun h => f6 (up h rfl))
        · exact (fun h => f7 (up h rfl))
        · exact (fun h => f8 (up h rfl))
        · exact (fun h => f9 (up h rfl))
        · exact (fun h => f10 (up h rfl))
        · exact (fun h => f11 (up h rfl))
        · exact (fun h => by obtain ⟨b, e, hb, h1, h2⟩ := f12 (up h rfl); exact ⟨b, e, hb, fun h => (h1 (dn h)), fun h => (h2 (up h rfl))⟩)
        · exact g0
        · exact (fun h => upl (g1 (up h rfl)))
      · unfold StepOk
        rintro d act x ⟨u29, u30, u31, u32, u33, u34, u35, u36, u37, u38, u39, u40, u8, rfl, f0, f1, f2, f3, f4, f5, f6, f7, f8, f9, f10, f11, f12, g0, g1⟩ hd hdep Kc hKc
        rw [if_pos (by rfl)]
        go_big_op
        refine hKc _ _ ⟨_, _, _, _, _, _, _, _, _, _, _, _, _, rfl, ?_, ?_, ?_, ?_, ?_, ?_, ?_, ?_, ?_, ?_, ?_, ?_, ?_, ?_, ?_⟩
        · exact (fun h => f0 (up h rfl))
        · exact (fun h => f1 (up h rfl))
        · exact (fun h => f2 (up h rfl))
        · exact (fun h => f3 (up h rfl))
        · exact (fun h => f4 (up h rfl))
        · exact (fun h => f5 (up h rfl))
        · exact (fun _ => rfl)
        · exact (fun h => f7 (up h rfl))
        · exact (fun h => f8 (up h rfl))
        · exact (fun h => f9 (up h rfl))
        · exact (fun h => f10 (up h rfl))
        · exact (fun h => f11 (up h rfl))
        · exact (fun h => by obtain ⟨b, e, hb, h1, h2⟩ := f12 (up h rfl); exact ⟨b, e, hb, fun h => (h1 (dn h)), fun h => (h2 (up h rfl))⟩)
        · exact g0
        · exact (fun h => upl (g1 (up h rfl)))
      · unfold StepOk
        rintro d act x ⟨u29, u30, u31, u32, u33, u34, u35, u36, u37, u38, u39, u40, u8, rfl, f0, f1, f2, f3, f4, f5, f6, f7, f8, f9, f10, f11, f12, g0, g1⟩ hd hdep Kc hKc
        rw [if_pos (by rfl)]
        go_big_op
        refine hKc _ _ ⟨_, _, _, _, _, _, _, _, _, _, _, _, _, rfl, ?_, ?_, ?_, ?_, ?_, ?_, ?_, ?_, ?_, ?_, ?_, ?_, ?_, ?_, ?_⟩
        · exact (fun h => f0 (up h rfl))
        · exact (fun h => f1 (up h rfl))
        · exact (fun h => f2 (up h rfl))
        · exact (fun h => f3 (up h rfl))
        · exact (fun h => f4 (up h rfl))
        · exact (fun h => f5 (up h rfl))
        · exact (fun h => f6 (up h rfl))
        · exact (fun _ => rfl)
        · exact (fun h => f8 (up h rfl))
        · exact (fun h => f9 (up h rfl))
        · exact (fun h => f10 (up h rfl))
        · exact (fun h => f11 (up h rfl))
        · exact (fun h => by obtain ⟨b, e, hb, h1, h2⟩ := f12 (up h rfl); exact ⟨b, e, hb, fun h => (h1 (dn h)), fun h => (h2 (up h rfl))⟩)
        · exact g0
        · exact (fun h => upl (g1 (up h rfl)))
      · unfold StepOk
        rintro d act x ⟨u29, u30, u31, u32, u33, u34, u35, u36, u37, u38, u39, u40, u8, rfl, f0, f1, f2, f3, f4, f5, f6, f7, f8, f9, f10, f11, f12, g0, g1⟩ hd hdep Kc hKc
        have hd7 : d 7 = true := hdep ⟨7, .data⟩ (by simp) rfl
        obtain rfl := f7 hd7
        have hx := blk_cell (blk_ext g0 HK.out)
        have hxl := blk_lt (blk_ext g0 HK.out)
        rw [if_pos (by rfl)]
        go_big_op
        refine hKc _ _ ⟨_, _, _, _, _, _, _, _, _, _, _, _, _, rfl, ?_, ?_, ?_, ?_, ?_, ?_, ?_, ?_, ?_, ?_, ?_, ?_, ?_, ?_, ?_⟩
        · exact (fun h => f0 (up h rfl))
        · exact (fun h => f1 (up h rfl))
        · exact (fun h => f2 (up h rfl))
        · exact (fun h => f3 (up h rfl))
        · exact (fun h => f4 (up h rfl))
        · exact (fun h => f5 (up h rfl))
        · exact (fun h => f6 (up h rfl))
        · exact (fun h => f7 (up h rfl))
        · exact (fun _ => rfl)
        · exact (fun h => f9 (up h rfl))
        · exact (fun h => f10 (up h rfl))
        · exact (fun h => f11 (up h rfl))
        · exact (fun h => by obtain ⟨b, e, hb, h1, h2⟩ := f12 (up h rfl); exact ⟨b, e, hb, fun h => (h1 (dn h)), fun h => (h2 (up h rfl))⟩)
        · exact g0
        · exact (fun h => upl (g1 (up h rfl)))
      · unfold StepOk
        rintro d act x ⟨u29, u30, u31, u32, u33, u34, u35, u36, u37, u38, u39, u40, u8, rfl, f0, f1, f2, f3, f4, f5, f6, f7, f8, f9, f10, f11, f12, g0, g1⟩ hd hdep Kc hKc
        rw [if_pos (by rfl)]
        go_big_op
        refine hKc _ _ ⟨_, _, _, _, _, _, _, _, _, _, _, _, _, rfl, ?_, ?_, ?_, ?_, ?_, ?_, ?_, ?_, ?_, ?_, ?_, ?_, ?_, ?_, ?_⟩
        · exact (fun h => f0 (up h rfl))
        · exact (fun h => f1 (up h rfl))
        · exact (fun h => f2 (up h rfl))
        · exact (fun h => f3 (up h rfl))
        · exact (fun h => f4 (up h rfl))
        · exact (fun h => f5 (up h rfl))
        · exact (fun h => f6 (up h rfl))
        · exact (fun h => f7 (up h rfl))
        · exact (fun h => f8 (up h rfl))
        · exact (fun _ => rfl)
        · exact (fun h => f10 (up h rfl))
        · exact (fun h => f11 (up h rfl))
        · exact (fun h => by obtain ⟨b, e, hb, h1, h2⟩ := f12 (up h rfl); exact ⟨b, e, hb, fun h => (h1 (dn h)), fun h => (h2 (up h rfl))⟩)
        · exact g0
        · exact (fun h => upl (g1 (up h rfl)))
      · unfold StepOk
        rintro d act x ⟨u29, u30, u31, u32, u33, u34, u35, u36, u37, u38, u39, u40, u8, rfl, f0, f1, f2, f3, f4, f5, f6, f7, f8, f9, f10, f11, f12, g0, g1⟩ hd hdep Kc hKc
        have hd6 : d 6 = true := hdep ⟨6, .data⟩ (by simp) rfl
        have hd8 : d 8 = true := hdep ⟨8, .data⟩ (by simp) rfl
        have hd9 : d 9 = true := hdep ⟨9, .data⟩ (by simp) rfl
        obtain rfl := f6 hd6
        obtain rfl := f8 hd8
        obtain rfl := f9 hd9
        rw [if_pos (by rfl)]
        go_big_op
        refine (deskNextP db nd t0 k0 n0 es g l tt ks k now x (HP.out.ext g0) HAS.out hn HNN.out s HS.out).mono ?_
        rintro e x1 ⟨rfl, hb1⟩
        refine hKc _ _ ⟨_, _, _, _, _, _, _, _, _, _, _, _, _, rfl, ?_, ?_, ?_, ?_, ?_, ?_, ?_, ?_, ?_, ?_, ?_, ?_, ?_, ?_, ?_⟩
        · exact (fun h => f0 (up h rfl))
        · exact (fun h => f1 (up h rfl))
        · exact (fun h => f2 (up h rfl))
        · exact (fun h => f3 (up h rfl))
        · exact (fun h => f4 (up h rfl))
        · exact (fun h => f5 (up h rfl))
        · exact (fun h => f6 (up h rfl))
        · exact (fun h => f7 (up h rfl))
        · exact (fun h => f8 (up h rfl))
        · exact (fun h => f9 (up h rfl))
        · exact (fun _ => rfl)
        · exact (fun h => f11 (up h rfl))
        · exact (fun h => by obtain ⟨b, e, hb, h1, h2⟩ := f12 (up h rfl); exact ⟨b, e, hb, fun h => blk_ext hb1 (h1 (dn h)), fun h => blk_ext hb1 (h2 (up h rfl))⟩)
        · exact (ext_trans g0 hb1)
        · exact (fun h => upl (g1 (up h rfl)))
      · unfold StepOk
        rintro d act x ⟨u29, u30, u31, u32, u33, u34, u35, u36, u37, u38, u39, u40, u8, rfl, f0, f1, f2, f3, f4, f5, f6, f7, f8, f9, f10, f11, f12, g0, g1⟩ hd hdep Kc hKc
        have hd1 : d 1 = true := hdep ⟨1, .data⟩ (by simp) rfl
        have hd3 : d 3 = true := hdep ⟨3, .data⟩ (by simp) rfl
        have hd5 : d 5 = true := hdep ⟨5, .data⟩ (by simp) rfl
        have hd10 : d 10 = true := hdep ⟨10, .data⟩ (by simp) rfl
        obtain rfl := f1 hd1
        obtain rfl := f3 hd3
        obtain rfl := f5 hd5
        obtain rfl := f10 hd10
        rw [if_pos (by rfl)]
        go_big_op
        refine hKc _ _ ⟨_, _, _, _, _, _, _, _, _, _, _, _, _, rfl, ?_, ?_, ?_, ?_, ?_, ?_, ?_, ?_, ?_, ?_, ?_, ?_, ?_, ?_, ?_⟩
        · exact (fun h => f0 (up h rfl))
        · exact (fun h => f1 (up h rfl))
        · exact (fun h => f2 (up h rfl))
        · exact (fun h => f3 (up h rfl))
        · exact (fun h => f4 (up h rfl))
        · exact (fun h => f5 (up h rfl))
        · exact (fun h => f6 (up h rfl))
        · exact (fun h => f7 (up h rfl))
        · exact (fun h => f8 (up h rfl))
        · exact (fun h => f9 (up h rfl))
        · exact (fun h => f10 (up h rfl))
        · exact (fun _ => rfl)
        · exact (fun h => by obtain ⟨b, e, hb, h1, h2⟩ := f12 (up h rfl); exact ⟨b, e, hb, fun h => (h1 (dn h)), fun h => (h2 (up h rfl))⟩)
        · exact g0
        · exact (fun h => upl (g1 (up h rfl)))
      · unfold StepOk
        rintro d act x ⟨u29, u30, u31, u32, u33, u34, u35, u36, u37, u38, u39, u40, u8, rfl, f0, f1, f2, f3, f4, f5, f6, f7, f8, f9, f10, f11, f12, g0, g1⟩ hd hdep Kc hKc
        rw [if_pos (by rfl)]
        go_big_op
        refine hKc _ _ ⟨_, _, _, _, _, _, _, _, _, _, _, _, _, rfl, ?_, ?_, ?_, ?_, ?_, ?_, ?_, ?_, ?_, ?_, ?_, ?_, ?_, ?_, ?_⟩
        · exact (fun h => f0 (up h rfl))
        · exact (fun h => f1 (up h rfl))
        · exact (fun h => f2 (up h rfl))
        · exact (fun h => f3 (up h rfl))
        · exact (fun h => f4 (up h rfl))
        · exact (fun h => f5 (up h rfl))
        · exact (fun h => f6 (up h rfl))
        · exact (fun h => f7 (up h rfl))
        · exact (fun h => f8 (up h rfl))
        · exact (fun h => f9 (up h rfl))
        · exact (fun h => f10 (up h rfl))
        · exact (fun h => f11 (up h rfl))
        · exact (fun _ => ⟨_, rfl, g0.size, fun _ => blk_new _ _ _, fun h => absurd (g1 (up h rfl)) (by rw [hd]; simp)⟩)
        · exact (g0.alloc g0.size _)
        · exact (fun h => upl (g1 (up h rfl)))
      · unfold StepOk
        rintro d act x ⟨u29, u30, u31, u32, u33, u34, u35, u36, u37, u38, u39, u40, u8, rfl, f0, f1, f2, f3, f4, f5, f6, f7, f8, f9, f10, f11, f12, g0, g1⟩ hd hdep Kc hKc
        have hd12 : d 12 = true := hdep ⟨12, .data⟩ (by simp) rfl
        have hd11 : d 11 = true := hdep ⟨11, .data⟩ (by simp) rfl
        have hd11 : d 11 = true := hdep ⟨11, .phase⟩ (by simp) rfl
        have hd12 : d 12 = true := hdep ⟨12, .phase⟩ (by simp) rfl
        obtain ⟨nb, rfl, hnb, hz, hf⟩ := f12 hd12
        obtain rfl := f11 hd11
        have HZ := hz hd
        have hbc := blk_cell HZ
        have hbf := blk_free HZ
        have hbl := blk_lt HZ
        rw [if_pos (by rfl)]
        go_big_op
        have HFF := blk_fill9 (v0 := .string k.1) (v1 := .string k.2) (v2 := .int .i64 st) (v3 := .int .i64 0) (v4 := .int .i64 N) (v5 := .int .i64 s.1) (v6 := .int .i64 s.2.1) (v7 := .int .i64 s.2.2) (v8 := .bool false) HZ rfl
        have HBB := below_fill9 (v0 := .string k.1) (v1 := .string k.2) (v2 := .int .i64 st) (v3 := .int .i64 0) (v4 := .int .i64 N) (v5 := .int .i64 s.1) (v6 := .int .i64 s.2.1) (v7 := .int .i64 s.2.2) (v8 := .bool false) g0 hnb
        refine hKc _ _ ⟨_, _, _, _, _, _, _, _, _, _, _, _, _, rfl, ?_, ?_, ?_, ?_, ?_, ?_, ?_, ?_, ?_, ?_, ?_, ?_, ?_, ?_, ?_⟩
        · exact (fun h => f0 (up h rfl))
        · exact (fun h => f1 (up h rfl))
        · exact (fun h => f2 (up h rfl))
        · exact (fun h => f3 (up h rfl))
        · exact (fun h => f4 (up h rfl))
        · exact (fun h => f5 (up h rfl))
        · exact (fun h => f6 (up h rfl))
        · exact (fun h => f7 (up h rfl))
        · exact (fun h => f8 (up h rfl))
        · exact (fun h => f9 (up h rfl))
        · exact (fun h => f10 (up h rfl))
        · exact (fun h => f11 (up h rfl))
        · exact (fun h => ⟨nb, rfl, hnb, fun h => by simp at h, fun _ => HFF⟩)
        · exact HBB
        · exact (fun h => upl hd12)
    · rintro d act x ⟨u29, u30, u31, u32, u33, u34, u35, u36, u37, u38, u39, u40, u8, rfl, f0, f1, f2, f3, f4, f5, f6, f7, f8, f9, f10, f11, f12, g0, g1⟩ hall
      obtain rfl := f0 (hall 0 (by decide))
      obtain rfl := f1 (hall 1 (by decide))
      obtain rfl := f2 (hall 2 (by decide))
      obtain rfl := f3 (hall 3 (by decide))
      obtain rfl := f4 (hall 4 (by decide))
      obtain rfl := f5 (hall 5 (by decide))
      obtain rfl := f6 (hall 6 (by decide))
      obtain rfl := f7 (hall 7 (by decide))
      obtain rfl := f8 (hall 8 (by decide))
      obtain rfl := f9 (hall 9 (by decide))
      obtain rfl := f10 (hall 10 (by decide))
      obtain rfl := f11 (hall 11 (by decide))
      obtain ⟨nb, rfl, hnb, hz, hf⟩ := f12 (hall 12 (by decide))
      have HNB := Lib.hid (hf (hall 13 (by decide)))
      have HWB := Lib.hid g0
      have HNL := Lib.hid hnb
      clear f0 f1 f2 f3 f4 f5 f6 f7 f8 f9 f10 f11 f12 g1 hz hf hall g0 hnb
      obtain ⟨y1, rfl⟩ : ∃ y : World, y = x := ⟨_, rfl⟩
      obtain ⟨q1, rfl⟩ : ∃ y : Nat, y = nb := ⟨_, rfl⟩
      clear d
      have HQ1 := Lib.hid HNB.out
      have HK1 := Lib.hid (blk_ext HWB.out HK.out)
      have HP1 := Lib.hid (HP.out.ext HWB.out)
      have D1 := Lib.hid (ext_trans D0.out HWB.out)
      clear HNB HWB HNL HK HP D0
      go_upto_region 4 with (fail)
      refine wp_region_inv_eq (J := fun A d act x => ∃ u42 u43 u44 u45 u46 u47 u41 u48 u49 u9 u10 : Value, act = (((((((((((A.put (some 42) u42).put (some 43) u43).put (some 44) u44).put (some 45) u45).put (some 46) u46).put (some 47) u47).put (some 41) u41).put (some 48) u48).put (some 49) u49).put (some 9) u9).put (some 10) u10) ∧ (d 0 = true → u42 = .pointer (some ⟨db, 0, none⟩)) ∧ (d 1 = true → u43 = .pointer (some ⟨db, 0, none⟩)) ∧ (d 2 = true → u44 = .pointer (some ⟨db, 4, none⟩)) ∧ (d 3 = true → u45 = .pointer (some ⟨p, 7, none⟩)) ∧ (d 4 = true → u46 = .agg #[.string k.1, .string k.2]) ∧ (d 5 = true → u47 = .tuple #[.agg #[.string e.c.a, .string e.c.i, .int .i64 e.c.s, .int .i64 e.c.o, .int .i64 e.c.l, .int .i64 e.c.t, .int .i64 e.c.k, .int .i64 e.c.n, .bool e.c.g, .int .i64 e.seen], .bool b]) ∧ (d 6 = true → u41 = .tuple #[.agg #[.string e.c.a, .string e.c.i, .int .i64 e.c.s, .int .i64 e.c.o, .int .i64 e.c.l, .int .i64 e.c.t, .int .i64 e.c.k, .int .i64 e.c.n, .bool e.c.g, .int .i64 e.seen], .bool b]) ∧ (d 7 = true → u48 = .agg #[.string e.c.a, .string e.c.i, .int .i64 e.c.s, .int .i64 e.c.o, .int .i64 e.c.l, .int .i64 e.c.t, .int .i64 e.c.k, .int .i64 e.c.n, .bool e.c.g, .int .i64 e.seen]) ∧ (d 8 = true → u49 = .bool b) ∧ (d 9 = true → (∃ b : Nat, u9 = .pointer (some ⟨b, 0, none⟩) ∧ y1.heap.size ≤ b ∧ (d 10 = false → x.heap[b]? = some (.cells #[.string ⟨#[]⟩, .string ⟨#[]⟩, .int .i64 0, .int .i64 0, .int .i64 0, .int .i64 0, .int .i64 0, .int .i64 0, .bool false, .int .i64 0] 58 (0, 0))) ∧ (d 10 = true → x.heap[b]? = some (.cells #[.string e.c.a, .string e.c.i, .int .i64 e.c.s, .int .i64 e.c.o, .int .i64 e.c.l, .int .i64 e.c.t, .int .i64 e.c.k, .int .i64 e.c.n, .bool e.c.g, .int .i64 e.seen] 58 (0, 0))))) ∧ (d 11 = true → u10 = .bool b) ∧ Below y1.heap.size y1 x ∧ (d 10 = true → d 9 = true)) (by simp only [Act.put, List.setIfInBounds_toArray, List.set_cons_succ, List.set_cons_zero]; rfl) (by kernel_rfl) (by kernel_rfl) ?_ ?_ ?_
      · refine ⟨_, _, _, _, _, _, _, _, _, _, _, rfl, ?_, ?_, ?_, ?_, ?_, ?_, ?_, ?_, ?_, ?_, ?_, ?_, ?_⟩
        · intro h; cases h
        · intro h; cases h
        · intro h; cases h
        · intro h; cases h
        · intro h; cases h
        · intro h; cases h
        · intro h; cases h
        · intro h; cases h
        · intro h; cases h
        · intro h; cases h
        · intro h; cases h
        · exact ((Below.refl _ _).drew)
        · exact (fun h => by cases h)
      · refine stepsOk_cons (k := 0) ?_ (stepsOk_cons (k := 1) ?_ (stepsOk_cons (k := 2) ?_ (stepsOk_cons (k := 3) ?_ (stepsOk_cons (k := 4) ?_ (stepsOk_cons (k := 5) ?_ (stepsOk_cons (k := 6) ?_ (stepsOk_cons (k := 7) ?_ (stepsOk_cons (k := 8) ?_ (stepsOk_cons (k := 9) ?_ (stepsOk_cons (k := 10) ?_ (stepsOk_cons (k := 11) ?_ stepsOk_nil)))))))))))
        · unfold StepOk
          rintro d act x ⟨u42, u43, u44, u45, u46, u47, u41, u48, u49, u9, u10, rfl, f0, f1, f2, f3, f4, f5, f6, f7, f8, f9, f11, g0, g1⟩ hd hdep Kc hKc
          rw [if_pos (by rfl)]
          go_big_op
          refine hKc _ _ ⟨_, _, _, _, _, _, _, _, _, _, _, rfl, ?_, ?_, ?_, ?_, ?_, ?_, ?_, ?_, ?_, ?_, ?_, ?_, ?_⟩
          · exact (fun _ => rfl)
          · exact (fun h => f1 (up h rfl))
          · exact (fun h => f2 (up h rfl))
          · exact (fun h => f3 (up h rfl))
          · exact (fun h => f4 (up h rfl))
          · exact (fun h => f5 (up h rfl))
          · exact (fun h => f6 (up h rfl))
          · exact (fun h => f7 (up h rfl))
          · exact (fun h => f8 (up h rfl))
          · exact (fun h => by obtain ⟨b, e, hb, h1, h2⟩ := f9 (up h rfl); exact ⟨b, e, hb, fun h => (h1 (dn h)), fun h => (h2 (up h rfl))⟩)
          · exact (fun h => f11 (up h rfl))
          · exact g0
          · exact (fun h => upl (g1 (up h rfl)))
        · unfold StepOk
          rintro d act x ⟨u42, u43, u44, u45, u46, u47, u41, u48, u49, u9, u10, rfl, f0, f1, f2, f3, f4, f5, f6, f7, f8, f9, f11, g0, g1⟩ hd hdep Kc hKc
          have hd0 : d 0 = true := hdep ⟨0, .data⟩ (by simp) rfl
          obtain rfl := f0 hd0
          rw [if_pos (by rfl)]
          go_big_op
          refine hKc _ _ ⟨_, _, _, _, _, _, _, _, _, _, _, rfl, ?_, ?_, ?_, ?_, ?_, ?_, ?_, ?_, ?_, ?_, ?_, ?_, ?_⟩
          · exact (fun h => f0 (up h rfl))
          · exact (fun _ => rfl)
          · exact (fun h => f2 (up h rfl))
          · exact (fun h => f3 (up h rfl))
          · exact (fun h => f4 (up h rfl))
          · exact (fun h => f5 (up h rfl))
          · exact (fun h => f6 (up h rfl))
          · exact (fun h => f7 (up h rfl))
          · exact (fun h => f8 (up h rfl))
          · exact (fun h => by obtain ⟨b, e, hb, h1, h2⟩ := f9 (up h rfl); exact ⟨b, e, hb, fun h => (h1 (dn h)), fun h => (h2 (up h rfl))⟩)
          · exact (fun h => f11 (up h rfl))
          · exact g0
          · exact (fun h => upl (g1 (up h rfl)))
        · unfold StepOk
          rintro d act x ⟨u42, u43, u44, u45, u46, u47, u41, u48, u49, u9, u10, rfl, f0, f1, f2, f3, f4, f5, f6, f7, f8, f9, f11, g0, g1⟩ hd hdep Kc hKc
          have hd1 : d 1 = true := hdep ⟨1, .data⟩ (by simp) rfl
          obtain rfl := f1 hd1
          rw [if_pos (by rfl)]
          go_big_op
          refine hKc _ _ ⟨_, _, _, _, _, _, _, _, _, _, _, rfl, ?_, ?_, ?_, ?_, ?_, ?_, ?_, ?_, ?_, ?_, ?_, ?_, ?_⟩
          · exact (fun h => f0 (up h rfl))
          · exact (fun h => f1 (up h rfl))
          · exact (fun _ => rfl)
          · exact (fun h => f3 (up h rfl))
          · exact (fun h => f4 (up h rfl))
          · exact (fun h => f5 (up h rfl))
          · exact (fun h => f6 (up h rfl))
          · exact (fun h => f7 (up h rfl))
          · exact (fun h => f8 (up h rfl))
          · exact (fun h => by obtain ⟨b, e, hb, h1, h2⟩ := f9 (up h rfl); exact ⟨b, e, hb, fun h => (h1 (dn h)), fun h => (h2 (up h rfl))⟩)
          · exact (fun h => f11 (up h rfl))
          · exact g0
          · exact (fun h => upl (g1 (up h rfl)))
        · unfold StepOk
          rintro d act x ⟨u42, u43, u44, u45, u46, u47, u41, u48, u49, u9, u10, rfl, f0, f1, f2, f3, f4, f5, f6, f7, f8, f9, f11, g0, g1⟩ hd hdep Kc hKc
          rw [if_pos (by rfl)]
          go_big_op
          refine hKc _ _ ⟨_, _, _, _, _, _, _, _, _, _, _, rfl, ?_, ?_, ?_, ?_, ?_, ?_, ?_, ?_, ?_, ?_, ?_, ?_, ?_⟩
          · exact (fun h => f0 (up h rfl))
          · exact (fun h => f1 (up h rfl))
          · exact (fun h => f2 (up h rfl))
          · exact (fun _ => rfl)
          · exact (fun h => f4 (up h rfl))
          · exact (fun h => f5 (up h rfl))
          · exact (fun h => f6 (up h rfl))
          · exact (fun h => f7 (up h rfl))
          · exact (fun h => f8 (up h rfl))
          · exact (fun h => by obtain ⟨b, e, hb, h1, h2⟩ := f9 (up h rfl); exact ⟨b, e, hb, fun h => (h1 (dn h)), fun h => (h2 (up h rfl))⟩)
          · exact (fun h => f11 (up h rfl))
          · exact g0
          · exact (fun h => upl (g1 (up h rfl)))
        · unfold StepOk
          rintro d act x ⟨u42, u43, u44, u45, u46, u47, u41, u48, u49, u9, u10, rfl, f0, f1, f2, f3, f4, f5, f6, f7, f8, f9, f11, g0, g1⟩ hd hdep Kc hKc
          have hd3 : d 3 = true := hdep ⟨3, .data⟩ (by simp) rfl
          obtain rfl := f3 hd3
          have hx := blk_cell (blk_ext g0 HK1.out)
          have hxl := blk_lt (blk_ext g0 HK1.out)
          rw [if_pos (by rfl)]
          go_big_op
          refine hKc _ _ ⟨_, _, _, _, _, _, _, _, _, _, _, rfl, ?_, ?_, ?_, ?_, ?_, ?_, ?_, ?_, ?_, ?_, ?_, ?_, ?_⟩
          · exact (fun h => f0 (up h rfl))
          · exact (fun h => f1 (up h rfl))
          · exact (fun h => f2 (up h rfl))
          · exact (fun h => f3 (up h rfl))
          · exact (fun _ => rfl)
          · exact (fun h => f5 (up h rfl))
          · exact (fun h => f6 (up h rfl))
          · exact (fun h => f7 (up h rfl))
          · exact (fun h => f8 (up h rfl))
          · exact (fun h => by obtain ⟨b, e, hb, h1, h2⟩ := f9 (up h rfl); exact ⟨b, e, hb, fun h => (h1 (dn h)), fun h => (h2 (up h rfl))⟩)
          · exact (fun h => f11 (up h rfl))
          · exact g0
          · exact (fun h => upl (g1 (up h rfl)))
        · unfold StepOk
          rintro d act x ⟨u42, u43, u44, u45, u46, u47, u41, u48, u49, u9, u10, rfl, f0, f1, f2, f3, f4, f5, f6, f7, f8, f9, f11, g0, g1⟩ hd hdep Kc hKc
          have hd2 : d 2 = true := hdep ⟨2, .data⟩ (by simp) rfl
          have hd4 : d 4 = true := hdep ⟨4, .data⟩ (by simp) rfl
          obtain rfl := f2 hd2
          obtain rfl := f4 hd4
          rw [if_pos (by rfl)]
          go_big_op
          refine (dkGetP db nd t0 k0 n0 es g l tt ks k x (HP1.out.ext g0) HAS.out hn e b HE.out HB.out).mono ?_
          rintro e x1 ⟨rfl, hb1⟩
          refine hKc _ _ ⟨_, _, _, _, _, _, _, _, _, _, _, rfl, ?_, ?_, ?_, ?_, ?_, ?_, ?_, ?_, ?_, ?_, ?_, ?_, ?_⟩
          · exact (fun h => f0 (up h rfl))
          · exact (fun h => f1 (up h rfl))
          · exact (fun h => f2 (up h rfl))
          · exact (fun h => f3 (up h rfl))
          · exact (fun h => f4 (up h rfl))
          · exact (fun _ => rfl)
          · exact (fun h => f6 (up h rfl))
          · exact (fun h => f7 (up h rfl))
          · exact (fun h => f8 (up h rfl))
          · exact (fun h => by obtain ⟨b, e, hb, h1, h2⟩ := f9 (up h rfl); exact ⟨b, e, hb, fun h => blk_ext hb1 (h1 (dn h)), fun h => blk_ext hb1 (h2 (up h rfl))⟩)
          · exact (fun h => f11 (up h rfl))
          · exact (ext_trans g0 hb1)
          · exact (fun h => upl (g1 (up h rfl)))
        · unfold StepOk
          rintro d act x ⟨u42, u43, u44, u45, u46, u47, u41, u48, u49, u9, u10, rfl, f0, f1, f2, f3, f4, f5, f6, f7, f8, f9, f11, g0, g1⟩ hd hdep Kc hKc
          have hd5 : d 5 = true := hdep ⟨5, .data⟩ (by simp) rfl
          obtain rfl := f5 hd5
          rw [if_pos (by rfl)]
          go_big_op
          refine hKc _ _ ⟨_, _, _, _, _, _, _, _, _, _, _, rfl, ?_, ?_, ?_, ?_, ?_, ?_, ?_, ?_, ?_, ?_, ?_, ?_, ?_⟩
          · exact (fun h => f0 (up h rfl))
          · exact (fun h => f1 (up h rfl))
          · exact (fun h => f2 (up h rfl))
          · exact (fun h => f3 (up h rfl))
          · exact (fun h => f4 (up h rfl))
          · exact (fun h => f5 (up h rfl))
          · exact (fun _ => rfl)
          · exact (fun h => f7 (up h rfl))
          · exact (fun h => f8 (up h rfl))
          · exact (fun h => by obtain ⟨b, e, hb, h1, h2⟩ := f9 (up h rfl); exact ⟨b, e, hb, fun h => (h1 (dn h)), fun h => (h2 (up h rfl))⟩)
          · exact (fun h => f11 (up h rfl))
          · exact g0
          · exact (fun h => upl (g1 (up h rfl)))
        · unfold StepOk
          rintro d act x ⟨u42, u43, u44, u45, u46, u47, u41, u48, u49, u9, u10, rfl, f0, f1, f2, f3, f4, f5, f6, f7, f8, f9, f11, g0, g1⟩ hd hdep Kc hKc
          have hd6 : d 6 = true := hdep ⟨6, .data⟩ (by simp) rfl
          obtain rfl := f6 hd6
          rw [if_pos (by rfl)]
          go_big_op
          refine hKc _ _ ⟨_, _, _, _, _, _, _, _, _, _, _, rfl, ?_, ?_, ?_, ?_, ?_, ?_, ?_, ?_, ?_, ?_, ?_, ?_, ?_⟩
          · exact (fun h => f0 (up h rfl))
          · exact (fun h => f1 (up h rfl))
          · exact (fun h => f2 (up h rfl))
          · exact (fun h => f3 (up h rfl))
          · exact (fun h => f4 (up h rfl))
          · exact (fun h => f5 (up h rfl))
          · exact (fun h => f6 (up h rfl))
          · exact (fun _ => rfl)
          · exact (fun h => f8 (up h rfl))
          · exact (fun h => by obtain ⟨b, e, hb, h1, h2⟩ := f9 (up h rfl); exact ⟨b, e, hb, fun h => (h1 (dn h)), fun h => (h2 (up h rfl))⟩)
          · exact (fun h => f11 (up h rfl))
          · exact g0
          · exact (fun h => upl (g1 (up h rfl)))
        · unfold StepOk
          rintro d act x ⟨u42, u43, u44, u45, u46, u47, u41, u48, u49, u9, u10, rfl, f0, f1, f2, f3, f4, f5, f6, f7, f8, f9, f11, g0, g1⟩ hd hdep Kc hKc
          have hd6 : d 6 = true := hdep ⟨6, .data⟩ (by simp) rfl
          obtain rfl := f6 hd6
          rw [if_pos (by rfl)]
          go_big_op
          refine hKc _ _ ⟨_, _, _, _, _, _, _, _, _, _, _, rfl, ?_, ?_, ?_, ?_, ?_, ?_, ?_, ?_, ?_, ?_, ?_, ?_, ?_⟩
          · exact (fun h => f0 (up h rfl))
          · exact (fun h => f1 (up h rfl))
          · exact (fun h => f2 (up h rfl))
          · exact (fun h => f3 (up h rfl))
          · exact (fun h => f4 (up h rfl))
          · exact (fun h => f5 (up h rfl))
          · exact (fun h => f6 (up h rfl))
          · exact (fun h => f7 (up h rfl))
          · exact (fun _ => rfl)
          · exact (fun h => by obtain ⟨b, e, hb, h1, h2⟩ := f9 (up h rfl); exact ⟨b, e, hb, fun h => (h1 (dn h)), fun h => (h2 (up h rfl))⟩)
          · exact (fun h => f11 (up h rfl))
          · exact g0
          · exact (fun h => upl (g1 (up h rfl)))
        · unfold StepOk
          rintro d act x ⟨u42, u43, u44, u45, u46, u47, u41, u48, u49, u9, u10, rfl, f0, f1, f2, f3, f4, f5, f6, f7, f8, f9, f11, g0, g1⟩ hd hdep Kc hKc
          rw [if_pos (by rfl)]
          go_big_op
          refine hKc _ _ ⟨_, _, _, _, _, _, _, _, _, _, _, rfl, ?_, ?_, ?_, ?_, ?_, ?_, ?_, ?_, ?_, ?_, ?_, ?_, ?_⟩
          · exact (fun h => f0 (up h rfl))
          · exact (fun h => f1 (up h rfl))
          · exact (fun h => f2 (up h rfl))
          · exact (fun h => f3 (up h rfl))
          · exact (fun h => f4 (up h rfl))
          · exact (fun h => f5 (up h rfl))
          · exact (fun h => f6 (up h rfl))
          · exact (fun h => f7 (up h rfl))
          · exact (fun h => f8 (up h rfl))
          · exact (fun _ => ⟨_, rfl, g0.size, fun _ => blk_new _ _ _, fun h => absurd (g1 (up h rfl)) (by rw [hd]; simp)⟩)
          · exact (fun h => f11 (up h rfl))
          · exact (g0.alloc g0.size _)
          · exact (fun h => upl (g1 (up h rfl)))
        · unfold StepOk
          rintro d act x ⟨u42, u43, u44, u45, u46, u47, u41, u48, u49, u9, u10, rfl, f0, f1, f2, f3, f4, f5, f6, f7, f8, f9, f11, g0, g1⟩ hd hdep Kc hKc
          have hd9 : d 9 = true := hdep ⟨9, .data⟩ (by simp) rfl
          have hd7 : d 7 = true := hdep ⟨7, .data⟩ (by simp) rfl
          have hd7 : d 7 = true := hdep ⟨7, .phase⟩ (by simp) rfl
          have hd9 : d 9 = true := hdep ⟨9, .phase⟩ (by simp) rfl
          obtain ⟨nb, rfl, hnb, hz, hf⟩ := f9 hd9
          obtain rfl := f7 hd7
          have HZ := hz hd
          have hbc := blk_cell HZ
          have hbf := blk_free HZ
          have hbl := blk_lt HZ
          rw [if_pos (by rfl)]
          go_big_op
          have HFF := blk_fill10 (v0 := .string e.c.a) (v1 := .string e.c.i) (v2 := .int .i64 e.c.s) (v3 := .int .i64 e.c.o) (v4 := .int .i64 e.c.l) (v5 := .int .i64 e.c.t) (v6 := .int .i64 e.c.k) (v7 := .int .i64 e.c.n) (v8 := .bool e.c.g) (v9 := .int .i64 e.seen) HZ rfl
          have HBB := below_fill10 (v0 := .string e.c.a) (v1 := .string e.c.i) (v2 := .int .i64 e.c.s) (v3 := .int .i64 e.c.o) (v4 := .int .i64 e.c.l) (v5 := .int .i64 e.c.t) (v6 := .int .i64 e.c.k) (v7 := .int .i64 e.c.n) (v8 := .bool e.c.g) (v9 := .int .i64 e.seen) g0 hnb
          refine hKc _ _ ⟨_, _, _, _, _, _, _, _, _, _, _, rfl, ?_, ?_, ?_, ?_, ?_, ?_, ?_, ?_, ?_, ?_, ?_, ?_, ?_⟩
          · exact (fun h => f0 (up h rfl))
          · exact (fun h => f1 (up h rfl))
          · exact (fun h => f2 (up h rfl))
          · exact (fun h => f3 (up h rfl))
          · exact (fun h => f4 (up h rfl))
          · exact (fun h => f5 (up h rfl))
          · exact (fun h => f6 (up h rfl))
          · exact (fun h => f7 (up h rfl))
          · exact (fun h => f8 (up h rfl))
          · exact (fun h => ⟨nb, rfl, hnb, fun h => by simp at h, fun _ => HFF⟩)
          · exact (fun h => f11 (up h rfl))
          · exact HBB
          · exact (fun h => upl hd9)
        · unfold StepOk
          rintro d act x ⟨u42, u43, u44, u45, u46, u47, u41, u48, u49, u9, u10, rfl, f0, f1, f2, f3, f4, f5, f6, f7, f8, f9, f11, g0, g1⟩ hd hdep Kc hKc
          have hd8 : d 8 = true := hdep ⟨8, .data⟩ (by simp) rfl
          have hd8 : d 8 = true := hdep ⟨8, .phase⟩ (by simp) rfl
          obtain rfl := f8 hd8
          rw [if_pos (by rfl)]
          go_big_op
          refine hKc _ _ ⟨_, _, _, _, _, _, _, _, _, _, _, rfl, ?_, ?_, ?_, ?_, ?_, ?_, ?_, ?_, ?_, ?_, ?_, ?_, ?_⟩
          · exact (fun h => f0 (up h rfl))
          · exact (fun h => f1 (up h rfl))
          · exact (fun h => f2 (up h rfl))
          · exact (fun h => f3 (up h rfl))
          · exact (fun h => f4 (up h rfl))
          · exact (fun h => f5 (up h rfl))
          · exact (fun h => f6 (up h rfl))
          · exact (fun h => f7 (up h rfl))
          · exact (fun h => f8 (up h rfl))
          · exact (fun h => by obtain ⟨b, e, hb, h1, h2⟩ := f9 (up h rfl); exact ⟨b, e, hb, fun h => (h1 (dn h)), fun h => (h2 (up h rfl))⟩)
          · exact (fun _ => rfl)
          · exact g0
          · exact (fun h => upl (g1 (up h rfl)))
      · rintro d act x ⟨u42, u43, u44, u45, u46, u47, u41, u48, u49, u9, u10, rfl, f0, f1, f2, f3, f4, f5, f6, f7, f8, f9, f11, g0, g1⟩ hall
        obtain rfl := f0 (hall 0 (by decide))
        obtain rfl := f1 (hall 1 (by decide))
        obtain rfl := f2 (hall 2 (by decide))
        obtain rfl := f3 (hall 3 (by decide))
        obtain rfl := f4 (hall 4 (by decide))
        obtain rfl := f5 (hall 5 (by decide))
        obtain rfl := f6 (hall 6 (by decide))
        obtain rfl := f7 (hall 7 (by decide))
        obtain rfl := f8 (hall 8 (by decide))
        obtain ⟨nb, rfl, hnb, hz, hf⟩ := f9 (hall 9 (by decide))
        obtain rfl := f11 (hall 11 (by decide))
        have HNB := Lib.hid (hf (hall 10 (by decide)))
        have HWB := Lib.hid g0
        have HNL := Lib.hid hnb
        clear f0 f1 f2 f3 f4 f5 f6 f7 f8 f9 f11 g1 hz hf hall g0 hnb
        obtain ⟨y2, rfl⟩ : ∃ y : World, y = x := ⟨_, rfl⟩
        obtain ⟨q2, rfl⟩ : ∃ y : Nat, y = nb := ⟨_, rfl⟩
        clear d
        have HQ2 := Lib.hid HNB.out
        have HC2 := Lib.hid (blk_ext HWB.out HQ1.out)
        have HP2 := Lib.hid (HP1.out.ext HWB.out)
        have D2 := Lib.hid (ext_trans D1.out HWB.out)
        clear HNB HWB HNL HK1 HP1 D1 HQ1
        have hc := blk_cell HQ2.out
        have hl := blk_lt HQ2.out
        have hc2 := blk_cell HC2.out
        have hl2 := blk_lt HC2.out
        go_wp2_with fail
        refine (leaseRegisterP e b k st N s now f y2 HF.out).mono ?_
        rintro r y3 ⟨rfl, hb3⟩
        have HP3 := Lib.hid (HP2.out.ext hb3)
        have D3 := Lib.hid (ext_trans D2.out hb3)
        clear hc hl hc2 hl2 hb3 HP2 D2 HQ2 HC2
        go_wp2_with fail
        refine (deskChange db nd t0 k0 n0 es g l tt ks f y3 HP3.out HAS.out hn (by rw [HKK.out, HB.out]; have := HIN.out; rw [HB.out] at this; exact this) hks).mono ?_
        rintro r y4 ⟨b4, rfl, hb4, hx4, hd4, hr4⟩
        have HX4 := Lib.hid hx4
        have HD4 := Lib.hid (show DkP y4 db nd f.c.t f.c.k f.c.n (putE es f) g l tt (ks ++ [k]) from by rw [HKK.out] at hd4; exact hd4)
        have HR4 := Lib.hid ((Rim.of D3.out).trans hr4)
        have HB4 := Lib.hid (Nat.le_trans D3.out.size hb4)
        clear hx4 hd4 hr4 hb4
        go_wp2
        go_returns
        exact ⟨b4, rfl, HB4.out, HX4.out, HD4.out, HR4.out⟩


end Go.Proofs.YtcjpemphdgndkaaGreat
