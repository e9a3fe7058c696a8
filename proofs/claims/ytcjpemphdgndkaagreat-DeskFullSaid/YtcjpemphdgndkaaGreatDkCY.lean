/- What becomes of an entry; Get of a desk's shelf; the next stamp. -/
import Derived.Test.YtcjpemphdgndkaaGreatDkMY
namespace Go.Proofs.YtcjpemphdgndkaaGreat
open Go.RowKit
set_option linter.unusedVariables false
set_option linter.unusedSimpArgs false

set_option maxHeartbeats 400000 in
theorem leaseRenew_no (e : En) (now : Int) (w : World) (h : e.c.g = true) :
    Calls Tryz.prog 133 #[e.v, .int .i64 now] w fun r w' => r = .returned (.tuple #[En.zero.v, .bool false]) ∧ Below w.heap.size w w' := by
  go_enter Tryz.func133, Tryz.ntmps133
  go_wp2
  all_goals (go_returns; exact ⟨by simp [*]; try omega, by go_grown⟩)


set_option maxHeartbeats 400000 in
theorem leaseRenew_yes (e : En) (now : Int) (w : World) (h : e.c.g = false) :
    Calls Tryz.prog 133 #[e.v, .int .i64 now] w fun r w' => r = .returned (.tuple #[En.v ⟨e.c, mx e.seen now⟩, .bool true]) ∧ Below w.heap.size w w' := by
  go_enter Tryz.func133, Tryz.ntmps133
  go_wp2
  all_goals (go_returns; refine ⟨?_, by go_grown⟩; simp [*, mx]; try omega)


set_option maxHeartbeats 400000 in
theorem leaseCancel_no (e : En) (t k n now : Int) (w : World) (h : e.c.g = true) :
    Calls Tryz.prog 97 #[e.v, stv t k n, .int .i64 now] w fun r w' => r = .returned (.tuple #[En.zero.v, .bool false]) ∧ Below w.heap.size w w' := by
  go_enter Tryz.func97, Tryz.ntmps97
  go_wp2
  all_goals (go_returns; exact ⟨by simp [*]; try omega, by go_grown⟩)


set_option maxHeartbeats 400000 in
theorem leaseCancel_yes (e : En) (t k n now : Int) (w : World) (h : e.c.g = false) :
    Calls Tryz.prog 97 #[e.v, stv t k n, .int .i64 now] w fun r w' => r = .returned (.tuple #[En.v ⟨{ e.c with t := t, k := k, n := n, g := true }, now⟩, .bool true]) ∧ Below w.heap.size w w' := by
  go_enter Tryz.func97, Tryz.ntmps97
  go_wp2
  go_region
  all_goals go_wp2
  all_goals (go_returns; exact ⟨by simp [*], by go_grown⟩)


set_option maxHeartbeats 400000 in
theorem leaseRegister_new (e : En) (inn : Bool) (c : Cd) (now : Int) (w : World) (h : inn = false ∨ e.c.g = true) :
    Calls Tryz.prog 132 #[e.v, .bool inn, c.v, .int .i64 now] w fun r w' => r = .returned (En.v ⟨{ c with o := 0, g := false }, now⟩) ∧ Below w.heap.size w w' := by
  cases inn
  · clear h
    go_enter Tryz.func132, Tryz.ntmps132
    go_wp2
    all_goals (go_returns; exact ⟨by simp [*], by go_grown⟩)
  · have h1 : e.c.g = true := by simpa using h
    clear h
    go_enter Tryz.func132, Tryz.ntmps132
    go_wp2
    all_goals (go_returns; exact ⟨by simp [*], by go_grown⟩)


set_option maxHeartbeats 400000 in
theorem leaseRegister_old (e : En) (c : Cd) (now : Int) (w : World) (h : e.c.g = false) :
    Calls Tryz.prog 132 #[e.v, .bool true, c.v, .int .i64 now] w fun r w' => r = .returned (En.v ⟨{ c with o := e.c.o, g := false }, now⟩) ∧ Below w.heap.size w w' := by
  go_enter Tryz.func132, Tryz.ntmps132
  go_wp2
  all_goals (go_returns; exact ⟨by simp [*]; try omega, by go_grown⟩)


/-- what a renewal, a cancel, an override, a registration make of an entry -/
def renE (e : En) (now : Int) : En := if e.c.g = true then En.zero else ⟨e.c, mx e.seen now⟩
def canE (e : En) (s : Int × Int × Int) (now : Int) : En := if e.c.g = true then En.zero else ⟨{ e.c with t := s.1, k := s.2.1, n := s.2.2, g := true }, now⟩
def regE (e : En) (inn : Bool) (c : Cd) (now : Int) : En := ⟨{ c with o := if inn && !e.c.g then e.c.o else 0, g := false }, now⟩
theorem leaseRenew (e : En) (now : Int) (w : World) : Calls Tryz.prog 133 #[e.v, .int .i64 now] w fun r w' => r = .returned (.tuple #[(renE e now).v, .bool (!e.c.g)]) ∧ Below w.heap.size w w' := by
  cases h : e.c.g
  · exact (leaseRenew_yes e now w h).mono fun r w' ⟨h1, h2⟩ => ⟨by rw [h1]; simp [renE, h], h2⟩
  · exact (leaseRenew_no e now w h).mono fun r w' ⟨h1, h2⟩ => ⟨by rw [h1]; simp [renE, h], h2⟩
theorem leaseCancel (e : En) (s : Int × Int × Int) (now : Int) (w : World) : Calls Tryz.prog 97 #[e.v, stp s, .int .i64 now] w fun r w' => r = .returned (.tuple #[(canE e s now).v, .bool (!e.c.g)]) ∧ Below w.heap.size w w' := by
  cases h : e.c.g
  · exact (leaseCancel_yes e s.1 s.2.1 s.2.2 now w h).mono fun r w' ⟨h1, h2⟩ => ⟨by rw [h1]; simp [canE, h], h2⟩
  · exact (leaseCancel_no e s.1 s.2.1 s.2.2 now w h).mono fun r w' ⟨h1, h2⟩ => ⟨by rw [h1]; simp [canE, h], h2⟩
theorem leaseRegister (e : En) (inn : Bool) (c : Cd) (now : Int) (w : World) : Calls Tryz.prog 132 #[e.v, .bool inn, c.v, .int .i64 now] w fun r w' => r = .returned (regE e inn c now).v ∧ Below w.heap.size w w' := by
  cases inn
  · exact (leaseRegister_new e false c now w (.inl rfl)).mono fun r w' ⟨h1, h2⟩ => ⟨by rw [h1]; simp [regE], h2⟩
  · cases h : e.c.g
    · exact (leaseRegister_old e c now w h).mono fun r w' ⟨h1, h2⟩ => ⟨by rw [h1]; simp [regE, h], h2⟩
    · exact (leaseRegister_new e true c now w (.inr h)).mono fun r w' ⟨h1, h2⟩ => ⟨by rw [h1]; simp [regE, h], h2⟩
/-- the entry of a key; the empty one, if there is none -/
def ge (es : List En) (k : Ky) : En := if isIn k es = true then (es[low k es]?).getD En.zero else En.zero
theorem ge_yes {es : List En} {k : Ky} (hi : isIn k es = true) : es[low k es]? = some (ge es k) ∧ enK (ge es k) = k := by
  obtain ⟨x, hx, h2, h3⟩ := isIn_at hi
  have e : ge es k = x := by unfold ge; rw [if_pos hi, hx]; rfl
  rw [e]
  exact ⟨hx, (Prod.ext h2 h3 : enK x = k)⟩
theorem ge_no {es : List En} {k : Ky} (hi : isIn k es = false) : ge es k = En.zero := by unfold ge; rw [if_neg (by rw [hi]; simp)]
theorem dkGet (Dk0 : DkR) (sb : Nat) (most : Int) (es : List En) (k : Ky) (w : World) (h : DkS Dk0 w sb most es) (hs : Asc es) (hn : es.length ≤ 900) :
    Calls Tryz.prog 21 #[.pointer (some ⟨sb, 4, none⟩), .agg #[.string k.1, .string k.2]] w fun r w' => r = .returned (.tuple #[(ge es k).v, .bool (isIn k es)]) ∧ Below w.heap.size w w' := by
  cases hi : isIn k es
  · exact (dkGetNo Dk0 sb most es k w h hs hn hi).mono fun r w' ⟨h1, h2⟩ => ⟨by rw [h1, ge_no hi], h2⟩
  · obtain ⟨h3, h4⟩ := ge_yes hi
    exact (dkGetYes Dk0 sb most es k w h _ hs hn h3 hi).mono fun r w' ⟨h1, h2⟩ => ⟨h1, h2⟩
/-- the same, of a desk -/
theorem dkGetP (db : Nat) (nd t0 k0 n0 : Int) (es : List En) (g l tt : Int) (ks : List Ky) (k : Ky) (w : World) (h : DkP w db nd t0 k0 n0 es g l tt ks) (hs : Asc es) (hn : es.length ≤ 900) (e : En) (b : Bool) (he : ge es k = e) (hb : isIn k es = b) :
    Calls Tryz.prog 21 #[.pointer (some ⟨db, 4, none⟩), .agg #[.string k.1, .string k.2]] w fun r w' => r = .returned (.tuple #[.agg #[.string e.c.a, .string e.c.i, .int .i64 e.c.s, .int .i64 e.c.o, .int .i64 e.c.l, .int .i64 e.c.t, .int .i64 e.c.k, .int .i64 e.c.n, .bool e.c.g, .int .i64 e.seen], .bool b]) ∧ Below w.heap.size w w' := by
  obtain ⟨Dk0, h1, -⟩ := h.s
  subst he hb
  exact dkGet Dk0 db 32 es k w h1 hs hn
theorem rim_cell {w w' : World} {b c o : Nat} {v : Value} (h : Rim b w w') (hne : c ≠ b) (hc : w.cell? ⟨c, o, none⟩ = some v) : w'.cell? ⟨c, o, none⟩ = some v := (World.cell?_of_block (w := w) (h.block c hne (cell_lt hc))).trans hc
theorem rim_set {w w' : World} {b o : Nat} {v : Value} (h : Rim b w w') : Rim b w (w'.setCell ⟨b, o, none⟩ v) := h.trans (Rim.kept ((Kept.refl _ _).setCell _ _))
theorem rim_fill3 {w w' : World} {b : Nat} {v0 v1 v2 : Value} (h : Rim b w w') : Rim b w (((w'.setCell ⟨b, 0, none⟩ v0).setCell ⟨b, 1, none⟩ v1).setCell ⟨b, 2, none⟩ v2) := rim_set (rim_set (rim_set h))
/-- the stamp that follows -/
def nxt (t0 k0 n0 : Int) (es : List En) (k : Ky) (nd now : Int) : Int × Int × Int := sNext (if isIn k es then sMax t0 k0 n0 (ge es k).c.t (ge es k).c.k (ge es k).c.n else (t0, k0, n0)).1 (if isIn k es then sMax t0 k0 n0 (ge es k).c.t (ge es k).c.k (ge es k).c.n else (t0, k0, n0)).2.2 now nd
theorem stampNextP (s : Int × Int × Int) (now node : Int) (w : World) (hn : s.2.2 ≤ 9223372036854775807) (hn0 : -9223372036854775808 ≤ s.2.2) :
    Calls Tryz.prog 139 #[stp s, .int .i64 now, .int .i64 node] w fun e w' => e = .returned (stp (sNext s.1 s.2.2 now node)) ∧ Below w.heap.size w w' := stampNext _ _ _ _ _ w hn hn0

set_option maxRecDepth 100000 in
set_option maxHeartbeats 4000000 in
theorem deskNext (db : Nat) (nd t0 k0 n0 : Int) (es : List En) (g l tt : Int) (ks : List Ky) (k : Ky) (now : Int) (w : World) (h : DkP w db nd t0 k0 n0 es g l tt ks) (hs : Asc es) (hn : es.length ≤ 900) (hN : ∀ s, s = (if isIn k es then sMax t0 k0 n0 (ge es k).c.t (ge es k).c.k (ge es k).c.n else (t0, k0, n0)) → s.2.2 ≤ 9223372036854775807 ∧ -9223372036854775808 ≤ s.2.2) :
    Calls Tryz.prog 98 #[.pointer (some ⟨db, 0, none⟩), .agg #[.string k.1, .string k.2], .int .i64 now] w fun r w' => r = .returned (stp (nxt t0 k0 n0 es k nd now)) ∧ Below w.heap.size w w' := by
  have D0 := Lib.hid (show Below w.heap.size w (((w.alloc (.cells #[.string k.1, .string k.2] 28)).alloc (.cells #[.int .i64 0, .int .i64 0, .int .i64 0] 35)).alloc (.cells #[.int .i64 t0, .int .i64 k0, .int .i64 n0] 35)) from (((Below.refl _ _).alloc (Nat.le_refl _) _).alloc (by simp) _).alloc (by simp; omega) _)
  have HK := Lib.hid (show (((w.alloc (.cells #[.string k.1, .string k.2] 28)).alloc (.cells #[.int .i64 0, .int .i64 0, .int .i64 0] 35)).alloc (.cells #[.int .i64 t0, .int .i64 k0, .int .i64 n0] 35)).heap[w.heap.size]? = some (.cells #[.string k.1, .string k.2] 28 (0, 0)) from blk_alloc (blk_alloc (blk_new w #[.string k.1, .string k.2] 28) _) _)
  have HR := Lib.hid (show (((w.alloc (.cells #[.string k.1, .string k.2] 28)).alloc (.cells #[.int .i64 0, .int .i64 0, .int .i64 0] 35)).alloc (.cells #[.int .i64 t0, .int .i64 k0, .int .i64 n0] 35)).heap[w.heap.size + 1]? = some (.cells #[.int .i64 0, .int .i64 0, .int .i64 0] 35 (0, 0)) from blk_alloc (blk_new_at (by simp) _ _) _)
  have HM := Lib.hid (show (((w.alloc (.cells #[.string k.1, .string k.2] 28)).alloc (.cells #[.int .i64 0, .int .i64 0, .int .i64 0] 35)).alloc (.cells #[.int .i64 t0, .int .i64 k0, .int .i64 n0] 35)).heap[w.heap.size + 1 + 1]? = some (.cells #[.int .i64 t0, .int .i64 k0, .int .i64 n0] 35 (0, 0)) from blk_new_at (by simp) _ _)
  have HP := Lib.hid (h.ext D0.out)
  have HAS := Lib.hid hs
  obtain ⟨a, c, ka, kc, hc, -⟩ := h
  have hcc := blk_cell hc
  have hcl := blk_lt hc
  clear hs hc
  go_enter Tryz.func98, Tryz.ntmps98
  go_upto_region 2 with (fail)
  clear hcc
  obtain ⟨p, hp⟩ : ∃ p, w.heap.size = p := ⟨_, rfl⟩
  obtain ⟨p1, hp1⟩ : ∃ p1, p + 1 = p1 := ⟨_, rfl⟩
  obtain ⟨p2, hp2⟩ : ∃ p2, p1 + 1 = p2 := ⟨_, rfl⟩
  have HPP := Lib.hid (show w.heap.size ≤ p1 ∧ w.heap.size ≤ p2 by omega)
  have hdp : db ≠ p1 := by omega
  have h21 : p2 ≠ p1 := by omega
  have hdp2 : db ≠ p2 := by omega
  rw [hp] at HK
  rw [hp, hp1] at HR
  rw [hp, hp1, hp2] at HM
  try rw [hp]
  try rw [hp1]
  try rw [hp2]
  clear hp hp1 hp2 hcl
  generalize (((w.alloc (.cells #[.string k.1, .string k.2] 28)).alloc (.cells #[.int .i64 0, .int .i64 0, .int .i64 0] 35)).alloc (.cells #[.int .i64 t0, .int .i64 k0, .int .i64 n0] 35)) = w1 at *
  obtain ⟨e, he⟩ : ∃ e, ge es k = e := ⟨_, rfl⟩
  obtain ⟨b, hb⟩ : ∃ b, isIn k es = b := ⟨_, rfl⟩
  have HE := Lib.hid he
  have HB := Lib.hid hb
  have HNN := Lib.hid hN
  clear he hb hN
  refine wp_region_inv_eq (J := fun A d act x => ∃ u15 u16 u17 u18 u19 u14 u20 u21 u8 u9 : Value, act = ((((((((((A.put (some 15) u15).put (some 16) u16).put (some 17) u17).put (some 18) u18).put (some 19) u19).put (some 14) u14).put (some 20) u20).put (some 21) u21).put (some 8) u8).put (some 9) u9) ∧ (d 0 = true → u15 = .pointer (some ⟨db, 0, none⟩)) ∧ (d 1 = true → u16 = .pointer (some ⟨db, 0, none⟩)) ∧ (d 2 = true → u17 = .pointer (some ⟨db, 4, none⟩)) ∧ (d 3 = true → u18 = .agg #[.string k.1, .string k.2]) ∧ (d 4 = true → u19 = .tuple #[.agg #[.string e.c.a, .string e.c.i, .int .i64 e.c.s, .int .i64 e.c.o, .int .i64 e.c.l, .int .i64 e.c.t, .int .i64 e.c.k, .int .i64 e.c.n, .bool e.c.g, .int .i64 e.seen], .bool b]) ∧ (d 5 = true → u14 = .tuple #[.agg #[.string e.c.a, .string e.c.i, .int .i64 e.c.s, .int .i64 e.c.o, .int .i64 e.c.l, .int .i64 e.c.t, .int .i64 e.c.k, .int .i64 e.c.n, .bool e.c.g, .int .i64 e.seen], .bool b]) ∧ (d 6 = true → u20 = .agg #[.string e.c.a, .string e.c.i, .int .i64 e.c.s, .int .i64 e.c.o, .int .i64 e.c.l, .int .i64 e.c.t, .int .i64 e.c.k, .int .i64 e.c.n, .bool e.c.g, .int .i64 e.seen]) ∧ (d 7 = true → u21 = .bool b) ∧ (d 8 = true → (∃ b : Nat, u8 = .pointer (some ⟨b, 0, none⟩) ∧ w1.heap.size ≤ b ∧ (d 9 = false → x.heap[b]? = some (.cells #[.string ⟨#[]⟩, .string ⟨#[]⟩, .int .i64 0, .int .i64 0, .int .i64 0, .int .i64 0, .int .i64 0, .int .i64 0, .bool false, .int .i64 0] 58 (0, 0))) ∧ (d 9 = true → x.heap[b]? = some (.cells #[.string e.c.a, .string e.c.i, .int .i64 e.c.s, .int .i64 e.c.o, .int .i64 e.c.l, .int .i64 e.c.t, .int .i64 e.c.k, .int .i64 e.c.n, .bool e.c.g, .int .i64 e.seen] 58 (0, 0))))) ∧ (d 10 = true → u9 = .bool b) ∧ Below w1.heap.size w1 x ∧ (d 9 = true → d 8 = true)) (by simp only [Act.put, List.setIfInBounds_toArray, List.set_cons_succ, List.set_cons_zero]; rfl) (by kernel_rfl) (by kernel_rfl) ?_ ?_ ?_
  · refine ⟨_, _, _, _, _, _, _, _, _, _, rfl, ?_, ?_, ?_, ?_, ?_, ?_, ?_, ?_, ?_, ?_, ?_, ?_⟩
    · intro h; cases h
    · intro h; cases h
    · intro h; cases h
    · intro h; cases h
    · intro h; cases h
    · intro h; cases h
    · intro h; cases h
    · intro h; cases h
    · intro h; cases h
    · intro h; cases h
    · exact ((Below.refl _ _).drew)
    · exact (fun h => by cases h)
  · refine stepsOk_cons (k := 0) ?_ (stepsOk_cons (k := 1) ?_ (stepsOk_cons (k := 2) ?_ (stepsOk_cons (k := 3) ?_ (stepsOk_cons (k := 4) ?_ (stepsOk_cons (k := 5) ?_ (stepsOk_cons (k := 6) ?_ (stepsOk_cons (k := 7) ?_ (stepsOk_cons (k := 8) ?_ (stepsOk_cons (k := 9) ?_ (stepsOk_cons (k := 10) ?_ stepsOk_nil))))))))))
    · unfold StepOk
      rintro d act x ⟨u15, u16, u17, u18, u19, u14, u20, u21, u8, u9, rfl, f0, f1, f2, f3, f4, f5, f6, f7, f8, f10, g0, g1⟩ hd hdep Kc hKc
      rw [if_pos (by rfl)]
      go_big_op
      refine hKc _ _ ⟨_, _, _, _, _, _, _, _, _, _, rfl, ?_, ?_, ?_, ?_, ?_, ?_, ?_, ?_, ?_, ?_, ?_, ?_⟩
      · exact (fun _ => rfl)
      · exact (fun h => f1 (up h rfl))
      · exact (fun h => f2 (up h rfl))
      · exact (fun h => f3 (up h rfl))
      · exact (fun h => f4 (up h rfl))
      · exact (fun h => f5 (up h rfl))
      · exact (fun h => f6 (up h rfl))
      · exact (fun h => f7 (up h rfl))
      · exact (fun h => by obtain ⟨b, e, hb, h1, h2⟩ := f8 (up h rfl); exact ⟨b, e, hb, fun h => (h1 (dn h)), fun h => (h2 (up h rfl))⟩)
      · exact (fun h => f10 (up h rfl))
      · exact g0
      · exact (fun h => upl (g1 (up h rfl)))
    · unfold StepOk
      rintro d act x ⟨u15, u16, u17, u18, u19, u14, u20, u21, u8, u9, rfl, f0, f1, f2, f3, f4, f5, f6, f7, f8, f10, g0, g1⟩ hd hdep Kc hKc
      have hd0 : d 0 = true := hdep ⟨0, .data⟩ (by simp) rfl
      obtain rfl := f0 hd0
      rw [if_pos (by rfl)]
      go_big_op
      refine hKc _ _ ⟨_, _, _, _, _, _, _, _, _, _, rfl, ?_, ?_, ?_, ?_, ?_, ?_, ?_, ?_, ?_, ?_, ?_, ?_⟩
      · exact (fun h => f0 (up h rfl))
      · exact (fun _ => rfl)
      · exact (fun h => f2 (up h rfl))
      · exact (fun h => f3 (up h rfl))
      · exact (fun h => f4 (up h rfl))
      · exact (fun h => f5 (up h rfl))
      · exact (fun h => f6 (up h rfl))
      · exact (fun h => f7 (up h rfl))
      · exact (fun h => by obtain ⟨b, e, hb, h1, h2⟩ := f8 (up h rfl); exact ⟨b, e, hb, fun h => (h1 (dn h)), fun h => (h2 (up h rfl))⟩)
      · exact (fun h => f10 (up h rfl))
      · exact g0
      · exact (fun h => upl (g1 (up h rfl)))
    · unfold StepOk
      rintro d act x ⟨u15, u16, u17, u18, u19, u14, u20, u21, u8, u9, rfl, f0, f1, f2, f3, f4, f5, f6, f7, f8, f10, g0, g1⟩ hd hdep Kc hKc
      have hd1 : d 1 = true := hdep ⟨1, .data⟩ (by simp) rfl
      obtain rfl := f1 hd1
      rw [if_pos (by rfl)]
      go_big_op
      refine hKc _ _ ⟨_, _, _, _, _, _, _, _, _, _, rfl, ?_, ?_, ?_, ?_, ?_, ?_, ?_, ?_, ?_, ?_, ?_, ?_⟩
      · exact (fun h => f0 (up h rfl))
      · exact (fun h => f1 (up h rfl))
      · exact (fun _ => rfl)
      · exact (fun h => f3 (up h rfl))
      · exact (fun h => f4 (up h rfl))
      · exact (fun h => f5 (up h rfl))
      · exact (fun h => f6 (up h rfl))
      · exact (fun h => f7 (up h rfl))
      · exact (fun h => by obtain ⟨b, e, hb, h1, h2⟩ := f8 (up h rfl); exact ⟨b, e, hb, fun h => (h1 (dn h)), fun h => (h2 (up h rfl))⟩)
      · exact (fun h => f10 (up h rfl))
      · exact g0
      · exact (fun h => upl (g1 (up h rfl)))
    · unfold StepOk
      rintro d act x ⟨u15, u16, u17, u18, u19, u14, u20, u21, u8, u9, rfl, f0, f1, f2, f3, f4, f5, f6, f7, f8, f10, g0, g1⟩ hd hdep Kc hKc
      have hx := blk_cell (blk_ext g0 HK.out)
      have hxl := blk_lt (blk_ext g0 HK.out)
      rw [if_pos (by rfl)]
      go_big_op
      refine hKc _ _ ⟨_, _, _, _, _, _, _, _, _, _, rfl, ?_, ?_, ?_, ?_, ?_, ?_, ?_, ?_, ?_, ?_, ?_, ?_⟩
      · exact (fun h => f0 (up h rfl))
      · exact (fun h => f1 (up h rfl))
      · exact (fun h => f2 (up h rfl))
      · exact (fun _ => rfl)
      · exact (fun h => f4 (up h rfl))
      · exact (fun h => f5 (up h rfl))
      · exact (fun h => f6 (up h rfl))
      · exact (fun h => f7 (up h rfl))
      · exact (fun h => by obtain ⟨b, e, hb, h1, h2⟩ := f8 (up h rfl); exact ⟨b, e, hb, fun h => (h1 (dn h)), fun h => (h2 (up h rfl))⟩)
      · exact (fun h => f10 (up h rfl))
      · exact g0
      · exact (fun h => upl (g1 (up h rfl)))
    · unfold StepOk
      rintro d act x ⟨u15, u16, u17, u18, u19, u14, u20, u21, u8, u9, rfl, f0, f1, f2, f3, f4, f5, f6, f7, f8, f10, g0, g1⟩ hd hdep Kc hKc
      have hd2 : d 2 = true := hdep ⟨2, .data⟩ (by simp) rfl
      have hd3 : d 3 = true := hdep ⟨3, .data⟩ (by simp) rfl
      obtain rfl := f2 hd2
      obtain rfl := f3 hd3
      rw [if_pos (by rfl)]
      go_big_op
      refine (dkGetP db nd t0 k0 n0 es g l tt ks k x (HP.out.ext g0) HAS.out hn e b HE.out HB.out).mono ?_
      rintro e x1 ⟨rfl, hb1⟩
      refine hKc _ _ ⟨_, _, _, _, _, _, _, _, _, _, rfl, ?_, ?_, ?_, ?_, ?_, ?_, ?_, ?_, ?_, ?_, ?_, ?_⟩
      · exact (fun h => f0 (up h rfl))
      · exact (fun h => f1 (up h rfl))
      · exact (fun h => f2 (up h rfl))
      · exact (fun h => f3 (up h rfl))
      · exact (fun _ => rfl)
      · exact (fun h => f5 (up h rfl))
      · exact (fun h => f6 (up h rfl))
      · exact (fun h => f7 (up h rfl))
      · exact (fun h => by obtain ⟨b, e, hb, h1, h2⟩ := f8 (up h rfl); exact ⟨b, e, hb, fun h => blk_ext hb1 (h1 (dn h)), fun h => blk_ext hb1 (h2 (up h rfl))⟩)
      · exact (fun h => f10 (up h rfl))
      · exact (ext_trans g0 hb1)
      · exact (fun h => upl (g1 (up h rfl)))
    · unfold StepOk
      rintro d act x ⟨u15, u16, u17, u18, u19, u14, u20, u21, u8, u9, rfl, f0, f1, f2, f3, f4, f5, f6, f7, f8, f10, g0, g1⟩ hd hdep Kc hKc
      have hd4 : d 4 = true := hdep ⟨4, .data⟩ (by simp) rfl
      obtain rfl := f4 hd4
      rw [if_pos (by rfl)]
      go_big_op
      refine hKc _ _ ⟨_, _, _, _, _, _, _, _, _, _, rfl, ?_, ?_, ?_, ?_, ?_, ?_, ?_, ?_, ?_, ?_, ?_, ?_⟩
      · exact (fun h => f0 (up h rfl))
      · exact (fun h => f1 (up h rfl))
      · exact (fun h => f2 (up h rfl))
      · exact (fun h => f3 (up h rfl))
      · exact (fun h => f4 (up h rfl))
      · exact (fun _ => rfl)
      · exact (fun h => f6 (up h rfl))
      · exact (fun h => f7 (up h rfl))
      · exact (fun h => by obtain ⟨b, e, hb, h1, h2⟩ := f8 (up h rfl); exact ⟨b, e, hb, fun h => (h1 (dn h)), fun h => (h2 (up h rfl))⟩)
      · exact (fun h => f10 (up h rfl))
      · exact g0
      · exact (fun h => upl (g1 (up h rfl)))
    · unfold StepOk
      rintro d act x ⟨u15, u16, u17, u18, u19, u14, u20, u21, u8, u9, rfl, f0, f1, f2, f3, f4, f5, f6, f7, f8, f10, g0, g1⟩ hd hdep Kc hKc
      have hd5 : d 5 = true := hdep ⟨5, .data⟩ (by simp) rfl
      obtain rfl := f5 hd5
      rw [if_pos (by rfl)]
      go_big_op
      refine hKc _ _ ⟨_, _, _, _, _, _, _, _, _, _, rfl, ?_, ?_, ?_, ?_, ?_, ?_, ?_, ?_, ?_, ?_, ?_, ?_⟩
      · exact (fun h => f0 (up h rfl))
      · exact (fun h => f1 (up h rfl))
      · exact (fun h => f2 (up h rfl))
      · exact (fun h => f3 (up h rfl))
      · exact (fun h => f4 (up h rfl))
      · exact (fun h => f5 (up h rfl))
      · exact (fun _ => rfl)
      · exact (fun h => f7 (up h rfl))
      · exact (fun h => by obtain ⟨b, e, hb, h1, h2⟩ := f8 (up h rfl); exact ⟨b, e, hb, fun h => (h1 (dn h)), fun h => (h2 (up h rfl))⟩)
      · exact (fun h => f10 (up h rfl))
      · exact g0
      · exact (fun h => upl (g1 (up h rfl)))
    · unfold StepOk
      rintro d act x ⟨u15, u16, u17, u18, u19, u14, u20, u21, u8, u9, rfl, f0, f1, f2, f3, f4, f5, f6, f7, f8, f10, g0, g1⟩ hd hdep Kc hKc
      have hd5 : d 5 = true := hdep ⟨5, .data⟩ (by simp) rfl
      obtain rfl := f5 hd5
      rw [if_pos (by rfl)]
      go_big_op
      refine hKc _ _ ⟨_, _, _, _, _, _, _, _, _, _, rfl, ?_, ?_, ?_, ?_, ?_, ?_, ?_, ?_, ?_, ?_, ?_, ?_⟩
      · exact (fun h => f0 (up h rfl))
      · exact (fun h => f1 (up h rfl))
      · exact (fun h => f2 (up h rfl))
      · exact (fun h => f3 (up h rfl))
      · exact (fun h => f4 (up h rfl))
      · exact (fun h => f5 (up h rfl))
      · exact (fun h => f6 (up h rfl))
      · exact (fun _ => rfl)
      · exact (fun h => by obtain ⟨b, e, hb, h1, h2⟩ := f8 (up h rfl); exact ⟨b, e, hb, fun h => (h1 (dn h)), fun h => (h2 (up h rfl))⟩)
      · exact (fun h => f10 (up h rfl))
      · exact g0
      · exact (fun h => upl (g1 (up h rfl)))
    · unfold StepOk
      rintro d act x ⟨u15, u16, u17, u18, u19, u14, u20, u21, u8, u9, rfl, f0, f1, f2, f3, f4, f5, f6, f7, f8, f10, g0, g1⟩ hd hdep Kc hKc
      rw [if_pos (by rfl)]
      go_big_op
      refine hKc _ _ ⟨_, _, _, _, _, _, _, _, _, _, rfl, ?_, ?_, ?_, ?_, ?_, ?_, ?_, ?_, ?_, ?_, ?_, ?_⟩
      · exact (fun h => f0 (up h rfl))
      · exact (fun h => f1 (up h rfl))
      · exact (fun h => f2 (up h rfl))
      · exact (fun h => f3 (up h rfl))
      · exact (fun h => f4 (up h rfl))
      · exact (fun h => f5 (up h rfl))
      · exact (fun h => f6 (up h rfl))
      · exact (fun h => f7 (up h rfl))
      · exact (fun _ => ⟨_, rfl, g0.size, fun _ => blk_new _ _ _, fun h => absurd (g1 (up h rfl)) (by rw [hd]; simp)⟩)
      · exact (fun h => f10 (up h rfl))
      · exact (g0.alloc g0.size _)
      · exact (fun h => upl (g1 (up h rfl)))
    · unfold StepOk
      rintro d act x ⟨u15, u16, u17, u18, u19, u14, u20, u21, u8, u9, rfl, f0, f1, f2, f3, f4, f5, f6, f7, f8, f10, g0, g1⟩ hd hdep Kc hKc
      have hd8 : d 8 = true := hdep ⟨8, .data⟩ (by simp) rfl
      have hd6 : d 6 = true := hdep ⟨6, .data⟩ (by simp) rfl
      have hd6 : d 6 = true := hdep ⟨6, .phase⟩ (by simp) rfl
      have hd8 : d 8 = true := hdep ⟨8, .phase⟩ (by simp) rfl
      obtain ⟨nb, rfl, hnb, hz, hf⟩ := f8 hd8
      obtain rfl := f6 hd6
      have HZ := hz hd
      have hbc := blk_cell HZ
      have hbf := blk_free HZ
      have hbl := blk_lt HZ
      rw [if_pos (by rfl)]
      go_big_op
      have HFF := blk_fill10 (v0 := .string e.c.a) (v1 := .string e.c.i) (v2 := .int .i64 e.c.s) (v3 := .int .i64 e.c.o) (v4 := .int .i64 e.c.l) (v5 := .int .i64 e.c.t) (v6 := .int .i64 e.c.k) (v7 := .int .i64 e.c.n) (v8 := .bool e.c.g) (v9 := .int .i64 e.seen) HZ rfl
      have HBB := below_fill10 (v0 := .string e.c.a) (v1 := .string e.c.i) (v2 := .int .i64 e.c.s) (v3 := .int .i64 e.c.o) (v4 := .int .i64 e.c.l) (v5 := .int .i64 e.c.t) (v6 := .int .i64 e.c.k) (v7 := .int .i64 e.c.n) (v8 := .bool e.c.g) (v9 := .int .i64 e.seen) g0 hnb
      refine hKc _ _ ⟨_, _, _, _, _, _, _, _, _, _, rfl, ?_, ?_, ?_, ?_, ?_, ?_, ?_, ?_, ?_, ?_, ?_, ?_⟩
      · exact (fun h => f0 (up h rfl))
      · exact (fun h => f1 (up h rfl))
      · exact (fun h => f2 (up h rfl))
      · exact (fun h => f3 (up h rfl))
      · exact (fun h => f4 (up h rfl))
      · exact (fun h => f5 (up h rfl))
      · exact (fun h => f6 (up h rfl))
      · exact (fun h => f7 (up h rfl))
      · exact (fun h => ⟨nb, rfl, hnb, fun h => by simp at h, fun _ => HFF⟩)
      · exact (fun h => f10 (up h rfl))
      · exact HBB
      · exact (fun h => upl hd8)
    · unfold StepOk
      rintro d act x ⟨u15, u16, u17, u18, u19, u14, u20, u21, u8, u9, rfl, f0, f1, f2, f3, f4, f5, f6, f7, f8, f10, g0, g1⟩ hd hdep Kc hKc
      have hd7 : d 7 = true := hdep ⟨7, .data⟩ (by simp) rfl
      have hd7 : d 7 = true := hdep ⟨7, .phase⟩ (by simp) rfl
      obtain rfl := f7 hd7
      rw [if_pos (by rfl)]
      go_big_op
      refine hKc _ _ ⟨_, _, _, _, _, _, _, _, _, _, rfl, ?_, ?_, ?_, ?_, ?_, ?_, ?_, ?_, ?_, ?_, ?_, ?_⟩
      · exact (fun h => f0 (up h rfl))
      · exact (fun h => f1 (up h rfl))
      · exact (fun h => f2 (up h rfl))
      · exact (fun h => f3 (up h rfl))
      · exact (fun h => f4 (up h rfl))
      · exact (fun h => f5 (up h rfl))
      · exact (fun h => f6 (up h rfl))
      · exact (fun h => f7 (up h rfl))
      · exact (fun h => by obtain ⟨b, e, hb, h1, h2⟩ := f8 (up h rfl); exact ⟨b, e, hb, fun h => (h1 (dn h)), fun h => (h2 (up h rfl))⟩)
      · exact (fun _ => rfl)
      · exact g0
      · exact (fun h => upl (g1 (up h rfl)))
  · rintro d act x ⟨u15, u16, u17, u18, u19, u14, u20, u21, u8, u9, rfl, f0, f1, f2, f3, f4, f5, f6, f7, f8, f10, g0, g1⟩ hall
    obtain rfl := f0 (hall 0 (by decide))
    obtain rfl := f1 (hall 1 (by decide))
    obtain rfl := f2 (hall 2 (by decide))
    obtain rfl := f3 (hall 3 (by decide))
    obtain rfl := f4 (hall 4 (by decide))
    obtain rfl := f5 (hall 5 (by decide))
    obtain rfl := f6 (hall 6 (by decide))
    obtain rfl := f7 (hall 7 (by decide))
    obtain ⟨nb, rfl, hnb, hz, hf⟩ := f8 (hall 8 (by decide))
    obtain rfl := f10 (hall 10 (by decide))
    have HNB := Lib.hid (hf (hall 9 (by decide)))
    have HWB := Lib.hid g0
    have HNL := Lib.hid hnb
    clear f0 f1 f2 f3 f4 f5 f6 f7 f8 f10 g1 hz hf hall g0 hnb
    have HM2 := Lib.hid (blk_ext HWB.out HM.out)
    have HR2 := Lib.hid (blk_ext HWB.out HR.out)
    have HP2 := Lib.hid (HP.out.ext HWB.out)
    have HB2 := Lib.hid (ext_trans D0.out HWB.out)
    clear HM HR HP HK D0 HWB HNL
    have hN := HNN.out
    rw [HE.out, HB.out] at hN
    have HV : RowKit.Hid (nxt t0 k0 n0 es k nd now = sNext (if b then sMax t0 k0 n0 e.c.t e.c.k e.c.n else (t0, k0, n0)).1 (if b then sMax t0 k0 n0 e.c.t e.c.k e.c.n else (t0, k0, n0)).2.2 now nd) := Lib.hid (by unfold nxt; rw [HE.out, HB.out])
    clear HNN HE HB HAS
    have hbc := blk_cell HNB.out
    have hbl := blk_lt HNB.out
    have hmc := blk_cell HM2.out
    have hml := blk_lt HM2.out
    have hmf := blk_free HM2.out
    cases b
    · simp only [Bool.false_eq_true, if_false] at HV hN
      go_upto_region 5 with (fail)
      clear hbc hbl hmc hml hmf
      obtain ⟨a, c, ka, kc, hc, -⟩ := HP2.out
      have hcc := blk_cell hc
      have hcl := blk_lt hc
      have c0 : x.cell? ⟨db, 0, none⟩ = some (.int .i64 nd) := by rw [hcc]; rfl
      have hmc := blk_cell HM2.out
      have m0 : x.cell? ⟨p2, 0, none⟩ = some (.int .i64 t0) := by rw [hmc]; rfl
      have m1 : x.cell? ⟨p2, 1, none⟩ = some (.int .i64 k0) := by rw [hmc]; rfl
      have m2 : x.cell? ⟨p2, 2, none⟩ = some (.int .i64 n0) := by rw [hmc]; rfl
      have hml := blk_lt HM2.out
      clear hc hcc hmc
      have S0 : ∀ W : World, Below x.heap.size x W → W.heap[p1]? = some (.cells #[.int .i64 0, .int .i64 0, .int .i64 0] 35 (0, 0)) := fun W h => blk_ext h HR2.out
      haveI hIq : Nonempty (In (fun W : World => Rim p1 x W)) := ⟨⟨_, Rim.of (Below.refl _ _)⟩⟩
      have q0 := fun g : In (fun W : World => Rim p1 x W) => rim_cell g.h hdp c0
      have q1 := fun g : In (fun W : World => Rim p1 x W) => rim_cell g.h h21 m0
      have q2 := fun g : In (fun W : World => Rim p1 x W) => rim_cell g.h h21 m1
      have q3 := fun g : In (fun W : World => Rim p1 x W) => rim_cell g.h h21 m2
      have q4 : ∀ g : In (fun W : World => Rim p1 x W), db < g.w.heap.size := fun g => Nat.lt_of_lt_of_le hcl g.h.size
      have q5 : ∀ g : In (fun W : World => Rim p1 x W), p2 < g.w.heap.size := fun g => Nat.lt_of_lt_of_le hml g.h.size
      have HQ := Lib.hid ((Below.refl x.heap.size x).drew)
      refine Hist.wp_region_hist (fun W : World => Rim p1 x W) (by kernel_rfl) (by kernel_rfl) (by kernel_rfl) (Rim.of HQ.out) ?_
      generalize x.drew = x0 at *
      repeat (first | (refine Hist.wpG_plain 0 _ (by decide +kernel) rfl (by rfl) (by rfl) (fun K hK => ?_); go_big_quiet_op; refine hK _ ?_; clear hK K))
      refine Hist.wpG_call (by rfl) (by rfl) (fun K hK => ?_)
      go_big_op
      refine (stampNext t0 k0 n0 now nd _ (hN _ rfl).1 (hN _ rfl).2).mono ?_
      rintro e9 x2 ⟨rfl, hb9⟩
      have HQ2 := Lib.hid (ext_trans HQ.out hb9)
      refine hK _ _ ⟨(fun W : World => Rim p1 x W), (by simp only [List.cons_append, List.nil_append, List.forall_mem_cons]; repeat' (first | exact Rim.of HQ2.out | (intro _ h; cases h; done) | (exact trivial) | constructor)), ?_⟩
      clear hK K hb9 HQ
      repeat (first | (refine Hist.wpG_plain 1 _ (by decide +kernel) rfl (by rfl) (by rfl) (fun K hK => ?_); go_big_quiet_op; refine hK _ ?_; clear hK K) | (refine Hist.wpG_plain 0 _ (by decide +kernel) rfl (by rfl) (by rfl) (fun K hK => ?_); go_big_quiet_op; refine hK _ ?_; clear hK K))
      have HZ := S0 _ HQ2.out
      have hzc := blk_cell HZ
      have hzf := blk_free HZ
      have hzl := blk_lt HZ
      refine Hist.wpG_call (by rfl) (by rfl) (fun K hK => ?_)
      go_big_op
      have HFF := Lib.hid (blk_fill3 (v0 := .int .i64 (sNext t0 n0 now nd).1) (v1 := .int .i64 (sNext t0 n0 now nd).2.1) (v2 := .int .i64 (sNext t0 n0 now nd).2.2) HZ rfl)
      have HBB := Lib.hid (below_fill3 (v0 := .int .i64 (sNext t0 n0 now nd).1) (v1 := .int .i64 (sNext t0 n0 now nd).2.1) (v2 := .int .i64 (sNext t0 n0 now nd).2.2) (ext_trans HB2.out HQ2.out) HPP.out.1)
      have HRM := Lib.hid (rim_fill3 (v0 := .int .i64 (sNext t0 n0 now nd).1) (v1 := .int .i64 (sNext t0 n0 now nd).2.1) (v2 := .int .i64 (sNext t0 n0 now nd).2.2) (Rim.of (b := p1) HQ2.out))
      clear hzc hzf hzl HZ
      refine hK _ _ ⟨(fun _ => True), (by simp only [List.cons_append, List.nil_append, List.forall_mem_cons]; repeat' (first | exact HRM.out | (intro _ h; cases h; done) | (exact trivial) | constructor)), ?_⟩
      clear hK K
      refine Hist.wpG_nil ?_
      clear hIq q0 q1 q2 q3 q4 q5 S0
      have hk9 := blk_cell HFF.out
      go_wp2
      exact bodyPost_ret (v := stp (sNext t0 n0 now nd)) (by simp [results, Tryz.results98, go_sem, hk9]) rfl ⟨by rw [HV.out], HBB.out⟩
    · simp only [if_true] at HV hN
      obtain ⟨a, c, ka, kc, hc, -⟩ := HP2.out
      have hcc := blk_cell hc
      have c0 : x.cell? ⟨db, 0, none⟩ = some (.int .i64 nd) := by rw [hcc]; rfl
      clear hc hcc
      go_wp2_with fail
      refine (stampMax t0 k0 n0 e.c.t e.c.k e.c.n _).mono ?_
      rintro r9 y ⟨rfl, hby⟩
      obtain ⟨m, hm⟩ : ∃ m, sMax t0 k0 n0 e.c.t e.c.k e.c.n = m := ⟨_, rfl⟩
      rw [hm] at HV hN ⊢
      clear hm hbc hbl hmc hml hmf
      have HC3 := Lib.hid (ext_cell hby c0)
      have HM3 := Lib.hid (blk_ext hby HM2.out)
      have HR3 := Lib.hid (blk_ext hby HR2.out)
      have HB3 := Lib.hid (ext_trans HB2.out hby)
      clear hby c0 HM2 HR2 HB2 HP2 HNB
      have hmc := blk_cell HM3.out
      have hml := blk_lt HM3.out
      have hmf := blk_free HM3.out
      go_upto_region 5 with (fail)
      have HC4 := Lib.hid (rim_cell (rim_fill3 (v0 := .int .i64 m.1) (v1 := .int .i64 m.2.1) (v2 := .int .i64 m.2.2) (Rim.of (b := p2) (Below.refl y.heap.size y))) hdp2 HC3.out)
      have HM4 := Lib.hid (blk_fill3 (v0 := .int .i64 m.1) (v1 := .int .i64 m.2.1) (v2 := .int .i64 m.2.2) HM3.out rfl)
      have HR4 := Lib.hid (blk_over3 (v0 := .int .i64 m.1) (v1 := .int .i64 m.2.1) (v2 := .int .i64 m.2.2) (Ne.symm h21) HR3.out)
      have HB4 := Lib.hid (below_fill3 (v0 := .int .i64 m.1) (v1 := .int .i64 m.2.1) (v2 := .int .i64 m.2.2) HB3.out HPP.out.2)
      clear hmc hml hmf HC3 HM3 HR3 HB3
      generalize (((y.setCell ⟨p2, 0, none⟩ (.int .i64 m.1)).setCell ⟨p2, 1, none⟩ (.int .i64 m.2.1)).setCell ⟨p2, 2, none⟩ (.int .i64 m.2.2)) = z at *
      have c0 := HC4.out
      have hcl := cell_lt c0
      have hmc := blk_cell HM4.out
      have m0 : z.cell? ⟨p2, 0, none⟩ = some (.int .i64 m.1) := by rw [hmc]; rfl
      have m1 : z.cell? ⟨p2, 1, none⟩ = some (.int .i64 m.2.1) := by rw [hmc]; rfl
      have m2 : z.cell? ⟨p2, 2, none⟩ = some (.int .i64 m.2.2) := by rw [hmc]; rfl
      have hml := blk_lt HM4.out
      clear hmc
      have S0 : ∀ W : World, Below z.heap.size z W → W.heap[p1]? = some (.cells #[.int .i64 0, .int .i64 0, .int .i64 0] 35 (0, 0)) := fun W h => blk_ext h HR4.out
      haveI hIq : Nonempty (In (fun W : World => Rim p1 z W)) := ⟨⟨_, Rim.of (Below.refl _ _)⟩⟩
      have q0 := fun g : In (fun W : World => Rim p1 z W) => rim_cell g.h hdp c0
      have q1 := fun g : In (fun W : World => Rim p1 z W) => rim_cell g.h h21 m0
      have q2 := fun g : In (fun W : World => Rim p1 z W) => rim_cell g.h h21 m1
      have q3 := fun g : In (fun W : World => Rim p1 z W) => rim_cell g.h h21 m2
      have q4 : ∀ g : In (fun W : World => Rim p1 z W), db < g.w.heap.size := fun g => Nat.lt_of_lt_of_le hcl g.h.size
      have q5 : ∀ g : In (fun W : World => Rim p1 z W), p2 < g.w.heap.size := fun g => Nat.lt_of_lt_of_le hml g.h.size
      have HQ := Lib.hid ((Below.refl z.heap.size z).drew)
      refine Hist.wp_region_hist (fun W : World => Rim p1 z W) (by kernel_rfl) (by kernel_rfl) (by kernel_rfl) (Rim.of HQ.out) ?_
      generalize z.drew = x0 at *
      repeat (first | (refine Hist.wpG_plain 0 _ (by decide +kernel) rfl (by rfl) (by rfl) (fun K hK => ?_); go_big_quiet_op; refine hK _ ?_; clear hK K))
      refine Hist.wpG_call (by rfl) (by rfl) (fun K hK => ?_)
      go_big_op
      refine (stampNextP m now nd _ (hN _ rfl).1 (hN _ rfl).2).mono ?_
      rintro e9 x2 ⟨rfl, hb9⟩
      have HQ2 := Lib.hid (ext_trans HQ.out hb9)
      refine hK _ _ ⟨(fun W : World => Rim p1 z W), (by simp only [List.cons_append, List.nil_append, List.forall_mem_cons]; repeat' (first | exact Rim.of HQ2.out | (intro _ h; cases h; done) | (exact trivial) | constructor)), ?_⟩
      clear hK K hb9 HQ
      repeat (first | (refine Hist.wpG_plain 1 _ (by decide +kernel) rfl (by rfl) (by rfl) (fun K hK => ?_); go_big_quiet_op; refine hK _ ?_; clear hK K) | (refine Hist.wpG_plain 0 _ (by decide +kernel) rfl (by rfl) (by rfl) (fun K hK => ?_); go_big_quiet_op; refine hK _ ?_; clear hK K))
      have HZ := S0 _ HQ2.out
      have hzc := blk_cell HZ
      have hzf := blk_free HZ
      have hzl := blk_lt HZ
      refine Hist.wpG_call (by rfl) (by rfl) (fun K hK => ?_)
      go_big_op
      have HFF := Lib.hid (blk_fill3 (v0 := .int .i64 (sNext m.1 m.2.2 now nd).1) (v1 := .int .i64 (sNext m.1 m.2.2 now nd).2.1) (v2 := .int .i64 (sNext m.1 m.2.2 now nd).2.2) HZ rfl)
      have HBB := Lib.hid (below_fill3 (v0 := .int .i64 (sNext m.1 m.2.2 now nd).1) (v1 := .int .i64 (sNext m.1 m.2.2 now nd).2.1) (v2 := .int .i64 (sNext m.1 m.2.2 now nd).2.2) (ext_trans HB4.out HQ2.out) HPP.out.1)
      have HRM := Lib.hid (rim_fill3 (v0 := .int .i64 (sNext m.1 m.2.2 now nd).1) (v1 := .int .i64 (sNext m.1 m.2.2 now nd).2.1) (v2 := .int .i64 (sNext m.1 m.2.2 now nd).2.2) (Rim.of (b := p1) HQ2.out))
      clear hzc hzf hzl HZ
      refine hK _ _ ⟨(fun _ => True), (by simp only [List.cons_append, List.nil_append, List.forall_mem_cons]; repeat' (first | exact HRM.out | (intro _ h; cases h; done) | (exact trivial) | constructor)), ?_⟩
      clear hK K
      refine Hist.wpG_nil ?_
      clear hIq q0 q1 q2 q3 q4 q5 S0
      have hk9 := blk_cell HFF.out
      go_wp2
      exact bodyPost_ret (v := stp (sNext m.1 m.2.2 now nd)) (by simp [results, Tryz.results98, go_sem, hk9]) rfl ⟨by rw [HV.out], HBB.out⟩

end Go.Proofs.YtcjpemphdgndkaaGreat
