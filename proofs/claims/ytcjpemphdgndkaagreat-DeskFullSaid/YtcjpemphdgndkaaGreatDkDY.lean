/- A desk: its guard, its stamp; a change. -/
import Derived.Test.YtcjpemphdgndkaaGreatDkCY
import Derived.Test.YtcjpemphdgndkaaGreatDkTY
namespace Go.Proofs.YtcjpemphdgndkaaGreat
open Go.RowKit
set_option linter.unusedVariables false
set_option linter.unusedSimpArgs false

/-- the desk's own block is written, its rows stay -/
theorem DkP.over {w w' : World} {db : Nat} {nd t0 k0 n0 : Int} {es : List En} {g l tt : Int} {ks : List Ky} {t1 k1 n1 g1 l1 tt1 : Int} (h : DkP w db nd t0 k0 n0 es g l tt ks) (hr : Rim db w w') (hh : ∀ a c ka kc, w.heap[db]? = some (.cells #[.int .i64 nd, .int .i64 t0, .int .i64 k0, .int .i64 n0, .int .i64 32, .slice a es.length c, .int .i64 g, .int .i64 l, .int .i64 tt, .int .i64 ks.length, .slice ka (lastK ks ks.length).length kc] 99 (0, 0)) → w'.heap[db]? = some (.cells #[.int .i64 nd, .int .i64 t1, .int .i64 k1, .int .i64 n1, .int .i64 32, .slice a es.length c, .int .i64 g1, .int .i64 l1, .int .i64 tt1, .int .i64 ks.length, .slice ka (lastK ks ks.length).length kc] 99 (0, 0))) : DkP w' db nd t1 k1 n1 es g1 l1 tt1 ks := by
  obtain ⟨a, c, ka, kc, h1, ⟨h2, h3⟩, h4, h5, h6, h7, h8⟩ := h
  refine ⟨a, c, ka, kc, hh a c ka kc h1, ⟨h2.keep fun b cur hc _ => hr.block b (fun e => by subst e; rw [h1] at hc; simp at hc) (blk_lt hc), h3⟩, h4, h5, h6.keep fun b o e p v hv => ?_, h7, h8.1, h8.2.rim hr h7⟩
  exact (World.cell?_of_block (w := w) (hr.block b (h7 b o e) (cell_lt hv))).trans hv
/-- what is put on a shelf -/
def putE (es : List En) (e : En) : List En := if isIn (enK e) es = true then es.set (low (enK e) es) e else insAt es (low (enK e) es) e
theorem deskSet (db : Nat) (nd t0 k0 n0 : Int) (es : List En) (g l tt : Int) (ks : List Ky) (e : En) (w : World) (h : DkP w db nd t0 k0 n0 es g l tt ks) (hs : Asc es) (hn : es.length ≤ 900) (hin : isIn (enK e) es = true ∨ es.length < 32) (hks : ks.length ≤ 1000000) :
    Calls Tryz.prog 20 #[.pointer (some ⟨db, 0, none⟩), .agg #[.string e.c.a, .string e.c.i, .int .i64 e.c.s, .int .i64 e.c.o, .int .i64 e.c.l, .int .i64 e.c.t, .int .i64 e.c.k, .int .i64 e.c.n, .bool e.c.g, .int .i64 e.seen]] w fun r w' => r = .returned (.int .i64 0) ∧ DkP w' db nd t0 k0 n0 (putE es e) g l tt (ks ++ [enK e]) ∧ Rim db w w' := by
  cases hi : isIn (enK e) es
  · have hl : es.length < 32 := by rcases hin with h | h; (· rw [hi] at h; cases h); (· exact h)
    refine (deskSetNew db nd t0 k0 n0 es g l tt ks e w h hs hn hi (by omega) hks).mono fun r w' h => ?_
    unfold putE
    rw [if_neg (by rw [hi]; simp)]
    exact h
  · refine (deskSetIn db nd t0 k0 n0 es g l tt ks e w h hs hn hi hks).mono fun r w' h => ?_
    unfold putE
    rw [if_pos hi]
    exact h
theorem deskGRenew (db : Nat) (nd t0 k0 n0 : Int) (es : List En) (g l tt : Int) (ks : List Ky) (w : World) (h : DkP w db nd t0 k0 n0 es g l tt ks) (h0 : 0 ≤ tt) (h1 : tt ≤ 1048576) :
    Calls Tryz.prog 134 #[.pointer (some ⟨db, 6, none⟩)] w fun e w' => e = .returned (.tuple #[]) ∧ DkP w' db nd t0 k0 n0 es g l (if tt + 1 ≤ 1048576 then tt + 1 else 1048576) ks ∧ Rim db w w' := by
  refine (guardRenewD db tt w h.gd.c2 h.gd.f2 h0 h1).mono ?_
  rintro e w' ⟨rfl, rfl⟩
  refine ⟨rfl, h.over (rim_set (Rim.of (Below.refl _ _))) (fun a c ka kc hh => ?_), rim_set (Rim.of (Below.refl _ _))⟩
  exact blk_set (n := 8) (vs' := #[.int .i64 nd, .int .i64 t0, .int .i64 k0, .int .i64 n0, .int .i64 32, .slice a es.length c, .int .i64 g, .int .i64 l, .int .i64 (if tt + 1 ≤ 1048576 then tt + 1 else 1048576), .int .i64 ks.length, .slice ka (lastK ks ks.length).length kc]) hh (by simp)

set_option maxRecDepth 100000 in
set_option maxHeartbeats 4000000 in
theorem deskChange (db : Nat) (nd t0 k0 n0 : Int) (es : List En) (g l tt : Int) (ks : List Ky) (e : En) (w : World) (h : DkP w db nd t0 k0 n0 es g l tt ks) (hs : Asc es) (hn : es.length ≤ 900) (hin : isIn (enK e) es = true ∨ es.length < 32) (hks : ks.length ≤ 1000000) :
    Calls Tryz.prog 99 #[.pointer (some ⟨db, 0, none⟩), .agg #[.string e.c.a, .string e.c.i, .int .i64 e.c.s, .int .i64 e.c.o, .int .i64 e.c.l, .int .i64 e.c.t, .int .i64 e.c.k, .int .i64 e.c.n, .bool e.c.g, .int .i64 e.seen]] w fun r w' => ∃ b, r = .returned (.tuple #[.slice (some ⟨b, 0, none⟩) 1 1, .int .i64 0]) ∧ w.heap.size ≤ b ∧ w'.heap[b]? = some (.cells #[.string e.c.a, .string e.c.i, .int .i64 e.c.s, .int .i64 e.c.o, .int .i64 e.c.l, .int .i64 e.c.t, .int .i64 e.c.k, .int .i64 e.c.n, .bool e.c.g] 37 (0, 0)) ∧ DkP w' db nd e.c.t e.c.k e.c.n (putE es e) g l tt (ks ++ [enK e]) ∧ Rim db w w' := by
  have D0 := Lib.hid (show Below w.heap.size w (w.alloc (.cells #[.string e.c.a, .string e.c.i, .int .i64 e.c.s, .int .i64 e.c.o, .int .i64 e.c.l, .int .i64 e.c.t, .int .i64 e.c.k, .int .i64 e.c.n, .bool e.c.g, .int .i64 e.seen] 58)) from (Below.refl _ _).alloc (Nat.le_refl _) _)
  have HX := Lib.hid (blk_new w #[.string e.c.a, .string e.c.i, .int .i64 e.c.s, .int .i64 e.c.o, .int .i64 e.c.l, .int .i64 e.c.t, .int .i64 e.c.k, .int .i64 e.c.n, .bool e.c.g, .int .i64 e.seen] 58)
  have HP := Lib.hid (h.ext D0.out)
  have hlt := h.lt
  have HAS := Lib.hid hs
  clear h hs
  go_enter Tryz.func99, Tryz.ntmps99
  go_upto_region 1 with (fail)
  obtain ⟨p, hp⟩ : ∃ p, w.heap.size = p := ⟨_, rfl⟩
  have hpd : p ≠ db := by omega
  have HPW := Lib.hid hp
  rw [hp] at HX
  try rw [hp]
  clear hp hlt
  generalize (w.alloc (.cells #[.string e.c.a, .string e.c.i, .int .i64 e.c.s, .int .i64 e.c.o, .int .i64 e.c.l, .int .i64 e.c.t, .int .i64 e.c.k, .int .i64 e.c.n, .bool e.c.g, .int .i64 e.seen] 58)) = w1 at *
  have hxc := blk_cell HX.out
  have hxl := blk_lt HX.out
  go_wp2_with fail
  refine (deskSet db nd t0 k0 n0 es g l tt ks e w1 HP.out HAS.out hn hin hks).mono ?_
  rintro r w2 ⟨rfl, hd2, hr2⟩
  have HX2 := Lib.hid ((hr2.block p hpd hxl).trans HX.out)
  have HP2 := Lib.hid hd2
  have HR2 := Lib.hid ((Rim.of D0.out).trans hr2)
  clear hxc hxl hd2 hr2 HP HX D0
  have hxc := blk_cell HX2.out
  have hxl := blk_lt HX2.out
  obtain ⟨a, c, ka, kc, hc, -⟩ := HP2.out
  have hcc := blk_cell hc
  have hcf := blk_free hc
  have hcl := blk_lt hc
  clear hc
  go_upto_region 5 with (fail)
  clear hcc hcf hcl hxc hxl
  have hr9 := rim_set (o := 3) (v := .int .i64 e.c.n) (rim_set (o := 2) (v := .int .i64 e.c.k) (rim_set (o := 1) (v := .int .i64 e.c.t) (Rim.of (b := db) (Below.refl w2.heap.size w2))))
  have HP3 := Lib.hid (HP2.out.over hr9 (t1 := e.c.t) (k1 := e.c.k) (n1 := e.c.n) (g1 := g) (l1 := l) (tt1 := tt) (fun a c ka kc hh => by
    have q0 := blk_set (n := 1) (u := .int .i64 e.c.t) (vs' := #[.int .i64 nd, .int .i64 e.c.t, .int .i64 k0, .int .i64 n0, .int .i64 32, .slice a (putE es e).length c, .int .i64 g, .int .i64 l, .int .i64 tt, .int .i64 (ks ++ [enK e]).length, .slice ka (lastK (ks ++ [enK e]) (ks ++ [enK e]).length).length kc]) hh (by simp)
    have q1 := blk_set (n := 2) (u := .int .i64 e.c.k) (vs' := #[.int .i64 nd, .int .i64 e.c.t, .int .i64 e.c.k, .int .i64 n0, .int .i64 32, .slice a (putE es e).length c, .int .i64 g, .int .i64 l, .int .i64 tt, .int .i64 (ks ++ [enK e]).length, .slice ka (lastK (ks ++ [enK e]) (ks ++ [enK e]).length).length kc]) q0 (by simp)
    have q2 := blk_set (n := 3) (u := .int .i64 e.c.n) (vs' := #[.int .i64 nd, .int .i64 e.c.t, .int .i64 e.c.k, .int .i64 e.c.n, .int .i64 32, .slice a (putE es e).length c, .int .i64 g, .int .i64 l, .int .i64 tt, .int .i64 (ks ++ [enK e]).length, .slice ka (lastK (ks ++ [enK e]) (ks ++ [enK e]).length).length kc]) q1 (by simp)
    exact q2))
  have HX3 := Lib.hid ((hr9.block p hpd (blk_lt HX2.out)).trans HX2.out)
  have HR3 := Lib.hid (HR2.out.trans hr9)
  clear hr9 HP2 HX2 HR2
  generalize (((w2.setCell ⟨db, 1, none⟩ (.int .i64 e.c.t)).setCell ⟨db, 2, none⟩ (.int .i64 e.c.k)).setCell ⟨db, 3, none⟩ (.int .i64 e.c.n)) = w3 at *
  have hxc := blk_cell HX3.out
  have hxl := blk_lt HX3.out
  go_wp2_with fail
  go_returns
  have D4 := (Below.refl w3.heap.size w3).alloc (Nat.le_refl _) (.cells #[.string e.c.a, .string e.c.i, .int .i64 e.c.s, .int .i64 e.c.o, .int .i64 e.c.l, .int .i64 e.c.t, .int .i64 e.c.k, .int .i64 e.c.n, .bool e.c.g] 37)
  exact ⟨_, rfl, by have := HR3.out.size; omega, blk_new _ _ _, HP3.out.ext D4, HR3.out.trans (Rim.of D4)⟩

end Go.Proofs.YtcjpemphdgndkaaGreat
