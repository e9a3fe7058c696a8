/- A desk: its guard, its stamp; a change. -/
import Derived.Test.YtkhmaaalmlnblaaDkC
import Derived.Test.YtkhmaaalmlnblaaDkT
namespace Go.Proofs.Ytkhmaaalmlnblaa
open Go.RowKit
set_option linter.unusedVariables false
set_option linter.unusedSimpArgs false

/-- the desk's own block is written, its rows stay -/
theorem DkP.over {w w' : World} {db : Nat} {nd t0 k0 n0 : Int} {es : List En} {g l tt : Int} {ks : List Ky} {t1 k1 n1 g1 l1 tt1 : Int} (h : DkP w db nd t0 k0 n0 es g l tt ks) (hr : Rim db w w') (hh : ∀ a c ka kc, w.heap[db]? = some (.cells #[.int .i64 nd, .int .i64 t0, .int .i64 k0, .int .i64 n0, .int .i64 32, .slice a es.length c, .int .i64 g, .int .i64 l, .int .i64 tt, .int .i64 ks.length, .slice ka (lastK ks ks.length).length kc] 74 (0, 0)) → w'.heap[db]? = some (.cells #[.int .i64 nd, .int .i64 t1, .int .i64 k1, .int .i64 n1, .int .i64 32, .slice a es.length c, .int .i64 g1, .int .i64 l1, .int .i64 tt1, .int .i64 ks.length, .slice ka (lastK ks ks.length).length kc] 74 (0, 0))) : DkP w' db nd t1 k1 n1 es g1 l1 tt1 ks := by
  obtain ⟨a, c, ka, kc, h1, ⟨h2, h3⟩, h4, h5, h6, h7, h8⟩ := h
  refine ⟨a, c, ka, kc, hh a c ka kc h1, ⟨h2.keep fun b cur hc _ => hr.block b (fun e => by subst e; rw [h1] at hc; simp at hc) (blk_lt hc), h3⟩, h4, h5, h6.keep fun b o e p v hv => ?_, h7, h8.1, h8.2.rim hr h7⟩
  exact (World.cell?_of_block (w := w) (hr.block b (h7 b o e) (cell_lt hv))).trans hv
/-- what is put on a shelf -/
def putE (es : List En) (e : En) : List En := if isIn (enK e) es = true then es.set (low (enK e) es) e else insAt es (low (enK e) es) e
theorem deskSet (db : Nat) (nd t0 k0 n0 : Int) (es : List En) (g l tt : Int) (ks : List Ky) (e : En) (w : World) (h : DkP w db nd t0 k0 n0 es g l tt ks) (hs : Asc es) (hn : es.length ≤ 900) (hin : isIn (enK e) es = true ∨ es.length < 32) (hks : ks.length ≤ 1000000) :
    Calls Try.prog 28 #[.pointer (some ⟨db, 0, none⟩), .agg #[.string e.c.a, .string e.c.i, .int .i64 e.c.s, .int .i64 e.c.o, .int .i64 e.c.l, .int .i64 e.c.t, .int .i64 e.c.k, .int .i64 e.c.n, .bool e.c.g, .int .i64 e.seen]] w fun r w' => r = .returned (.int .i64 0) ∧ DkP w' db nd t0 k0 n0 (putE es e) g l tt (ks ++ [enK e]) ∧ Rim db w w' := by
  cases hi : isIn (enK e) es
  · have hl : es.length < 32 := by rcases hin with h | h; (· rw [hi] at h; cases h); (· exact h)
    refine (deskSetNew db nd t0 k0 n0 es g l tt ks e w h hs hn hi (by omega) hks).mono fun r w' h => ?_
    unfold putE
    rw [if_neg (by rw [hi]; simp)]
    exact h
  · refine (deskSetIn db nd t0 k0 n0 es g l tt ks e w h hs hn hi hks).mono fun r w' h => ?_
    unfold putE
    rw [if_pos hi]
    exact h
end Go.Proofs.Ytkhmaaalmlnblaa
