/- A desk in memory: its shelf, its guard, its row of changes. -/
import Derived.Test.YtkhmaaalmlnblaaDkS
import Derived.Test.YtkhmaaalmlnblaaDkR
import Derived.Test.YtkhmaaalmlnblaaDkG
namespace Go.Proofs.Ytkhmaaalmlnblaa
open Go.RowKit
set_option linter.unusedVariables false
set_option linter.unusedSimpArgs false

def lastK (ks : List Ky) (p : Nat) : List Ky := (ks.take p).drop (p - 16)

theorem lastK_len (ks : List Ky) (p : Nat) (h : p ≤ ks.length) : (lastK ks p).length = min p 16 := by simp [lastK]; omega

theorem addK_all (ks : List Ky) (k : Ky) : addK (lastK ks ks.length) k = lastK (ks ++ [k]) (ks ++ [k]).length := by
  unfold addK lastK
  simp only [List.take_length, List.length_append, List.length_cons, List.length_nil, List.length_drop]
  rw [List.drop_drop]
  have h : ks.length - 16 + (ks.length - (ks.length - 16) + 1 - 16) = ks.length + 1 - 16 := by omega
  rw [h, List.take_of_length_le (by simp), List.drop_append_of_le_length (by omega)]

theorem KBl.rim {w w' : World} {a : Option Addr} {rb : Nat} (h : KBl w a) (hr : Rim rb w w') (hn : ∀ b o, a = some ⟨b, o, none⟩ → b ≠ rb) : KBl w' a := fun b o e => by
  obtain ⟨cs, h1⟩ := h b o e
  exact ⟨cs, (hr.block b (hn b o e) (blk_lt h1)).trans h1⟩
def DkP (w : World) (db : Nat) (nd t0 k0 n0 : Int) (es : List En) (g l tt : Int) (ks : List Ky) : Prop := ∃ (a : Option Addr) (c : Nat) (ka : Option Addr) (kc : Nat), w.heap[db]? = some (.cells #[.int .i64 nd, .int .i64 t0, .int .i64 k0, .int .i64 n0, .int .i64 32, .slice a es.length c, .int .i64 g, .int .i64 l, .int .i64 tt, .int .i64 ks.length, .slice ka (lastK ks ks.length).length kc] 74 (0, 0)) ∧ (EAt w a es ∧ es.length ≤ c ∧ c ≤ maxLen ∧ ((a = none ∧ c = 0) ∨ ∃ b o, a = some ⟨b, o, none⟩)) ∧ ((lastK ks ks.length).length ≤ kc ∧ kc ≤ maxLen ∧ KAt w ka (lastK ks ks.length) ∧ (∀ b o, ka = some ⟨b, o, none⟩ → b ≠ db) ∧ ((lastK ks ks.length) = [] → ka = none ∧ kc = 0) ∧ KBl w ka)
section
variable {w w' : World} {db : Nat} {nd t0 k0 n0 g l tt : Int} {es : List En} {ks : List Ky}
theorem DkP.lt (h : DkP w db nd t0 k0 n0 es g l tt ks) : db < w.heap.size := by obtain ⟨a, c, ka, kc, h1, -⟩ := h; exact blk_lt h1
theorem DkP.ext (h : DkP w db nd t0 k0 n0 es g l tt ks) (hb : Below w.heap.size w w') : DkP w' db nd t0 k0 n0 es g l tt ks := by
  obtain ⟨a, c, ka, kc, h1, ⟨h2, h3⟩, h4, h5, h6, h7, h8, h9⟩ := h
  exact ⟨a, c, ka, kc, blk_ext hb h1, ⟨SAt.ext h2 hb, h3⟩, h4, h5, h6.ext hb, h7, h8, h9.ext hb⟩
theorem DkP.s (h : DkP w db nd t0 k0 n0 es g l tt ks) : ∃ Dk0 : DkR, DkS Dk0 w db 32 es ∧ ∀ (u : World) (fs : List En), DkS Dk0 u db 32 fs → Rim db w u → DkP u db nd t0 k0 n0 fs g l tt ks := by
  obtain ⟨a, c, ka, kc, h1, ⟨h2, h3, h3', h3''⟩, h4, h5, h6, h7, h8⟩ := h
  refine ⟨⟨.int .i64 nd, .int .i64 t0, .int .i64 k0, .int .i64 n0, .int .i64 g, .int .i64 l, .int .i64 tt, .int .i64 ks.length, .slice ka (lastK ks ks.length).length kc⟩, ⟨a, c, h1, h2, h3, h3', h3''⟩, fun u fs hu hr => ?_⟩
  obtain ⟨a', c', g1, g2, g3⟩ := hu
  refine ⟨a', c', ka, kc, g1, ⟨g2, g3⟩, h4, h5, h6.keep fun b o e p v hv => ?_, h7, h8.1, h8.2.rim hr h7⟩
  exact (World.cell?_of_block (w := w) (hr.block b (h7 b o e) (cell_lt hv))).trans hv
theorem DkP.r (h : DkP w db nd t0 k0 n0 es g l tt ks) : ∃ Dq : DkQ, RecAtD Dq w db ks.length (lastK ks ks.length) ∧ ∀ (u : World) (ms : List Ky), RecAtD Dq u db ms.length (lastK ms ms.length) → Bar db w u → DkP u db nd t0 k0 n0 es g l tt ms := by
  obtain ⟨a, c, ka, kc, h1, ⟨h2, h3⟩, h4, h5, h6, h7, h8⟩ := h
  refine ⟨⟨.int .i64 nd, .int .i64 t0, .int .i64 k0, .int .i64 n0, .int .i64 32, .slice a es.length c, .int .i64 g, .int .i64 l, .int .i64 tt⟩, ⟨ka, kc, h1, h4, h5, h6, h7, h8⟩, fun u ms hu hb => ?_⟩
  obtain ⟨ka', kc', g1, g2, g3, g4, g5, g6⟩ := hu
  exact ⟨a, c, ka', kc', g1, ⟨h2.keep fun b cur hc _ => hb.block b (fun e => by subst e; rw [h1] at hc; simp at hc) (blk_lt hc), h3⟩, g2, g3, g4, g5, g6⟩
theorem DkP.gd (h : DkP w db nd t0 k0 n0 es g l tt ks) : GIsD db g l tt w := by
  obtain ⟨a, c, ka, kc, h1, -⟩ := h
  exact ⟨by rw [blk_cell h1]; rfl, by rw [blk_cell h1]; rfl, by rw [blk_cell h1]; rfl, blk_free h1 _, blk_free h1 _, blk_free h1 _⟩
/-- another block is written -/
theorem DkP.rimO {b0 : Nat} {cs0 : Array Value} {T0 : TypeId} (h : DkP w db nd t0 k0 n0 es g l tt ks) (hr : Rim b0 w w') (hne : db ≠ b0) (h0 : w.heap[b0]? = some (.cells cs0 T0 (0, 0))) (hT : 55 ≠ T0) (hk : ∀ b o, (∃ a c ka kc, w.heap[db]? = some (.cells #[.int .i64 nd, .int .i64 t0, .int .i64 k0, .int .i64 n0, .int .i64 32, .slice a es.length c, .int .i64 g, .int .i64 l, .int .i64 tt, .int .i64 ks.length, .slice ka (lastK ks ks.length).length kc] 74 (0, 0)) ∧ ka = some ⟨b, o, none⟩) → b ≠ b0) : DkP w' db nd t0 k0 n0 es g l tt ks := by
  obtain ⟨a, c, ka, kc, h1, ⟨h2, h3⟩, h4, h5, h6, h7, h8⟩ := h
  refine ⟨a, c, ka, kc, (hr.block db hne (blk_lt h1)).trans h1, ⟨h2.keep fun b cur hc _ => hr.block b (fun e => by subst e; rw [h0] at hc; simp at hc; exact hT hc.2.symm) (blk_lt hc), h3⟩, h4, h5, h6.keep fun b o e p v hv => ?_, h7, h8.1, h8.2.rim hr fun b o e => hk b o ⟨a, c, ka, kc, h1, e⟩⟩
  exact (World.cell?_of_block (w := w) (hr.block b (hk b o ⟨a, c, ka, kc, h1, e⟩) (cell_lt hv))).trans hv
theorem DkP.rimT {b0 : Nat} {cs0 : Array Value} {T0 : TypeId} (h : DkP w db nd t0 k0 n0 es g l tt ks) (hr : Rim b0 w w') (hne : db ≠ b0) (h0 : w.heap[b0]? = some (.cells cs0 T0 (0, 0))) (hT : 55 ≠ T0) (hK : 31 ≠ T0) : DkP w' db nd t0 k0 n0 es g l tt ks := by
  obtain ⟨a, c, ka, kc, h1, ⟨h2, h3⟩, h4, h5, h6, h7, h8, h9⟩ := h
  have hk : ∀ b o, ka = some ⟨b, o, none⟩ → b ≠ b0 := fun b o e hb => by
    obtain ⟨cs, hc⟩ := h9 b o e
    rw [hb, h0] at hc
    simp at hc
    exact hK hc.2.symm
  refine ⟨a, c, ka, kc, (hr.block db hne (blk_lt h1)).trans h1, ⟨h2.keep fun b cur hc _ => hr.block b (fun e => by subst e; rw [h0] at hc; simp at hc; exact hT hc.2.symm) (blk_lt hc), h3⟩, h4, h5, h6.keep fun b o e p v hv => ?_, h7, h8, h9.rim hr hk⟩
  exact (World.cell?_of_block (w := w) (hr.block b (hk b o e) (cell_lt hv))).trans hv
end
set_option maxRecDepth 100000 in
set_option maxHeartbeats 1000000 in
theorem deskShelf (db : Nat) (nd t0 k0 n0 : Int) (es : List En) (g l tt : Int) (ks : List Ky) (w : World) (h : DkP w db nd t0 k0 n0 es g l tt ks) :
    Calls Try.prog 8 #[.pointer (some ⟨db, 0, none⟩)] w fun r w' => r = .returned (.pointer (some ⟨db, 4, none⟩)) ∧ Below w.heap.size w w' := by
  have hl := h.lt
  go_enter Try.func8, Try.ntmps8
  go_wp2
  go_ret
  exact ⟨rfl, Below.refl _ _⟩

set_option maxRecDepth 100000 in
set_option maxHeartbeats 1000000 in
theorem deskRecent (db : Nat) (nd t0 k0 n0 : Int) (es : List En) (g l tt : Int) (ks : List Ky) (w : World) (h : DkP w db nd t0 k0 n0 es g l tt ks) :
    Calls Try.prog 15 #[.pointer (some ⟨db, 0, none⟩)] w fun r w' => r = .returned (.pointer (some ⟨db, 9, none⟩)) ∧ Below w.heap.size w w' := by
  have hl := h.lt
  go_enter Try.func15, Try.ntmps15
  go_wp2
  go_ret
  exact ⟨rfl, Below.refl _ _⟩

end Go.Proofs.Ytkhmaaalmlnblaa
