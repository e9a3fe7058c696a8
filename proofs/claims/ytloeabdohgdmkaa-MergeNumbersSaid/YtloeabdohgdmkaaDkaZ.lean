/- A guard inside a desk. -/
import Derived.Test.YtloeabdohgdmkaaBmZ
import Derived.Test.YtloeabdohgdmkaaBaZ
import Derived.Test.YtloeabdohgdmkaaDkSZ
import Derived.Test.YtloeabdohgdmkaaDkRZ
namespace Go.Proofs.Ytloeabdohgdmkaa
open Go.RowKit
set_option linter.unusedVariables false

/-- a guard's three numbers, in block b -/
structure GIsD (b : Nat) (g l t : Int) (w : World) : Prop where
  c0 : w.cell? ⟨b, 6, none⟩ = some (.int .i64 g)
  c1 : w.cell? ⟨b, 7, none⟩ = some (.int .i64 l)
  c2 : w.cell? ⟨b, 8, none⟩ = some (.int .i64 t)
  f0 : w.frozen? ⟨b, 6, none⟩ = false
  f1 : w.frozen? ⟨b, 7, none⟩ = false
  f2 : w.frozen? ⟨b, 8, none⟩ = false
set_option maxHeartbeats 400000 in
theorem guardNew (now : Int) (w : World) :
    Calls Try.prog 31 #[.int .i64 now] w fun e w' => e = .returned (.pointer (some ⟨w.heap.size, 0, none⟩)) ∧ w' = w.alloc (.cells #[.int .i64 now, .int .i64 0, .int .i64 0] 86) := by
  go_enter Try.func31, Try.ntmps31
  go_wp2
  go_ret
  exact ⟨rfl, rfl⟩
theorem GIsD.ext {b : Nat} {g l t : Int} {w w' : World} (h : GIsD b g l t w) (hb : Below w.heap.size w w') : GIsD b g l t w' :=
  ⟨ext_cell hb h.c0, ext_cell hb h.c1, ext_cell hb h.c2, ext_frozen hb h.c0 h.f0, ext_frozen hb h.c1 h.f1, ext_frozen hb h.c2 h.f2⟩
theorem GIsD.kept {b b' : Nat} {g l t : Int} {w w' : World} (h : GIsD b g l t w) (hk : Kept b' w w') (hn : b ≠ b') : GIsD b g l t w' :=
  ⟨hk.cell hn h.c0, hk.cell hn h.c1, hk.cell hn h.c2, hk.frozen hn h.f0, hk.frozen hn h.f1, hk.frozen hn h.f2⟩
theorem GIsD.lt {b : Nat} {g l t : Int} {w : World} (h : GIsD b g l t w) : b < w.heap.size := cell_lt h.c0
theorem GIsD.set {b : Nat} {g l t : Int} {w : World} (h : GIsD b g l t w) (t' : Int) : GIsD b g l t' (w.setCell ⟨b, 8, none⟩ (.int .i64 t')) := by
  obtain ⟨c0, c1, c2, f0, f1, f2⟩ := h
  exact ⟨by go_cell, by go_cell, by go_cell, by go_cell, by go_cell, by go_cell⟩
end Go.Proofs.Ytloeabdohgdmkaa

/- A desk in memory: its shelf, its guard, its row of changes. -/
namespace Go.Proofs.Ytloeabdohgdmkaa
open Go.RowKit
set_option linter.unusedVariables false
set_option linter.unusedSimpArgs false

def lastK (ks : List Ky) (p : Nat) : List Ky := (ks.take p).drop (p - 16)

theorem lastK_len (ks : List Ky) (p : Nat) (h : p ≤ ks.length) : (lastK ks p).length = min p 16 := by simp [lastK]; omega

theorem addK_all (ks : List Ky) (k : Ky) : addK (lastK ks ks.length) k = lastK (ks ++ [k]) (ks ++ [k]).length := by
  unfold addK lastK
  simp only [List.take_length, List.length_append, List.length_cons, List.length_nil, List.length_drop]
  rw [List.drop_drop]
  have h : ks.length - 16 + (ks.length - (ks.length - 16) + 1 - 16) = ks.length + 1 - 16 := by omega
  rw [h, List.take_of_length_le (by simp), List.drop_append_of_le_length (by omega)]

theorem KBl.rim {w w' : World} {a : Option Addr} {rb : Nat} (h : KBl w a) (hr : Rim rb w w') (hn : ∀ b o, a = some ⟨b, o, none⟩ → b ≠ rb) : KBl w' a := fun b o e => by
  obtain ⟨cs, h1⟩ := h b o e
  exact ⟨cs, (hr.block b (hn b o e) (blk_lt h1)).trans h1⟩
def DkP (w : World) (db : Nat) (nd t0 k0 n0 : Int) (es : List En) (g l tt : Int) (ks : List Ky) : Prop := ∃ (a : Option Addr) (c : Nat) (ka : Option Addr) (kc : Nat), w.heap[db]? = some (.cells #[.int .i64 nd, .int .i64 t0, .int .i64 k0, .int .i64 n0, .int .i64 32, .slice a es.length c, .int .i64 g, .int .i64 l, .int .i64 tt, .int .i64 ks.length, .slice ka (lastK ks ks.length).length kc] 92 (0, 0)) ∧ (EAt w a es ∧ es.length ≤ c ∧ c ≤ maxLen ∧ ((a = none ∧ c = 0) ∨ ∃ b o, a = some ⟨b, o, none⟩)) ∧ ((lastK ks ks.length).length ≤ kc ∧ kc ≤ maxLen ∧ KAt w ka (lastK ks ks.length) ∧ (∀ b o, ka = some ⟨b, o, none⟩ → b ≠ db) ∧ ((lastK ks ks.length) = [] → ka = none ∧ kc = 0) ∧ KBl w ka)
section
variable {w w' : World} {db : Nat} {nd t0 k0 n0 g l tt : Int} {es : List En} {ks : List Ky}
theorem DkP.lt (h : DkP w db nd t0 k0 n0 es g l tt ks) : db < w.heap.size := by obtain ⟨a, c, ka, kc, h1, -⟩ := h; exact blk_lt h1
theorem DkP.ext (h : DkP w db nd t0 k0 n0 es g l tt ks) (hb : Below w.heap.size w w') : DkP w' db nd t0 k0 n0 es g l tt ks := by
  obtain ⟨a, c, ka, kc, h1, ⟨h2, h3⟩, h4, h5, h6, h7, h8, h9⟩ := h
  exact ⟨a, c, ka, kc, blk_ext hb h1, ⟨SAt.ext h2 hb, h3⟩, h4, h5, h6.ext hb, h7, h8, h9.ext hb⟩
theorem DkP.s (h : DkP w db nd t0 k0 n0 es g l tt ks) : ∃ Dk0 : DkR, DkS Dk0 w db 32 es ∧ ∀ (u : World) (fs : List En), DkS Dk0 u db 32 fs → Rim db w u → DkP u db nd t0 k0 n0 fs g l tt ks := by
  obtain ⟨a, c, ka, kc, h1, ⟨h2, h3, h3', h3''⟩, h4, h5, h6, h7, h8⟩ := h
  refine ⟨⟨.int .i64 nd, .int .i64 t0, .int .i64 k0, .int .i64 n0, .int .i64 g, .int .i64 l, .int .i64 tt, .int .i64 ks.length, .slice ka (lastK ks ks.length).length kc⟩, ⟨a, c, h1, h2, h3, h3', h3''⟩, fun u fs hu hr => ?_⟩
  obtain ⟨a', c', g1, g2, g3⟩ := hu
  refine ⟨a', c', ka, kc, g1, ⟨g2, g3⟩, h4, h5, h6.keep fun b o e p v hv => ?_, h7, h8.1, h8.2.rim hr h7⟩
  exact (World.cell?_of_block (w := w) (hr.block b (h7 b o e) (cell_lt hv))).trans hv
theorem DkP.r (h : DkP w db nd t0 k0 n0 es g l tt ks) : ∃ Dq : DkQ, RecAtD Dq w db ks.length (lastK ks ks.length) ∧ ∀ (u : World) (ms : List Ky), RecAtD Dq u db ms.length (lastK ms ms.length) → Bar db w u → DkP u db nd t0 k0 n0 es g l tt ms := by
  obtain ⟨a, c, ka, kc, h1, ⟨h2, h3⟩, h4, h5, h6, h7, h8⟩ := h
  refine ⟨⟨.int .i64 nd, .int .i64 t0, .int .i64 k0, .int .i64 n0, .int .i64 32, .slice a es.length c, .int .i64 g, .int .i64 l, .int .i64 tt⟩, ⟨ka, kc, h1, h4, h5, h6, h7, h8⟩, fun u ms hu hb => ?_⟩
  obtain ⟨ka', kc', g1, g2, g3, g4, g5, g6⟩ := hu
  exact ⟨a, c, ka', kc', g1, ⟨h2.keep fun b cur hc _ => hb.block b (fun e => by subst e; rw [h1] at hc; simp at hc) (blk_lt hc), h3⟩, g2, g3, g4, g5, g6⟩
end
set_option maxRecDepth 100000 in
set_option maxHeartbeats 1000000 in
theorem deskShelf (db : Nat) (nd t0 k0 n0 : Int) (es : List En) (g l tt : Int) (ks : List Ky) (w : World) (h : DkP w db nd t0 k0 n0 es g l tt ks) :
    Calls Try.prog 11 #[.pointer (some ⟨db, 0, none⟩)] w fun r w' => r = .returned (.pointer (some ⟨db, 4, none⟩)) ∧ Below w.heap.size w w' := by
  have hl := h.lt
  go_enter Try.func11, Try.ntmps11
  go_wp2
  go_ret
  exact ⟨rfl, Below.refl _ _⟩

set_option maxRecDepth 100000 in
set_option maxHeartbeats 1000000 in
theorem deskRecent (db : Nat) (nd t0 k0 n0 : Int) (es : List En) (g l tt : Int) (ks : List Ky) (w : World) (h : DkP w db nd t0 k0 n0 es g l tt ks) :
    Calls Try.prog 17 #[.pointer (some ⟨db, 0, none⟩)] w fun r w' => r = .returned (.pointer (some ⟨db, 9, none⟩)) ∧ Below w.heap.size w w' := by
  have hl := h.lt
  go_enter Try.func17, Try.ntmps17
  go_wp2
  go_ret
  exact ⟨rfl, Below.refl _ _⟩

end Go.Proofs.Ytloeabdohgdmkaa
