/- A desk: Handle, ask by ask. -/
import Derived.Test.YtcjpemphdgndkaaGreatDkOY
namespace Go.Proofs.YtcjpemphdgndkaaGreat
open Go.RowKit
set_option linter.unusedVariables false
set_option linter.unusedSimpArgs false

theorem DkP.msg {w w' : World} {db b0 : Nat} {nd t0 k0 n0 : Int} {es : List En} {g l tt : Int} {ks : List Ky} {cs0 : Array Value} (h : DkP w db nd t0 k0 n0 es g l tt ks) (hr : Rim b0 w w') (hne : b0 ≠ db) (h0 : w.heap[b0]? = some (.cells cs0 33 (0, 0))) : DkP w' db nd t0 k0 n0 es g l tt ks := h.rimT hr (Ne.symm hne) h0 (by decide) (by decide)
set_option maxRecDepth 100000 in
set_option maxHeartbeats 2000000 in
theorem handleRenew (db : Nat) (nd t0 k0 n0 : Int) (es : List En) (g l tt : Int) (ks : List Ky) (st tag N sq : Int) (k : Ky) (now : Int) (w : World) (h : DkP w db nd t0 k0 n0 es g l tt ks) (hs : Asc es) (hn : es.length ≤ 900) (htt0 : 0 ≤ tt) (htt1 : tt ≤ 1048576) (hn1 : NmOk k.1) (hn2 : NmOk k.2) (h0 : 0 ≤ now) (h1 : now ≤ 1099511627776) (hs0 : 0 ≤ st) (hs1 : st ≤ 255) (hq : -1 ≤ sq) :
    Calls Tryz.prog 15 #[.pointer (some ⟨db, 0, none⟩), .agg #[.int .i64 1, .int .i64 2, .int .i64 st, .int .i64 0, .int .i64 tag, .int .i64 N, .int .i64 sq, .string k.1, .string k.2, .bool false, .int .u32 0, .slice none 0 0, .slice none 0 0], .int .i64 now] w fun r w' => ∃ a c, r = .returned (.tuple #[.agg #[.int .i64 2, .int .i64 2, .int .i64 0, .int .i64 c, .int .i64 tag, .int .i64 0, .int .i64 0, .string k.1, .string k.2, .bool false, .int .u32 0, .slice none 0 0, .slice none 0 0], a]) ∧ (a = .slice none 0 0 ∧ ((isIn k es = true ∧ (ge es k).c.g = false ∧ c = 0 ∧ DkP w' db nd t0 k0 n0 (putE es (renE (ge es k) now)) g l (if tt + 1 ≤ 1048576 then tt + 1 else 1048576) ks) ∨ ((isIn k es = false ∨ (ge es k).c.g = true) ∧ c = 22 ∧ DkP w' db nd t0 k0 n0 es g l tt ks))) ∧ Rim db w w' := by
  refine (deskHandle db 2 st tag N sq k now w (fun a c W => (a = .slice none 0 0 ∧ ((isIn k es = true ∧ (ge es k).c.g = false ∧ c = 0 ∧ DkP W db nd t0 k0 n0 (putE es (renE (ge es k) now)) g l (if tt + 1 ≤ 1048576 then tt + 1 else 1048576) ks) ∨ ((isIn k es = false ∨ (ge es k).c.g = true) ∧ c = 22 ∧ DkP W db nd t0 k0 n0 es g l tt ks)))) (by omega) (by omega) hs0 hs1 hq hn1 hn2 h0 h1 h.lt ?_ ?_).mono fun r w' h => h
  · intro w1 hb
    refine (deskWrite2 db 1 st 0 tag N sq k false 0 (.slice none 0 0) (.slice none 0 0) now w1 (fun a b W => ∃ c : Int, b = .int .i64 c ∧ (a = .slice none 0 0 ∧ ((isIn k es = true ∧ (ge es k).c.g = false ∧ c = 0 ∧ DkP W db nd t0 k0 n0 (putE es (renE (ge es k) now)) g l (if tt + 1 ≤ 1048576 then tt + 1 else 1048576) ks) ∨ ((isIn k es = false ∨ (ge es k).c.g = true) ∧ c = 22 ∧ DkP W db nd t0 k0 n0 es g l tt ks))) ∧ Rim db w1 W) ?_).mono ?_
    · intro w2 hb2
      refine (deskRenew db nd t0 k0 n0 es g l tt ks k now w2 (h.ext (ext_trans hb hb2)) hs hn htt0 htt1).mono ?_
      rintro r w3 (⟨g1, g2, rfl, hd, hr⟩ | ⟨g1, rfl, hr⟩)
      · exact ⟨_, rfl, 0, rfl, ⟨rfl, .inl ⟨g1, g2, rfl, hd⟩⟩, (Rim.of hb2).trans hr⟩
      · exact ⟨_, rfl, 22, rfl, ⟨rfl, .inr ⟨g1, rfl, (h.ext (ext_trans hb hb2)).ext hr⟩⟩, (Rim.of hb2).trans (Rim.of hr)⟩
    · rintro r w2 ⟨a, b, rfl, c, rfl, hq9, hr⟩
      exact ⟨a, c, rfl, hq9, hr⟩
  · rintro a c u v b0 cs0 hne h0 hr ⟨e, hq9⟩
    refine ⟨e, ?_⟩
    rcases hq9 with ⟨g1, g2, g3, hd⟩ | ⟨g1, g3, hd⟩
    · exact .inl ⟨g1, g2, g3, hd.msg hr hne h0⟩
    · exact .inr ⟨g1, g3, hd.msg hr hne h0⟩

set_option maxRecDepth 100000 in
set_option maxHeartbeats 2000000 in
theorem handleRegister (db : Nat) (nd t0 k0 n0 : Int) (es : List En) (g l tt : Int) (ks : List Ky) (st tag N sq : Int) (k : Ky) (now : Int) (w : World) (h : DkP w db nd t0 k0 n0 es g l tt ks) (hs : Asc es) (hn : es.length ≤ 900) (hks : ks.length ≤ 1000000) (hN : ∀ s, s = (if isIn k es then sMax t0 k0 n0 (ge es k).c.t (ge es k).c.k (ge es k).c.n else (t0, k0, n0)) → s.2.2 ≤ 9223372036854775807 ∧ -9223372036854775808 ≤ s.2.2) (s : Int × Int × Int) (es' : nxt t0 k0 n0 es k nd now = s) (hin : isIn k es = true ∨ es.length < 32) (hN1 : 1 ≤ N) (hN2 : N ≤ 1048576) (hst : st = 1 ∨ st = 2) (hn1 : NmOk k.1) (hn2 : NmOk k.2) (h0 : 0 ≤ now) (h1 : now ≤ 1099511627776) (hs0 : 0 ≤ st) (hs1 : st ≤ 255) (hq : -1 ≤ sq) :
    Calls Tryz.prog 15 #[.pointer (some ⟨db, 0, none⟩), .agg #[.int .i64 1, .int .i64 1, .int .i64 st, .int .i64 0, .int .i64 tag, .int .i64 N, .int .i64 sq, .string k.1, .string k.2, .bool false, .int .u32 0, .slice none 0 0, .slice none 0 0], .int .i64 now] w fun r w' => ∃ a c, r = .returned (.tuple #[.agg #[.int .i64 2, .int .i64 1, .int .i64 0, .int .i64 c, .int .i64 tag, .int .i64 0, .int .i64 0, .string k.1, .string k.2, .bool false, .int .u32 0, .slice none 0 0, .slice none 0 0], a]) ∧ (c = 0 ∧ ∃ b, a = .slice (some ⟨b, 0, none⟩) 1 1 ∧ w'.heap[b]? = some (.cells #[.string (rgE es k st N s now).c.a, .string (rgE es k st N s now).c.i, .int .i64 (rgE es k st N s now).c.s, .int .i64 (rgE es k st N s now).c.o, .int .i64 (rgE es k st N s now).c.l, .int .i64 (rgE es k st N s now).c.t, .int .i64 (rgE es k st N s now).c.k, .int .i64 (rgE es k st N s now).c.n, .bool (rgE es k st N s now).c.g] 37 (0, 0)) ∧ DkP w' db nd (rgE es k st N s now).c.t (rgE es k st N s now).c.k (rgE es k st N s now).c.n (putE es (rgE es k st N s now)) g l tt (ks ++ [k])) ∧ Rim db w w' := by
  refine (deskHandle db 1 st tag N sq k now w (fun a c W => (c = 0 ∧ ∃ b, a = .slice (some ⟨b, 0, none⟩) 1 1 ∧ W.heap[b]? = some (.cells #[.string (rgE es k st N s now).c.a, .string (rgE es k st N s now).c.i, .int .i64 (rgE es k st N s now).c.s, .int .i64 (rgE es k st N s now).c.o, .int .i64 (rgE es k st N s now).c.l, .int .i64 (rgE es k st N s now).c.t, .int .i64 (rgE es k st N s now).c.k, .int .i64 (rgE es k st N s now).c.n, .bool (rgE es k st N s now).c.g] 37 (0, 0)) ∧ DkP W db nd (rgE es k st N s now).c.t (rgE es k st N s now).c.k (rgE es k st N s now).c.n (putE es (rgE es k st N s now)) g l tt (ks ++ [k]))) (by omega) (by omega) hs0 hs1 hq hn1 hn2 h0 h1 h.lt ?_ ?_).mono fun r w' h => h
  · intro w1 hb
    refine (deskWrite1 db 1 st 0 tag N sq k false 0 (.slice none 0 0) (.slice none 0 0) now w1 (fun a b W => ∃ c : Int, b = .int .i64 c ∧ (c = 0 ∧ ∃ b, a = .slice (some ⟨b, 0, none⟩) 1 1 ∧ W.heap[b]? = some (.cells #[.string (rgE es k st N s now).c.a, .string (rgE es k st N s now).c.i, .int .i64 (rgE es k st N s now).c.s, .int .i64 (rgE es k st N s now).c.o, .int .i64 (rgE es k st N s now).c.l, .int .i64 (rgE es k st N s now).c.t, .int .i64 (rgE es k st N s now).c.k, .int .i64 (rgE es k st N s now).c.n, .bool (rgE es k st N s now).c.g] 37 (0, 0)) ∧ DkP W db nd (rgE es k st N s now).c.t (rgE es k st N s now).c.k (rgE es k st N s now).c.n (putE es (rgE es k st N s now)) g l tt (ks ++ [k])) ∧ Rim db w1 W) ?_).mono ?_
    · intro w2 hb2
      refine (deskRegister db nd t0 k0 n0 es g l tt ks 1 1 st 0 tag N sq k false 0 (.slice none 0 0) (.slice none 0 0) now w2 (h.ext (ext_trans hb hb2)) hs hn hks hN s es' hin hN1 hN2 hst).mono ?_
      rintro r w3 ⟨b, rfl, -, hx, hd, hr⟩
      exact ⟨_, _, rfl, 0, rfl, ⟨rfl, b, rfl, hx, hd⟩, (Rim.of hb2).trans hr⟩
    · rintro r w2 ⟨a, b, rfl, c, rfl, hq9, hr⟩
      exact ⟨a, c, rfl, hq9, hr⟩
  · rintro a c u v b0 cs0 hne h0 hr ⟨e, b, hb, hx, hd⟩
    refine ⟨e, b, hb, ?_, hd.msg hr hne h0⟩
    refine (hr.block b ?_ (blk_lt hx)).trans hx
    rintro rfl
    rw [hx] at h0
    simp at h0

set_option maxRecDepth 100000 in
set_option maxHeartbeats 2000000 in
theorem handleCancel (db : Nat) (nd t0 k0 n0 : Int) (es : List En) (g l tt : Int) (ks : List Ky) (st tag N sq : Int) (k : Ky) (now : Int) (w : World) (h : DkP w db nd t0 k0 n0 es g l tt ks) (hs : Asc es) (hn : es.length ≤ 900) (hks : ks.length ≤ 1000000) (hN : ∀ s, s = (if isIn k es then sMax t0 k0 n0 (ge es k).c.t (ge es k).c.k (ge es k).c.n else (t0, k0, n0)) → s.2.2 ≤ 9223372036854775807 ∧ -9223372036854775808 ≤ s.2.2) (s : Int × Int × Int) (es' : nxt t0 k0 n0 es k nd now = s) (hn1 : NmOk k.1) (hn2 : NmOk k.2) (h0 : 0 ≤ now) (h1 : now ≤ 1099511627776) (hs0 : 0 ≤ st) (hs1 : st ≤ 255) (hq : -1 ≤ sq) :
    Calls Tryz.prog 15 #[.pointer (some ⟨db, 0, none⟩), .agg #[.int .i64 1, .int .i64 3, .int .i64 st, .int .i64 0, .int .i64 tag, .int .i64 N, .int .i64 sq, .string k.1, .string k.2, .bool false, .int .u32 0, .slice none 0 0, .slice none 0 0], .int .i64 now] w fun r w' => ∃ a c, r = .returned (.tuple #[.agg #[.int .i64 2, .int .i64 3, .int .i64 0, .int .i64 c, .int .i64 tag, .int .i64 0, .int .i64 0, .string k.1, .string k.2, .bool false, .int .u32 0, .slice none 0 0, .slice none 0 0], a]) ∧ ((isIn k es = true ∧ (ge es k).c.g = false ∧ c = 0 ∧ ∃ b, a = .slice (some ⟨b, 0, none⟩) 1 1 ∧ w'.heap[b]? = some (.cells #[.string (canE (ge es k) s now).c.a, .string (canE (ge es k) s now).c.i, .int .i64 (canE (ge es k) s now).c.s, .int .i64 (canE (ge es k) s now).c.o, .int .i64 (canE (ge es k) s now).c.l, .int .i64 (canE (ge es k) s now).c.t, .int .i64 (canE (ge es k) s now).c.k, .int .i64 (canE (ge es k) s now).c.n, .bool (canE (ge es k) s now).c.g] 37 (0, 0)) ∧ DkP w' db nd (canE (ge es k) s now).c.t (canE (ge es k) s now).c.k (canE (ge es k) s now).c.n (putE es (canE (ge es k) s now)) g l tt (ks ++ [k])) ∨ ((isIn k es = false ∨ (ge es k).c.g = true) ∧ c = 22 ∧ a = .slice none 0 0 ∧ DkP w' db nd t0 k0 n0 es g l tt ks)) ∧ Rim db w w' := by
  refine (deskHandle db 3 st tag N sq k now w (fun a c W => ((isIn k es = true ∧ (ge es k).c.g = false ∧ c = 0 ∧ ∃ b, a = .slice (some ⟨b, 0, none⟩) 1 1 ∧ W.heap[b]? = some (.cells #[.string (canE (ge es k) s now).c.a, .string (canE (ge es k) s now).c.i, .int .i64 (canE (ge es k) s now).c.s, .int .i64 (canE (ge es k) s now).c.o, .int .i64 (canE (ge es k) s now).c.l, .int .i64 (canE (ge es k) s now).c.t, .int .i64 (canE (ge es k) s now).c.k, .int .i64 (canE (ge es k) s now).c.n, .bool (canE (ge es k) s now).c.g] 37 (0, 0)) ∧ DkP W db nd (canE (ge es k) s now).c.t (canE (ge es k) s now).c.k (canE (ge es k) s now).c.n (putE es (canE (ge es k) s now)) g l tt (ks ++ [k])) ∨ ((isIn k es = false ∨ (ge es k).c.g = true) ∧ c = 22 ∧ a = .slice none 0 0 ∧ DkP W db nd t0 k0 n0 es g l tt ks))) (by omega) (by omega) hs0 hs1 hq hn1 hn2 h0 h1 h.lt ?_ ?_).mono fun r w' h => h
  · intro w1 hb
    refine (deskWrite3 db 1 st 0 tag N sq k false 0 (.slice none 0 0) (.slice none 0 0) now w1 (fun a b W => ∃ c : Int, b = .int .i64 c ∧ ((isIn k es = true ∧ (ge es k).c.g = false ∧ c = 0 ∧ ∃ b, a = .slice (some ⟨b, 0, none⟩) 1 1 ∧ W.heap[b]? = some (.cells #[.string (canE (ge es k) s now).c.a, .string (canE (ge es k) s now).c.i, .int .i64 (canE (ge es k) s now).c.s, .int .i64 (canE (ge es k) s now).c.o, .int .i64 (canE (ge es k) s now).c.l, .int .i64 (canE (ge es k) s now).c.t, .int .i64 (canE (ge es k) s now).c.k, .int .i64 (canE (ge es k) s now).c.n, .bool (canE (ge es k) s now).c.g] 37 (0, 0)) ∧ DkP W db nd (canE (ge es k) s now).c.t (canE (ge es k) s now).c.k (canE (ge es k) s now).c.n (putE es (canE (ge es k) s now)) g l tt (ks ++ [k])) ∨ ((isIn k es = false ∨ (ge es k).c.g = true) ∧ c = 22 ∧ a = .slice none 0 0 ∧ DkP W db nd t0 k0 n0 es g l tt ks)) ∧ Rim db w1 W) ?_).mono ?_
    · intro w2 hb2
      refine (deskCancel db nd t0 k0 n0 es g l tt ks k now w2 (h.ext (ext_trans hb hb2)) hs hn hks hN s es').mono ?_
      rintro r w3 (⟨g1, g2, b, rfl, -, hx, hd, hr⟩ | ⟨g1, rfl, hr⟩)
      · exact ⟨_, _, rfl, 0, rfl, .inl ⟨g1, g2, rfl, b, rfl, hx, hd⟩, (Rim.of hb2).trans hr⟩
      · exact ⟨_, _, rfl, 22, rfl, .inr ⟨g1, rfl, rfl, (h.ext (ext_trans hb hb2)).ext hr⟩, (Rim.of hb2).trans (Rim.of hr)⟩
    · rintro r w2 ⟨a, b, rfl, c, rfl, hq9, hr⟩
      exact ⟨a, c, rfl, hq9, hr⟩
  · rintro a c u v b0 cs0 hne h0 hr (⟨g1, g2, e, b, hb, hx, hd⟩ | ⟨g1, e, ha, hd⟩)
    · refine .inl ⟨g1, g2, e, b, hb, ?_, hd.msg hr hne h0⟩
      refine (hr.block b ?_ (blk_lt hx)).trans hx
      rintro rfl
      rw [hx] at h0
      simp at h0
    · exact .inr ⟨g1, e, ha, hd.msg hr hne h0⟩

end Go.Proofs.YtcjpemphdgndkaaGreat
