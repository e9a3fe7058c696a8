/- A desk: Handle of any ask of a tape. -/
import Derived.Test.YtcjpemphdgndkaaGreatDkZZ
namespace Go.Proofs.YtcjpemphdgndkaaGreat
open Go.RowKit
set_option linter.unusedVariables false
set_option linter.unusedSimpArgs false

theorem all_ans (op c7 tag : Int) (k : Ky) : (#[.int .i64 2, .int .i64 op, .int .i64 0, .int .i64 c7, .int .i64 tag, .int .i64 0, .int .i64 0, .string k.1, .string k.2, .bool false, .int .u32 0, .slice none 0 0, .slice none 0 0] : Array Value).all (·.oneCell') = true := by
  have h : ∀ u ∈ ([.int .i64 2, .int .i64 op, .int .i64 0, .int .i64 c7, .int .i64 tag, .int .i64 0, .int .i64 0, .string k.1, .string k.2, .bool false, .int .u32 0, .slice none 0 0, .slice none 0 0] : List Value), u.oneCell' = true := by
    intro u hu
    simp only [List.mem_cons, List.not_mem_nil, or_false] at hu
    rcases hu with rfl | rfl | rfl | rfl | rfl | rfl | rfl | rfl | rfl | rfl | rfl | rfl | rfl <;> rfl
  exact all_of h
theorem all_fd (full : Bool) (tag q s : Int) (a : Option Addr) (n c : Nat) : (#[.int .i64 2, .int .i64 5, .int .i64 0, .int .i64 0, .int .i64 tag, .int .i64 0, .int .i64 q, .string ⟨#[]⟩, .string ⟨#[]⟩, .bool full, .int .u32 s, .slice a n c, .slice none 0 0] : Array Value).all (·.oneCell') = true := by
  have h : ∀ u ∈ ([.int .i64 2, .int .i64 5, .int .i64 0, .int .i64 0, .int .i64 tag, .int .i64 0, .int .i64 q, .string ⟨#[]⟩, .string ⟨#[]⟩, .bool full, .int .u32 s, .slice a n c, .slice none 0 0] : List Value), u.oneCell' = true := by
    intro u hu
    simp only [List.mem_cons, List.not_mem_nil, or_false] at hu
    rcases hu with rfl | rfl | rfl | rfl | rfl | rfl | rfl | rfl | rfl | rfl | rfl | rfl | rfl <;> rfl
  exact all_of h
theorem cat_one {w : World} {b : Nat} {x : Cd} (h : w.heap[b]? = some (.cells #[.string x.a, .string x.i, .int .i64 x.s, .int .i64 x.o, .int .i64 x.l, .int .i64 x.t, .int .i64 x.k, .int .i64 x.n, .bool x.g] 37 (0, 0))) : CAt w (some ⟨b, 0, none⟩) [x] := by
  refine .inr ⟨_, _, rfl, ⟨_, h⟩, fun q u hq => ?_⟩
  rw [Nat.zero_add, blk_cell h]
  simpa [flat, cc] using hq
set_option maxRecDepth 100000 in
set_option maxHeartbeats 2000000 in
theorem handleAsk (db J : Nat) (nd t0 k0 n0 : Int) (es : List En) (g l tt : Int) (ks : List Ky) (op st tag N sq : Int) (k : Ky) (now : Int) (w : World) (h : DkP w db nd t0 k0 n0 es g l tt ks) (hok : DOk J t0 n0 es tt ks) (hJ : J ≤ 1000) (hak : AskOk op st tag N sq k) (h0 : 0 ≤ now) (h1 : now ≤ 1099511627776) :
    Calls Tryz.prog 15 #[.pointer (some ⟨db, 0, none⟩), .agg #[.int .i64 1, .int .i64 op, .int .i64 st, .int .i64 0, .int .i64 tag, .int .i64 N, .int .i64 sq, .string k.1, .string k.2, .bool false, .int .u32 0, .slice none 0 0, .slice none 0 0], .int .i64 now] w fun r w' => ∃ (vs : Array Value) (la : Option Addr) (ln lc : Nat) (cs : List Ky) (t0' k0' n0' : Int) (fs : List En) (tt' : Int), r = .returned (.tuple #[.agg vs, .slice la ln lc]) ∧ vs.size = 13 ∧ vs.all (·.oneCell') = true ∧ DkP w' db nd t0' k0' n0' fs g l tt' (ks ++ cs) ∧ DOk (J + 1) t0' n0' fs tt' (ks ++ cs) ∧ (cs = [] ∨ ∃ k, cs = [k]) ∧ cs.length = ln ∧ ln ≤ lc ∧ lc ≤ maxLen ∧ CAt w' la (cs.map (cur fs)) ∧ Rim db w w' := by
  obtain ⟨o1, o2, g1, g2, hx⟩ := hak
  have hks : ks.length ≤ 1000000 := by have := hok.2.2.2.2.2.2.2; omega
  have hfew := hok.few
  rcases hx with ⟨rfl, rfl, rfl, rfl, sq0, sq1⟩ | ⟨o3, hka, hki, n0_, n1_, s0_, s1_, rfl⟩
  · refine (handleFetch db nd t0 k0 n0 es g l tt ks 0 tag 0 sq now w h hok.1 (by omega) hok.cds hks (by omega) (by omega) sq0).mono ?_
    rintro r w' ⟨v, full, s, cds, rfl, fa, fn, fc, rfl, -, -, -, -, hb⟩
    refine ⟨_, none, 0, 0, [], t0, k0, n0, es, tt, rfl, rfl, all_fd _ _ _ _ _ _ _, ?_, ?_, .inl rfl, rfl, Nat.le_refl _, by unfold maxLen; omega, .inl rfl, Rim.of hb⟩
    · rw [List.append_nil]; exact h.ext hb
    · rw [List.append_nil]; exact hok.up
  · refine (handleAny db nd t0 k0 n0 es g l tt ks op st tag N 0 k now w h hok.1 (by omega) hks (hok.hN k (by omega)) hok.2.2.2.2.2.1 hok.2.2.2.2.2.2.1 o1 o3 hka.nm hki.nm h0 h1 s0_ (by omega) (by omega)).mono ?_
    rintro r w' ⟨a, c7, rfl, hq, hr⟩
    rcases hq with ⟨e2, b2, hneu, rfl, rfl, hx2, hd2⟩ | ⟨fs, tt', rfl, hd2, tt0, tt1, hf⟩
    · obtain ⟨hok2, -⟩ := hok.neu (by omega) hneu hka hki
      refine ⟨_, some ⟨b2, 0, none⟩, 1, 1, [k], _, _, _, _, tt, rfl, rfl, all_ans op 0 tag k, hd2, hok2, .inr ⟨k, rfl⟩, rfl, Nat.le_refl _, by unfold maxLen; omega, ?_, hr⟩
      have e9 : cur (putE es e2) k = e2.c := by rw [← hneu.1]; exact cur_put hok.1
      show CAt w' _ [cur (putE es e2) k]
      rw [e9]
      exact cat_one hx2
    · refine ⟨_, none, 0, 0, [], t0, k0, n0, fs, tt', rfl, rfl, all_ans op c7 tag k, ?_, ?_, .inl rfl, rfl, Nat.le_refl _, by unfold maxLen; omega, .inl rfl, hr⟩
      · rw [List.append_nil]; exact hd2
      · rw [List.append_nil]; exact (hok.stay tt0 tt1 hf).up

end Go.Proofs.YtcjpemphdgndkaaGreat
